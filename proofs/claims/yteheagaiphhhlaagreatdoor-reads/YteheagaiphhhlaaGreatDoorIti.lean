/-
  An input and an equation, walked. (Printed by gen_reads.py.)
-/
import Derived.Test.YteheagaiphhhlaaGreatDoorOper
import Derived.Test.YteheagaiphhhlaaGreatDoorItr
import Derived.Laws.AppendOwn
namespace Go.Proofs.YteheagaiphhhlaaGreatDoor
open Go.RowKit

/-- An item as the program has it; an output's names lie in a row of its own, behind block b. -/
def Iv (w : World) (b : Nat) (i : Mil.It) (v : Value) : Prop :=
  (i.kind = 1 ∧ v = .iface 105 (.agg #[.string (bs i.nm), .int .i64 (i.ty : Nat), .int .i64 (i.every : Nat)])) ∨
  (i.kind = 2 ∧ ∃ r, v = .iface 108 (.agg #[r]) ∧ w.ownsRow (b + 1) 9 1 r i.names.length (i.names.map fun x => Value.string (bs x))) ∨
  (i.kind = 3 ∧ v = .iface 113 (.agg #[.string (bs i.nm), .int .i64 (i.ty : Nat), ev i.body]))
/-- A call that answers an item. -/
def ItPost (R : Mil.It → Mil.St → Prop) (a : Nat → Addr) (b : Nat) (s : ByteArray) (w : World) (e : Ending) (w' : World) : Prop :=
  Kp b w w' ∧ ((∃ i st ty y, e = .returned (.iface ty y) ∧ Iv w' b i (.iface ty y) ∧ R i st ∧ RdS w' b s st) ∨ (Threw a e w' ∧ ∀ i st, ¬ R i st))

set_option maxHeartbeats 2000000 in
theorem input_any (a : Nat → Addr) (b : Nat) (s : ByteArray) (hb : 23 ≤ b) (hs : s.size ≤ 4000) (st : Mil.St) (w : World) (L : Laid a w) (h : RdS w b s st) :
    Calls Tryz.prog 30 #[.pointer (some ⟨b, 0, none⟩)] w (ItPost (Mil.Rin st) a b s w) := by
  have H : Hid (RdS w b s st) := h
  have HL : Hid (Laid a w) := L
  clear h L
  go_enter Tryz.func30, Tryz.ntmps30
  go_wp2_with fail
  refine (name_any a b s st _ HL.out hb H.out hs).mono ?_
  rintro e w1 ⟨kk1, (⟨x1, s1, rfl, g1, r1⟩ | ⟨⟨k, at_, hkk, d, rfl, hd⟩, hno⟩)⟩
  · have hk1 := kk1
    have G1 : Hid _ := g1
    clear g1 kk1
    go_wp2_with fail
    refine (want_any a b s s1 (bs Mil.sColon) _ (HL.out.kept hk1 hb) hb r1 hs).mono ?_
    rintro e w2 ⟨kk2, (⟨s2, rfl, g2, r2⟩ | ⟨⟨k, at_, hkk, d, rfl, hd⟩, hno⟩)⟩
    · have hk2 := hk1.trans kk2
      have G2 : Hid _ := g2
      clear g2 kk2
      go_wp2_with fail
      refine (flowType_any a b s s2 _ (HL.out.kept hk2 hb) hb r2 hs).mono ?_
      rintro e w3 ⟨kk3, (⟨x3, s3, rfl, g3, r3⟩ | ⟨⟨k, at_, hkk, d, rfl, hd⟩, hno⟩)⟩
      · have hk3 := hk2.trans kk3
        have G3 : Hid _ := g3
        clear g3 kk3
        go_wp2_with fail
        refine (want_any a b s s3 (bs Mil.wEvery) _ (HL.out.kept hk3 hb) hb r3 hs).mono ?_
        rintro e w4 ⟨kk4, (⟨s4, rfl, g4, r4⟩ | ⟨⟨k, at_, hkk, d, rfl, hd⟩, hno⟩)⟩
        · have hk4 := hk3.trans kk4
          have G4 : Hid _ := g4
          clear g4 kk4
          go_wp2_with fail
          refine (number_any a b s s4 1 1000000 (by decide) _ (HL.out.kept hk4 hb) hb r4 hs).mono ?_
          rintro e w5 ⟨kk5, (⟨x5, s5, rfl, g5, r5⟩ | ⟨⟨k, at_, hkk, d, rfl, hd⟩, hno⟩)⟩
          · have hk5 := hk4.trans kk5
            have G5 : Hid _ := g5
            clear g5 kk5
            go_wp2_with fail
            refine (want_any a b s s5 (bs Mil.sSemi) _ (HL.out.kept hk5 hb) hb r5 hs).mono ?_
            rintro e w6 ⟨kk6, (⟨s6, rfl, g6, r6⟩ | ⟨⟨k, at_, hkk, d, rfl, hd⟩, hno⟩)⟩
            · have hk6 := hk5.trans kk6
              have G6 : Hid _ := g6
              clear g6 kk6
              go_wp2
              go_ret
              exact ⟨hk6, Or.inl ⟨⟨1, x1, x3, x5, [], Mil.eNil⟩, s6, _, _, rfl, Or.inl ⟨rfl, rfl⟩, ⟨_, _, _, _, _, G1.out, G2.out, G3.out, G4.out, G5.out, G6.out, rfl⟩, r6⟩⟩
            · go_wp2
              refine ⟨rfl, hk5.trans kk6, Or.inr ⟨⟨k, at_, hkk, d, rfl, hd⟩, fun x t hx => ?_⟩⟩
              obtain ⟨v1, v2, v3, v4, v5, q1, q2, q3, q4, q5, q6, _⟩ := hx
              obtain rfl := Option.some.inj (G1.out.symm.trans q1)
              obtain rfl := Option.some.inj (G2.out.symm.trans q2)
              obtain rfl := Option.some.inj (G3.out.symm.trans q3)
              obtain rfl := Option.some.inj (G4.out.symm.trans q4)
              obtain rfl := Option.some.inj (G5.out.symm.trans q5)
              have hh := hno.symm.trans q6
              cases hh
          · go_wp2
            refine ⟨rfl, hk4.trans kk5, Or.inr ⟨⟨k, at_, hkk, d, rfl, hd⟩, fun x t hx => ?_⟩⟩
            obtain ⟨v1, v2, v3, v4, v5, q1, q2, q3, q4, q5, q6, _⟩ := hx
            obtain rfl := Option.some.inj (G1.out.symm.trans q1)
            obtain rfl := Option.some.inj (G2.out.symm.trans q2)
            obtain rfl := Option.some.inj (G3.out.symm.trans q3)
            obtain rfl := Option.some.inj (G4.out.symm.trans q4)
            have hh := hno.symm.trans q5
            cases hh
        · go_wp2
          refine ⟨rfl, hk3.trans kk4, Or.inr ⟨⟨k, at_, hkk, d, rfl, hd⟩, fun x t hx => ?_⟩⟩
          obtain ⟨v1, v2, v3, v4, v5, q1, q2, q3, q4, q5, q6, _⟩ := hx
          obtain rfl := Option.some.inj (G1.out.symm.trans q1)
          obtain rfl := Option.some.inj (G2.out.symm.trans q2)
          obtain rfl := Option.some.inj (G3.out.symm.trans q3)
          have hh := hno.symm.trans q4
          cases hh
      · go_wp2
        refine ⟨rfl, hk2.trans kk3, Or.inr ⟨⟨k, at_, hkk, d, rfl, hd⟩, fun x t hx => ?_⟩⟩
        obtain ⟨v1, v2, v3, v4, v5, q1, q2, q3, q4, q5, q6, _⟩ := hx
        obtain rfl := Option.some.inj (G1.out.symm.trans q1)
        obtain rfl := Option.some.inj (G2.out.symm.trans q2)
        have hh := hno.symm.trans q3
        cases hh
    · go_wp2
      refine ⟨rfl, hk1.trans kk2, Or.inr ⟨⟨k, at_, hkk, d, rfl, hd⟩, fun x t hx => ?_⟩⟩
      obtain ⟨v1, v2, v3, v4, v5, q1, q2, q3, q4, q5, q6, _⟩ := hx
      obtain rfl := Option.some.inj (G1.out.symm.trans q1)
      have hh := hno.symm.trans q2
      cases hh
  · go_wp2
    refine ⟨rfl, kk1, Or.inr ⟨⟨k, at_, hkk, d, rfl, hd⟩, fun x t hx => ?_⟩⟩
    obtain ⟨v1, v2, v3, v4, v5, q1, q2, q3, q4, q5, q6, _⟩ := hx
    have hh := hno.symm.trans q1
    cases hh

set_option maxHeartbeats 2000000 in
theorem equation_any (a : Nat → Addr) (b : Nat) (s : ByteArray) (hb : 23 ≤ b) (hs : s.size ≤ 4000) (st : Mil.St) (w : World) (L : Laid a w) (h : RdS w b s st) :
    Calls Tryz.prog 32 #[.pointer (some ⟨b, 0, none⟩)] w (ItPost (Mil.Req st) a b s w) := by
  have H : Hid (RdS w b s st) := h
  have HL : Hid (Laid a w) := L
  clear h L
  go_enter Tryz.func32, Tryz.ntmps32
  go_wp2_with fail
  refine (name_any a b s st _ HL.out hb H.out hs).mono ?_
  rintro e w1 ⟨kk1, (⟨x1, s1, rfl, g1, r1⟩ | ⟨⟨k, at_, hkk, d, rfl, hd⟩, hno⟩)⟩
  · have hk1 := kk1
    have G1 : Hid _ := g1
    clear g1 kk1
    go_wp2_with fail
    refine (want_any a b s s1 (bs Mil.sColon) _ (HL.out.kept hk1 hb) hb r1 hs).mono ?_
    rintro e w2 ⟨kk2, (⟨s2, rfl, g2, r2⟩ | ⟨⟨k, at_, hkk, d, rfl, hd⟩, hno⟩)⟩
    · have hk2 := hk1.trans kk2
      have G2 : Hid _ := g2
      clear g2 kk2
      go_wp2_with fail
      refine (flowType_any a b s s2 _ (HL.out.kept hk2 hb) hb r2 hs).mono ?_
      rintro e w3 ⟨kk3, (⟨x3, s3, rfl, g3, r3⟩ | ⟨⟨k, at_, hkk, d, rfl, hd⟩, hno⟩)⟩
      · have hk3 := hk2.trans kk3
        have G3 : Hid _ := g3
        clear g3 kk3
        go_wp2_with fail
        refine (want_any a b s s3 (bs Mil.sIs) _ (HL.out.kept hk3 hb) hb r3 hs).mono ?_
        rintro e w4 ⟨kk4, (⟨s4, rfl, g4, r4⟩ | ⟨⟨k, at_, hkk, d, rfl, hd⟩, hno⟩)⟩
        · have hk4 := hk3.trans kk4
          have G4 : Hid _ := g4
          clear g4 kk4
          go_wp2_with fail
          refine (expression_all a b s hb hs s4 _ (HL.out.kept hk4 hb) r4).mono ?_
          rintro e w5 ⟨kk5, (⟨x5, s5, ty5, y5, rfl, e5, g5, r5⟩ | ⟨⟨k, at_, hkk, d, rfl, hd⟩, hno⟩)⟩
          · have hk5 := hk4.trans kk5
            have G5 : Hid _ := g5
            have E5 : Hid _ := e5
            clear g5 kk5 e5
            go_wp2_with fail
            refine (want_any a b s s5 (bs Mil.sSemi) _ (HL.out.kept hk5 hb) hb r5 hs).mono ?_
            rintro e w6 ⟨kk6, (⟨s6, rfl, g6, r6⟩ | ⟨⟨k, at_, hkk, d, rfl, hd⟩, hno⟩)⟩
            · have hk6 := hk5.trans kk6
              have G6 : Hid _ := g6
              clear g6 kk6
              go_wp2
              go_ret
              refine ⟨hk6, Or.inl ⟨⟨3, x1, x3, 0, [], x5⟩, s6, _, _, rfl, Or.inr (Or.inr ⟨rfl, ?_⟩), ⟨_, _, _, _, _, G1.out, G2.out, G3.out, G4.out, G5.out, G6.out, rfl⟩, r6⟩⟩
              show _ = Value.iface _ (.agg #[_, _, ev x5])
              rw [E5.out]
            · go_wp2
              refine ⟨rfl, hk5.trans kk6, Or.inr ⟨⟨k, at_, hkk, d, rfl, hd⟩, fun x t hx => ?_⟩⟩
              obtain ⟨v1, v2, v3, v4, v5, q1, q2, q3, q4, q5, q6, _⟩ := hx
              obtain rfl := Option.some.inj (G1.out.symm.trans q1)
              obtain rfl := Option.some.inj (G2.out.symm.trans q2)
              obtain rfl := Option.some.inj (G3.out.symm.trans q3)
              obtain rfl := Option.some.inj (G4.out.symm.trans q4)
              obtain rfl := Mil.Ok.unique q5 G5.out
              have hh := hno.symm.trans q6
              cases hh
          · go_wp2
            refine ⟨rfl, hk4.trans kk5, Or.inr ⟨⟨k, at_, hkk, d, rfl, hd⟩, fun x t hx => ?_⟩⟩
            obtain ⟨v1, v2, v3, v4, v5, q1, q2, q3, q4, q5, q6, _⟩ := hx
            obtain rfl := Option.some.inj (G1.out.symm.trans q1)
            obtain rfl := Option.some.inj (G2.out.symm.trans q2)
            obtain rfl := Option.some.inj (G3.out.symm.trans q3)
            obtain rfl := Option.some.inj (G4.out.symm.trans q4)
            exact hno v5.1 v5.2 q5
        · go_wp2
          refine ⟨rfl, hk3.trans kk4, Or.inr ⟨⟨k, at_, hkk, d, rfl, hd⟩, fun x t hx => ?_⟩⟩
          obtain ⟨v1, v2, v3, v4, v5, q1, q2, q3, q4, q5, q6, _⟩ := hx
          obtain rfl := Option.some.inj (G1.out.symm.trans q1)
          obtain rfl := Option.some.inj (G2.out.symm.trans q2)
          obtain rfl := Option.some.inj (G3.out.symm.trans q3)
          have hh := hno.symm.trans q4
          cases hh
      · go_wp2
        refine ⟨rfl, hk2.trans kk3, Or.inr ⟨⟨k, at_, hkk, d, rfl, hd⟩, fun x t hx => ?_⟩⟩
        obtain ⟨v1, v2, v3, v4, v5, q1, q2, q3, q4, q5, q6, _⟩ := hx
        obtain rfl := Option.some.inj (G1.out.symm.trans q1)
        obtain rfl := Option.some.inj (G2.out.symm.trans q2)
        have hh := hno.symm.trans q3
        cases hh
    · go_wp2
      refine ⟨rfl, hk1.trans kk2, Or.inr ⟨⟨k, at_, hkk, d, rfl, hd⟩, fun x t hx => ?_⟩⟩
      obtain ⟨v1, v2, v3, v4, v5, q1, q2, q3, q4, q5, q6, _⟩ := hx
      obtain rfl := Option.some.inj (G1.out.symm.trans q1)
      have hh := hno.symm.trans q2
      cases hh
  · go_wp2
    refine ⟨rfl, kk1, Or.inr ⟨⟨k, at_, hkk, d, rfl, hd⟩, fun x t hx => ?_⟩⟩
    obtain ⟨v1, v2, v3, v4, v5, q1, q2, q3, q4, q5, q6, _⟩ := hx
    have hh := hno.symm.trans q1
    cases hh

end Go.Proofs.YteheagaiphhhlaaGreatDoor
