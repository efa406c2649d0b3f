/-
  An input and an equation, walked. (Printed by gen_mill2.py.)
-/
import Derived.Test.YtfoabfffmjljmaaGreatDoorOper
import Derived.Test.YtfoabfffmjljmaaGreatDoorPap
import Derived.Laws.AppendOwn
namespace Go.Proofs.YtfoabfffmjljmaaGreatDoor
open Go.RowKit

/-- Names with their places, as they lie in a text of N bytes. -/
def nms (N : Nat) (l : List (Mil.Bytes × Nat)) : List Value := l.flatMap fun x => [.int .i64 ((N : Int) - (x.2 : Nat)), .string (bs x.1)]
/-- An item as the program has it, in a text of N bytes; an output's names lie in a row of its own, behind block b. -/
def Iv (N : Nat) (w : World) (b : Nat) (i : Mip.It) (v : Value) : Prop :=
  (i.kind = 1 ∧ v = .iface 112 (.agg #[.int .i64 ((N : Int) - (i.at_ : Nat)), .string (bs i.nm), .int .i64 (i.ty : Nat), .int .i64 (i.every : Nat)])) ∨
  (i.kind = 2 ∧ ∃ r, v = .iface 115 (.agg #[r]) ∧ w.ownsRow (b + 1) 106 2 r i.names.length (nms N i.names)) ∨
  (i.kind = 3 ∧ v = .iface 120 (.agg #[.int .i64 ((N : Int) - (i.at_ : Nat)), .string (bs i.nm), .int .i64 (i.ty : Nat), ev N i.body]))
/-- A call that answers an item. -/
def ItPost (R : Mip.It → Mil.St → Prop) (F : Nat → Int → Prop) (a : Nat → Addr) (b : Nat) (s : ByteArray) (w : World) (e : Ending) (w' : World) : Prop :=
  Kp b w w' ∧ ((∃ i st ty y, e = .returned (.iface ty y) ∧ Iv s.size w' b i (.iface ty y) ∧ R i st ∧ RdS w' b s st) ∨ Threw F a e w')
/-- What a call is worth behind its first step, where a name is laid aside in a new block. -/
structure Hn (a : Nat → Addr) (b : Nat) (s : ByteArray) (st : Mil.St) (w v : World) (q : Int) (x : Mil.Bytes) (k : Nat) : Prop where
  kp : Kp b w v
  rd : RdS v b s st
  laid : Laid a v
  c0 : v.cell? ⟨k, 0, none⟩ = some (.int .i64 q)
  c1 : v.cell? ⟨k, 1, none⟩ = some (.string (bs x))
  ne : k ≠ b
theorem name_facts {a : Nat → Addr} {b : Nat} {s : ByteArray} {st : Mil.St} {w w1 : World} {q : Int} {x : Mil.Bytes} (L : Laid a w) (hb : 23 ≤ b) (hk : Kp b w w1) (h : RdS w1 b s st) :
    Hn a b s st w (w1.alloc (.cells #[.int .i64 q, .string (bs x)] 106)) q x w1.heap.size := by
  have hlt : b < w1.heap.size := by
    obtain ⟨p, tp, x, hp, hR, _⟩ := h
    exact lt_of_cell hR.c4
  exact ⟨hk.alloc _, h.kept ((Kp.refl (b + 1) w1).alloc _) (by omega), (L.kept hk hb).kept ((Kp.refl b w1).alloc _) hb, by simp, by simp, by omega⟩

set_option maxHeartbeats 2000000 in
theorem input_any (a : Nat → Addr) (b : Nat) (s : ByteArray) (hb : 23 ≤ b) (hs : s.size ≤ 4000) (st : Mil.St) (w : World) (L : Laid a w) (h : RdS w b s st) :
    Calls Tryz.prog 30 #[.pointer (some ⟨b, 0, none⟩)] w (ItPost (Mip.Rin st) (Mil.Bin s.size st) a b s w) := by
  have H : Hid (RdS w b s st) := h
  have HL : Hid (Laid a w) := L
  clear h L
  go_enter Tryz.func30, Tryz.ntmps30
  go_wp2_with fail
  refine (name_any a b s st _ HL.out hb H.out hs).mono ?_
  rintro e w1 ⟨kk1, (⟨x1, s1, rfl, g1, r1⟩ | ⟨k, at_, hkk, d, rfl, hd, hno⟩)⟩
  · have G1 : Hid (Mil.name st = some (x1, s1)) := g1
    have HV : Hid (Hn a b s s1 w (w1.alloc (.cells #[.int .i64 (place s.size st), .string (bs x1)] 106)) (place s.size st) x1 w1.heap.size) := name_facts HL.out hb kk1 r1
    clear g1 kk1 r1 HL H
    go_wp2_with fail
    generalize w1.heap.size = kv at HV ⊢
    generalize w1.alloc (.cells #[.int .i64 (place s.size st), .string (bs x1)] 106) = v at HV ⊢
    have HL : Hid (Laid a v) := HV.out.laid
    have hk1 : Kp b v v := Kp.refl b v
    have r1 : RdS v b s s1 := HV.out.rd
    refine (want_any a b s s1 (bs Mil.sColon) _ (HL.out.kept hk1 hb) hb r1 hs).mono ?_
    rintro e w2 ⟨kk2, (⟨s2, rfl, g2, r2⟩ | ⟨k, at_, hkk, d, rfl, hd, hno⟩)⟩
    · have hk2 := hk1.trans kk2
      have G2 : Hid _ := g2
      clear g2 kk2
      go_wp2_with fail
      refine (flowType_any a b s s2 _ (HL.out.kept hk2 hb) hb r2 hs).mono ?_
      rintro e w3 ⟨kk3, (⟨x3, s3, rfl, g3, r3⟩ | ⟨k, at_, hkk, d, rfl, hd, hno⟩)⟩
      · have hk3 := hk2.trans kk3
        have G3 : Hid _ := g3
        clear g3 kk3
        go_wp2_with fail
        refine (want_any a b s s3 (bs Mil.wEvery) _ (HL.out.kept hk3 hb) hb r3 hs).mono ?_
        rintro e w4 ⟨kk4, (⟨s4, rfl, g4, r4⟩ | ⟨k, at_, hkk, d, rfl, hd, hno⟩)⟩
        · have hk4 := hk3.trans kk4
          have G4 : Hid _ := g4
          clear g4 kk4
          go_wp2_with fail
          refine (number_any a b s s4 1 1000000 (by decide) _ (HL.out.kept hk4 hb) hb r4 hs).mono ?_
          rintro e w5 ⟨kk5, (⟨x5, s5, rfl, g5, r5⟩ | ⟨k, at_, hkk, d, rfl, hd, hno⟩)⟩
          · have hk5 := hk4.trans kk5
            have G5 : Hid _ := g5
            clear g5 kk5
            go_wp2_with fail
            refine (want_any a b s s5 (bs Mil.sSemi) _ (HL.out.kept hk5 hb) hb r5 hs).mono ?_
            rintro e w6 ⟨kk6, (⟨s6, rfl, g6, r6⟩ | ⟨k, at_, hkk, d, rfl, hd, hno⟩)⟩
            · have hk6 := hk5.trans kk6
              have G6 : Hid _ := g6
              clear g6 kk6
              have cv0 : w6.cell? ⟨kv, 0, none⟩ = some (.int .i64 (place s.size st)) := hk6.held HV.out.c0 HV.out.ne
              have cv1 : w6.cell? ⟨kv, 1, none⟩ = some (.string (bs x1)) := hk6.held HV.out.c1 HV.out.ne
              go_wp2
              go_ret
              exact ⟨HV.out.kp.trans hk6, Or.inl ⟨⟨1, x1, Mip.off st, x3, x5, [], Mip.eNil⟩, s6, _, _, rfl, Or.inl ⟨rfl, by rw [place_off]⟩, ⟨_, _, _, _, _, G1.out, G2.out, G3.out, G4.out, G5.out, G6.out, rfl⟩, r6⟩⟩
            · go_wp2
              refine ⟨rfl, HV.out.kp.trans (hk5.trans kk6), Or.inr ⟨k, at_, hkk, d, rfl, hd, ?_⟩⟩
              exact Or.inr ⟨_, G1.out, Or.inr ⟨_, G2.out, Or.inr ⟨_, G3.out, Or.inr ⟨_, G4.out, Or.inr ⟨_, G5.out, hno⟩⟩⟩⟩⟩
          · go_wp2
            refine ⟨rfl, HV.out.kp.trans (hk4.trans kk5), Or.inr ⟨k, at_, hkk, d, rfl, hd, ?_⟩⟩
            exact Or.inr ⟨_, G1.out, Or.inr ⟨_, G2.out, Or.inr ⟨_, G3.out, Or.inr ⟨_, G4.out, Or.inl hno⟩⟩⟩⟩
        · go_wp2
          refine ⟨rfl, HV.out.kp.trans (hk3.trans kk4), Or.inr ⟨k, at_, hkk, d, rfl, hd, ?_⟩⟩
          exact Or.inr ⟨_, G1.out, Or.inr ⟨_, G2.out, Or.inr ⟨_, G3.out, Or.inl hno⟩⟩⟩
      · go_wp2
        refine ⟨rfl, HV.out.kp.trans (hk2.trans kk3), Or.inr ⟨k, at_, hkk, d, rfl, hd, ?_⟩⟩
        exact Or.inr ⟨_, G1.out, Or.inr ⟨_, G2.out, Or.inl hno⟩⟩
    · go_wp2
      refine ⟨rfl, HV.out.kp.trans (hk1.trans kk2), Or.inr ⟨k, at_, hkk, d, rfl, hd, ?_⟩⟩
      exact Or.inr ⟨_, G1.out, Or.inl hno⟩
  · go_wp2
    refine ⟨rfl, kk1, Or.inr ⟨k, at_, hkk, d, rfl, hd, ?_⟩⟩
    exact Or.inl hno

set_option maxHeartbeats 2000000 in
theorem equation_any (a : Nat → Addr) (b : Nat) (s : ByteArray) (hb : 23 ≤ b) (hs : s.size ≤ 4000) (st : Mil.St) (w : World) (L : Laid a w) (h : RdS w b s st) :
    Calls Tryz.prog 32 #[.pointer (some ⟨b, 0, none⟩)] w (ItPost (Mip.Req st) (Mil.Beq s.size st) a b s w) := by
  have H : Hid (RdS w b s st) := h
  have HL : Hid (Laid a w) := L
  clear h L
  go_enter Tryz.func32, Tryz.ntmps32
  go_wp2_with fail
  refine (name_any a b s st _ HL.out hb H.out hs).mono ?_
  rintro e w1 ⟨kk1, (⟨x1, s1, rfl, g1, r1⟩ | ⟨k, at_, hkk, d, rfl, hd, hno⟩)⟩
  · have G1 : Hid (Mil.name st = some (x1, s1)) := g1
    have HV : Hid (Hn a b s s1 w (w1.alloc (.cells #[.int .i64 (place s.size st), .string (bs x1)] 106)) (place s.size st) x1 w1.heap.size) := name_facts HL.out hb kk1 r1
    clear g1 kk1 r1 HL H
    go_wp2_with fail
    generalize w1.heap.size = kv at HV ⊢
    generalize w1.alloc (.cells #[.int .i64 (place s.size st), .string (bs x1)] 106) = v at HV ⊢
    have HL : Hid (Laid a v) := HV.out.laid
    have hk1 : Kp b v v := Kp.refl b v
    have r1 : RdS v b s s1 := HV.out.rd
    refine (want_any a b s s1 (bs Mil.sColon) _ (HL.out.kept hk1 hb) hb r1 hs).mono ?_
    rintro e w2 ⟨kk2, (⟨s2, rfl, g2, r2⟩ | ⟨k, at_, hkk, d, rfl, hd, hno⟩)⟩
    · have hk2 := hk1.trans kk2
      have G2 : Hid _ := g2
      clear g2 kk2
      go_wp2_with fail
      refine (flowType_any a b s s2 _ (HL.out.kept hk2 hb) hb r2 hs).mono ?_
      rintro e w3 ⟨kk3, (⟨x3, s3, rfl, g3, r3⟩ | ⟨k, at_, hkk, d, rfl, hd, hno⟩)⟩
      · have hk3 := hk2.trans kk3
        have G3 : Hid _ := g3
        clear g3 kk3
        go_wp2_with fail
        refine (want_any a b s s3 (bs Mil.sIs) _ (HL.out.kept hk3 hb) hb r3 hs).mono ?_
        rintro e w4 ⟨kk4, (⟨s4, rfl, g4, r4⟩ | ⟨k, at_, hkk, d, rfl, hd, hno⟩)⟩
        · have hk4 := hk3.trans kk4
          have G4 : Hid _ := g4
          clear g4 kk4
          go_wp2_with fail
          refine (expression_all a b s hb hs s4 _ (HL.out.kept hk4 hb) r4).mono ?_
          rintro e w5 ⟨kk5, (⟨x5, s5, ty5, y5, rfl, e5, g5, r5⟩ | ⟨k, at_, hkk, d, rfl, hd, hno⟩)⟩
          · have hk5 := hk4.trans kk5
            have G5 : Hid _ := g5
            have E5 : Hid _ := e5
            clear g5 kk5 e5
            go_wp2_with fail
            refine (want_any a b s s5 (bs Mil.sSemi) _ (HL.out.kept hk5 hb) hb r5 hs).mono ?_
            rintro e w6 ⟨kk6, (⟨s6, rfl, g6, r6⟩ | ⟨k, at_, hkk, d, rfl, hd, hno⟩)⟩
            · have hk6 := hk5.trans kk6
              have G6 : Hid _ := g6
              clear g6 kk6
              have cv0 : w6.cell? ⟨kv, 0, none⟩ = some (.int .i64 (place s.size st)) := hk6.held HV.out.c0 HV.out.ne
              have cv1 : w6.cell? ⟨kv, 1, none⟩ = some (.string (bs x1)) := hk6.held HV.out.c1 HV.out.ne
              go_wp2
              go_ret
              refine ⟨HV.out.kp.trans hk6, Or.inl ⟨⟨3, x1, Mip.off st, x3, 0, [], x5⟩, s6, _, _, rfl, Or.inr (Or.inr ⟨rfl, ?_⟩), ⟨_, _, _, _, _, G1.out, G2.out, G3.out, G4.out, G5.out, G6.out, rfl⟩, r6⟩⟩
              show _ = Value.iface _ (.agg #[_, _, _, ev s.size x5])
              rw [E5.out, place_off]
            · go_wp2
              refine ⟨rfl, HV.out.kp.trans (hk5.trans kk6), Or.inr ⟨k, at_, hkk, d, rfl, hd, ?_⟩⟩
              exact Or.inr ⟨_, G1.out, Or.inr ⟨_, G2.out, Or.inr ⟨_, G3.out, Or.inr ⟨_, G4.out, Or.inr ⟨_, Mip.Ok.er G5.out, hno⟩⟩⟩⟩⟩
          · go_wp2
            refine ⟨rfl, HV.out.kp.trans (hk4.trans kk5), Or.inr ⟨k, at_, hkk, d, rfl, hd, ?_⟩⟩
            exact Or.inr ⟨_, G1.out, Or.inr ⟨_, G2.out, Or.inr ⟨_, G3.out, Or.inr ⟨_, G4.out, Or.inl hno⟩⟩⟩⟩
        · go_wp2
          refine ⟨rfl, HV.out.kp.trans (hk3.trans kk4), Or.inr ⟨k, at_, hkk, d, rfl, hd, ?_⟩⟩
          exact Or.inr ⟨_, G1.out, Or.inr ⟨_, G2.out, Or.inr ⟨_, G3.out, Or.inl hno⟩⟩⟩
      · go_wp2
        refine ⟨rfl, HV.out.kp.trans (hk2.trans kk3), Or.inr ⟨k, at_, hkk, d, rfl, hd, ?_⟩⟩
        exact Or.inr ⟨_, G1.out, Or.inr ⟨_, G2.out, Or.inl hno⟩⟩
    · go_wp2
      refine ⟨rfl, HV.out.kp.trans (hk1.trans kk2), Or.inr ⟨k, at_, hkk, d, rfl, hd, ?_⟩⟩
      exact Or.inr ⟨_, G1.out, Or.inl hno⟩
  · go_wp2
    refine ⟨rfl, kk1, Or.inr ⟨k, at_, hkk, d, rfl, hd, ?_⟩⟩
    exact Or.inl hno

end Go.Proofs.YtfoabfffmjljmaaGreatDoor
