/-
  Expressions, walked: each function by those that it calls. (Printed by gen_reads.py.)
-/
import Derived.Test.YteheagaiphhhlaaGreatDoorTigh
import Derived.Test.YteheagaiphhhlaaGreatDoorAtom
import Derived.Test.YteheagaiphhhlaaGreatDoorPap
namespace Go.Proofs.YteheagaiphhhlaaGreatDoor
open Go.RowKit

def EC (a : Nat → Addr) (b : Nat) (s : ByteArray) (st : Mil.St) : Prop := ∀ w, Laid a w → RdS w b s st →
  Calls Tryz.prog 45 #[.pointer (some ⟨b, 0, none⟩)] w (ExPost (fun x t => Mil.Ok 0 Mil.eNil st (x, t)) a b s w)
def OC (a : Nat → Addr) (b : Nat) (s : ByteArray) (l : Nat) (st : Mil.St) : Prop := ∀ w, Laid a w → RdS w b s st →
  Calls Tryz.prog 51 #[.pointer (some ⟨b, 0, none⟩), .int .i64 l] w (ExPost (fun x t => Mil.Ok l Mil.eNil st (x, t)) a b s w)
def AC (a : Nat → Addr) (b : Nat) (s : ByteArray) (st : Mil.St) : Prop := ∀ w, Laid a w → RdS w b s st →
  Calls Tryz.prog 56 #[.pointer (some ⟨b, 0, none⟩)] w (ExPost (fun x t => Mil.Ok 8 Mil.eNil st (x, t)) a b s w)

set_option maxHeartbeats 2000000 in
theorem expression_any (a : Nat → Addr) (b : Nat) (s : ByteArray) (hb : 23 ≤ b) (hs : s.size ≤ 4000) (st : Mil.St) (ih : ∀ t, Mil.mu t < Mil.mu st → EC a b s t) (io : OC a b s 1 st) : EC a b s st := by
  intro w L h
  have H : Hid (RdS w b s st) := h
  have HL : Hid (Laid a w) := L
  have IH : Hid (∀ t, Mil.mu t < Mil.mu st → EC a b s t) := ih
  have HIO : Hid (OC a b s 1 st) := io
  clear h L ih io
  by_cases hI : Mil.sees st Mil.wIf = true
  · have HI : Hid (Mil.sees st (bs Mil.wIf).data.toList = true) := hI
    have HK3 : Hid (st.tok.kind ≠ 0) := by show _ ≠ _; rw [(Mil.sees_kind3 hI).1]; decide
    clear hI
    go_enter Tryz.func45, Tryz.ntmps45
    go_wp2_with fail
    refine (takes_yes a b s st (bs Mil.wIf) _ HL.out hb H.out hs HI.out).mono ?_
    rintro e w1 ⟨kk1, (⟨s1, rfl, g1, r1⟩ | ⟨⟨k, at_, hkk, d, rfl, hd⟩, hno⟩)⟩
    · have hk1 := kk1
      have G1 : Hid _ := g1
      have M1 : Hid (Mil.mu s1 < Mil.mu st) := Mil.adv_mu g1 HK3.out
      clear g1 kk1
      go_wp2_with fail
      refine (IH.out s1 M1.out _ (HL.out.kept hk1 hb) r1).mono ?_
      rintro e w2 ⟨kk2, (⟨x2, s2, ty2, y2, rfl, e2, g2, r2⟩ | ⟨⟨k, at_, hkk, d, rfl, hd⟩, hno⟩)⟩
      · have hk2 := hk1.trans kk2
        have G2 : Hid _ := g2
        have E2 : Hid _ := e2
        have M2 : Hid (Mil.mu s2 < Mil.mu st) := Nat.lt_of_le_of_lt (Mil.ok_mu g2) M1.out
        clear g2 kk2 e2
        go_wp2_with fail
        refine (want_any a b s s2 (bs Mil.wThen) _ (HL.out.kept hk2 hb) hb r2 hs).mono ?_
        rintro e w3 ⟨kk3, (⟨s3, rfl, g3, r3⟩ | ⟨⟨k, at_, hkk, d, rfl, hd⟩, hno⟩)⟩
        · have hk3 := hk2.trans kk3
          have G3 : Hid _ := g3
          have M3 : Hid (Mil.mu s3 < Mil.mu st) := Nat.lt_trans (Mil.want_mu g3) M2.out
          clear g3 kk3
          go_wp2_with fail
          refine (IH.out s3 M3.out _ (HL.out.kept hk3 hb) r3).mono ?_
          rintro e w4 ⟨kk4, (⟨x4, s4, ty4, y4, rfl, e4, g4, r4⟩ | ⟨⟨k, at_, hkk, d, rfl, hd⟩, hno⟩)⟩
          · have hk4 := hk3.trans kk4
            have G4 : Hid _ := g4
            have E4 : Hid _ := e4
            have M4 : Hid (Mil.mu s4 < Mil.mu st) := Nat.lt_of_le_of_lt (Mil.ok_mu g4) M3.out
            clear g4 kk4 e4
            go_wp2_with fail
            refine (want_any a b s s4 (bs Mil.wElse) _ (HL.out.kept hk4 hb) hb r4 hs).mono ?_
            rintro e w5 ⟨kk5, (⟨s5, rfl, g5, r5⟩ | ⟨⟨k, at_, hkk, d, rfl, hd⟩, hno⟩)⟩
            · have hk5 := hk4.trans kk5
              have G5 : Hid _ := g5
              have M5 : Hid (Mil.mu s5 < Mil.mu st) := Nat.lt_trans (Mil.want_mu g5) M4.out
              clear g5 kk5
              go_wp2_with fail
              refine (IH.out s5 M5.out _ (HL.out.kept hk5 hb) r5).mono ?_
              rintro e w6 ⟨kk6, (⟨x6, s6, ty6, y6, rfl, e6, g6, r6⟩ | ⟨⟨k, at_, hkk, d, rfl, hd⟩, hno⟩)⟩
              · have hk6 := hk5.trans kk6
                have G6 : Hid _ := g6
                have E6 : Hid _ := e6
                have M6 : Hid (Mil.mu s6 < Mil.mu st) := Nat.lt_of_le_of_lt (Mil.ok_mu g6) M5.out
                clear g6 kk6 e6
                go_wp2
                go_ret
                refine ⟨hk6, Or.inl ⟨Mil.eIf x2 x4 x6, s6, _, _, rfl, ?_, ?_, r6⟩⟩
                · show Value.iface _ (.agg #[ev x2, ev x4, ev x6]) = _
                  rw [E2.out, E4.out, E6.out]
                · exact Mil.ok_if HI.out G1.out G2.out G3.out G4.out G5.out G6.out
              · go_wp2
                refine ⟨rfl, hk5.trans kk6, Or.inr ⟨⟨k, at_, hkk, d, rfl, hd⟩, fun x t hx => ?_⟩⟩
                obtain ⟨v1, v2, v3, v4, v5, v6, q1, q2, q3, q4, q5, q6, _⟩ := Mil.inv_if HI.out hx
                obtain rfl := Option.some.inj (G1.out.symm.trans q1)
                obtain rfl := Mil.Ok.unique q2 G2.out
                obtain rfl := Option.some.inj (G3.out.symm.trans q3)
                obtain rfl := Mil.Ok.unique q4 G4.out
                obtain rfl := Option.some.inj (G5.out.symm.trans q5)
                exact hno v6.1 v6.2 q6
            · go_wp2
              refine ⟨rfl, hk4.trans kk5, Or.inr ⟨⟨k, at_, hkk, d, rfl, hd⟩, fun x t hx => ?_⟩⟩
              obtain ⟨v1, v2, v3, v4, v5, v6, q1, q2, q3, q4, q5, q6, _⟩ := Mil.inv_if HI.out hx
              obtain rfl := Option.some.inj (G1.out.symm.trans q1)
              obtain rfl := Mil.Ok.unique q2 G2.out
              obtain rfl := Option.some.inj (G3.out.symm.trans q3)
              obtain rfl := Mil.Ok.unique q4 G4.out
              have hh := hno.symm.trans q5
              cases hh
          · go_wp2
            refine ⟨rfl, hk3.trans kk4, Or.inr ⟨⟨k, at_, hkk, d, rfl, hd⟩, fun x t hx => ?_⟩⟩
            obtain ⟨v1, v2, v3, v4, v5, v6, q1, q2, q3, q4, q5, q6, _⟩ := Mil.inv_if HI.out hx
            obtain rfl := Option.some.inj (G1.out.symm.trans q1)
            obtain rfl := Mil.Ok.unique q2 G2.out
            obtain rfl := Option.some.inj (G3.out.symm.trans q3)
            exact hno v4.1 v4.2 q4
        · go_wp2
          refine ⟨rfl, hk2.trans kk3, Or.inr ⟨⟨k, at_, hkk, d, rfl, hd⟩, fun x t hx => ?_⟩⟩
          obtain ⟨v1, v2, v3, v4, v5, v6, q1, q2, q3, q4, q5, q6, _⟩ := Mil.inv_if HI.out hx
          obtain rfl := Option.some.inj (G1.out.symm.trans q1)
          obtain rfl := Mil.Ok.unique q2 G2.out
          have hh := hno.symm.trans q3
          cases hh
      · go_wp2
        refine ⟨rfl, hk1.trans kk2, Or.inr ⟨⟨k, at_, hkk, d, rfl, hd⟩, fun x t hx => ?_⟩⟩
        obtain ⟨v1, v2, v3, v4, v5, v6, q1, q2, q3, q4, q5, q6, _⟩ := Mil.inv_if HI.out hx
        obtain rfl := Option.some.inj (G1.out.symm.trans q1)
        exact hno v2.1 v2.2 q2
    · go_wp2
      refine ⟨rfl, kk1, Or.inr ⟨⟨k, at_, hkk, d, rfl, hd⟩, fun x t hx => ?_⟩⟩
      obtain ⟨v1, v2, v3, v4, v5, v6, q1, q2, q3, q4, q5, q6, _⟩ := Mil.inv_if HI.out hx
      have hh := hno.symm.trans q1
      cases hh
  · have HI : Hid (Mil.sees st (bs Mil.wIf).data.toList = false) := Bool.eq_false_iff.2 hI
    clear hI
    go_enter Tryz.func45, Tryz.ntmps45
    go_wp2_with fail
    refine (takes_no b s st (bs Mil.wIf) _ H.out HI.out).mono ?_
    rintro e w1 ⟨rfl, rfl⟩
    go_wp2_with fail
    refine (HIO.out _ HL.out H.out).mono ?_
    rintro e w2 ⟨hk2, (⟨x, s2, ty, y, rfl, ea, g2, r2⟩ | ⟨⟨k, at_, hkk, d, rfl, hd⟩, hno⟩)⟩
    · go_wp2
      go_ret
      exact ⟨hk2, Or.inl ⟨x, s2, ty, y, rfl, ea, Mil.ok_noif HI.out g2, r2⟩⟩
    · go_wp2
      exact ⟨rfl, hk2, Or.inr ⟨⟨k, at_, hkk, d, rfl, hd⟩, fun x t hx => hno x t (Mil.inv_noif HI.out hx)⟩⟩

end Go.Proofs.YteheagaiphhhlaaGreatDoor
