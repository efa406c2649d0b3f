/-
  fby, under, hold, min and max, walked. (Printed by gen_reads.py.)
-/
import Derived.Test.YteheagaiphhhlaaGreatDoorExpr
namespace Go.Proofs.YteheagaiphhhlaaGreatDoor
open Go.RowKit

set_option maxHeartbeats 2000000 in
theorem delayed_any (a : Nat → Addr) (b : Nat) (s : ByteArray) (hb : 23 ≤ b) (hs : s.size ≤ 4000) (st : Mil.St) (ih : ∀ t, Mil.mu t < Mil.mu st → EC a b s t) (w : World) (L : Laid a w) (h : RdS w b s st) :
    Calls Tryz.prog 63 #[.pointer (some ⟨b, 0, none⟩)] w (ExPost (Mil.Rfby st) a b s w) := by
  have H : Hid (RdS w b s st) := h
  have HL : Hid (Laid a w) := L
  have IH : Hid (∀ t, Mil.mu t < Mil.mu st → EC a b s t) := ih
  clear h L ih
  go_enter Tryz.func63, Tryz.ntmps63
  go_wp2_with fail
  refine (want_any a b s st (bs Mil.sOpen) _ HL.out hb H.out hs).mono ?_
  rintro e w1 ⟨kk1, (⟨s1, rfl, g1, r1⟩ | ⟨⟨k, at_, hkk, d, rfl, hd⟩, hno⟩)⟩
  · have hk1 := kk1
    have G1 : Hid _ := g1
    have M1 : Hid (Mil.mu s1 < Mil.mu st) := Mil.want_mu g1
    clear g1 kk1
    go_wp2_with fail
    refine (constant_any a b s s1 _ (HL.out.kept hk1 hb) hb r1 hs).mono ?_
    rintro e w2 ⟨kk2, (⟨x2, s2, ty2, y2, rfl, e2, g2, r2⟩ | ⟨⟨k, at_, hkk, d, rfl, hd⟩, hno⟩)⟩
    · have hk2 := hk1.trans kk2
      have G2 : Hid _ := g2
      have E2 : Hid _ := e2
      have M2 : Hid (Mil.mu s2 < Mil.mu st) := Nat.lt_trans (Mil.constant_mu g2) M1.out
      clear g2 kk2 e2
      go_wp2_with fail
      refine (want_any a b s s2 (bs Mil.sComma) _ (HL.out.kept hk2 hb) hb r2 hs).mono ?_
      rintro e w3 ⟨kk3, (⟨s3, rfl, g3, r3⟩ | ⟨⟨k, at_, hkk, d, rfl, hd⟩, hno⟩)⟩
      · have hk3 := hk2.trans kk3
        have G3 : Hid _ := g3
        have M3 : Hid (Mil.mu s3 < Mil.mu st) := Nat.lt_trans (Mil.want_mu g3) M2.out
        clear g3 kk3
        go_wp2_with fail
        refine (IH.out s3 M3.out _ (HL.out.kept hk3 hb) r3).mono ?_
        rintro e w4 ⟨kk4, (⟨x4, s4, ty4, y4, rfl, e4, g4, r4⟩ | ⟨⟨k, at_, hkk, d, rfl, hd⟩, hno⟩)⟩
        · have hk4 := hk3.trans kk4
          have G4 : Hid _ := g4
          have E4 : Hid _ := e4
          have M4 : Hid (Mil.mu s4 < Mil.mu st) := Nat.lt_of_le_of_lt (Mil.ok_mu g4) M3.out
          clear g4 kk4 e4
          go_wp2_with fail
          refine (want_any a b s s4 (bs Mil.sShut) _ (HL.out.kept hk4 hb) hb r4 hs).mono ?_
          rintro e w5 ⟨kk5, (⟨s5, rfl, g5, r5⟩ | ⟨⟨k, at_, hkk, d, rfl, hd⟩, hno⟩)⟩
          · have hk5 := hk4.trans kk5
            have G5 : Hid _ := g5
            have M5 : Hid (Mil.mu s5 < Mil.mu st) := Nat.lt_trans (Mil.want_mu g5) M4.out
            clear g5 kk5
            go_wp2
            go_ret
            refine ⟨hk5, Or.inl ⟨Mil.eFby x2 x4, s5, _, _, rfl, ?_, ?_, r5⟩⟩
            · show Value.iface _ (.agg #[ev x2, ev x4]) = _
              rw [E2.out, E4.out]
            · exact ⟨_, _, _, _, G1.out, G2.out, G3.out, G4.out, G5.out, rfl⟩
          · go_wp2
            refine ⟨rfl, hk4.trans kk5, Or.inr ⟨⟨k, at_, hkk, d, rfl, hd⟩, fun x t hx => ?_⟩⟩
            obtain ⟨v1, v2, v3, v4, q1, q2, q3, q4, q5, _⟩ := hx
            obtain rfl := Option.some.inj (G1.out.symm.trans q1)
            obtain rfl := Option.some.inj (G2.out.symm.trans q2)
            obtain rfl := Option.some.inj (G3.out.symm.trans q3)
            obtain rfl := Mil.Ok.unique q4 G4.out
            have hh := hno.symm.trans q5
            cases hh
        · go_wp2
          refine ⟨rfl, hk3.trans kk4, Or.inr ⟨⟨k, at_, hkk, d, rfl, hd⟩, fun x t hx => ?_⟩⟩
          obtain ⟨v1, v2, v3, v4, q1, q2, q3, q4, q5, _⟩ := hx
          obtain rfl := Option.some.inj (G1.out.symm.trans q1)
          obtain rfl := Option.some.inj (G2.out.symm.trans q2)
          obtain rfl := Option.some.inj (G3.out.symm.trans q3)
          exact hno v4.1 v4.2 q4
      · go_wp2
        refine ⟨rfl, hk2.trans kk3, Or.inr ⟨⟨k, at_, hkk, d, rfl, hd⟩, fun x t hx => ?_⟩⟩
        obtain ⟨v1, v2, v3, v4, q1, q2, q3, q4, q5, _⟩ := hx
        obtain rfl := Option.some.inj (G1.out.symm.trans q1)
        obtain rfl := Option.some.inj (G2.out.symm.trans q2)
        have hh := hno.symm.trans q3
        cases hh
    · go_wp2
      refine ⟨rfl, hk1.trans kk2, Or.inr ⟨⟨k, at_, hkk, d, rfl, hd⟩, fun x t hx => ?_⟩⟩
      obtain ⟨v1, v2, v3, v4, q1, q2, q3, q4, q5, _⟩ := hx
      obtain rfl := Option.some.inj (G1.out.symm.trans q1)
      exact hno v2.1 v2.2 q2
  · go_wp2
    refine ⟨rfl, kk1, Or.inr ⟨⟨k, at_, hkk, d, rfl, hd⟩, fun x t hx => ?_⟩⟩
    obtain ⟨v1, v2, v3, v4, q1, q2, q3, q4, q5, _⟩ := hx
    have hh := hno.symm.trans q1
    cases hh

set_option maxHeartbeats 2000000 in
theorem thinned_any (a : Nat → Addr) (b : Nat) (s : ByteArray) (hb : 23 ≤ b) (hs : s.size ≤ 4000) (st : Mil.St) (ih : ∀ t, Mil.mu t < Mil.mu st → EC a b s t) (w : World) (L : Laid a w) (h : RdS w b s st) :
    Calls Tryz.prog 64 #[.pointer (some ⟨b, 0, none⟩)] w (ExPost (Mil.Runder st) a b s w) := by
  have H : Hid (RdS w b s st) := h
  have HL : Hid (Laid a w) := L
  have IH : Hid (∀ t, Mil.mu t < Mil.mu st → EC a b s t) := ih
  clear h L ih
  go_enter Tryz.func64, Tryz.ntmps64
  go_wp2_with fail
  refine (want_any a b s st (bs Mil.sOpen) _ HL.out hb H.out hs).mono ?_
  rintro e w1 ⟨kk1, (⟨s1, rfl, g1, r1⟩ | ⟨⟨k, at_, hkk, d, rfl, hd⟩, hno⟩)⟩
  · have hk1 := kk1
    have G1 : Hid _ := g1
    have M1 : Hid (Mil.mu s1 < Mil.mu st) := Mil.want_mu g1
    clear g1 kk1
    go_wp2_with fail
    refine (IH.out s1 M1.out _ (HL.out.kept hk1 hb) r1).mono ?_
    rintro e w2 ⟨kk2, (⟨x2, s2, ty2, y2, rfl, e2, g2, r2⟩ | ⟨⟨k, at_, hkk, d, rfl, hd⟩, hno⟩)⟩
    · have hk2 := hk1.trans kk2
      have G2 : Hid _ := g2
      have E2 : Hid _ := e2
      have M2 : Hid (Mil.mu s2 < Mil.mu st) := Nat.lt_of_le_of_lt (Mil.ok_mu g2) M1.out
      clear g2 kk2 e2
      go_wp2_with fail
      refine (want_any a b s s2 (bs Mil.sComma) _ (HL.out.kept hk2 hb) hb r2 hs).mono ?_
      rintro e w3 ⟨kk3, (⟨s3, rfl, g3, r3⟩ | ⟨⟨k, at_, hkk, d, rfl, hd⟩, hno⟩)⟩
      · have hk3 := hk2.trans kk3
        have G3 : Hid _ := g3
        have M3 : Hid (Mil.mu s3 < Mil.mu st) := Nat.lt_trans (Mil.want_mu g3) M2.out
        clear g3 kk3
        go_wp2_with fail
        refine (number_any a b s s3 2 1000 (by decide) _ (HL.out.kept hk3 hb) hb r3 hs).mono ?_
        rintro e w4 ⟨kk4, (⟨x4, s4, rfl, g4, r4⟩ | ⟨⟨k, at_, hkk, d, rfl, hd⟩, hno⟩)⟩
        · have hk4 := hk3.trans kk4
          have G4 : Hid _ := g4
          have M4 : Hid (Mil.mu s4 < Mil.mu st) := Nat.lt_trans (Mil.number_mu g4) M3.out
          clear g4 kk4
          go_wp2_with fail
          refine (want_any a b s s4 (bs Mil.sShut) _ (HL.out.kept hk4 hb) hb r4 hs).mono ?_
          rintro e w5 ⟨kk5, (⟨s5, rfl, g5, r5⟩ | ⟨⟨k, at_, hkk, d, rfl, hd⟩, hno⟩)⟩
          · have hk5 := hk4.trans kk5
            have G5 : Hid _ := g5
            have M5 : Hid (Mil.mu s5 < Mil.mu st) := Nat.lt_trans (Mil.want_mu g5) M4.out
            clear g5 kk5
            go_wp2
            go_ret
            refine ⟨hk5, Or.inl ⟨Mil.eUnder x2 x4, s5, _, _, rfl, ?_, ?_, r5⟩⟩
            · show Value.iface _ (.agg #[ev x2, .int .i64 (x4 : Nat)]) = _
              rw [E2.out]
            · exact ⟨_, _, _, _, G1.out, G2.out, G3.out, G4.out, G5.out, rfl⟩
          · go_wp2
            refine ⟨rfl, hk4.trans kk5, Or.inr ⟨⟨k, at_, hkk, d, rfl, hd⟩, fun x t hx => ?_⟩⟩
            obtain ⟨v1, v2, v3, v4, q1, q2, q3, q4, q5, _⟩ := hx
            obtain rfl := Option.some.inj (G1.out.symm.trans q1)
            obtain rfl := Mil.Ok.unique q2 G2.out
            obtain rfl := Option.some.inj (G3.out.symm.trans q3)
            obtain rfl := Option.some.inj (G4.out.symm.trans q4)
            have hh := hno.symm.trans q5
            cases hh
        · go_wp2
          refine ⟨rfl, hk3.trans kk4, Or.inr ⟨⟨k, at_, hkk, d, rfl, hd⟩, fun x t hx => ?_⟩⟩
          obtain ⟨v1, v2, v3, v4, q1, q2, q3, q4, q5, _⟩ := hx
          obtain rfl := Option.some.inj (G1.out.symm.trans q1)
          obtain rfl := Mil.Ok.unique q2 G2.out
          obtain rfl := Option.some.inj (G3.out.symm.trans q3)
          have hh := hno.symm.trans q4
          cases hh
      · go_wp2
        refine ⟨rfl, hk2.trans kk3, Or.inr ⟨⟨k, at_, hkk, d, rfl, hd⟩, fun x t hx => ?_⟩⟩
        obtain ⟨v1, v2, v3, v4, q1, q2, q3, q4, q5, _⟩ := hx
        obtain rfl := Option.some.inj (G1.out.symm.trans q1)
        obtain rfl := Mil.Ok.unique q2 G2.out
        have hh := hno.symm.trans q3
        cases hh
    · go_wp2
      refine ⟨rfl, hk1.trans kk2, Or.inr ⟨⟨k, at_, hkk, d, rfl, hd⟩, fun x t hx => ?_⟩⟩
      obtain ⟨v1, v2, v3, v4, q1, q2, q3, q4, q5, _⟩ := hx
      obtain rfl := Option.some.inj (G1.out.symm.trans q1)
      exact hno v2.1 v2.2 q2
  · go_wp2
    refine ⟨rfl, kk1, Or.inr ⟨⟨k, at_, hkk, d, rfl, hd⟩, fun x t hx => ?_⟩⟩
    obtain ⟨v1, v2, v3, v4, q1, q2, q3, q4, q5, _⟩ := hx
    have hh := hno.symm.trans q1
    cases hh

set_option maxHeartbeats 2000000 in
theorem held_any (a : Nat → Addr) (b : Nat) (s : ByteArray) (hb : 23 ≤ b) (hs : s.size ≤ 4000) (st : Mil.St) (ih : ∀ t, Mil.mu t < Mil.mu st → EC a b s t) (w : World) (L : Laid a w) (h : RdS w b s st) :
    Calls Tryz.prog 65 #[.pointer (some ⟨b, 0, none⟩)] w (ExPost (Mil.Rhold st) a b s w) := by
  have H : Hid (RdS w b s st) := h
  have HL : Hid (Laid a w) := L
  have IH : Hid (∀ t, Mil.mu t < Mil.mu st → EC a b s t) := ih
  clear h L ih
  go_enter Tryz.func65, Tryz.ntmps65
  go_wp2_with fail
  refine (want_any a b s st (bs Mil.sOpen) _ HL.out hb H.out hs).mono ?_
  rintro e w1 ⟨kk1, (⟨s1, rfl, g1, r1⟩ | ⟨⟨k, at_, hkk, d, rfl, hd⟩, hno⟩)⟩
  · have hk1 := kk1
    have G1 : Hid _ := g1
    have M1 : Hid (Mil.mu s1 < Mil.mu st) := Mil.want_mu g1
    clear g1 kk1
    go_wp2_with fail
    refine (constant_any a b s s1 _ (HL.out.kept hk1 hb) hb r1 hs).mono ?_
    rintro e w2 ⟨kk2, (⟨x2, s2, ty2, y2, rfl, e2, g2, r2⟩ | ⟨⟨k, at_, hkk, d, rfl, hd⟩, hno⟩)⟩
    · have hk2 := hk1.trans kk2
      have G2 : Hid _ := g2
      have E2 : Hid _ := e2
      have M2 : Hid (Mil.mu s2 < Mil.mu st) := Nat.lt_trans (Mil.constant_mu g2) M1.out
      clear g2 kk2 e2
      go_wp2_with fail
      refine (want_any a b s s2 (bs Mil.sComma) _ (HL.out.kept hk2 hb) hb r2 hs).mono ?_
      rintro e w3 ⟨kk3, (⟨s3, rfl, g3, r3⟩ | ⟨⟨k, at_, hkk, d, rfl, hd⟩, hno⟩)⟩
      · have hk3 := hk2.trans kk3
        have G3 : Hid _ := g3
        have M3 : Hid (Mil.mu s3 < Mil.mu st) := Nat.lt_trans (Mil.want_mu g3) M2.out
        clear g3 kk3
        go_wp2_with fail
        refine (IH.out s3 M3.out _ (HL.out.kept hk3 hb) r3).mono ?_
        rintro e w4 ⟨kk4, (⟨x4, s4, ty4, y4, rfl, e4, g4, r4⟩ | ⟨⟨k, at_, hkk, d, rfl, hd⟩, hno⟩)⟩
        · have hk4 := hk3.trans kk4
          have G4 : Hid _ := g4
          have E4 : Hid _ := e4
          have M4 : Hid (Mil.mu s4 < Mil.mu st) := Nat.lt_of_le_of_lt (Mil.ok_mu g4) M3.out
          clear g4 kk4 e4
          go_wp2_with fail
          refine (want_any a b s s4 (bs Mil.sComma) _ (HL.out.kept hk4 hb) hb r4 hs).mono ?_
          rintro e w5 ⟨kk5, (⟨s5, rfl, g5, r5⟩ | ⟨⟨k, at_, hkk, d, rfl, hd⟩, hno⟩)⟩
          · have hk5 := hk4.trans kk5
            have G5 : Hid _ := g5
            have M5 : Hid (Mil.mu s5 < Mil.mu st) := Nat.lt_trans (Mil.want_mu g5) M4.out
            clear g5 kk5
            go_wp2_with fail
            refine (number_any a b s s5 2 1000 (by decide) _ (HL.out.kept hk5 hb) hb r5 hs).mono ?_
            rintro e w6 ⟨kk6, (⟨x6, s6, rfl, g6, r6⟩ | ⟨⟨k, at_, hkk, d, rfl, hd⟩, hno⟩)⟩
            · have hk6 := hk5.trans kk6
              have G6 : Hid _ := g6
              have M6 : Hid (Mil.mu s6 < Mil.mu st) := Nat.lt_trans (Mil.number_mu g6) M5.out
              clear g6 kk6
              go_wp2_with fail
              refine (want_any a b s s6 (bs Mil.sShut) _ (HL.out.kept hk6 hb) hb r6 hs).mono ?_
              rintro e w7 ⟨kk7, (⟨s7, rfl, g7, r7⟩ | ⟨⟨k, at_, hkk, d, rfl, hd⟩, hno⟩)⟩
              · have hk7 := hk6.trans kk7
                have G7 : Hid _ := g7
                have M7 : Hid (Mil.mu s7 < Mil.mu st) := Nat.lt_trans (Mil.want_mu g7) M6.out
                clear g7 kk7
                go_wp2
                go_ret
                refine ⟨hk7, Or.inl ⟨Mil.eHold x2 x4 x6, s7, _, _, rfl, ?_, ?_, r7⟩⟩
                · show Value.iface _ (.agg #[ev x2, ev x4, .int .i64 (x6 : Nat)]) = _
                  rw [E2.out, E4.out]
                · exact ⟨_, _, _, _, _, _, G1.out, G2.out, G3.out, G4.out, G5.out, G6.out, G7.out, rfl⟩
              · go_wp2
                refine ⟨rfl, hk6.trans kk7, Or.inr ⟨⟨k, at_, hkk, d, rfl, hd⟩, fun x t hx => ?_⟩⟩
                obtain ⟨v1, v2, v3, v4, v5, v6, q1, q2, q3, q4, q5, q6, q7, _⟩ := hx
                obtain rfl := Option.some.inj (G1.out.symm.trans q1)
                obtain rfl := Option.some.inj (G2.out.symm.trans q2)
                obtain rfl := Option.some.inj (G3.out.symm.trans q3)
                obtain rfl := Mil.Ok.unique q4 G4.out
                obtain rfl := Option.some.inj (G5.out.symm.trans q5)
                obtain rfl := Option.some.inj (G6.out.symm.trans q6)
                have hh := hno.symm.trans q7
                cases hh
            · go_wp2
              refine ⟨rfl, hk5.trans kk6, Or.inr ⟨⟨k, at_, hkk, d, rfl, hd⟩, fun x t hx => ?_⟩⟩
              obtain ⟨v1, v2, v3, v4, v5, v6, q1, q2, q3, q4, q5, q6, q7, _⟩ := hx
              obtain rfl := Option.some.inj (G1.out.symm.trans q1)
              obtain rfl := Option.some.inj (G2.out.symm.trans q2)
              obtain rfl := Option.some.inj (G3.out.symm.trans q3)
              obtain rfl := Mil.Ok.unique q4 G4.out
              obtain rfl := Option.some.inj (G5.out.symm.trans q5)
              have hh := hno.symm.trans q6
              cases hh
          · go_wp2
            refine ⟨rfl, hk4.trans kk5, Or.inr ⟨⟨k, at_, hkk, d, rfl, hd⟩, fun x t hx => ?_⟩⟩
            obtain ⟨v1, v2, v3, v4, v5, v6, q1, q2, q3, q4, q5, q6, q7, _⟩ := hx
            obtain rfl := Option.some.inj (G1.out.symm.trans q1)
            obtain rfl := Option.some.inj (G2.out.symm.trans q2)
            obtain rfl := Option.some.inj (G3.out.symm.trans q3)
            obtain rfl := Mil.Ok.unique q4 G4.out
            have hh := hno.symm.trans q5
            cases hh
        · go_wp2
          refine ⟨rfl, hk3.trans kk4, Or.inr ⟨⟨k, at_, hkk, d, rfl, hd⟩, fun x t hx => ?_⟩⟩
          obtain ⟨v1, v2, v3, v4, v5, v6, q1, q2, q3, q4, q5, q6, q7, _⟩ := hx
          obtain rfl := Option.some.inj (G1.out.symm.trans q1)
          obtain rfl := Option.some.inj (G2.out.symm.trans q2)
          obtain rfl := Option.some.inj (G3.out.symm.trans q3)
          exact hno v4.1 v4.2 q4
      · go_wp2
        refine ⟨rfl, hk2.trans kk3, Or.inr ⟨⟨k, at_, hkk, d, rfl, hd⟩, fun x t hx => ?_⟩⟩
        obtain ⟨v1, v2, v3, v4, v5, v6, q1, q2, q3, q4, q5, q6, q7, _⟩ := hx
        obtain rfl := Option.some.inj (G1.out.symm.trans q1)
        obtain rfl := Option.some.inj (G2.out.symm.trans q2)
        have hh := hno.symm.trans q3
        cases hh
    · go_wp2
      refine ⟨rfl, hk1.trans kk2, Or.inr ⟨⟨k, at_, hkk, d, rfl, hd⟩, fun x t hx => ?_⟩⟩
      obtain ⟨v1, v2, v3, v4, v5, v6, q1, q2, q3, q4, q5, q6, q7, _⟩ := hx
      obtain rfl := Option.some.inj (G1.out.symm.trans q1)
      exact hno v2.1 v2.2 q2
  · go_wp2
    refine ⟨rfl, kk1, Or.inr ⟨⟨k, at_, hkk, d, rfl, hd⟩, fun x t hx => ?_⟩⟩
    obtain ⟨v1, v2, v3, v4, v5, v6, q1, q2, q3, q4, q5, q6, q7, _⟩ := hx
    have hh := hno.symm.trans q1
    cases hh

set_option maxHeartbeats 2000000 in
theorem extreme_any (a : Nat → Addr) (b : Nat) (s : ByteArray) (hb : 23 ≤ b) (hs : s.size ≤ 4000) (m : Mil.Bytes) (st : Mil.St) (ih : ∀ t, Mil.mu t < Mil.mu st → EC a b s t) (w : World) (L : Laid a w) (h : RdS w b s st) :
    Calls Tryz.prog 66 #[.pointer (some ⟨b, 0, none⟩), .string (bs m)] w (ExPost (Mil.Rleast m st) a b s w) := by
  have H : Hid (RdS w b s st) := h
  have HL : Hid (Laid a w) := L
  have IH : Hid (∀ t, Mil.mu t < Mil.mu st → EC a b s t) := ih
  clear h L ih
  go_enter Tryz.func66, Tryz.ntmps66
  go_wp2_with fail
  refine (want_any a b s st (bs Mil.sOpen) _ HL.out hb H.out hs).mono ?_
  rintro e w1 ⟨kk1, (⟨s1, rfl, g1, r1⟩ | ⟨⟨k, at_, hkk, d, rfl, hd⟩, hno⟩)⟩
  · have hk1 := kk1
    have G1 : Hid _ := g1
    have M1 : Hid (Mil.mu s1 < Mil.mu st) := Mil.want_mu g1
    clear g1 kk1
    go_wp2_with fail
    refine (IH.out s1 M1.out _ (HL.out.kept hk1 hb) r1).mono ?_
    rintro e w2 ⟨kk2, (⟨x2, s2, ty2, y2, rfl, e2, g2, r2⟩ | ⟨⟨k, at_, hkk, d, rfl, hd⟩, hno⟩)⟩
    · have hk2 := hk1.trans kk2
      have G2 : Hid _ := g2
      have E2 : Hid _ := e2
      have M2 : Hid (Mil.mu s2 < Mil.mu st) := Nat.lt_of_le_of_lt (Mil.ok_mu g2) M1.out
      clear g2 kk2 e2
      go_wp2_with fail
      refine (want_any a b s s2 (bs Mil.sComma) _ (HL.out.kept hk2 hb) hb r2 hs).mono ?_
      rintro e w3 ⟨kk3, (⟨s3, rfl, g3, r3⟩ | ⟨⟨k, at_, hkk, d, rfl, hd⟩, hno⟩)⟩
      · have hk3 := hk2.trans kk3
        have G3 : Hid _ := g3
        have M3 : Hid (Mil.mu s3 < Mil.mu st) := Nat.lt_trans (Mil.want_mu g3) M2.out
        clear g3 kk3
        go_wp2_with fail
        refine (IH.out s3 M3.out _ (HL.out.kept hk3 hb) r3).mono ?_
        rintro e w4 ⟨kk4, (⟨x4, s4, ty4, y4, rfl, e4, g4, r4⟩ | ⟨⟨k, at_, hkk, d, rfl, hd⟩, hno⟩)⟩
        · have hk4 := hk3.trans kk4
          have G4 : Hid _ := g4
          have E4 : Hid _ := e4
          have M4 : Hid (Mil.mu s4 < Mil.mu st) := Nat.lt_of_le_of_lt (Mil.ok_mu g4) M3.out
          clear g4 kk4 e4
          go_wp2_with fail
          refine (want_any a b s s4 (bs Mil.sShut) _ (HL.out.kept hk4 hb) hb r4 hs).mono ?_
          rintro e w5 ⟨kk5, (⟨s5, rfl, g5, r5⟩ | ⟨⟨k, at_, hkk, d, rfl, hd⟩, hno⟩)⟩
          · have hk5 := hk4.trans kk5
            have G5 : Hid _ := g5
            have M5 : Hid (Mil.mu s5 < Mil.mu st) := Nat.lt_trans (Mil.want_mu g5) M4.out
            clear g5 kk5
            go_wp2
            go_ret
            refine ⟨hk5, Or.inl ⟨Mil.eLeast m x2 x4, s5, _, _, rfl, ?_, ?_, r5⟩⟩
            · show Value.iface _ (.agg #[.string (bs m), ev x2, ev x4]) = _
              rw [E2.out, E4.out]
            · exact ⟨_, _, _, _, G1.out, G2.out, G3.out, G4.out, G5.out, rfl⟩
          · go_wp2
            refine ⟨rfl, hk4.trans kk5, Or.inr ⟨⟨k, at_, hkk, d, rfl, hd⟩, fun x t hx => ?_⟩⟩
            obtain ⟨v1, v2, v3, v4, q1, q2, q3, q4, q5, _⟩ := hx
            obtain rfl := Option.some.inj (G1.out.symm.trans q1)
            obtain rfl := Mil.Ok.unique q2 G2.out
            obtain rfl := Option.some.inj (G3.out.symm.trans q3)
            obtain rfl := Mil.Ok.unique q4 G4.out
            have hh := hno.symm.trans q5
            cases hh
        · go_wp2
          refine ⟨rfl, hk3.trans kk4, Or.inr ⟨⟨k, at_, hkk, d, rfl, hd⟩, fun x t hx => ?_⟩⟩
          obtain ⟨v1, v2, v3, v4, q1, q2, q3, q4, q5, _⟩ := hx
          obtain rfl := Option.some.inj (G1.out.symm.trans q1)
          obtain rfl := Mil.Ok.unique q2 G2.out
          obtain rfl := Option.some.inj (G3.out.symm.trans q3)
          exact hno v4.1 v4.2 q4
      · go_wp2
        refine ⟨rfl, hk2.trans kk3, Or.inr ⟨⟨k, at_, hkk, d, rfl, hd⟩, fun x t hx => ?_⟩⟩
        obtain ⟨v1, v2, v3, v4, q1, q2, q3, q4, q5, _⟩ := hx
        obtain rfl := Option.some.inj (G1.out.symm.trans q1)
        obtain rfl := Mil.Ok.unique q2 G2.out
        have hh := hno.symm.trans q3
        cases hh
    · go_wp2
      refine ⟨rfl, hk1.trans kk2, Or.inr ⟨⟨k, at_, hkk, d, rfl, hd⟩, fun x t hx => ?_⟩⟩
      obtain ⟨v1, v2, v3, v4, q1, q2, q3, q4, q5, _⟩ := hx
      obtain rfl := Option.some.inj (G1.out.symm.trans q1)
      exact hno v2.1 v2.2 q2
  · go_wp2
    refine ⟨rfl, kk1, Or.inr ⟨⟨k, at_, hkk, d, rfl, hd⟩, fun x t hx => ?_⟩⟩
    obtain ⟨v1, v2, v3, v4, q1, q2, q3, q4, q5, _⟩ := hx
    have hh := hno.symm.trans q1
    cases hh

end Go.Proofs.YteheagaiphhhlaaGreatDoor
