/-
  name, number, flowType, walked; what an expression is in memory; literal, constant.
-/
import Derived.Test.YteheagaiphhhlaaGreatDoorPrim
namespace Go.Proofs.YteheagaiphhhlaaGreatDoor
open Go.RowKit

set_option maxHeartbeats 400000 in
theorem clone_any (x : ByteArray) (hx : x.size ≤ 4000) (w : World) : Calls Tryz.prog 50 #[.string x] w fun e w' => e = .returned (.string x) ∧ Below w.heap.size w w' := by
  go_enter Tryz.func50, Tryz.ntmps50
  go_wp2_with fail
  refine (Tryz.stringslite_Clone x w (by omega)).mono ?_
  rintro e w1 ⟨rfl, hb⟩
  go_wp2
  go_ret
  exact ⟨rfl, hb⟩

def NmPost (r : Option (Mil.Bytes × Mil.St)) (a : Nat → Addr) (b : Nat) (s : ByteArray) (w : World) (e : Ending) (w' : World) : Prop :=
  Kp b w w' ∧ ((∃ x st, e = .returned (.string (bs x)) ∧ r = some (x, st) ∧ RdS w' b s st) ∨ (Threw a e w' ∧ r = none))
set_option maxHeartbeats 1000000 in
theorem name_any (a : Nat → Addr) (b : Nat) (s : ByteArray) (st : Mil.St) (w : World) (L : Laid a w) (hb : 23 ≤ b) (h : RdS w b s st) (hs : s.size ≤ 4000) :
    Calls Tryz.prog 41 #[.pointer (some ⟨b, 0, none⟩)] w (NmPost (Mil.name st) a b s w) := by
  have H : Hid (RdS w b s st) := h
  have HL : Hid (Laid a w) := L
  obtain ⟨p, tp, x, hp, hR, hr, hx, hn⟩ := h
  have c3 := hR.c3
  have c5 := hR.c5
  have hbw : b < w.heap.size := lt_of_cell hR.c0
  have hxs : x.size ≤ 4000 := by
    have e : x.size = x.data.toList.length := by simp
    rw [e, hx]; exact hn.2.1
  have HX : Hid (x = bs st.tok.txt) := by rw [← hx]; exact (bs_of x).symm
  clear hR hr hx L
  by_cases h1 : st.tok.kind = 1
  · have hk1 : (((st.tok.kind : Nat) : Int) != 1) = false := by simp; omega
    have HM : Hid (Mil.name st = (Mil.adv st).map fun s1 => (st.tok.txt, s1)) := by unfold Mil.name; rw [if_pos h1]; rfl
    clear h1
    go_enter Tryz.func41, Tryz.ntmps41
    go_wp2_with fail
    refine (clone_any x hxs _).mono ?_
    rintro e w1 ⟨rfl, hb1⟩
    go_wp2_with fail
    refine (advance_any a b s st w1 (HL.out.kept (Kp.of_below (b := b) hb1) hb) hb (H.out.kept (Kp.of_below (b := b + 1) hb1) (by omega)) hs).mono ?_
    rintro e w2 ⟨hk, (⟨st', rfl, g1, g2⟩ | ⟨⟨k, at_, hkk, d, rfl, hd⟩, hno⟩)⟩
    · go_wp2
      go_ret
      refine ⟨(Kp.of_below hb1).trans hk, Or.inl ⟨st.tok.txt, st', ?_, ?_, g2⟩⟩
      · rw [← HX.out]; rfl
      · rw [HM.out, g1]; rfl
    · go_wp2
      exact ⟨rfl, (Kp.of_below hb1).trans hk, Or.inr ⟨⟨k, at_, hkk, d, rfl, hd⟩, by rw [HM.out, hno]; rfl⟩⟩
  · have hk1 : (((st.tok.kind : Nat) : Int) != 1) = true := by simp; omega
    have HM : Hid (Mil.name st = none) := by unfold Mil.name; rw [if_neg h1]; rfl
    clear h1
    go_enter Tryz.func41, Tryz.ntmps41
    go_wp2_with fail
    refine (refused_any a b s st _ HL.out H.out).mono ?_
    rintro e w2 ⟨d, at_, rfl, hd, hb2⟩
    go_wp2
    exact ⟨rfl, Kp.of_below hb2, Or.inr ⟨⟨3, at_, Or.inr (Or.inr (Or.inl rfl)), d, rfl, hd⟩, HM.out⟩⟩

def NuPost (r : Option (Nat × Mil.St)) (a : Nat → Addr) (b : Nat) (s : ByteArray) (w : World) (e : Ending) (w' : World) : Prop :=
  Kp b w w' ∧ ((∃ k st, e = .returned (.int .i64 (k : Nat)) ∧ r = some (k, st) ∧ RdS w' b s st) ∨ (Threw a e w' ∧ r = none))
set_option maxHeartbeats 1000000 in
theorem number_any (a : Nat → Addr) (b : Nat) (s : ByteArray) (st : Mil.St) (lo hi : Int) (h0 : 0 ≤ lo) (w : World) (L : Laid a w) (hb : 23 ≤ b) (h : RdS w b s st) (hs : s.size ≤ 4000) :
    Calls Tryz.prog 44 #[.pointer (some ⟨b, 0, none⟩), .int .i64 lo, .int .i64 hi] w (NuPost (Mil.number lo hi st) a b s w) := by
  have H : Hid (RdS w b s st) := h
  have HL : Hid (Laid a w) := L
  obtain ⟨p, tp, x, hp, hR, hr, hx, hn⟩ := h
  have c3 := hR.c3
  have c6 := hR.c6
  clear hR hr hx L
  by_cases hc : st.tok.kind = 2 ∧ lo ≤ st.tok.val ∧ st.tok.val ≤ hi
  · have HM : Hid (Mil.number lo hi st = (Mil.adv st).map fun s1 => (st.tok.val.toNat, s1)) := by unfold Mil.number; rw [if_pos hc]; rfl
    obtain ⟨h2, hl, hh⟩ := hc
    have hk2 : (((st.tok.kind : Nat) : Int) != 2) = false := by simp; omega
    have hl' : ¬ st.tok.val < lo := by omega
    have hh' : ¬ hi < st.tok.val := by omega
    have HV : Hid (((st.tok.val.toNat : Nat) : Int) = st.tok.val) := by show _ = _; omega
    clear h2 hl hh
    go_enter Tryz.func44, Tryz.ntmps44
    go_wp2_with fail
    refine (advance_any a b s st _ HL.out hb H.out hs).mono ?_
    rintro e w2 ⟨hk, (⟨st', rfl, g1, g2⟩ | ⟨⟨k, at_, hkk, d, rfl, hd⟩, hno⟩)⟩
    · go_wp2
      go_ret
      refine ⟨hk, Or.inl ⟨st.tok.val.toNat, st', ?_, ?_, g2⟩⟩
      · rw [HV.out]; rfl
      · rw [HM.out, g1]; rfl
    · go_wp2
      exact ⟨rfl, hk, Or.inr ⟨⟨k, at_, hkk, d, rfl, hd⟩, by rw [HM.out, hno]; rfl⟩⟩
  · have HM : Hid (Mil.number lo hi st = none) := by unfold Mil.number; rw [if_neg hc]; rfl
    have HC : Hid _ := hc
    clear hc
    have bad : ∀ (w2 : World) (d : Nat) (at_ : Int), w2.heap[d]? = some (.cells #[.int .i64 at_, errV (a 3)] 59 (0, 0)) → Below w.heap.size w w2 →
        NuPost (Mil.number lo hi st) a b s w (.panicked [{ v := .iface 52 (.pointer (some ⟨d, 0, none⟩)), recovered := false }]) w2 := fun w2 d at_ hd hb2 =>
      ⟨Kp.of_below hb2, Or.inr ⟨⟨3, at_, Or.inr (Or.inr (Or.inl rfl)), d, rfl, hd⟩, HM.out⟩⟩
    have BAD : Hid _ := bad
    clear bad
    by_cases h2 : st.tok.kind = 2
    · have hk2 : (((st.tok.kind : Nat) : Int) != 2) = false := by simp; omega
      by_cases hl : st.tok.val < lo
      · clear h2
        go_enter Tryz.func44, Tryz.ntmps44
        go_wp2_with fail
        refine (refused_any a b s st _ HL.out H.out).mono ?_
        rintro e w2 ⟨d, at_, rfl, hd, hb2⟩
        go_wp2
        exact ⟨rfl, BAD.out w2 d at_ hd hb2⟩
      · have hh : hi < st.tok.val := by
          rcases Int.lt_or_le hi st.tok.val with h' | h'
          · exact h'
          · exact absurd ⟨h2, by omega, h'⟩ HC.out
        clear h2
        go_enter Tryz.func44, Tryz.ntmps44
        go_wp2_with fail
        refine (refused_any a b s st _ HL.out H.out).mono ?_
        rintro e w2 ⟨d, at_, rfl, hd, hb2⟩
        go_wp2
        exact ⟨rfl, BAD.out w2 d at_ hd hb2⟩
    · have hk2 : (((st.tok.kind : Nat) : Int) != 2) = true := by simp; omega
      clear h2
      go_enter Tryz.func44, Tryz.ntmps44
      go_wp2_with fail
      refine (refused_any a b s st _ HL.out H.out).mono ?_
      rintro e w2 ⟨d, at_, rfl, hd, hb2⟩
      go_wp2
      exact ⟨rfl, BAD.out w2 d at_ hd hb2⟩

end Go.Proofs.YteheagaiphhhlaaGreatDoor
