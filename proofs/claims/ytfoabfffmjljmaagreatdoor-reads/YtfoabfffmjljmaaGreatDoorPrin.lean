/-
  number, walked.
-/
import Derived.Test.YtfoabfffmjljmaaGreatDoorHyb
namespace Go.Proofs.YtfoabfffmjljmaaGreatDoor
open Go.RowKit

def NuPost (r : Option (Nat × Mil.St)) (z : Mil.Rz (Nat × Mil.St)) (a : Nat → Addr) (b : Nat) (s : ByteArray) (w : World) (e : Ending) (w' : World) : Prop :=
  Kp b w w' ∧ ((∃ k st, e = .returned (.int .i64 (k : Nat)) ∧ r = some (k, st) ∧ RdS w' b s st) ∨ Threw (fun k p => z = .bad k p) a e w')
set_option maxHeartbeats 1000000 in
theorem number_any (a : Nat → Addr) (b : Nat) (s : ByteArray) (st : Mil.St) (lo hi : Int) (h0 : 0 ≤ lo) (w : World) (L : Laid a w) (hb : 23 ≤ b) (h : RdS w b s st) (hs : s.size ≤ 4000) :
    Calls Tryz.prog 44 #[.pointer (some ⟨b, 0, none⟩), .int .i64 lo, .int .i64 hi] w (NuPost (Mil.number lo hi st) (Mil.numberZ s.size lo hi st) a b s w) := by
  have H : Hid (RdS w b s st) := h
  have HL : Hid (Laid a w) := L
  obtain ⟨p, tp, x, hp, hR, hr, hx, hn⟩ := h
  have c3 := hR.c3
  have c6 := hR.c6
  clear hR hr hx L
  by_cases hc : st.tok.kind = 2 ∧ lo ≤ st.tok.val ∧ st.tok.val ≤ hi
  · have HM : Hid (Mil.number lo hi st = (Mil.adv st).map fun s1 => (st.tok.val.toNat, s1)) := by unfold Mil.number; rw [if_pos hc]; rfl
    have HZ : Hid (Mil.numberZ s.size lo hi st = (Mil.advZ s.size st).map fun s1 => (st.tok.val.toNat, s1)) := by unfold Mil.numberZ; rw [if_pos hc]; rfl
    obtain ⟨h2, hl, hh⟩ := hc
    have hk2 : (((st.tok.kind : Nat) : Int) != 2) = false := by simp; omega
    have hl' : ¬ st.tok.val < lo := by omega
    have hh' : ¬ hi < st.tok.val := by omega
    have HV : Hid (((st.tok.val.toNat : Nat) : Int) = st.tok.val) := by show _ = _; omega
    clear h2 hl hh
    go_enter Tryz.func44, Tryz.ntmps44
    go_wp2_with fail
    refine (advance_any a b s st _ HL.out hb H.out hs).mono ?_
    rintro e w2 ⟨hk, (⟨st', rfl, g1, g2⟩ | ⟨k, at_, hkk, d, rfl, hd, hno⟩)⟩
    · go_wp2
      go_ret
      refine ⟨hk, Or.inl ⟨st.tok.val.toNat, st', ?_, ?_, g2⟩⟩
      · rw [HV.out]; rfl
      · rw [HM.out, g1]; rfl
    · go_wp2
      exact ⟨rfl, hk, Or.inr ⟨k, at_, hkk, d, rfl, hd, by rw [HZ.out, hno]; rfl⟩⟩
  · have HZ : Hid (Mil.numberZ s.size lo hi st = .bad 3 (place s.size st)) := by unfold Mil.numberZ; rw [if_neg hc]; rfl
    have HC : Hid _ := hc
    clear hc
    have bad : ∀ (w2 : World) (d : Nat), w2.heap[d]? = some (.cells #[.int .i64 (place s.size st), errV (a 3)] 59 (0, 0)) → Below w.heap.size w w2 →
        NuPost (Mil.number lo hi st) (Mil.numberZ s.size lo hi st) a b s w (.panicked [{ v := .iface 52 (.pointer (some ⟨d, 0, none⟩)), recovered := false }]) w2 := fun w2 d hd hb2 =>
      ⟨Kp.of_below hb2, Or.inr ⟨3, _, Or.inr (Or.inr (Or.inl rfl)), d, rfl, hd, HZ.out⟩⟩
    have BAD : Hid _ := bad
    clear bad
    by_cases h2 : st.tok.kind = 2
    · have hk2 : (((st.tok.kind : Nat) : Int) != 2) = false := by simp; omega
      by_cases hl : st.tok.val < lo
      · clear h2
        go_enter Tryz.func44, Tryz.ntmps44
        go_wp2_with fail
        refine (refused_at a b s st _ HL.out H.out).mono ?_
        rintro e w2 ⟨d, rfl, hd, hb2⟩
        go_wp2
        exact ⟨rfl, BAD.out w2 d hd hb2⟩
      · have hh : hi < st.tok.val := by
          rcases Int.lt_or_le hi st.tok.val with h' | h'
          · exact h'
          · exact absurd ⟨h2, by omega, h'⟩ HC.out
        clear h2
        go_enter Tryz.func44, Tryz.ntmps44
        go_wp2_with fail
        refine (refused_at a b s st _ HL.out H.out).mono ?_
        rintro e w2 ⟨d, rfl, hd, hb2⟩
        go_wp2
        exact ⟨rfl, BAD.out w2 d hd hb2⟩
    · have hk2 : (((st.tok.kind : Nat) : Int) != 2) = true := by simp; omega
      clear h2
      go_enter Tryz.func44, Tryz.ntmps44
      go_wp2_with fail
      refine (refused_at a b s st _ HL.out H.out).mono ?_
      rintro e w2 ⟨d, rfl, hd, hb2⟩
      go_wp2
      exact ⟨rfl, BAD.out w2 d hd hb2⟩

end Go.Proofs.YtfoabfffmjljmaaGreatDoor
