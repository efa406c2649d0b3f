/-
  The reader's small steps: sees, takes, want, refused, name, number, flowType.
-/
import Derived.Test.YtfoabfffmjljmaaGreatDoorAdv
import Derived.Deep.RegionHeld3
namespace Go.Proofs.YtfoabfffmjljmaaGreatDoor
open Go.RowKit

theorem RdS.kept {w w' : World} {b c : Nat} {s : ByteArray} {st : Mil.St} (h : RdS w b s st) (k : Kp c w w') (hc : b ≠ c) : RdS w' b s st := by
  obtain ⟨p, tp, x, hp, hR, hr, hx, hn⟩ := h
  exact ⟨p, tp, x, hp, hR.kept k hc, hr, hx, hn⟩

set_option maxHeartbeats 400000 in
theorem refused_at (a : Nat → Addr) (b : Nat) (s : ByteArray) (st : Mil.St) (w : World) (L : Laid a w) (h : RdS w b s st) :
    Calls Tryz.prog 49 #[.pointer (some ⟨b, 0, none⟩)] w fun e w' => ∃ d, e = .returned (.pointer (some ⟨d, 0, none⟩)) ∧ w'.heap[d]? = some (.cells #[.int .i64 (place s.size st), errV (a 3)] 59 (0, 0)) ∧ Below w.heap.size w w' := by
  obtain ⟨p, tp, x, hp, hR, hr, hx, hn⟩ := h
  have c4 := hR.c4
  have cs := L.synt
  have HT : Hid (tp = place s.size st) := hn.2.2
  clear hR L hn hx hr
  go_enter Tryz.func49, Tryz.ntmps49
  go_wp2
  go_region_held3 (fun w' => w'.cell? ⟨b, 4, none⟩ = some (.int .i64 tp) ∧ w'.cell? ⟨4, 0, none⟩ = some (errV (a 3))) (exact ⟨cell_later (by repeat (first | exact Below.refl _ _ | refine Below.drew ?_ | refine Below.alloc ?_ (by first | (simp; done) | (simp; omega)) _)) c4, cell_later (by repeat (first | exact Below.refl _ _ | refine Below.drew ?_ | refine Below.alloc ?_ (by first | (simp; done) | (simp; omega)) _)) cs⟩) (fail)
  go_wp2
  go_ret
  rw [← HT.out]
  exact ⟨w.heap.size, rfl, heap_alloc_new w _, ((Below.refl _ _).alloc (Nat.le_refl _) _).drew⟩

set_option maxHeartbeats 400000 in
theorem sees_any (b : Nat) (s : ByteArray) (st : Mil.St) (y : ByteArray) (w : World) (h : RdS w b s st) :
    Calls Tryz.prog 40 #[.pointer (some ⟨b, 0, none⟩), .string y] w fun e w' => e = .returned (.bool (Mil.sees st y.data.toList)) ∧ w' = w := by
  obtain ⟨p, tp, x, hp, hR, hr, hx, hn⟩ := h
  have c3 := hR.c3
  have c5 := hR.c5
  have HX : Hid (x.data.toList = st.tok.txt) := hx
  have hsee : Mil.sees st y.data.toList = (decide (st.tok.kind = 3) && (x.toList == y.toList)) := by
    unfold Mil.sees
    rw [Lib.toList_data, Lib.toList_data, HX.out]; rfl
  have HS : Hid _ := hsee
  clear hR hx hr hsee
  by_cases h3 : st.tok.kind = 3
  · have hb : (((st.tok.kind : Nat) : Int) == 3) = true := by simp; omega
    have H3 : Hid (st.tok.kind = 3) := h3
    clear h3
    go_enter Tryz.func40, Tryz.ntmps40
    go_wp2
    go_ret
    refine ⟨ret_bool ?_, rfl⟩
    rw [HS.out, decide_eq_true H3.out]; simp
  · have hb : (((st.tok.kind : Nat) : Int) == 3) = false := by simp; omega
    have H3 : Hid (st.tok.kind ≠ 3) := h3
    clear h3
    go_enter Tryz.func40, Tryz.ntmps40
    go_wp2
    go_ret
    refine ⟨ret_bool ?_, rfl⟩
    rw [HS.out, decide_eq_false H3.out]; simp

set_option maxHeartbeats 400000 in
theorem takes_no (b : Nat) (s : ByteArray) (st : Mil.St) (y : ByteArray) (w : World) (h : RdS w b s st) (hn : Mil.sees st y.data.toList = false) :
    Calls Tryz.prog 29 #[.pointer (some ⟨b, 0, none⟩), .string y] w fun e w' => e = .returned (.bool false) ∧ w' = w := by
  have H : Hid (RdS w b s st) := h
  have HN : Hid (Mil.sees st y.data.toList = false) := hn
  clear h hn
  go_enter Tryz.func29, Tryz.ntmps29
  go_wp2_with fail
  refine (sees_any b s st y w H.out).mono ?_
  rintro e w' ⟨rfl, rfl⟩
  rw [HN.out]
  go_wp2
  go_ret
  exact ⟨rfl, rfl⟩

def TkPost (st : Mil.St) (a : Nat → Addr) (b : Nat) (s : ByteArray) (w : World) (e : Ending) (w' : World) : Prop :=
  Kp b w w' ∧ ((∃ st', e = .returned (.bool true) ∧ Mil.adv st = some st' ∧ RdS w' b s st') ∨ Threw (fun k p => Mil.advZ s.size st = .bad k p) a e w')
set_option maxHeartbeats 400000 in
theorem takes_yes (a : Nat → Addr) (b : Nat) (s : ByteArray) (st : Mil.St) (y : ByteArray) (w : World) (L : Laid a w) (hb : 23 ≤ b) (h : RdS w b s st) (hs : s.size ≤ 4000) (hy : Mil.sees st y.data.toList = true) :
    Calls Tryz.prog 29 #[.pointer (some ⟨b, 0, none⟩), .string y] w (TkPost st a b s w) := by
  have H : Hid (RdS w b s st) := h
  have HL : Hid (Laid a w) := L
  have HN : Hid (Mil.sees st y.data.toList = true) := hy
  clear h hy L
  go_enter Tryz.func29, Tryz.ntmps29
  go_wp2_with fail
  refine (sees_any b s st y w H.out).mono ?_
  rintro e w' ⟨rfl, rfl⟩
  rw [HN.out]
  go_wp2_with fail
  refine (advance_any a b s st _ HL.out hb H.out hs).mono ?_
  rintro e w1 ⟨hk, (⟨st', rfl, h1, h2⟩ | ⟨k, at_, hkk, d, rfl, hd, hno⟩)⟩
  · go_wp2
    go_ret
    exact ⟨hk, Or.inl ⟨st', rfl, h1, h2⟩⟩
  · go_wp2
    exact ⟨rfl, hk, Or.inr ⟨k, at_, hkk, d, rfl, hd, hno⟩⟩

set_option maxHeartbeats 400000 in
theorem want_any (a : Nat → Addr) (b : Nat) (s : ByteArray) (st : Mil.St) (y : ByteArray) (w : World) (L : Laid a w) (hb : 23 ≤ b) (h : RdS w b s st) (hs : s.size ≤ 4000) :
    Calls Tryz.prog 42 #[.pointer (some ⟨b, 0, none⟩), .string y] w (StPost (Mil.want st y.data.toList) (Mil.wantZ s.size st y.data.toList) a b s w) := by
  have H : Hid (RdS w b s st) := h
  have HL : Hid (Laid a w) := L
  clear h L
  by_cases hy : Mil.sees st y.data.toList = true
  · have HW : Hid (Mil.want st y.data.toList = Mil.adv st) := by unfold Mil.want; rw [if_pos hy]; rfl
    have HZ : Hid (Mil.wantZ s.size st y.data.toList = Mil.advZ s.size st) := by unfold Mil.wantZ; rw [if_pos hy]; rfl
    have HY : Hid _ := hy
    clear hy
    go_enter Tryz.func42, Tryz.ntmps42
    go_wp2_with fail
    refine (takes_yes a b s st y w HL.out hb H.out hs HY.out).mono ?_
    rintro e w1 ⟨hk, (⟨st', rfl, h1, h2⟩ | ⟨k, at_, hkk, d, rfl, hd, hno⟩)⟩
    · go_wp2
      go_end0
      exact ⟨hk, Or.inl ⟨st', rfl, HW.out.trans h1, h2⟩⟩
    · go_wp2
      exact ⟨rfl, hk, Or.inr ⟨k, at_, hkk, d, rfl, hd, HZ.out.trans hno⟩⟩
  · have HZ : Hid (Mil.wantZ s.size st y.data.toList = .bad 3 (place s.size st)) := by unfold Mil.wantZ; rw [if_neg hy]; rfl
    have HY : Hid (Mil.sees st y.data.toList = false) := Bool.eq_false_iff.2 hy
    clear hy
    go_enter Tryz.func42, Tryz.ntmps42
    go_wp2_with fail
    refine (takes_no b s st y w H.out HY.out).mono ?_
    rintro e w1 ⟨rfl, rfl⟩
    go_wp2_with fail
    refine (refused_at a b s st _ HL.out H.out).mono ?_
    rintro e w2 ⟨d, rfl, hd, hb2⟩
    go_wp2
    exact ⟨rfl, Kp.of_below hb2, Or.inr ⟨3, _, Or.inr (Or.inr (Or.inl rfl)), d, rfl, hd, HZ.out⟩⟩

end Go.Proofs.YtfoabfffmjljmaaGreatDoor
