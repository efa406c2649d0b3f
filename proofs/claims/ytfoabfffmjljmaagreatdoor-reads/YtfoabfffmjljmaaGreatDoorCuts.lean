/-
  cutSign, walked.
-/
import Derived.Test.YtfoabfffmjljmaaGreatDoorCutn
import Derived.RegionTactic
import Derived.BigRegion
import Derived.Deep.RegionHeld2
namespace Go.Proofs.YtfoabfffmjljmaaGreatDoor
open Go.RowKit

theorem extract0 (x : ByteArray) (n : Nat) : (x.extract 0 n).data.toList = x.data.toList.take n := by rw [Lib.extract_data]; simp
theorem prefix_take {x y : Mil.Bytes} : (x.take y.length == y) = y.isPrefixOf x := by
  rw [Bool.eq_iff_iff, beq_iff_eq, List.isPrefixOf_iff_prefix]
  constructor
  · intro e; rw [← e]; exact List.take_prefix _ _
  · intro e; exact (List.prefix_iff_eq_take.1 e).symm
theorem prefix_long {x y : Mil.Bytes} (h : x.length < y.length) : y.isPrefixOf x = false := by
  rw [Bool.eq_false_iff]
  intro e
  have := (List.isPrefixOf_iff_prefix.1 e).length_le
  omega

/-- Is y what x begins with? -/
def pre (y x : ByteArray) : Bool := y.data.toList.isPrefixOf x.data.toList

set_option maxHeartbeats 400000 in
theorem hasPrefix_in (x y : ByteArray) (w : World) : Calls Tryz.prog 56 #[.string x, .string y] w fun e w' => e = .returned (.bool (pre y x)) ∧ w' = w := by
  by_cases h : y.size ≤ x.size
  · go_enter Tryz.func56, Tryz.ntmps56
    go_wp2
    go_ret
    refine ⟨ret_bool ?_, rfl⟩
    unfold pre
    rw [Lib.toList_data, Lib.toList_data, extract0]
    have := prefix_take (x := x.data.toList) (y := y.data.toList)
    rw [← this]; simp
  · go_enter Tryz.func56, Tryz.ntmps56
    go_wp2
    go_ret
    refine ⟨ret_bool ?_, rfl⟩
    unfold pre
    rw [prefix_long (by simp; omega)]
set_option maxHeartbeats 400000 in
theorem hasPrefix_any (x y : ByteArray) (w : World) : Calls Tryz.prog 48 #[.string x, .string y] w fun e w' => e = .returned (.bool (pre y x)) ∧ w' = w := by
  go_enter Tryz.func48, Tryz.ntmps48
  go_wp2_with (go_at_call 56; refine (hasPrefix_in _ _ _).mono ?_; rintro e w' ⟨rfl, rfl⟩)
  go_ret
  exact ⟨rfl, rfl⟩

/-- The j-th sign. -/
def signAt (j : Nat) : Mil.Bytes := Mil.signs.getD j []
theorem lt17 {i : Nat} (h : i < 17) : i = 0 ∨ i = 1 ∨ i = 2 ∨ i = 3 ∨ i = 4 ∨ i = 5 ∨ i = 6 ∨ i = 7 ∨ i = 8 ∨ i = 9 ∨ i = 10 ∨ i = 11 ∨ i = 12 ∨ i = 13 ∨ i = 14 ∨ i = 15 ∨ i = 16 := by omega
theorem index_signs (j : Nat) (h : j < 17) (w : World) : (Instr.index 124 (.agg (strCells Mil.signs)) (.int .i64 j)).run Tryz.prog w = .ok (.string (bs (signAt j))) w := by
  rcases lt17 h with rfl | rfl | rfl | rfl | rfl | rfl | rfl | rfl | rfl | rfl | rfl | rfl | rfl | rfl | rfl | rfl | rfl <;> kernel_rfl
theorem sign_size (j : Nat) (h : j < 17) : (bs (signAt j)).size ≤ 2 ∧ (signAt j).length = (bs (signAt j)).size := by
  rcases lt17 h with rfl | rfl | rfl | rfl | rfl | rfl | rfl | rfl | rfl | rfl | rfl | rfl | rfl | rfl | rfl | rfl | rfl <;> decide
/-- The first sign that fits. -/
theorem find_at {f : Mil.Bytes → Bool} : ∀ (l : List Mil.Bytes) (j : Nat), j < l.length → f (l.getD j []) = true → (∀ m, m < j → f (l.getD m []) = false) → l.find? f = some (l.getD j [])
  | [], _, h, _, _ => by simp at h
  | x :: r, 0, _, h1, _ => by
    have h1' : f x = true := h1
    rw [List.find?_cons]
    simp [h1']
  | x :: r, j + 1, h, h1, h2 => by
    have h0 : f x = false := h2 0 (by omega)
    have := find_at r j (by simpa using h) h1 (fun m hm => h2 (m + 1) (by omega))
    rw [List.find?_cons, h0]
    exact this
theorem find_none {f : Mil.Bytes → Bool} : ∀ (l : List Mil.Bytes), (∀ m, m < l.length → f (l.getD m []) = false) → l.find? f = none
  | [], _ => rfl
  | x :: r, h => by
    have h0 : f x = false := h 0 (by simp)
    rw [List.find?_cons, h0]
    exact find_none r (fun m hm => h (m + 1) (by simpa using hm))

set_option maxHeartbeats 1000000 in
theorem cutSign_any (a : Nat → Addr) (b : Nat) (s : ByteArray) (p n : Nat) (k tp : Int) (x : ByteArray) (v : Int) (w : World) (L : Laid a w) (hb : 23 ≤ b) (h : Rd w b s p n k tp x v) (hp : p < s.size) (hs : s.size ≤ 4000) :
    Calls Tryz.prog 39 #[.pointer (some ⟨b, 0, none⟩)] w (TokPost (Mil.cutSign (s.data.toList.drop p)) a b s p n k tp x v w) := by
  have HL : Hid (Laid a w) := L
  have hbw : b < w.heap.size := lt_of_cell h.c0
  have hgw := L.size
  let o : Obj := .cells #[.int .i64 0, .int .i64 0, .string ⟨#[]⟩, .int .i64 0] 66
  have ho : o = .cells #[.int .i64 0, .int .i64 0, .string ⟨#[]⟩, .int .i64 0] 66 := rfl
  have hR : Rd (w.alloc o) b s p n k tp x v := h.kept ((Kp.refl (b + 1) _).alloc _) (by omega)
  have HR : Hid (Rd (w.alloc o) b s p n k tp x v) := hR
  have HK : Hid (Kp b w (w.alloc o)) := (Kp.refl b _).alloc _
  obtain ⟨tg, hg⟩ := (L.kept HK.out hb).signs
  have hT : Slot (w.alloc o) w.heap.size := heap_alloc_new _ _
  have hix := fun (j : Nat) (h : j < 17) (w : World) => index_signs j h w
  clear h L
  go_enter Tryz.func39, Tryz.ntmps39
  go_wp2_with (refine wpList_load_row rfl 124 _ rfl 15 rfl tg _ (0, 0) _ hg Tryz.underlying124 rfl (by kernel_rfl) ?_)
  rw [← ho]
  generalize w.alloc o = w1 at *
  have c0 := hR.c0
  have c1 := hR.c1
  have f1 := hR.fz 1
  have ct := (HL.out.kept HK.out hb).token
  obtain ⟨r0, r1, r2, r3, z0, z1, z2, z3⟩ := hT.cell
  have HT : Hid (Slot w1 w.heap.size) := hT
  clear hR hT
  have hes : (s.extract p s.size).data.toList = s.data.toList.drop p := by rw [Lib.extract_data, List.take_of_length_le (by simp)]
  have HES : Hid ((s.extract p s.size).data.toList = s.data.toList.drop p) := hes
  clear hes
  have hple : p ≤ s.size := by omega
  go_loopg [7] 17 (fun g s7 wr => ∃ j : Nat, j ≤ 17 ∧ s7 = .int .i64 j ∧ g = 17 - j ∧ Hid (Rd wr b s p n k tp x v) ∧ Hid (Kp b w wr) ∧ Hid (Slot wr w.heap.size) ∧ Hid (∀ i, i < j → (signAt i).isPrefixOf (s.data.toList.drop p) = false))
  case atStart => exact ⟨0, by decide, rfl, rfl, HR, HK, HT, fun m hm => by omega⟩
  case round =>
    clear c0 c1 f1 ct r0 r1 r2 r3 z0 z1 z2 z3
    obtain ⟨j, hj, rfl, hgk, HR2, HK2, HT2, HW⟩ := hrel
    have HG : Hid (gk = 17 - j) := hgk
    clear hgk
    have c0 := HR2.out.c0
    have c1 := HR2.out.c1
    have f1 := HR2.out.fz 1
    have ct := (HL.out.kept HK2.out hb).token
    obtain ⟨r0, r1, r2, r3, z0, z1, z2, z3⟩ := HT2.out.cell
    by_cases hlt : j < 17
    · have hi := hix j hlt
      obtain ⟨hz2, hzl⟩ := sign_size j hlt
      have HZ : Hid ((signAt j).length = (bs (signAt j)).size) := hzl
      clear hzl
      by_cases heq : (signAt j).isPrefixOf (s.data.toList.drop p) = true
      · have hbq : pre (bs (signAt j)) (s.extract p s.size) = true := by unfold pre; rw [HES.out]; exact heq
        have HE : Hid ((signAt j).isPrefixOf (s.data.toList.drop p) = true) := heq
        clear heq
        go_wp2
        go_quiet ((go_at_call 48; exact Calls.quiet_of_same (hasPrefix_any _ _ _)))
        rw [hbq]
        go_wp2
        refine bodyPost_ret (v := .agg #[.int .i64 3, .int .i64 p, .string (bs (signAt j)), .int .i64 0]) (by simp [results, Tryz.results39, go_sem, r0, r1, r2, r3]) rfl ?_
        have hle : (signAt j).length ≤ (s.data.toList.drop p).length := (List.isPrefixOf_iff_prefix.1 HE.out).length_le
        have hzl := HZ.out
        have hps : p + (bs (signAt j)).size ≤ s.size := by simp at hle; omega
        have e1 : (p : Int) + ((bs (signAt j)).size : Int) = ((p + (bs (signAt j)).size : Nat) : Int) := by omega
        rw [e1]
        refine ⟨((HK2.out.drewN nq).setCell _ _).four (Nat.le_refl _) _ _ _ _, Or.inl ⟨Mil.fix (signAt j), p + (bs (signAt j)).size, bs (signAt j), rfl, by omega, hps, ((HR2.out.drewN nq).set1 _).four (by omega) _ _ _ _, ?_, rfl⟩⟩
        unfold Mil.cutSign
        have hf : Mil.signs.find? (fun x => x.isPrefixOf (s.data.toList.drop p)) = some (signAt j) := find_at Mil.signs j hlt HE.out HW.out
        rw [hf, ← hzl]
        show some (Mil.fix (signAt j), List.drop (signAt j).length (List.drop p s.data.toList)) = _
        rw [List.drop_drop]
      · have hbq : pre (bs (signAt j)) (s.extract p s.size) = false := by unfold pre; rw [HES.out]; exact Bool.eq_false_iff.2 heq
        have HE : Hid ((signAt j).isPrefixOf (s.data.toList.drop p) = false) := Bool.eq_false_iff.2 heq
        clear heq
        go_wp2
        go_quiet ((go_at_call 48; exact Calls.quiet_of_same (hasPrefix_any _ _ _)))
        rw [hbq]
        go_wp2
        go_roundg (17 - (j + 1))
        case measure => have := HG.out; omega
        case rel =>
          refine ⟨j + 1, by omega, by go_num, rfl, HR2.out.drewN _, HK2.out.drewN _, HT2.out.kept ((Kp.refl b _).drewN _) (by omega), ?_⟩
          intro i hi
          rcases Nat.lt_or_ge i j with h | h
          · exact HW.out i h
          · have : i = j := by omega
            rw [this]; exact HE.out
    · have hpp : ∀ tm : Array Value, bodyPost Tryz.prog Tryz.f39 (TokPost (Mil.cutSign (s.data.toList.drop p)) a b s p n k tp x v w) (Exit.panic [{ v := .iface 52 (.pointer (some ⟨wr.heap.size, 0, none⟩)), recovered := false }]) { tmps := tm, defers := [] } (wr.alloc (.cells #[.int .i64 p, errV (a 2)] 59)).drew := by
        intro tm
        refine ⟨rfl, (HK2.out.alloc _).drew, Or.inr ⟨⟨wr.heap.size, rfl, heap_alloc_new wr _⟩, ?_⟩⟩
        unfold Mil.cutSign
        rw [find_none Mil.signs (fun m hm => HW.out m (by have : Mil.signs.length = 17 := rfl; omega))]
      go_wp2
      refine wp_region_any (by kernel_rfl) ?_
      change wpAny _ _ _ _ _ _ _ (World.drew _)
      refine wpAny_take (i := 0) (v := .pointer (some ⟨b, 0, none⟩)) rfl (by kernel_rfl) (by kernel_rfl) (by kernel_rfl) (fun _ _ _ h => h) (Or.inl ⟨by rfl, fun w => by go_simp⟩) ?_
      refine wpAny_take (i := 1) (v := .pointer (some ⟨b, 0, none⟩)) rfl (by kernel_rfl) (by kernel_rfl) (by kernel_rfl) (fun _ _ _ h => h) (Or.inl ⟨by rfl, fun w => by go_simp⟩) ?_
      refine wpAny_take (i := 2) (v := .pointer (some ⟨b, 1, none⟩)) rfl (by kernel_rfl) (by kernel_rfl) (by kernel_rfl) (fun _ _ _ h => h) (Or.inl ⟨by rfl, fun w => by go_simp⟩) ?_
      refine wpAny_ready (rs := [3, 4]) (by kernel_rfl) (by simp) ?_
      refine AllReady.cons rfl (fun K hK => ?_) (AllReady.cons rfl (fun K hK => ?_) AllReady.nil)
      · go_simp
        refine hK _ _ ?_
        clear hK K
        refine wpAny_ready (rs := [4]) (by kernel_rfl) (by simp) ?_
        refine AllReady.cons rfl (fun K hK => ?_) AllReady.nil
        go_simp
        refine hK _ _ ?_
        clear hK K
        refine wpAny_take (i := 5) (v := .agg #[.int .i64 p, errV (a 2)]) rfl (by kernel_rfl) (by kernel_rfl) (by kernel_rfl) (fun _ _ _ h => h) (Or.inl ⟨by rfl, fun w => by go_simp⟩) ?_
        refine wpAny_ready (rs := [6]) (by kernel_rfl) (by simp) ?_
        refine AllReady.cons rfl (fun K hK => ?_) AllReady.nil
        go_simp
        refine hK _ _ ?_
        clear hK K
        refine wpAny_take (i := 7) (v := .iface 52 (.pointer (some ⟨wr.heap.size, 0, none⟩))) rfl (by kernel_rfl) (by kernel_rfl) (by kernel_rfl) (fun _ _ _ h => h) (Or.inl ⟨by rfl, fun w => by go_simp⟩) ?_
        refine wpAny_ready (rs := [8]) (by kernel_rfl) (by simp) ?_
        refine AllReady.cons rfl (fun K hK => ?_) AllReady.nil
        go_simp
      · go_simp
        refine hK _ _ ?_
        clear hK K
        refine wpAny_ready (rs := [3]) (by kernel_rfl) (by simp) ?_
        refine AllReady.cons rfl (fun K hK => ?_) AllReady.nil
        go_simp
        refine hK _ _ ?_
        clear hK K
        refine wpAny_take (i := 5) (v := .agg #[.int .i64 p, errV (a 2)]) rfl (by kernel_rfl) (by kernel_rfl) (by kernel_rfl) (fun _ _ _ h => h) (Or.inl ⟨by rfl, fun w => by go_simp⟩) ?_
        refine wpAny_ready (rs := [6]) (by kernel_rfl) (by simp) ?_
        refine AllReady.cons rfl (fun K hK => ?_) AllReady.nil
        go_simp
        refine hK _ _ ?_
        clear hK K
        refine wpAny_take (i := 7) (v := .iface 52 (.pointer (some ⟨wr.heap.size, 0, none⟩))) rfl (by kernel_rfl) (by kernel_rfl) (by kernel_rfl) (fun _ _ _ h => h) (Or.inl ⟨by rfl, fun w => by go_simp⟩) ?_
        refine wpAny_ready (rs := [8]) (by kernel_rfl) (by simp) ?_
        refine AllReady.cons rfl (fun K hK => ?_) AllReady.nil
        go_simp

end Go.Proofs.YtfoabfffmjljmaaGreatDoor
