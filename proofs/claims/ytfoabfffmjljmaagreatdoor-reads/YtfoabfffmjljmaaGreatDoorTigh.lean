/-
  tightnessOf, seesOperator, flowType; what an expression is in memory; literal, constant: walked.
-/
import Derived.Test.YtfoabfffmjljmaaGreatDoorPrin
import Derived.Test.YtfoabfffmjljmaaGreatDoorPap
namespace Go.Proofs.YtfoabfffmjljmaaGreatDoor
open Go.RowKit

def opName (j : Nat) : Mil.Bytes := (opsTab.getD j ([], 0, 0, 0)).1
def opBind (j : Nat) : Int := (opsTab.getD j ([], 0, 0, 0)).2.1
def opWant (j : Nat) : Int := (opsTab.getD j ([], 0, 0, 0)).2.2.1
def opGive (j : Nat) : Int := (opsTab.getD j ([], 0, 0, 0)).2.2.2
theorem lt14 {i : Nat} (h : i < 14) : i = 0 ∨ i = 1 ∨ i = 2 ∨ i = 3 ∨ i = 4 ∨ i = 5 ∨ i = 6 ∨ i = 7 ∨ i = 8 ∨ i = 9 ∨ i = 10 ∨ i = 11 ∨ i = 12 ∨ i = 13 := by omega
theorem index_ops (j : Nat) (h : j < 14) (w : World) : (Instr.index 168 (.agg opCells) (.int .i64 j)).run Tryz.prog w = .ok (.agg #[.string (bs (opName j)), .int .i64 (opBind j), .int .i64 (opWant j), .int .i64 (opGive j)]) w := by
  rcases lt14 h with rfl | rfl | rfl | rfl | rfl | rfl | rfl | rfl | rfl | rfl | rfl | rfl | rfl | rfl <;> kernel_rfl
theorem op_tight (j : Nat) (h : j < 14) : Mil.tightOf (opName j) ≠ 9 ∧ ((Mil.tightOf (opName j) : Nat) : Int) = opBind j := by
  rcases lt14 h with rfl | rfl | rfl | rfl | rfl | rfl | rfl | rfl | rfl | rfl | rfl | rfl | rfl | rfl <;> decide
theorem op_none {x : Mil.Bytes} (h : ∀ m, m < 14 → opName m ≠ x) : Mil.tightOf x = 9 := by
  have g : ∀ (m : Nat) (y : Mil.Bytes), m < 14 → opName m = y → x ≠ y := fun m y hm e he => h m hm (e.trans he.symm)
  unfold Mil.tightOf
  rw [if_neg, if_neg, if_neg, if_neg, if_neg]
  · rintro (e | e | e)
    · exact g 11 _ (by decide) rfl e
    · exact g 12 _ (by decide) rfl e
    · exact g 13 _ (by decide) rfl e
  · rintro (e | e)
    · exact g 9 _ (by decide) rfl e
    · exact g 10 _ (by decide) rfl e
  · rintro (e | e | e | e | e | e)
    · exact g 3 _ (by decide) rfl e
    · exact g 4 _ (by decide) rfl e
    · exact g 5 _ (by decide) rfl e
    · exact g 6 _ (by decide) rfl e
    · exact g 7 _ (by decide) rfl e
    · exact g 8 _ (by decide) rfl e
  · exact fun e => g 2 _ (by decide) rfl e
  · rintro (e | e)
    · exact g 0 _ (by decide) rfl e
    · exact g 1 _ (by decide) rfl e
/-- How tightly, as the program has it: -1 of what is no operator. -/
def tightGo (x : Mil.Bytes) : Int := if Mil.tightOf x = 9 then -1 else (Mil.tightOf x : Nat)

/-- A new block of four cells, as it was. -/
def NewFour (w : World) (k : Nat) : Prop := w.heap[k]? = some (.cells #[.string ⟨#[]⟩, .int .i64 0, .int .i64 0, .int .i64 0] 151 (0, 0))
theorem NewFour.facts {w : World} {k : Nat} (h : NewFour w k) : w.cell? ⟨k, 0, none⟩ = some (.string ⟨#[]⟩) ∧ w.cell? ⟨k, 1, none⟩ = some (.int .i64 0) ∧ w.cell? ⟨k, 2, none⟩ = some (.int .i64 0) ∧ w.cell? ⟨k, 3, none⟩ = some (.int .i64 0) ∧
    w.frozen? ⟨k, 0, none⟩ = false ∧ w.frozen? ⟨k, 1, none⟩ = false ∧ w.frozen? ⟨k, 2, none⟩ = false ∧ w.frozen? ⟨k, 3, none⟩ = false := by
  unfold NewFour at h
  refine ⟨(cell_of_row _ _ 0 _ _ _ h).trans rfl, (cell_of_row _ _ 1 _ _ _ h).trans rfl, (cell_of_row _ _ 2 _ _ _ h).trans rfl, (cell_of_row _ _ 3 _ _ _ h).trans rfl, ?_, ?_, ?_, ?_⟩
  all_goals (unfold World.frozen?; rw [h]; simp)
theorem NewFour.later {w w' : World} {k : Nat} (h : NewFour w k) (b : Below w.heap.size w w') : NewFour w' k := (b.block _ (Array.getElem?_eq_some_iff.1 h).1).trans h
theorem below_four {u w : World} (h : Below u.heap.size u w) (v0 v1 v2 v3 : Value) : Below u.heap.size u ((((w.setCell ⟨u.heap.size, 0, none⟩ v0).setCell ⟨u.heap.size, 1, none⟩ v1).setCell ⟨u.heap.size, 2, none⟩ v2).setCell ⟨u.heap.size, 3, none⟩ v3) :=
  (((h.setCell (p := ⟨u.heap.size, 0, none⟩) (Nat.le_refl _) _).setCell (p := ⟨u.heap.size, 1, none⟩) (Nat.le_refl _) _).setCell (p := ⟨u.heap.size, 2, none⟩) (Nat.le_refl _) _).setCell (p := ⟨u.heap.size, 3, none⟩) (Nat.le_refl _) _
set_option maxHeartbeats 1000000 in
theorem operatorOf_any (a : Nat → Addr) (x : ByteArray) (w : World) (L : Laid a w) :
    Calls Tryz.prog 70 #[.string x] w fun e w' => (∃ (u : ByteArray) (v n : Int), e = .returned (.agg #[.string u, .int .i64 (tightGo x.data.toList), .int .i64 v, .int .i64 n])) ∧ Below w.heap.size w w' := by
  obtain ⟨tq, ho⟩ := L.ops
  have hix := fun (j : Nat) (h : j < 14) (w : World) => index_ops j h w
  have HB0 : Hid (Below w.heap.size w (w.alloc (.cells #[.string ⟨#[]⟩, .int .i64 0, .int .i64 0, .int .i64 0] 151))) := (Below.refl _ _).alloc (Nat.le_refl _) _
  have HN0 : Hid (NewFour (w.alloc (.cells #[.string ⟨#[]⟩, .int .i64 0, .int .i64 0, .int .i64 0] 151)) w.heap.size) := heap_alloc_new w _
  have ho' : (w.alloc (.cells #[.string ⟨#[]⟩, .int .i64 0, .int .i64 0, .int .i64 0] 151)).heap[19]? = some (.cells opCells tq (0, 0)) := (HB0.out.block _ (Array.getElem?_eq_some_iff.1 ho).1).trans ho
  clear L ho
  go_enter Tryz.func70, Tryz.ntmps70
  go_wp2_with (refine wpList_load_row rfl 168 _ rfl 19 rfl tq _ (0, 0) _ ho' Tryz.underlying168 rfl (by kernel_rfl) ?_)
  clear ho'
  go_loopg [6] 14 (fun g s6 wr => ∃ j : Nat, j ≤ 14 ∧ s6 = .int .i64 j ∧ g = 14 - j ∧ Hid (Below w.heap.size w wr) ∧ Hid (NewFour wr w.heap.size) ∧ Hid (∀ m, m < j → opName m ≠ x.data.toList))
  case atStart => exact ⟨0, by decide, rfl, rfl, HB0, HN0, fun m hm => by omega⟩
  case round =>
    obtain ⟨j, hj, rfl, hg, HB, HN, HW⟩ := hrel
    have HG : Hid (gk = 14 - j) := hg
    clear hg
    by_cases hlt : j < 14
    · have hi := hix j hlt
      by_cases heq : opName j = x.data.toList
      · have hbq : ((bs (opName j)).toList == x.toList) = true := by rw [Lib.toList_data, Lib.toList_data, bs_list, heq]; simp
        have HE : Hid (opName j = x.data.toList) := heq
        clear heq
        have HN' : Hid (NewFour (wr.alloc (.cells #[.string (bs (opName j)), .int .i64 (opBind j), .int .i64 (opWant j), .int .i64 (opGive j)] 151)) w.heap.size) := HN.out.later ((Below.refl _ _).alloc (Nat.le_refl _) _)
        obtain ⟨r0, r1, r2, r3, z0, z1, z2, z3⟩ := HN'.out.facts
        go_wp2
        have q0 := other_cell (v := .int .i64 (opGive j)) (other_cell (v := .int .i64 (opWant j)) (other_cell (v := .int .i64 (opBind j)) (same_cell (v := .string (bs (opName j))) r0) (by decide : 1 ≠ 0)) (by decide : 2 ≠ 0)) (by decide : 3 ≠ 0)
        have q1 := other_cell (v := .int .i64 (opGive j)) (other_cell (v := .int .i64 (opWant j)) (same_cell (v := .int .i64 (opBind j)) (other_cell (v := .string (bs (opName j))) r1 (by decide : 0 ≠ 1))) (by decide : 2 ≠ 1)) (by decide : 3 ≠ 1)
        have q2 := other_cell (v := .int .i64 (opGive j)) (same_cell (v := .int .i64 (opWant j)) (other_cell (v := .int .i64 (opBind j)) (other_cell (v := .string (bs (opName j))) r2 (by decide : 0 ≠ 2)) (by decide : 1 ≠ 2))) (by decide : 3 ≠ 2)
        have q3 := same_cell (v := .int .i64 (opGive j)) (other_cell (v := .int .i64 (opWant j)) (other_cell (v := .int .i64 (opBind j)) (other_cell (v := .string (bs (opName j))) r3 (by decide : 0 ≠ 3)) (by decide : 1 ≠ 3)) (by decide : 2 ≠ 3))
        refine bodyPost_ret (v := .agg #[.string (bs (opName j)), .int .i64 (opBind j), .int .i64 (opWant j), .int .i64 (opGive j)]) (by simp [results, Tryz.results70, go_sem, q0, q1, q2, q3]) rfl ⟨⟨bs (opName j), opWant j, opGive j, ?_⟩, below_four (HB.out.alloc HB.out.size _) _ _ _ _⟩
        have := op_tight j hlt
        rw [← HE.out, tightGo, if_neg this.1, this.2]
      · have hbq : ((bs (opName j)).toList == x.toList) = false := by rw [Lib.toList_data, Lib.toList_data, bs_list]; simpa using heq
        have HE : Hid (opName j ≠ x.data.toList) := heq
        clear heq
        go_wp2
        go_roundg (14 - (j + 1))
        case measure => have := HG.out; omega
        case rel =>
          refine ⟨j + 1, by omega, by go_num, rfl, HB.out.alloc HB.out.size _, ?_, ?_⟩
          · exact HN.out.later ((Below.refl _ _).alloc (Nat.le_refl _) _)
          intro m hm
          rcases Nat.lt_or_ge m j with h | h
          · exact HW.out m h
          · have : m = j := by omega
            rw [this]; exact HE.out
    · obtain ⟨r0, r1, r2, r3, z0, z1, z2, z3⟩ := HN.out.facts
      go_wp2
      have q0 := other_cell (v := .int .i64 0) (other_cell (v := .int .i64 0) (other_cell (v := .int .i64 (-1)) (same_cell (v := .string ⟨#[]⟩) r0) (by decide : 1 ≠ 0)) (by decide : 2 ≠ 0)) (by decide : 3 ≠ 0)
      have q1 := other_cell (v := .int .i64 0) (other_cell (v := .int .i64 0) (same_cell (v := .int .i64 (-1)) (other_cell (v := .string ⟨#[]⟩) r1 (by decide : 0 ≠ 1))) (by decide : 2 ≠ 1)) (by decide : 3 ≠ 1)
      have q2 := other_cell (v := .int .i64 0) (same_cell (v := .int .i64 0) (other_cell (v := .int .i64 (-1)) (other_cell (v := .string ⟨#[]⟩) r2 (by decide : 0 ≠ 2)) (by decide : 1 ≠ 2))) (by decide : 3 ≠ 2)
      have q3 := same_cell (v := .int .i64 0) (other_cell (v := .int .i64 0) (other_cell (v := .int .i64 (-1)) (other_cell (v := .string ⟨#[]⟩) r3 (by decide : 0 ≠ 3)) (by decide : 1 ≠ 3)) (by decide : 2 ≠ 3))
      refine bodyPost_ret (v := .agg #[.string ⟨#[]⟩, .int .i64 (-1), .int .i64 0, .int .i64 0]) (by simp [results, Tryz.results70, go_sem, q0, q1, q2, q3]) rfl ⟨⟨⟨#[]⟩, 0, 0, ?_⟩, below_four HB.out _ _ _ _⟩
      have := op_none (x := x.data.toList) (fun m hm => HW.out m (by omega))
      rw [tightGo, if_pos this]

set_option maxHeartbeats 1000000 in
theorem seesOperator_any (a : Nat → Addr) (b : Nat) (s : ByteArray) (st : Mil.St) (l : Nat) (h1 : 1 ≤ l) (h8 : l ≤ 8) (w : World) (L : Laid a w) (h : RdS w b s st) :
    Calls Tryz.prog 59 #[.pointer (some ⟨b, 0, none⟩), .int .i64 l] w fun e w' => e = .returned (.bool (decide (Mil.opAt st = l))) ∧ Below w.heap.size w w' := by
  have HL : Hid (Laid a w) := L
  obtain ⟨p, tp, x, hp, hR, hr, hx, hn⟩ := h
  have c3 := hR.c3
  have c5 := hR.c5
  have HX : Hid (x.data.toList = st.tok.txt) := hx
  clear hR hr hx L
  by_cases h3 : st.tok.kind = 3
  · have hb : (((st.tok.kind : Nat) : Int) == 3) = true := by simp; omega
    have HO : Hid (Mil.opAt st = Mil.tightOf st.tok.txt) := by unfold Mil.opAt; rw [if_pos h3]; rfl
    clear h3
    go_enter Tryz.func59, Tryz.ntmps59
    go_wp2_with fail
    refine (operatorOf_any a x w HL.out).mono ?_
    rintro e w1 ⟨⟨u, v, n, rfl⟩, hb1⟩
    have HB1 : Hid (Below w.heap.size w w1) := hb1
    clear hb1 c3 c5
    generalize hq : tightGo x.data.toList = q
    have HQ : Hid (tightGo x.data.toList = q) := hq
    clear hq
    have hfd : ∀ w : World, (Instr.field 151 (.agg #[.string u, .int .i64 q, .int .i64 v, .int .i64 n]) 1).run Tryz.prog w = .ok (.int .i64 q) w := fun w => by kernel_rfl
    go_wp2
    go_ret
    refine ⟨ret_bool ?_, HB1.out⟩
    rw [← HQ.out, HO.out, HX.out, tightGo, Bool.eq_iff_iff]
    by_cases h9 : Mil.tightOf st.tok.txt = 9
    · rw [if_pos h9]; simp; omega
    · rw [if_neg h9]; simp; omega
  · have hb : (((st.tok.kind : Nat) : Int) == 3) = false := by simp; omega
    have HO : Hid (Mil.opAt st = 9) := by unfold Mil.opAt; rw [if_neg h3]; rfl
    clear h3
    go_enter Tryz.func59, Tryz.ntmps59
    go_wp2
    go_ret
    refine ⟨ret_bool ?_, Below.refl _ _⟩
    rw [HO.out]; symm; rw [decide_eq_false_iff_not]; omega

/-- The words of the types. -/
def tyAt (j : Nat) : Mil.Bytes := [Mil.wInt, Mil.wBool].getD j []
theorem lt2 {j : Nat} (h : j < 2) : j = 0 ∨ j = 1 := by omega
theorem index_types (j : Nat) (h : j < 2) (w : World) : (Instr.index 129 (.agg (strCells [Mil.wInt, Mil.wBool])) (.int .i64 j)).run Tryz.prog w = .ok (.string (bs (tyAt j))) w := by
  rcases lt2 h with rfl | rfl <;> kernel_rfl
theorem ftype_at {st : Mil.St} (j : Nat) (hj : j < 2) (hy : Mil.sees st (tyAt j) = true) (hn : ∀ m, m < j → Mil.sees st (tyAt m) = false) : Mil.ftype st = (Mil.adv st).map fun s1 => (j, s1) := by
  rcases lt2 hj with rfl | rfl
  · unfold Mil.ftype
    rw [if_pos (show Mil.sees st Mil.wInt = true from hy)]
  · unfold Mil.ftype
    have h0 : Mil.sees st Mil.wInt = false := hn 0 (by decide)
    rw [h0, if_neg (by decide), if_pos (show Mil.sees st Mil.wBool = true from hy)]
theorem ftypeZ_at (N : Nat) {st : Mil.St} (j : Nat) (hj : j < 2) (hy : Mil.sees st (tyAt j) = true) (hn : ∀ m, m < j → Mil.sees st (tyAt m) = false) : Mil.ftypeZ N st = (Mil.advZ N st).map fun s1 => (j, s1) := by
  rcases lt2 hj with rfl | rfl
  · unfold Mil.ftypeZ
    rw [if_pos (show Mil.sees st Mil.wInt = true from hy)]
  · unfold Mil.ftypeZ
    have h0 : Mil.sees st Mil.wInt = false := hn 0 (by decide)
    rw [h0, if_neg (by decide), if_pos (show Mil.sees st Mil.wBool = true from hy)]
theorem ftype_none {N : Nat} {st : Mil.St} (hn : ∀ m, m < 2 → Mil.sees st (tyAt m) = false) : Mil.ftypeZ N st = .bad 3 (place N st) := by
  unfold Mil.ftypeZ
  have h0 : Mil.sees st Mil.wInt = false := hn 0 (by decide)
  have h1 : Mil.sees st Mil.wBool = false := hn 1 (by decide)
  rw [h0, h1, if_neg (by decide), if_neg (by decide)]
  rfl

set_option maxHeartbeats 1000000 in
theorem flowType_any (a : Nat → Addr) (b : Nat) (s : ByteArray) (st : Mil.St) (w : World) (L : Laid a w) (hb : 23 ≤ b) (h : RdS w b s st) (hs : s.size ≤ 4000) :
    Calls Tryz.prog 43 #[.pointer (some ⟨b, 0, none⟩)] w (NuPost (Mil.ftype st) (Mil.ftypeZ s.size st) a b s w) := by
  have H : Hid (RdS w b s st) := h
  have HL : Hid (Laid a w) := L
  obtain ⟨tq, ho⟩ := L.types
  have hix := fun (j : Nat) (h : j < 2) (w : World) => index_types j h w
  clear h L
  go_enter Tryz.func43, Tryz.ntmps43
  go_wp2_with (refine wpList_load_row rfl 129 _ rfl 16 rfl tq _ (0, 0) _ ho Tryz.underlying129 rfl (by kernel_rfl) ?_)
  clear ho
  go_loopg [6] 2 (fun g s6 wr => ∃ j : Nat, j ≤ 2 ∧ s6 = .int .i64 j ∧ g = 2 - j ∧ wr = w ∧ Hid (∀ m, m < j → Mil.sees st (tyAt m) = false))
  case atStart => exact ⟨0, by decide, rfl, rfl, rfl, fun m hm => by omega⟩
  case round =>
    obtain ⟨j, hj, rfl, hg, rfl, HW⟩ := hrel
    have HG : Hid (gk = 2 - j) := hg
    clear hg
    by_cases hlt : j < 2
    · have hi := hix j hlt
      by_cases heq : Mil.sees st (tyAt j) = true
      · have HM : Hid (Mil.ftype st = (Mil.adv st).map fun s1 => (j, s1)) := ftype_at j hlt heq HW.out
        have HZ : Hid (Mil.ftypeZ s.size st = (Mil.advZ s.size st).map fun s1 => (j, s1)) := ftypeZ_at s.size j hlt heq HW.out
        have HE : Hid (Mil.sees st (bs (tyAt j)).data.toList = true) := heq
        clear heq
        go_wp2_with fail
        refine (takes_yes a b s st (bs (tyAt j)) _ HL.out hb H.out hs HE.out).mono ?_
        rintro e w1 ⟨hk, (⟨st', rfl, h1, h2⟩ | ⟨k, at_, hkk, d, rfl, hd, hno⟩)⟩
        · go_wp2
          go_ret
          exact ⟨hk, Or.inl ⟨j, st', rfl, by rw [HM.out, h1]; rfl, h2⟩⟩
        · go_wp2
          exact ⟨rfl, hk, Or.inr ⟨k, at_, hkk, d, rfl, hd, by rw [HZ.out, hno]; rfl⟩⟩
      · have HE : Hid (Mil.sees st (bs (tyAt j)).data.toList = false) := Bool.eq_false_iff.2 heq
        clear heq
        go_wp2_with fail
        refine (takes_no b s st (bs (tyAt j)) _ H.out HE.out).mono ?_
        rintro e w1 ⟨rfl, rfl⟩
        go_wp2
        go_roundg (2 - (j + 1))
        case measure => have := HG.out; omega
        case rel =>
          refine ⟨j + 1, by omega, by go_num, rfl, rfl, ?_⟩
          intro m hm
          rcases Nat.lt_or_ge m j with h | h
          · exact HW.out m h
          · have : m = j := by omega
            rw [this]; exact HE.out
    · go_wp2_with fail
      refine (refused_at a b s st _ HL.out H.out).mono ?_
      rintro e w2 ⟨d, rfl, hd, hb2⟩
      go_wp2
      exact ⟨rfl, Kp.of_below hb2, Or.inr ⟨3, _, Or.inr (Or.inr (Or.inl rfl)), d, rfl, hd, ftype_none (fun m hm => HW.out m (by omega))⟩⟩

end Go.Proofs.YtfoabfffmjljmaaGreatDoor
