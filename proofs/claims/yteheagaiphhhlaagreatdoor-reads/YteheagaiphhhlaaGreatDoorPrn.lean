/-
  Print, at a tree that Parse answers.
-/
import Derived.Test.YteheagaiphhhlaaGreatDoorPrw
import Derived.Test.YteheagaiphhhlaaGreatDoorLin
import Derived.Test.YteheagaiphhhlaaGreatDoorReadi
namespace Go.Proofs.YteheagaiphhhlaaGreatDoor
open Go.RowKit

namespace Mil
theorem print_lines (l : List It) : print l = lines (l.map lineText) := by
  unfold print lines
  rw [List.map_map]
  congr 1
  apply List.map_congr_left
  intro i _
  exact item_line i
theorem toks_of_mem {l : List It} {i : It} (h : i ∈ l) (hl : (allToks l).length ≤ 600) : (itemToks i).length ≤ 600 := by
  refine Nat.le_trans ?_ hl
  unfold allToks
  exact List.Sublist.length_le (List.sublist_flatten_of_mem (List.mem_map_of_mem h))
theorem out_toks {x : Bytes} {r : List Bytes} (ht : (itemToks ⟨2, [], 0, 0, x :: r, eNil⟩).length ≤ 600) : r.length ≤ 600 := by
  have h1 : (fix wOutput :: nam x :: (moreToks r ++ [fix sSemi])).length ≤ 600 := ht
  rw [List.length_cons, List.length_cons, List.length_append, moreToks_len] at h1
  omega
theorem eq_toks {x : Bytes} {t : Nat} {e : E} (ht : (itemToks ⟨3, x, t, 0, [], e⟩).length ≤ 600) : (toks e).length ≤ 600 := by
  have h1 : (nam x :: fix sColon :: fix (tyText t) :: fix sIs :: (toks e ++ [fix sSemi])).length ≤ 600 := ht
  simp only [List.length_cons, List.length_append] at h1
  omega
theorem more_len : ∀ r : List Bytes, (∀ y, y ∈ r → y.length ≤ 12) → (moreText r).length ≤ 14 * r.length
  | [], _ => by simp [moreText]
  | y :: r, h => by
    have h1 := h y (by simp)
    have h2 := more_len r (fun z hz => h z (by simp [hz]))
    rw [moreText]
    simp only [List.length_append, commaB, List.length_cons, List.length_nil]
    omega
theorem ty_len (t : Nat) : (tyText t).length ≤ 4 := by
  unfold tyText
  split <;> decide
theorem line_len {i : It} (h : ItOk i) (ht : (itemToks i).length ≤ 600) : (lineText i).length ≤ 30000 := by
  rcases h with ⟨x, t, k, rfl, hx, _, _, hk⟩ | ⟨x, r, rfl, hx, hr⟩ | ⟨x, t, e, rfl, hx, _, he⟩
  · have h1 := hx.2.2.1
    have h2 := digits_len (k := k) (by simp only [maxInt]; omega)
    have h3 := ty_len t
    show (wInput ++ blank ++ x ++ colonB ++ tyText t ++ blank ++ wEvery ++ blank ++ Lib.decDigits k).length ≤ 30000
    simp only [List.length_append, wInput, blank, colonB, wEvery, List.length_cons, List.length_nil]
    omega
  · have h1 := hx.2.2.1
    have h2 := more_len r (fun y hy => (hr y hy).2.2.1)
    have h3 := out_toks ht
    show (wOutput ++ blank ++ namesText (x :: r)).length ≤ 30000
    rw [namesText_cons]
    simp only [List.length_append, wOutput, blank, List.length_cons, List.length_nil]
    omega
  · have h1 := hx.2.2.1
    have h2 := short he (eq_toks ht)
    have h3 := ty_len t
    show (x ++ colonB ++ tyText t ++ isB ++ txt e).length ≤ 30000
    simp only [List.length_append, colonB, isB, List.length_cons, List.length_nil]
    omega
end Mil

theorem line_any (a : Nat → Addr) (W : World) (hP : Pl a W) (b : Nat) (i : Mil.It) (hi : Mil.ItOk i) (ht : (Mil.itemToks i).length ≤ 600) (v : Value) (hv : Iv W b i v) : ∃ fn ty y, v = .iface ty y ∧ LineOk W (Mil.lineText i) fn ty y := by
  rcases hi with ⟨x, t, k, rfl, hx, hty, _, hk⟩ | ⟨x, r, rfl, hx, hr⟩ | ⟨x, t, e, rfl, hx, hty, he⟩
  · rcases hv with ⟨_, rfl⟩ | ⟨h, _⟩ | ⟨h, _⟩
    · refine ⟨_, _, _, rfl, Or.inl ⟨rfl, rfl⟩, fun w hb => ?_⟩
      rcases hty with rfl | rfl
      · exact line_input0 a x hx.2.2.1 k hk w (hP.below hb)
      · exact line_input1 a x hx.2.2.1 k hk w (hP.below hb)
    · cases h
    · cases h
  · rcases hv with ⟨h, _⟩ | ⟨_, r', rfl, ho⟩ | ⟨h, _⟩
    · cases h
    · refine ⟨_, _, _, rfl, Or.inr (Or.inl ⟨rfl, rfl⟩), fun w hb => ?_⟩
      exact line_out x r (fun y hy => by
        rcases List.mem_cons.1 hy with rfl | hy
        · exact hx.2.2.1
        · exact (hr y hy).2.2.1) (Mil.out_toks ht) (b + 1) r' w (own_below ho hb)
    · cases h
  · rcases hv with ⟨h, _⟩ | ⟨h, _⟩ | ⟨_, rfl⟩
    · cases h
    · cases h
    · refine ⟨_, _, _, rfl, Or.inr (Or.inr ⟨rfl, rfl⟩), fun w hb => ?_⟩
      obtain ⟨tp, yp, hep⟩ := ev_shape e he
      have h6 := Mil.eq_toks ht
      show Calls Tryz.prog 127 #[.agg #[.string (bs x), .int .i64 (t : Nat), ev e]] w _
      rw [hep]
      rcases hty with rfl | rfl
      · exact line_eq0 a x hx.2.2.1 e tp yp hep (short he h6) (exprText_any a e he h6) w (hP.below hb)
      · exact line_eq1 a x hx.2.2.1 e tp yp hep (short he h6) (exprText_any a e he h6) w (hP.below hb)

/-- Print. -/
theorem print_any (a : Nat → Addr) (l : List Mil.It) (r : Mil.Bytes) (hr : Mil.Parsed r l) (t b : Nat) (o : Option Addr) (n c : Nat) (w : World) (hP : Pl a w) (ht : w.heap[t]? = some (.cells #[.slice o n c] 46 (0, 0))) (hR : Row w b l (.slice o n c)) :
    Calls Tryz.prog 6 #[.pointer (some ⟨t, 0, none⟩)] w (TxPost (Mil.print l) w) := by
  obtain ⟨hok, h60, hall⟩ := Mil.parsed_ok hr
  obtain ⟨vs, ho, hlen, hiv⟩ := hR
  rw [Mil.print_lines]
  obtain ⟨hvl, ⟨he, h0⟩ | ⟨g, cap, cur, he, hbg, hgg, hcap, hmx, hsz, htk⟩⟩ := ho
  · have hl : l = [] := List.length_eq_zero_iff.1 h0
    subst hl
    rw [he] at ht
    exact print_empty w t ht
  · obtain ⟨rfl, rfl, rfl⟩ : o = some ⟨g, 0, none⟩ ∧ n = l.length ∧ c = cap := by
      have h1 := Value.slice.inj he
      exact ⟨h1.1, h1.2.1, h1.2.2⟩
    have hlt : g < w.heap.size := (Array.getElem?_eq_some_iff.1 hgg).1
    have hw := print_walk w t g c (l.map Mil.lineText) (by rw [List.length_map]; exact h60) (fun x hx => by
      obtain ⟨i, hi, rfl⟩ := List.mem_map.1 hx
      exact Mil.line_len (hok i hi) (Mil.toks_of_mem hi hall)) (by rw [List.length_map]; exact ht) hlt (by
      intro j x hj
      rw [List.getElem?_map] at hj
      obtain ⟨i, hi, rfl⟩ := Option.map_eq_some_iff.1 hj
      have hjl : j < l.length := (List.getElem?_eq_some_iff.1 hi).1
      have hjv : j < vs.length := by omega
      obtain ⟨v, hv⟩ : ∃ v, vs[j]? = some v := ⟨_, List.getElem?_eq_getElem hjv⟩
      have hm := List.mem_of_getElem? hi
      obtain ⟨fn, ty, y, e1, hL⟩ := line_any a w hP b i (hok i hm) (Mil.toks_of_mem hm hall) _ (hiv j i _ hi hv)
      refine ⟨fn, ty, y, ?_, hL⟩
      rw [cell_of_row w g j _ _ _ hgg, ← e1]
      rw [← htk, List.getElem?_take] at hv
      split at hv
      · simpa using hv
      · cases hv)
    exact hw

end Go.Proofs.YteheagaiphhhlaaGreatDoor
