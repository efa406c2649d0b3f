/-
  Print, at a tree that Parse answers.
-/
import Derived.Test.YtkngcglmfbdblaaGreatDoorPrw
import Derived.Test.YtkngcglmfbdblaaGreatDoorLio
import Derived.Test.YtkngcglmfbdblaaGreatDoorReadi
namespace Go.Proofs.YtkngcglmfbdblaaGreatDoor
open Go.RowKit

namespace Mil
theorem print_lines (l : List It) : print l = lines (l.map lineText) := by
  unfold print lines
  rw [List.map_map]
  congr 1
  apply List.map_congr_left
  intro i _
  exact item_line i
theorem toks_of_mem {l : List It} {i : It} (h : i ∈ l) (hl : (allToks l).length ≤ 600) : (itemToks i).length ≤ 600 := by
  refine Nat.le_trans ?_ hl
  unfold allToks
  exact List.Sublist.length_le (List.sublist_flatten_of_mem (List.mem_map_of_mem h))
theorem out_toks {x : Bytes} {r : List Bytes} (ht : (itemToks ⟨2, [], 0, 0, x :: r, eNil⟩).length ≤ 600) : r.length ≤ 600 := by
  have h1 : (fix wOutput :: nam x :: (moreToks r ++ [fix sSemi])).length ≤ 600 := ht
  rw [List.length_cons, List.length_cons, List.length_append, moreToks_len] at h1
  omega
theorem eq_toks {x : Bytes} {t : Nat} {e : E} (ht : (itemToks ⟨3, x, t, 0, [], e⟩).length ≤ 600) : (toks e).length ≤ 600 := by
  have h1 : (nam x :: fix sColon :: fix (tyText t) :: fix sIs :: (toks e ++ [fix sSemi])).length ≤ 600 := ht
  simp only [List.length_cons, List.length_append] at h1
  omega
theorem more_len : ∀ r : List Bytes, (∀ y, y ∈ r → y.length ≤ 12) → (moreText r).length ≤ 14 * r.length
  | [], _ => by simp [moreText]
  | y :: r, h => by
    have h1 := h y (by simp)
    have h2 := more_len r (fun z hz => h z (by simp [hz]))
    rw [moreText]
    simp only [List.length_append, commaB, List.length_cons, List.length_nil]
    omega
theorem ty_len (t : Nat) : (tyText t).length ≤ 4 := by
  unfold tyText
  split <;> decide
theorem line_len {i : It} (h : ItOk i) (ht : (itemToks i).length ≤ 600) : (lineText i).length ≤ 30000 := by
  rcases h with ⟨x, t, k, rfl, hx, _, _, hk⟩ | ⟨x, r, rfl, hx, hr⟩ | ⟨x, t, e, rfl, hx, _, he⟩
  · have h1 := hx.2.2.1
    have h2 := digits_len (k := k) (by simp only [maxInt]; omega)
    have h3 := ty_len t
    show (wInput ++ blank ++ x ++ colonB ++ tyText t ++ blank ++ wEvery ++ blank ++ Lib.decDigits k).length ≤ 30000
    simp only [List.length_append, wInput, blank, colonB, wEvery, List.length_cons, List.length_nil]
    omega
  · have h1 := hx.2.2.1
    have h2 := more_len r (fun y hy => (hr y hy).2.2.1)
    have h3 := out_toks ht
    show (wOutput ++ blank ++ namesText (x :: r)).length ≤ 30000
    rw [namesText_cons]
    simp only [List.length_append, wOutput, blank, List.length_cons, List.length_nil]
    omega
  · have h1 := hx.2.2.1
    have h2 := short he (eq_toks ht)
    have h3 := ty_len t
    show (x ++ colonB ++ tyText t ++ isB ++ txt e).length ≤ 30000
    simp only [List.length_append, colonB, isB, List.length_cons, List.length_nil]
    omega
end Mil

theorem line_any (a : Nat → Addr) (W : World) (hP : Pl a W) (N b : Nat) (i : Mip.It) (hi : Mil.ItOk (Mip.eri i)) (ht : (Mil.itemToks (Mip.eri i)).length ≤ 600) (v : Value) (hv : Iv N W b i v) : ∃ fn ty y, v = .iface ty y ∧ LineOk W (Mil.lineText (Mip.eri i)) fn ty y := by
  obtain ⟨kd, nm, at_, ty, every, names, bd⟩ := i
  rcases hi with ⟨x, t, k, he, hx, hty, _, hk⟩ | ⟨x, r, he, hx, hr⟩ | ⟨x, t, e, he, hx, hty, hw⟩
  · obtain ⟨h1, h2, h3, h4, h5, h6⟩ := Mil.It.mk.inj he
    dsimp only at h1 h2 h3 h4
    subst h1 h2 h3 h4
    rw [he]
    rcases hv with ⟨_, rfl⟩ | ⟨h, _⟩ | ⟨h, _⟩
    · refine ⟨_, _, _, rfl, Or.inl ⟨rfl, rfl⟩, fun w hb => ?_⟩
      rcases hty with h | h
      · subst h; exact line_input0 a _ _ hx.2.2.1 _ hk w (hP.below hb)
      · subst h; exact line_input1 a _ _ hx.2.2.1 _ hk w (hP.below hb)
    · cases h
    · cases h
  · rw [he] at ht
    obtain ⟨h1, h2, h3, h4, h5, h6⟩ := Mil.It.mk.inj he
    dsimp only at h1 h5
    subst h1
    rcases hv with ⟨h, _⟩ | ⟨_, r', rfl, ho⟩ | ⟨h, _⟩
    · cases h
    · refine ⟨_, _, _, rfl, Or.inr (Or.inl ⟨rfl, rfl⟩), fun w hb => ?_⟩
      have hl := line_out N names (fun e => by subst e; cases h5) (fun y hy => by
        have hm : y.1 ∈ x :: r := by rw [← h5]; exact List.mem_map_of_mem hy
        rcases List.mem_cons.1 hm with h | h
        · rw [h]; exact hx.2.2.1
        · exact (hr _ h).2.2.1) (by
        have h7 := Mil.out_toks ht
        have h8 : names.length = (x :: r).length := by rw [← h5, List.length_map]
        rw [h8, List.length_cons]; omega) (b + 1) r' w (own_below ho hb)
      rw [h5] at hl
      rw [he]
      exact hl
    · cases h
  · rw [he] at ht
    obtain ⟨h1, h2, h3, h4, h5, h6⟩ := Mil.It.mk.inj he
    dsimp only at h1 h2 h3 h6
    subst h1 h2 h3
    rcases hv with ⟨h, _⟩ | ⟨h, _⟩ | ⟨_, rfl⟩
    · cases h
    · cases h
    · refine ⟨_, _, _, rfl, Or.inr (Or.inr ⟨rfl, rfl⟩), fun w hb => ?_⟩
      have hev : Evs e (ev N bd) := ⟨N, bd, h6, rfl⟩
      obtain ⟨tp, yp, hep⟩ := ev_shape e hw _ hev
      have h6' := Mil.eq_toks ht
      rw [he]
      show Calls Tryz.prog 131 #[.agg #[.int .i64 ((N : Int) - (at_ : Nat)), .string (bs nm), .int .i64 (ty : Nat), ev N bd]] w _
      rw [hep] at hev ⊢
      rcases hty with h | h
      · subst h; exact line_eq0 a _ _ hx.2.2.1 e tp yp hev (short hw h6') (exprText_any a e hw h6') w (hP.below hb)
      · subst h; exact line_eq1 a _ _ hx.2.2.1 e tp yp hev (short hw h6') (exprText_any a e hw h6') w (hP.below hb)

/-- Print. -/
theorem print_any (a : Nat → Addr) (N : Nat) (l : List Mip.It) (r : Mil.Bytes) (hr : Mil.Parsed r (l.map Mip.eri)) (t b : Nat) (o : Option Addr) (n c : Nat) (w : World) (hP : Pl a w) (ht : w.heap[t]? = some (.cells #[.slice o n c] 46 (0, 0))) (hR : Row N w b l (.slice o n c)) :
    Calls Tryz.prog 6 #[.pointer (some ⟨t, 0, none⟩)] w (TxPost (Mil.print (l.map Mip.eri)) w) := by
  obtain ⟨hok, h60, hall⟩ := Mil.parsed_ok hr
  rw [List.length_map] at h60
  obtain ⟨vs, ho, hlen, hiv⟩ := hR
  rw [Mil.print_lines, List.map_map]
  obtain ⟨hvl, ⟨he, h0⟩ | ⟨g, cap, cur, he, hbg, hgg, hcap, hmx, hsz, htk⟩⟩ := ho
  · have hl : l = [] := List.length_eq_zero_iff.1 h0
    subst hl
    rw [he] at ht
    exact print_empty w t ht
  · obtain ⟨rfl, rfl, rfl⟩ : o = some ⟨g, 0, none⟩ ∧ n = l.length ∧ c = cap := by
      have h1 := Value.slice.inj he
      exact ⟨h1.1, h1.2.1, h1.2.2⟩
    have hlt : g < w.heap.size := (Array.getElem?_eq_some_iff.1 hgg).1
    have hw := print_walk w t g c (l.map (Mil.lineText ∘ Mip.eri)) (by rw [List.length_map]; exact h60) (fun x hx => by
      obtain ⟨i, hi, rfl⟩ := List.mem_map.1 hx
      have hm : Mip.eri i ∈ l.map Mip.eri := List.mem_map_of_mem hi
      exact Mil.line_len (hok _ hm) (Mil.toks_of_mem hm hall)) (by rw [List.length_map]; exact ht) hlt (by
      intro j x hj
      rw [List.getElem?_map] at hj
      obtain ⟨i, hi, rfl⟩ := Option.map_eq_some_iff.1 hj
      have hjl : j < l.length := (List.getElem?_eq_some_iff.1 hi).1
      have hjv : j < vs.length := by omega
      obtain ⟨v, hv⟩ : ∃ v, vs[j]? = some v := ⟨_, List.getElem?_eq_getElem hjv⟩
      have hm : Mip.eri i ∈ l.map Mip.eri := List.mem_map_of_mem (List.mem_of_getElem? hi)
      obtain ⟨fn, ty, y, e1, hL⟩ := line_any a w hP N b i (hok _ hm) (Mil.toks_of_mem hm hall) _ (hiv j i _ hi hv)
      refine ⟨fn, ty, y, ?_, hL⟩
      rw [cell_of_row w g j _ _ _ hgg, ← e1]
      rw [← htk, List.getElem?_take] at hv
      split at hv
      · simpa using hv
      · cases hv)
    exact hw

end Go.Proofs.YtkngcglmfbdblaaGreatDoor
