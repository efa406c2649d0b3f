/-
  plain.Parse.
-/
import Derived.Test.YtkngcglmfbdblaaGreatDoorFlt
import Derived.Test.YtkngcglmfbdblaaGreatDoorPars
namespace Go.Proofs.YtkngcglmfbdblaaGreatDoor
open Go.RowKit

theorem last_pos (al : Nat → Addr) (x : Addr) : ∀ n, 1 ≤ lastOf al x n
  | 0 => by show (1 : Int) ≤ 14; decide
  | j + 1 => by
    show (1 : Int) ≤ if x = al j then (j : Int) + 1 else lastOf al x j
    split
    · omega
    · exact last_pos al x j
theorem last_at (al : Nat → Addr) (i : Nat) (hd : ∀ k, k ≠ i → al i ≠ al k) : ∀ n, i < n → lastOf al (al i) n = (i : Int) + 1
  | 0, h => by omega
  | j + 1, h => by
    show (if al i = al j then (j : Int) + 1 else lastOf al (al i) j) = _
    by_cases e : j = i
    · subst e; rw [if_pos rfl]
    · rw [if_neg (hd j e)]
      exact last_at al i hd j (by omega)

/-- The two numberings of the errors are one. -/
structure Same (al a : Nat → Addr) : Prop where
  h1 : a 1 = al 0
  h2 : a 2 = al 1
  h3 : a 3 = al 2
  h4 : a 4 = al 3
theorem Same.row {al a : Nat → Addr} (h : Same al a) {w : World} (hE : Errs al w) {k : Nat} (hk : k = 1 ∨ k = 2 ∨ k = 3 ∨ k = 4) : ∃ c t, w.heap[(a k).block]? = some (.cells c t (0, 0)) := by
  rcases hk with rfl | rfl | rfl | rfl
  · rw [h.h1]; exact hE.row 0 (by decide)
  · rw [h.h2]; exact hE.row 1 (by decide)
  · rw [h.h3]; exact hE.row 2 (by decide)
  · rw [h.h4]; exact hE.row 3 (by decide)

/-- A tree that lies there. -/
def TreeP (N : Nat) (w : World) (l : List Mip.It) (t : Nat) : Prop := ∃ b o n c, w.heap[t]? = some (.cells #[.slice o n c] 46 (0, 0)) ∧ Row N w b l (.slice o n c)
/-- A tree, whatever the places. -/
def TreeAt (w : World) (l : List Mil.It) (t : Nat) : Prop := ∃ N m, m.map Mip.eri = l ∧ TreeP N w m t
/-- Which fault that is. -/
def PlF (al a : Nat → Addr) (r : Mil.Bytes) (f at_ : Int) : Prop := (∃ k, (k = 1 ∨ k = 2 ∨ k = 3 ∨ k = 4) ∧ f = lastOf al (a k) 13 ∧ r.length ≤ 4000 ∧ Mil.Fault r k at_) ∨ (4000 < r.length ∧ f = lastOf al (a 1) 13 ∧ at_ = -1)
/-- What plain.Parse answers. -/
def PpPost (al a : Nat → Addr) (N : Nat) (r : Mil.Bytes) (w : World) (e : Ending) (w' : World) : Prop :=
  Below w.heap.size w w' ∧
  ((∃ l t, e = .returned (.tuple #[.pointer (some ⟨t, 0, none⟩), .agg #[.int .i64 0, .int .i64 0]]) ∧ Mip.Parsed r l ∧ TreeP N w' l t) ∨
   (∃ f at_, f ≠ 0 ∧ e = .returned (.tuple #[.pointer none, .agg #[.int .i64 f, .int .i64 at_]]) ∧ (∀ l, ¬ Mil.Parsed r l) ∧ PlF al a r f at_))
def PlPost (al a : Nat → Addr) (r : Mil.Bytes) (w : World) (e : Ending) (w' : World) : Prop :=
  Below w.heap.size w w' ∧
  ((∃ l t, e = .returned (.tuple #[.pointer (some ⟨t, 0, none⟩), .agg #[.int .i64 0, .int .i64 0]]) ∧ Mil.Parsed r l ∧ TreeAt w' l t) ∨
   (∃ f at_, f ≠ 0 ∧ e = .returned (.tuple #[.pointer none, .agg #[.int .i64 f, .int .i64 at_]]) ∧ (∀ l, ¬ Mil.Parsed r l) ∧ PlF al a r f at_))

theorem TreeP.below {N : Nat} {w w' : World} {l : List Mip.It} {t : Nat} (h : TreeP N w l t) (hb : Below w.heap.size w w') : TreeP N w' l t := by
  obtain ⟨b, o, n, c, h1, h2⟩ := h
  have hk : Kp (w.heap.size) w w' := Kp.of_below (b := w.heap.size) hb
  have h3 : Kp b w w' := ⟨hk.os, hk.tape, hk.output, hk.size, fun k h1 _ => hb.block k h1⟩
  exact ⟨b, o, n, c, (hb.block t (Array.getElem?_eq_some_iff.1 h1).1).trans h1, h2.kept h3 (Nat.le_refl _)⟩

theorem TreeAt.below {w w' : World} {l : List Mil.It} {t : Nat} (h : TreeAt w l t) (hb : Below w.heap.size w w') : TreeAt w' l t := by
  obtain ⟨N, m, h1, h2⟩ := h
  exact ⟨N, m, h1, h2.below hb⟩

/-- plain.Parse's own variable. -/
structure Pf (w W : World) : Prop where
  b0 : W.heap[w.heap.size]? = some (.cells #[.int .i64 0, .int .i64 0] 26 (0, 0))
  bl : Below w.heap.size w W
theorem Pf.keep {w W W' : World} (h : Pf w W) (k : Below W.heap.size W W') : Pf w W' := ⟨(k.block _ (Array.getElem?_eq_some_iff.1 h.b0).1).trans h.b0, h.bl.trans (k.mono h.bl.size)⟩
theorem Pf.cells {w W : World} (h : Pf w W) : W.cell? ⟨w.heap.size, 0, none⟩ = some (.int .i64 0) ∧ W.cell? ⟨w.heap.size, 1, none⟩ = some (.int .i64 0) ∧ ∀ o, W.frozen? ⟨w.heap.size, o, none⟩ = false := by
  refine ⟨?_, ?_, fun o => ?_⟩
  · rw [cell_of_row W _ 0 _ _ _ h.b0]; rfl
  · rw [cell_of_row W _ 1 _ _ _ h.b0]; rfl
  · unfold World.frozen?; rw [h.b0]; simp
theorem Pf.set {w W : World} (h : Pf w W) (u v : Value) : Below w.heap.size w ((W.setCell ⟨w.heap.size, 0, none⟩ u).setCell ⟨w.heap.size, 1, none⟩ v) :=
  (h.bl.setCell (p := ⟨w.heap.size, 0, none⟩) (Nat.le_refl _) u).setCell (p := ⟨w.heap.size, 1, none⟩) (Nat.le_refl _) v
theorem Pf.r0 {w W : World} (h : Pf w W) (u : Value) : (W.setCell ⟨w.heap.size, 0, none⟩ u).cell? ⟨w.heap.size, 0, none⟩ = some u := World.cell?_setCell_same _ _ _ h.cells.1
theorem Pf.r1 {w W : World} (h : Pf w W) (u v : Value) : ((W.setCell ⟨w.heap.size, 0, none⟩ u).setCell ⟨w.heap.size, 1, none⟩ v).cell? ⟨w.heap.size, 1, none⟩ = some v :=
  World.cell?_setCell_same _ _ _ ((World.cell?_setCell_other _ ⟨w.heap.size, 0, none⟩ ⟨w.heap.size, 1, none⟩ _ (fun e => by simp at e)).trans h.cells.2.1)
/-- A tree that lies behind block b0. -/
theorem TreeP.set {N : Nat} {W : World} {l : List Mip.It} {t b B : Nat} {o : Option Addr} {n c : Nat} (h1 : W.heap[t]? = some (.cells #[.slice o n c] 46 (0, 0))) (h2 : Row N W b l (.slice o n c)) (hB : W.heap[B]? = some (.cells #[.int .i64 0, .int .i64 0] 26 (0, 0))) (hb : B ≤ b) (u v : Value) :
    TreeP N ((W.setCell ⟨B, 0, none⟩ u).setCell ⟨B, 1, none⟩ v) l t := by
  have hne : t ≠ B := fun e => by
    subst e
    rw [h1] at hB
    simp at hB
  have hk : Kp B W ((W.setCell ⟨B, 0, none⟩ u).setCell ⟨B, 1, none⟩ v) := ((Kp.refl B W).setCell 0 u).setCell 1 v
  exact ⟨b, o, n, c, (hk.block t (Array.getElem?_eq_some_iff.1 h1).1 hne).trans h1, h2.kept hk hb⟩

set_option maxHeartbeats 1000000 in
theorem plainParse_pl (al a : Nat → Addr) (hS : Same al a) (s : ByteArray) (w : World) (L : Laid a w) (E : Errs al w) :
    Calls Tryz.prog 5 #[.string s] w (PpPost al a s.size s.data.toList w) := by
  have HE : Hid (Errs al w) := E
  have HS : Hid (Same al a) := hS
  have HP0 : Hid (Pf w (w.alloc (.cells #[.int .i64 0, .int .i64 0] 26))) := ⟨heap_alloc_new w _, (Below.refl _ _).alloc (Nat.le_refl _) _⟩
  have HL0 : Hid (Laid a (w.alloc (.cells #[.int .i64 0, .int .i64 0] 26))) := L.kept (Kp.of_below (b := w.heap.size) ((Below.refl _ _).alloc (Nat.le_refl _) _)) L.size
  have HZ : Hid (w.heap.size + 1 = (w.alloc (.cells #[.int .i64 0, .int .i64 0] 26)).heap.size) := by show _ = _; simp
  clear L E hS
  go_enter Tryz.func5, Tryz.ntmps5
  go_wp2_with fail
  refine (parse_any a s _ HL0.out).mono ?_
  rintro e w1 ⟨hb1, ⟨l, b, o, n, c, t, hbb, rfl, hp, ht, hR⟩ | ⟨k, at_, d, hk, rfl, hd, hno, hn4, hfl⟩ | ⟨rfl, hno, hn4⟩⟩
  · have HP1 : Hid (Pf w w1) := HP0.out.keep hb1
    have HT : Hid (w1.heap[t]? = some (.cells #[.slice o n c] 46 (0, 0)) ∧ Row s.size w1 b l (.slice o n c) ∧ w.heap.size ≤ b) := ⟨ht, hR, by have := HZ.out; omega⟩
    have HQ : Hid (Mip.Parsed s.data.toList l) := hp
    clear hb1 hbb hp ht hR HZ HL0 HP0
    go_wp2_with fail
    refine (fault_nil _).mono ?_
    rintro e w2 ⟨rfl, hb2⟩
    have HP2 : Hid (Pf w w2) := HP1.out.keep hb2
    have HT2 : Hid (w2.heap[t]? = some (.cells #[.slice o n c] 46 (0, 0)) ∧ Row s.size w2 b l (.slice o n c) ∧ w.heap.size ≤ b) :=
      ⟨(hb2.block t (Array.getElem?_eq_some_iff.1 HT.out.1).1).trans HT.out.1, HT.out.2.1.kept (Kp.of_below (b := b) hb2) (Nat.le_refl _), HT.out.2.2⟩
    obtain ⟨q0, q1, z⟩ := HP2.out.cells
    clear HP1 HT hb2
    go_wp2
    refine bodyPost_ret (v := .tuple #[.pointer (some ⟨t, 0, none⟩), .agg #[.int .i64 0, .int .i64 0]]) (by simp [results, Tryz.results5, go_sem, HP2.out.r0, HP2.out.r1]) rfl ⟨HP2.out.set _ _, Or.inl ⟨l, t, rfl, HQ.out, ?_⟩⟩
    exact TreeP.set HT2.out.1 HT2.out.2.1 HP2.out.b0 HT2.out.2.2 _ _
  · have HP1 : Hid (Pf w w1) := HP0.out.keep hb1
    have HE1 : Hid (Errs al w1) := HE.out.below HP1.out.bl
    have HD : Hid (w1.heap[d]? = some (.cells #[.int .i64 at_, errV (a k)] 59 (0, 0))) := hd
    have HK : Hid (∃ c t, w1.heap[(a k).block]? = some (.cells c t (0, 0))) := HS.out.row HE1.out hk
    have HN : Hid (∀ l, ¬ Mil.Parsed s.data.toList l) := hno
    have HFL : Hid (PlF al a s.data.toList (lastOf al (a k) 13) at_) := Or.inl ⟨k, hk, rfl, hn4, hfl⟩
    clear hb1 hd hno hk hn4 hfl HZ HL0 HP0
    go_wp2_with fail
    refine (fault_diag al d at_ (a k) _ HE1.out HD.out HK.out).mono ?_
    rintro e w2 ⟨rfl, hb2⟩
    have HP2 : Hid (Pf w w2) := HP1.out.keep hb2
    obtain ⟨q0, q1, z⟩ := HP2.out.cells
    have HF : Hid (lastOf al (a k) 13 ≠ 0) := by have := last_pos al (a k) 13; show _ ≠ _; omega
    generalize lastOf al (a k) 13 = f at HF HFL ⊢
    clear HP1 HD HK HE1 hb2
    go_wp2
    exact bodyPost_ret (v := .tuple #[.pointer none, .agg #[.int .i64 f, .int .i64 at_]]) (by simp [results, Tryz.results5, go_sem, HP2.out.r0, HP2.out.r1]) rfl ⟨HP2.out.set _ _, Or.inr ⟨f, at_, HF.out, rfl, HN.out, HFL.out⟩⟩
  · have HP1 : Hid (Pf w w1) := HP0.out.keep hb1
    have HE1 : Hid (Errs al w1) := HE.out.below HP1.out.bl
    have HK : Hid (∃ c t, w1.heap[(a 1).block]? = some (.cells c t (0, 0))) := HS.out.row HE1.out (Or.inl rfl)
    have HN : Hid (∀ l, ¬ Mil.Parsed s.data.toList l) := hno
    have HFL : Hid (PlF al a s.data.toList (lastOf al (a 1) 13) (-1)) := Or.inr ⟨hn4, rfl, rfl⟩
    clear hb1 hno hn4 HZ HL0 HP0
    go_wp2_with fail
    refine (fault_err al (a 1) _ HE1.out HK.out).mono ?_
    rintro e w2 ⟨rfl, hb2⟩
    have HP2 : Hid (Pf w w2) := HP1.out.keep hb2
    obtain ⟨q0, q1, z⟩ := HP2.out.cells
    have HF : Hid (lastOf al (a 1) 13 ≠ 0) := by have := last_pos al (a 1) 13; show _ ≠ _; omega
    generalize lastOf al (a 1) 13 = f at HF HFL ⊢
    clear HP1 HK HE1 hb2
    go_wp2
    exact bodyPost_ret (v := .tuple #[.pointer none, .agg #[.int .i64 f, .int .i64 (-1)]]) (by simp [results, Tryz.results5, go_sem, HP2.out.r0, HP2.out.r1]) rfl ⟨HP2.out.set _ _, Or.inr ⟨f, -1, HF.out, rfl, HN.out, HFL.out⟩⟩

theorem plainParse_any (al a : Nat → Addr) (hS : Same al a) (s : ByteArray) (w : World) (L : Laid a w) (E : Errs al w) :
    Calls Tryz.prog 5 #[.string s] w (PlPost al a s.data.toList w) := by
  refine (plainParse_pl al a hS s w L E).mono ?_
  rintro e w' ⟨hb, ⟨l, t, rfl, hp, hT⟩ | h⟩
  · exact ⟨hb, Or.inl ⟨_, t, rfl, Mip.Parsed.er hp, _, l, rfl, hT⟩⟩
  · exact ⟨hb, Or.inr h⟩

end Go.Proofs.YtkngcglmfbdblaaGreatDoor
