/-
  New: the cells of each kind, made.
-/
import Derived.Test.YtgaepakdhdfdfaaDoorVc
import Derived.Laws.IdiomCopy
import Derived.LoopN
namespace Go.Proofs.YtgaepakdhdfdfaaDoor
open Go.RowKit

set_option maxRecDepth 100000 in
set_option maxHeartbeats 2000000 in
theorem newOne_any {w : World} {v : Value} {P : Nat → Nat → Nat} (hv : Ls w v 1 (vals P 0 1)) :
    Calls Tryd.prog 32 #[v] w fun E w' => E = .returned (.pointer (some ⟨w.heap.size, 0, none⟩)) ∧ Below w.heap.size w w' ∧ Bk w' w.heap.size #[.int .u64 (P 0 0 : Nat)] 100 := by
  obtain ⟨g, o, c, rfl, hl, hc, h1c⟩ := hv
  have HB : Hid (Below w.heap.size w (w.alloc (.cells #[.int .u64 0] 100)) ∧ Bk (w.alloc (.cells #[.int .u64 0] 100)) w.heap.size #[.int .u64 0] 100) := ⟨(Below.refl _ _).alloc (Nat.le_refl _) _, heap_alloc_new w _⟩
  have hc0 : w.cell? ⟨g, o, none⟩ = some (.int .u64 (P 0 0 : Nat)) := hc 0 _ rfl
  have hcc : (w.alloc (.cells #[.int .u64 0] 100)).cell? ⟨g, o, none⟩ = some (.int .u64 (P 0 0 : Nat)) := (HB.out.1.cell (lt_of_cell hc0)).trans hc0
  clear hc hl h1c hc0
  go_enter Tryd.func32, Tryd.ntmps32
  go_wp2_with fail
  generalize w.alloc (.cells #[.int .u64 0] 100) = W at HB hcc ⊢
  go_region_with (go_at_call 34; refine (store64_any (w := W.drew) w.heap.size 0 _ (HB.out.2.cell 0) (HB.out.2.fz 0)).mono ?_; rintro E u ⟨rfl, rfl⟩)
  all_goals go_wp2_with fail
  all_goals go_ret
  all_goals exact ⟨rfl, ((Fr.of_below (own := fun k => k = w.heap.size) HB.out.1).more (Fr.draw (fr_one w.heap.size 0 _)) (fun _ e => e)).to_below (fun i hi e => by have e' : i = w.heap.size := e; omega), HB.out.2.set 0 _⟩

/-- A new row in a field of a block that was made since. -/
abbrev mkd (W : World) (f i n : Nat) : World := ((W.alloc (.cells (madeCells #[.int .u64 0] n) 33)).setCell ⟨f, i, none⟩ (.slice (some ⟨W.heap.size, 0, none⟩) n n)).drew
structure Nf (w W : World) (f : Nat) (xs : Array Value) (t : TypeId) : Prop where
  be : Below w.heap.size w W
  bk : Bk W f xs t
  lo : w.heap.size ≤ f
theorem Nf.cell {w W : World} {f n : Nat} {xs : Array Value} {t : TypeId} (h : Nf w W f xs t) (i : Nat) {v : Value} (hi : xs[i]? = some v) : (W.alloc (.cells (madeCells #[.int .u64 0] n) 33)).cell? ⟨f, i, none⟩ = some v ∧ (W.alloc (.cells (madeCells #[.int .u64 0] n) 33)).frozen? ⟨f, i, none⟩ = false := by
  have hb : Bk (W.alloc (.cells (madeCells #[.int .u64 0] n) 33)) f xs t := h.bk.heap (((Below.refl _ _).alloc (Nat.le_refl _) _ : Below W.heap.size W _).block f h.bk.lt)
  exact ⟨by rw [hb.cell, hi], hb.fz i⟩
theorem Nf.step {w W : World} {f : Nat} {xs : Array Value} {t : TypeId} (h : Nf w W f xs t) (i n : Nat) : Nf w (mkd W f i n) f (xs.setIfInBounds i (slV W.heap.size n n)) t ∧ Rw (mkd W f i n) W.heap.size n (fun _ => 0) ∧ (∀ k, k < W.heap.size → k ≠ f → (mkd W f i n).heap[k]? = W.heap[k]?) ∧ f < W.heap.size ∧ W.heap.size < (mkd W f i n).heap.size := by
  have hlt := h.bk.lt
  have hB : Below W.heap.size W (W.alloc (.cells (madeCells #[.int .u64 0] n) 33)) := (Below.refl _ _).alloc (Nat.le_refl _) _
  have hb : Bk (W.alloc (.cells (madeCells #[.int .u64 0] n) 33)) f xs t := h.bk.heap (hB.block f hlt)
  have hne : W.heap.size ≠ f := by omega
  have F : Fr (fun k => k = f) w (mkd W f i n) := ((Fr.of_below h.be).more (Fr.of_below (own := fun k => k = f) hB) (fun _ e => e)).more (Fr.draw (fr_one f i _)) (fun _ e => e)
  refine ⟨⟨F.to_below (fun k hk e => by have e' : k = f := e; have := h.lo; omega), hb.set i _, h.lo⟩, (made_rw W n).other hne i _, fun k hk hn => ?_, hlt, by simp [mkd]⟩
  exact (Below.heap_setCell _ ⟨f, i, none⟩ _ k hn).trans (hB.block k hk)
theorem bk_setCells {k : Nat} {t : TypeId} : ∀ (vs : List Value) (o : Nat) (w : World) (xs : Array Value), Bk w k xs t → ∃ ys, ys.size = xs.size ∧ Bk (w.setCells k o vs) k ys t
  | [], _, _, xs, h => ⟨xs, rfl, h⟩
  | v :: r, o, w, xs, h => by
    obtain ⟨ys, h1, h2⟩ := bk_setCells r (o + 1) _ _ (h.set o v)
    exact ⟨ys, by rw [h1]; simp, h2⟩
theorem rw_copied {W : World} {k n : Nat} {g : Nat → Nat} (h : Rw W k n g) (P : Nat → Nat → Nat) (j : Nat) : Rw (W.setCells k 0 (vals P j n)) k n (P j) := by
  obtain ⟨cur, h1, h2⟩ := h
  obtain ⟨ys, _, h3⟩ := bk_setCells (vals P j n) 0 W cur h1
  refine ⟨ys, h3, fun i hi => ?_⟩
  have hl : (vals P j n).length = n := vals_len _ _ _
  have := World.cell?_setCells_in k (vals P j n) 0 W (fun i hi => by rw [Nat.zero_add, h1.cell, h2 i (by omega)]; rfl) i (by omega)
  rw [Nat.zero_add, h3.cell] at this
  rw [this]
  have hv := vals_at P j n i hi
  rw [List.getElem?_eq_getElem (by omega)] at hv
  exact hv
theorem copy_fr (W : World) (k : Nat) (vs : List Value) : Fr (fun j => j = k) W (W.drew.setCells k 0 vs) := (Fr.draw (Fr.refl _ _)).more (setCells_fr k vs 0 W.drew) (fun _ e => e)
theorem nf_copy {w W : World} {f k : Nat} {xs : Array Value} {t : TypeId} (h : Nf w W f xs t) (hk : w.heap.size ≤ k) (vs : List Value) : Below w.heap.size w (W.drew.setCells k 0 vs) :=
  ((Fr.of_below (own := fun j => j = k) h.be).more (copy_fr W k vs) (fun _ e => e)).to_below (fun i hi e => by have e' : i = k := e; omega)
theorem copy_law {W : World} {k n g o c : Nat} {gg : Nat → Nat} {P : Nat → Nat → Nat} (ty : TypeId) (h : Rw W k n gg) (hc : ∀ j u, (vals P 0 n)[j]? = some u → W.cell? ⟨g, o + j, none⟩ = some u) :
    (Builtin.copy_ #[34, 34] ty #[.slice (some ⟨k, 0, none⟩) n n, .slice (some ⟨g, o, none⟩) n c]).run Tryd.prog W = .ok (goInt n) (W.setCells k 0 (vals P 0 n)) := by
  have hl : (vals P 0 n).length = n := vals_len _ _ _
  have hs : (Tryd.prog.info? 33).map (·.size) = some 1 := by kernel_rfl
  have := run_copy_cells (P := Tryd.prog) W 34 34 ty 33 k 0 n n ⟨g, o, none⟩ n c (vals P 0 n) Tryd.underlying34 hs (by rw [hl]; exact (Nat.min_self n).symm) (fun j u hu => by rw [addr_add]; exact hc j u hu) (fun j hj => by rw [Nat.zero_add, h.cell j (by omega)]; rfl) (fun j _ => h.fz _) (vals_one _ _ _)
  rwa [hl] at this

set_option maxRecDepth 100000 in
set_option maxHeartbeats 4000000 in
theorem newThree_any {w : World} {v : Value} {P : Nat → Nat → Nat} {n : Nat} (hn : n ≤ 40) (hv : Ls w v n (vals P 0 n)) :
    Calls Tryd.prog 31 #[v] w fun E w' => ∃ f k0 k1 k2, E = .returned (.pointer (some ⟨f, 0, none⟩)) ∧ w.heap.size ≤ f ∧ f < k0 ∧ k0 < k1 ∧ k1 < k2 ∧ Below w.heap.size w w' ∧ Bk w' f #[.int .u32 3, slV k0 n n, slV k1 n n, slV k2 n n, .int .u32 0, .int .u32 2, .int .u32 2] 94 ∧ Rw w' k0 n (fun _ => 0) ∧ Rw w' k1 n (fun _ => 0) ∧ Rw w' k2 n (P 0) := by
  obtain ⟨g, o, c, rfl, hl, hc, h1c⟩ := hv
  have hmk := fun w => run_make_row' (P := Tryd.prog) 34 33 (.int .u64 0) 8 Tryd.underlying34 Tryd.infoU rfl .i64 .i64 n (by omega) (by omega) w
  have HB : Hid (Below w.heap.size w (w.alloc (.cells #[.int .u32 0, nilS, nilS, nilS, .int .u32 0, .int .u32 2, .int .u32 2] 94)) ∧ Bk (w.alloc (.cells #[.int .u32 0, nilS, nilS, nilS, .int .u32 0, .int .u32 2, .int .u32 2] 94)) w.heap.size #[.int .u32 0, nilS, nilS, nilS, .int .u32 0, .int .u32 2, .int .u32 2] 94) := ⟨(Below.refl _ _).alloc (Nat.le_refl _) _, heap_alloc_new w _⟩
  have HC : Hid (∀ W, Below w.heap.size w W → ∀ j u, (vals P 0 n)[j]? = some u → W.cell? ⟨g, o + j, none⟩ = some u) := fun W hW j u hu => (hW.cell (lt_of_cell (hc j u hu))).trans (hc j u hu)
  clear hc hl h1c
  go_enter Tryd.func31, Tryd.ntmps31
  go_wp2_with fail
  generalize w.alloc (.cells #[.int .u32 0, nilS, nilS, nilS, .int .u32 0, .int .u32 2, .int .u32 2] 94) = W at HB ⊢
  refine (store32_any w.heap.size 0 3 (HB.out.2.cell 0) (HB.out.2.fz 0)).mono ?_
  rintro E W0 ⟨rfl, hW0⟩
  have H0 : Hid (Nf w W0 w.heap.size #[.int .u32 3, nilS, nilS, nilS, .int .u32 0, .int .u32 2, .int .u32 2] 94) := by
    rw [hW0]
    exact ⟨((Fr.of_below (own := fun k => k = w.heap.size) HB.out.1).more (fr_one w.heap.size 0 _) (fun _ e => e)).to_below (fun i hi e => by have e' : i = w.heap.size := e; omega), HB.out.2.set 0 _, Nat.le_refl _⟩
  clear hW0 HB
  generalize w.heap.size = f at H0 ⊢
  go_wp2_with fail
  refine wp_loop_rounds 4 ?_
  rw [rounds_succ]
  obtain ⟨x1, z1⟩ := H0.out.cell (n := n) 1 rfl
  go_wp2_with fail
  go_region
  go_wp2_with fail
  obtain ⟨N1, R1, K1, L1, M1⟩ := H0.out.step 1 n
  have H1 : Hid (Nf w (((W0.alloc (.cells (madeCells #[.int .u64 0] n) 33)).setCell ⟨f, 1, none⟩ (.slice (some ⟨W0.heap.size, 0, none⟩) n n)).drew) f #[.int .u32 3, slV W0.heap.size n n, nilS, nilS, .int .u32 0, .int .u32 2, .int .u32 2] 94 ∧ Rw (((W0.alloc (.cells (madeCells #[.int .u64 0] n) 33)).setCell ⟨f, 1, none⟩ (.slice (some ⟨W0.heap.size, 0, none⟩) n n)).drew) W0.heap.size n (fun _ => 0) ∧ f < W0.heap.size ∧ W0.heap.size < (((W0.alloc (.cells (madeCells #[.int .u64 0] n) 33)).setCell ⟨f, 1, none⟩ (.slice (some ⟨W0.heap.size, 0, none⟩) n n)).drew).heap.size) := ⟨N1, R1, L1, M1⟩
  clear x1 z1 N1 R1 K1 L1 M1 H0
  generalize (((W0.alloc (.cells (madeCells #[.int .u64 0] n) 33)).setCell ⟨f, 1, none⟩ (.slice (some ⟨W0.heap.size, 0, none⟩) n n)).drew) = W1 at H1 ⊢
  generalize W0.heap.size = k0 at H1 ⊢
  rw [rounds_succ]
  obtain ⟨x1, z1⟩ := H1.out.1.cell (n := n) 2 rfl
  go_wp2_with fail
  go_region
  go_wp2_with fail
  obtain ⟨N2, R2, K2, L2, M2⟩ := H1.out.1.step 2 n
  have H2 : Hid (Nf w (((W1.alloc (.cells (madeCells #[.int .u64 0] n) 33)).setCell ⟨f, 2, none⟩ (.slice (some ⟨W1.heap.size, 0, none⟩) n n)).drew) f #[.int .u32 3, slV k0 n n, slV W1.heap.size n n, nilS, .int .u32 0, .int .u32 2, .int .u32 2] 94 ∧ Rw (((W1.alloc (.cells (madeCells #[.int .u64 0] n) 33)).setCell ⟨f, 2, none⟩ (.slice (some ⟨W1.heap.size, 0, none⟩) n n)).drew) W1.heap.size n (fun _ => 0) ∧ Rw (((W1.alloc (.cells (madeCells #[.int .u64 0] n) 33)).setCell ⟨f, 2, none⟩ (.slice (some ⟨W1.heap.size, 0, none⟩) n n)).drew) k0 n (fun _ => 0) ∧ f < k0 ∧ k0 < W1.heap.size ∧ W1.heap.size < (((W1.alloc (.cells (madeCells #[.int .u64 0] n) 33)).setCell ⟨f, 2, none⟩ (.slice (some ⟨W1.heap.size, 0, none⟩) n n)).drew).heap.size) := ⟨N2, R2, H1.out.2.1.heap (K2 k0 H1.out.2.2.2 (by have := H1.out.2.2.1; omega)), H1.out.2.2.1, H1.out.2.2.2, M2⟩
  clear x1 z1 N2 R2 K2 L2 M2 H1
  generalize (((W1.alloc (.cells (madeCells #[.int .u64 0] n) 33)).setCell ⟨f, 2, none⟩ (.slice (some ⟨W1.heap.size, 0, none⟩) n n)).drew) = W2 at H2 ⊢
  generalize W1.heap.size = k1 at H2 ⊢
  rw [rounds_succ]
  obtain ⟨x1, z1⟩ := H2.out.1.cell (n := n) 3 rfl
  go_wp2_with fail
  go_region
  go_wp2_with fail
  obtain ⟨N3, R3, K3, L3, M3⟩ := H2.out.1.step 3 n
  have H3 : Hid (Nf w (((W2.alloc (.cells (madeCells #[.int .u64 0] n) 33)).setCell ⟨f, 3, none⟩ (.slice (some ⟨W2.heap.size, 0, none⟩) n n)).drew) f #[.int .u32 3, slV k0 n n, slV k1 n n, slV W2.heap.size n n, .int .u32 0, .int .u32 2, .int .u32 2] 94 ∧ Rw (((W2.alloc (.cells (madeCells #[.int .u64 0] n) 33)).setCell ⟨f, 3, none⟩ (.slice (some ⟨W2.heap.size, 0, none⟩) n n)).drew) W2.heap.size n (fun _ => 0) ∧ Rw (((W2.alloc (.cells (madeCells #[.int .u64 0] n) 33)).setCell ⟨f, 3, none⟩ (.slice (some ⟨W2.heap.size, 0, none⟩) n n)).drew) k0 n (fun _ => 0) ∧ Rw (((W2.alloc (.cells (madeCells #[.int .u64 0] n) 33)).setCell ⟨f, 3, none⟩ (.slice (some ⟨W2.heap.size, 0, none⟩) n n)).drew) k1 n (fun _ => 0) ∧ f < k0 ∧ k0 < k1 ∧ k1 < W2.heap.size) := by
    obtain ⟨q1, q2, q3, q4, q5, q6⟩ := H2.out
    exact ⟨N3, R3, q3.heap (K3 k0 (by omega) (by omega)), q2.heap (K3 k1 (by omega) (by omega)), q4, q5, q6⟩
  clear x1 z1 N3 R3 K3 L3 M3 H2
  generalize (((W2.alloc (.cells (madeCells #[.int .u64 0] n) 33)).setCell ⟨f, 3, none⟩ (.slice (some ⟨W2.heap.size, 0, none⟩) n n)).drew) = W3 at H3 ⊢
  generalize W2.heap.size = k2 at H3 ⊢
  rw [rounds_succ]
  have c6 : W3.cell? ⟨f, 6, none⟩ = some (.int .u32 2) := H3.out.1.bk.cell 6
  have c3 : W3.cell? ⟨f, 3, none⟩ = some (slV k2 n n) := H3.out.1.bk.cell 3
  have hcp := fun ty => copy_law (W := W3.drew) (c := c) ty H3.out.2.1 (HC.out W3 H3.out.1.be)
  go_wp2_with fail
  go_region
  all_goals go_wp2_with fail
  go_ret
  exact ⟨f, k0, k1, k2, rfl, H3.out.1.lo, H3.out.2.2.2.2.1, H3.out.2.2.2.2.2.1, H3.out.2.2.2.2.2.2, nf_copy H3.out.1 (by have := H3.out.1.lo; have := H3.out.2.2.2.2; omega) _, (H3.out.1.bk).fr (copy_fr _ _ _) (by have := H3.out.2.2.2.2; omega), H3.out.2.2.1.fr (copy_fr _ _ _) (by have := H3.out.2.2.2.2; omega), H3.out.2.2.2.1.fr (copy_fr _ _ _) (by have := H3.out.2.2.2.2; omega), rw_copied (W := W3.drew) H3.out.2.1 P 0⟩

set_option maxRecDepth 100000 in
set_option maxHeartbeats 8000000 in
theorem newFour_any {w : World} {v : Value} {P : Nat → Nat → Nat} {n : Nat} (hn : n ≤ 40) (hv : Ls w v n (vals P 0 n)) :
    Calls Tryd.prog 30 #[v] w fun E w' => ∃ f k0 k1 k2 k3, E = .returned (.pointer (some ⟨f, 0, none⟩)) ∧ w.heap.size ≤ f ∧ f < k0 ∧ k0 < k1 ∧ k1 < k2 ∧ k2 < k3 ∧ Below w.heap.size w w' ∧ Bk w' f #[.int .u32 0, .int .u32 0, .int .u32 0, .int .u32 0, slV k0 n n, slV k1 n n, slV k2 n n, slV k3 n n, .int .u32 0, .int .u32 0, .int .u32 0, .int .u32 0] 91 ∧ Rw w' k0 n (P 0) ∧ Rw w' k1 n (fun _ => 0) ∧ Rw w' k2 n (fun _ => 0) ∧ Rw w' k3 n (fun _ => 0) := by
  obtain ⟨g, o, c, rfl, hl, hc, h1c⟩ := hv
  have hmk := fun w => run_make_row' (P := Tryd.prog) 34 33 (.int .u64 0) 8 Tryd.underlying34 Tryd.infoU rfl .i64 .i64 n (by omega) (by omega) w
  have H0 : Hid (Nf w (w.alloc (.cells #[.int .u32 0, .int .u32 0, .int .u32 0, .int .u32 0, nilS, nilS, nilS, nilS, .int .u32 0, .int .u32 0, .int .u32 0, .int .u32 0] 91)) w.heap.size #[.int .u32 0, .int .u32 0, .int .u32 0, .int .u32 0, nilS, nilS, nilS, nilS, .int .u32 0, .int .u32 0, .int .u32 0, .int .u32 0] 91) := ⟨(Below.refl _ _).alloc (Nat.le_refl _) _, heap_alloc_new w _, Nat.le_refl _⟩
  have HC : Hid (∀ W, Below w.heap.size w W → ∀ j u, (vals P 0 n)[j]? = some u → W.cell? ⟨g, o + j, none⟩ = some u) := fun W hW j u hu => (hW.cell (lt_of_cell (hc j u hu))).trans (hc j u hu)
  clear hc hl h1c
  go_enter Tryd.func30, Tryd.ntmps30
  go_wp2_with fail
  generalize w.alloc (.cells #[.int .u32 0, .int .u32 0, .int .u32 0, .int .u32 0, nilS, nilS, nilS, nilS, .int .u32 0, .int .u32 0, .int .u32 0, .int .u32 0] 91) = W0 at H0 ⊢
  generalize w.heap.size = f at H0 ⊢
  refine wp_loop_rounds 3 ?_
  rw [rounds_succ]
  go_wp2_with fail
  refine wp_loop_rounds 3 ?_
  rw [rounds_succ]
  obtain ⟨x1, z1⟩ := H0.out.cell (n := n) 4 rfl
  go_wp2_with fail
  go_region
  go_wp2_with fail
  obtain ⟨N1, R1, K1, L1, M1⟩ := H0.out.step 4 n
  have H1 : Hid (Nf w (((W0.alloc (.cells (madeCells #[.int .u64 0] n) 33)).setCell ⟨f, 4, none⟩ (.slice (some ⟨W0.heap.size, 0, none⟩) n n)).drew) f #[.int .u32 0, .int .u32 0, .int .u32 0, .int .u32 0, slV W0.heap.size n n, nilS, nilS, nilS, .int .u32 0, .int .u32 0, .int .u32 0, .int .u32 0] 91 ∧ Rw (((W0.alloc (.cells (madeCells #[.int .u64 0] n) 33)).setCell ⟨f, 4, none⟩ (.slice (some ⟨W0.heap.size, 0, none⟩) n n)).drew) W0.heap.size n (fun _ => 0) ∧ f < W0.heap.size ∧ W0.heap.size < (((W0.alloc (.cells (madeCells #[.int .u64 0] n) 33)).setCell ⟨f, 4, none⟩ (.slice (some ⟨W0.heap.size, 0, none⟩) n n)).drew).heap.size) := ⟨N1, R1, L1, M1⟩
  clear x1 z1 N1 R1 K1 L1 M1 H0
  generalize (((W0.alloc (.cells (madeCells #[.int .u64 0] n) 33)).setCell ⟨f, 4, none⟩ (.slice (some ⟨W0.heap.size, 0, none⟩) n n)).drew) = W1 at H1 ⊢
  generalize W0.heap.size = k0 at H1 ⊢
  rw [rounds_succ]
  obtain ⟨x1, z1⟩ := H1.out.1.cell (n := n) 5 rfl
  go_wp2_with fail
  go_region
  go_wp2_with fail
  obtain ⟨N1, R1, K1, L1, M1⟩ := H1.out.1.step 5 n
  have H2 : Hid (Nf w (((W1.alloc (.cells (madeCells #[.int .u64 0] n) 33)).setCell ⟨f, 5, none⟩ (.slice (some ⟨W1.heap.size, 0, none⟩) n n)).drew) f #[.int .u32 0, .int .u32 0, .int .u32 0, .int .u32 0, slV k0 n n, slV W1.heap.size n n, nilS, nilS, .int .u32 0, .int .u32 0, .int .u32 0, .int .u32 0] 91 ∧ Rw (((W1.alloc (.cells (madeCells #[.int .u64 0] n) 33)).setCell ⟨f, 5, none⟩ (.slice (some ⟨W1.heap.size, 0, none⟩) n n)).drew) W1.heap.size n (fun _ => 0) ∧ Rw (((W1.alloc (.cells (madeCells #[.int .u64 0] n) 33)).setCell ⟨f, 5, none⟩ (.slice (some ⟨W1.heap.size, 0, none⟩) n n)).drew) k0 n (fun _ => 0) ∧ f < k0 ∧ k0 < W1.heap.size ∧ W1.heap.size < (((W1.alloc (.cells (madeCells #[.int .u64 0] n) 33)).setCell ⟨f, 5, none⟩ (.slice (some ⟨W1.heap.size, 0, none⟩) n n)).drew).heap.size) := by
    obtain ⟨q0, r0, l0, l1⟩ := H1.out
    exact ⟨N1, R1, r0.heap (K1 k0 (by omega) (by omega)), l0, l1, M1⟩
  clear x1 z1 N1 R1 K1 L1 M1 H1
  generalize (((W1.alloc (.cells (madeCells #[.int .u64 0] n) 33)).setCell ⟨f, 5, none⟩ (.slice (some ⟨W1.heap.size, 0, none⟩) n n)).drew) = W2 at H2 ⊢
  generalize W1.heap.size = k1 at H2 ⊢
  rw [rounds_succ]
  go_wp2_with fail
  rw [rounds_succ]
  go_wp2_with fail
  refine wp_loop_rounds 3 ?_
  rw [rounds_succ]
  obtain ⟨x1, z1⟩ := H2.out.1.cell (n := n) 6 rfl
  go_wp2_with fail
  go_region
  go_wp2_with fail
  obtain ⟨N1, R1, K1, L1, M1⟩ := H2.out.1.step 6 n
  have H3 : Hid (Nf w (((W2.alloc (.cells (madeCells #[.int .u64 0] n) 33)).setCell ⟨f, 6, none⟩ (.slice (some ⟨W2.heap.size, 0, none⟩) n n)).drew) f #[.int .u32 0, .int .u32 0, .int .u32 0, .int .u32 0, slV k0 n n, slV k1 n n, slV W2.heap.size n n, nilS, .int .u32 0, .int .u32 0, .int .u32 0, .int .u32 0] 91 ∧ Rw (((W2.alloc (.cells (madeCells #[.int .u64 0] n) 33)).setCell ⟨f, 6, none⟩ (.slice (some ⟨W2.heap.size, 0, none⟩) n n)).drew) W2.heap.size n (fun _ => 0) ∧ Rw (((W2.alloc (.cells (madeCells #[.int .u64 0] n) 33)).setCell ⟨f, 6, none⟩ (.slice (some ⟨W2.heap.size, 0, none⟩) n n)).drew) k0 n (fun _ => 0) ∧ Rw (((W2.alloc (.cells (madeCells #[.int .u64 0] n) 33)).setCell ⟨f, 6, none⟩ (.slice (some ⟨W2.heap.size, 0, none⟩) n n)).drew) k1 n (fun _ => 0) ∧ f < k0 ∧ k0 < k1 ∧ k1 < W2.heap.size ∧ W2.heap.size < (((W2.alloc (.cells (madeCells #[.int .u64 0] n) 33)).setCell ⟨f, 6, none⟩ (.slice (some ⟨W2.heap.size, 0, none⟩) n n)).drew).heap.size) := by
    obtain ⟨q0, r0, r1, l0, l1, l2⟩ := H2.out
    exact ⟨N1, R1, r1.heap (K1 k0 (by omega) (by omega)), r0.heap (K1 k1 (by omega) (by omega)), l0, l1, l2, M1⟩
  clear x1 z1 N1 R1 K1 L1 M1 H2
  generalize (((W2.alloc (.cells (madeCells #[.int .u64 0] n) 33)).setCell ⟨f, 6, none⟩ (.slice (some ⟨W2.heap.size, 0, none⟩) n n)).drew) = W3 at H3 ⊢
  generalize W2.heap.size = k2 at H3 ⊢
  rw [rounds_succ]
  obtain ⟨x1, z1⟩ := H3.out.1.cell (n := n) 7 rfl
  go_wp2_with fail
  go_region
  go_wp2_with fail
  obtain ⟨N1, R1, K1, L1, M1⟩ := H3.out.1.step 7 n
  have H4 : Hid (Nf w (((W3.alloc (.cells (madeCells #[.int .u64 0] n) 33)).setCell ⟨f, 7, none⟩ (.slice (some ⟨W3.heap.size, 0, none⟩) n n)).drew) f #[.int .u32 0, .int .u32 0, .int .u32 0, .int .u32 0, slV k0 n n, slV k1 n n, slV k2 n n, slV W3.heap.size n n, .int .u32 0, .int .u32 0, .int .u32 0, .int .u32 0] 91 ∧ Rw (((W3.alloc (.cells (madeCells #[.int .u64 0] n) 33)).setCell ⟨f, 7, none⟩ (.slice (some ⟨W3.heap.size, 0, none⟩) n n)).drew) W3.heap.size n (fun _ => 0) ∧ Rw (((W3.alloc (.cells (madeCells #[.int .u64 0] n) 33)).setCell ⟨f, 7, none⟩ (.slice (some ⟨W3.heap.size, 0, none⟩) n n)).drew) k0 n (fun _ => 0) ∧ Rw (((W3.alloc (.cells (madeCells #[.int .u64 0] n) 33)).setCell ⟨f, 7, none⟩ (.slice (some ⟨W3.heap.size, 0, none⟩) n n)).drew) k1 n (fun _ => 0) ∧ Rw (((W3.alloc (.cells (madeCells #[.int .u64 0] n) 33)).setCell ⟨f, 7, none⟩ (.slice (some ⟨W3.heap.size, 0, none⟩) n n)).drew) k2 n (fun _ => 0) ∧ f < k0 ∧ k0 < k1 ∧ k1 < k2 ∧ k2 < W3.heap.size ∧ W3.heap.size < (((W3.alloc (.cells (madeCells #[.int .u64 0] n) 33)).setCell ⟨f, 7, none⟩ (.slice (some ⟨W3.heap.size, 0, none⟩) n n)).drew).heap.size) := by
    obtain ⟨q0, r0, r1, r2, l0, l1, l2, l3⟩ := H3.out
    exact ⟨N1, R1, r1.heap (K1 k0 (by omega) (by omega)), r2.heap (K1 k1 (by omega) (by omega)), r0.heap (K1 k2 (by omega) (by omega)), l0, l1, l2, l3, M1⟩
  clear x1 z1 N1 R1 K1 L1 M1 H3
  generalize (((W3.alloc (.cells (madeCells #[.int .u64 0] n) 33)).setCell ⟨f, 7, none⟩ (.slice (some ⟨W3.heap.size, 0, none⟩) n n)).drew) = W4 at H4 ⊢
  generalize W3.heap.size = k3 at H4 ⊢
  have c4 : W4.cell? ⟨f, 4, none⟩ = some (slV k0 n n) := H4.out.1.bk.cell 4
  have HR : Hid (Rw W4 k0 n (fun _ => 0)) := H4.out.2.2.1
  have hcp := fun ty => copy_law (W := W4) (c := c) ty HR.out (HC.out W4 H4.out.1.be)
  rw [rounds_succ]
  go_wp2_with fail
  rw [rounds_succ]
  go_wp2_with fail
  go_ret
  obtain ⟨q0, r3, r0, r1, r2, l0, l1, l2, l3, l4⟩ := H4.out
  have F : Fr (fun j => j = k0) W4 (W4.setCells k0 0 (vals P 0 n)) := setCells_fr k0 _ 0 W4
  refine ⟨f, k0, k1, k2, k3, rfl, q0.lo, l0, l1, l2, l3, ?_, q0.bk.fr F (by omega), rw_copied r0 P 0, r1.fr F (by omega), r2.fr F (by omega), r3.fr F (by omega)⟩
  exact ((Fr.of_below (own := fun j => j = k0) q0.be).more F (fun _ e => e)).to_below (fun i hi e => by have e' : i = k0 := e; have := q0.lo; omega)

end Go.Proofs.YtgaepakdhdfdfaaDoor
