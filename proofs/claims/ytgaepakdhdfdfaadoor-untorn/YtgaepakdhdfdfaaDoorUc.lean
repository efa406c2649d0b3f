/-
  What package reg must do, as the statements' side leans on it; package plain's calls by that.
-/
import Derived.Test.YtgaepakdhdfdfaaDoorUb
namespace Go.Proofs.YtgaepakdhdfdfaaDoor
open Go.RowKit

/-- A list of words that lies there. -/
def Ls (w : World) (v : Value) (n : Nat) (xs : List Value) : Prop := ∃ g o c, v = .slice (some ⟨g, o, none⟩) n c ∧ xs.length = n ∧ (∀ j u, xs[j]? = some u → w.cell? ⟨g, o + j, none⟩ = some u) ∧ ∀ u ∈ xs, u.oneCell' = true
theorem vals_one (P : Nat → Nat → Nat) (k n : Nat) : ∀ u ∈ vals P k n, u.oneCell' = true := by
  intro u hu
  obtain ⟨i, _, rfl⟩ := List.mem_map.1 hu
  rfl
theorem Ls.of_own {w : World} {base n : Nat} {v : Value} {P : Nat → Nat → Nat} {k : Nat} (h : w.ownsRow base 33 1 v n (vals P k n)) (hn : 0 < n) : Ls w v n (vals P k n) := by
  obtain ⟨_, ⟨_, h0⟩ | ⟨g, cap, cur, rfl, _, hg, _, _, _, htk⟩⟩ := h
  · omega
  · refine ⟨g, 0, cap, rfl, vals_len _ _ _, fun j u hu => ?_, vals_one _ _ _⟩
    rw [Nat.zero_add, cell_of_row w g j _ _ _ hg]
    rw [← htk, List.getElem?_take] at hu
    split at hu
    · simpa using hu
    · cases hu
theorem Ls.below {w w' : World} {v : Value} {n : Nat} {xs : List Value} (h : Ls w v n xs) (k : Below w.heap.size w w') : Ls w' v n xs := by
  obtain ⟨g, o, c, rfl, hl, hc, h1⟩ := h
  exact ⟨g, o, c, rfl, hl, fun j u hu => (k.cell (lt_of_cell (hc j u hu))).trans (hc j u hu), h1⟩

/-- What a register is in memory: its own blocks, the world, where it is; the payloads by their numbers; its width; begun, ended, floor, last; the steps that are left to the writer, to the reader. -/
abbrev RJ : Type := (Nat → Prop) → World → Nat → (Nat → Nat → Nat) → (n b e f l wl rl : Nat) → Prop
/-- A call on a register: what may have changed. -/
def Wp (J : RJ) (own : Nat → Prop) (r : Nat) (P : Nat → Nat → Nat) (n b e f l wl rl : Nat) (w w' : World) : Prop :=
  ∃ own', (∀ k, own' k → own k ∨ w.heap.size ≤ k) ∧ Fr own w w' ∧ J own' w' r P n b e f l wl rl
structure Spec (J : RJ) (a : Nat → Addr) (B : Nat) : Prop where
  kept : ∀ {own w w' r P n b e f l wl rl}, J own w r P n b e f l wl rl → w.heap.size ≤ w'.heap.size → (∀ k, own k → w'.heap[k]? = w.heap[k]?) → J own w' r P n b e f l wl rl
  own : ∀ {own w r P n b e f l wl rl}, J own w r P n b e f l wl rl → ∀ k, own k → k < w.heap.size
  new : ∀ (kind n : Nat) (P : Nat → Nat → Nat) (v : Value) (w : World), 1 ≤ kind → kind ≤ 3 → 1 ≤ n → n ≤ 40 → (kind = 3 → n = 1) → Rg a B w → Ls w v n (vals P 0 n) →
    Calls Tryd.prog 15 #[.int .i64 kind, v] w fun e w' => ∃ r own, e = .returned (.tuple #[.pointer (some ⟨r, 0, none⟩), .nilIface]) ∧ (∀ k, own k → w.heap.size ≤ k) ∧ Below w.heap.size w w' ∧ J own w' r P n 0 0 0 0 0 0
  write : ∀ {own w r P n b e f l wl rl} (v : Value), J own w r P n b e f l wl rl → Rg a B w → Ls w v n (vals P (b + 1) n) → (∀ k, own k → B ≤ k) →
    Calls Tryd.prog 19 #[.pointer (some ⟨r, 0, none⟩), v] w fun E w' =>
      (0 < wl → E = .returned (errV (a 3)) ∧ Wp J own r P n b e f l wl rl w w') ∧ (wl = 0 → E = .returned .nilIface ∧ ∃ x, 0 < x ∧ x ≤ n + 4 ∧ Wp J own r P n (b + 1) e f l x rl w w')
  stepW : ∀ {own w r P n b e f l wl rl}, J own w r P n b e f l wl rl → Rg a B w → (∀ k, own k → B ≤ k) →
    Calls Tryd.prog 20 #[.pointer (some ⟨r, 0, none⟩)] w fun E w' =>
      (wl = 0 → E = .returned (.tuple #[.bool false, errV (a 4)]) ∧ Wp J own r P n b e f l wl rl w w') ∧ (0 < wl → E = .returned (.tuple #[.bool (wl == 1), .nilIface]) ∧ Wp J own r P n b (if wl = 1 then b else e) f l (wl - 1) rl w w')
  read : ∀ {own w r P n b e f l wl rl}, J own w r P n b e f l wl rl → Rg a B w → (∀ k, own k → B ≤ k) →
    Calls Tryd.prog 17 #[.pointer (some ⟨r, 0, none⟩)] w fun E w' =>
      (0 < rl → E = .returned (errV (a 3)) ∧ Wp J own r P n b e f l wl rl w w') ∧ (rl = 0 → E = .returned .nilIface ∧ ∃ x, 0 < x ∧ x ≤ n + 3 ∧ Wp J own r P n b e e l wl x w w')
  stepR : ∀ {own w r P n b e f l wl rl}, J own w r P n b e f l wl rl → Rg a B w → (∀ k, own k → B ≤ k) →
    Calls Tryd.prog 18 #[.pointer (some ⟨r, 0, none⟩)] w fun E w' =>
      (rl = 0 → E = .returned (.tuple #[.bool false, .slice none 0 0, errV (a 4)]) ∧ Wp J own r P n b e f l wl rl w w') ∧
      (1 < rl → E = .returned (.tuple #[.bool false, .slice none 0 0, .nilIface]) ∧ Wp J own r P n b e f l wl (rl - 1) w w') ∧
      (rl = 1 → ∃ k g o c own', f ≤ k ∧ l ≤ k ∧ k ≤ b ∧ E = .returned (.tuple #[.bool true, .slice (some ⟨g, o, none⟩) n c, .nilIface]) ∧
        (∀ i, i < n → w'.cell? ⟨g, o + i, none⟩ = some (.int .u64 (P k i : Nat)) ∧ w'.frozen? ⟨g, o + i, none⟩ = false) ∧ (own g ∨ w.heap.size ≤ g) ∧ ¬ own' g ∧
        (∀ k, own' k → own k ∨ w.heap.size ≤ k) ∧ Fr own w w' ∧ J own' w' r P n b e f k wl 0)

theorem addr_add (g o j : Nat) : (⟨g, o, none⟩ : Addr).add j = ⟨g, o + j, none⟩ := by
  unfold Addr.add
  split
  · rename_i h; rw [h, Nat.add_zero]
  · rfl
theorem zeroU (w : World) : (zeroValue 33).run Tryd.prog w = .ok (.int .u64 0) w := by kernel_rfl

theorem setCells_fr (g : Nat) : ∀ (xs : List Value) (o : Nat) (w : World), Fr (fun k => k = g) w (w.setCells g o xs)
  | [], _, w => Fr.refl _ w
  | x :: r, o, w => by
    have h1 : Fr (fun k => k = g) w (w.setCell ⟨g, o, none⟩ x) := ⟨rfl, rfl, rfl, by simp, fun k _ hk => Below.heap_setCell w ⟨g, o, none⟩ x k hk⟩
    exact h1.trans (setCells_fr g r (o + 1) _) (fun _ _ e => e)
theorem clear_run {w : World} (g o n c : Nat) (hn : 0 < n) (hc : ∀ j, j < n → (w.cell? ⟨g, o + j, none⟩).isSome = true) (hf : ∀ j, j < n → w.frozen? ⟨g, o + j, none⟩ = false) (ty : TypeId) :
    (Builtin.clear_ #[34] ty #[.slice (some ⟨g, o, none⟩) n c]).run Tryd.prog w = .ok (.tuple #[]) (w.setCells g o (List.replicate n (.int .u64 0))) :=
  Lib.run_clear_slice w 34 33 ty (.int .u64 0) Tryd.underlying34 zeroU rfl rfl g o n c hn hc hf
theorem row_clear {w : World} {g n : Nat} {cur : Array Value} (hg : w.heap[g]? = some (.cells cur 33 (0, 0))) (hs : n ≤ cur.size) : (∀ j, j < n → (w.cell? ⟨g, 0 + j, none⟩).isSome = true) ∧ ∀ j, j < n → w.frozen? ⟨g, 0 + j, none⟩ = false := by
  refine ⟨fun j hj => ?_, fun j _ => ?_⟩
  · rw [Nat.zero_add, cell_of_row w g j _ _ _ hg]
    simp; omega
  · unfold World.frozen?; rw [hg]; simp

set_option maxHeartbeats 2000000 in
theorem register_any {J : RJ} {a : Nat → Addr} {B : Nat} (S : Spec J a B) (kind n : Nat) (P : Nat → Nat → Nat) (v : Value) (w : World) (h1 : 1 ≤ kind) (h3 : kind ≤ 3) (hn1 : 1 ≤ n) (hn : n ≤ 40) (hk : kind = 3 → n = 1) (R : Rg a B w) (hv : Ls w v n (vals P 0 n)) :
    Calls Tryd.prog 7 #[.int .i64 kind, v] w fun e w' => ∃ r own, e = .returned (.tuple #[.pointer (some ⟨r, 0, none⟩), .int .i64 0]) ∧ (∀ k, own k → w.heap.size ≤ k) ∧ Below w.heap.size w w' ∧ J own w' r P n 0 0 0 0 0 0 := by
  obtain ⟨i0, hi, hz0, hz1, hz2⟩ := info_parts Tryd.infoU
  obtain ⟨g, o, c, rfl, hl, hc, h1c⟩ := hv
  have HS : Hid (Spec J a B) := S
  have HR : Hid (Rg a B w) := R
  have HL : Hid ((vals P 0 n).length = n ∧ (∀ j u, (vals P 0 n)[j]? = some u → w.cell? ⟨g, o + j, none⟩ = some u) ∧ ∀ u ∈ vals P 0 n, u.oneCell' = true) := ⟨hl, hc, h1c⟩
  have c4 : (0 + n) * 8 ≤ 140737488355328 := by omega
  clear S R hl hc h1c
  go_enter Tryd.func7, Tryd.ntmps7
  go_wp2_with (at_builtin; refine wpList_append_own _ rfl _ _ 34 rfl w.heap.size 33 i0 (.int .u64 0) 1 8 Tryd.underlying34 hi hz0 hz1 hz2 rfl (by decide) (.slice none 0 0) 0 [] rfl (World.ownsRow_nil _ _ _ _) ⟨g, o, none⟩ n c (vals P 0 n) rfl (by rw [HL.out.1, Nat.mul_one]) (fun j u hu => by rw [addr_add]; exact HL.out.2.1 j u hu) HL.out.2.2 (by unfold maxLen; omega) c4 (Nat.le_refl _) ?_; intro v1 w1 O1 hg1 _)
  have B1 : Hid (Below w.heap.size w w1) := below_grown (Below.refl _ _) hg1 (fun k hk => by cases hk)
  have R1 : Hid (Rg a B w1) := HR.out.below B1.out
  have O1' : w1.ownsRow w.heap.size 33 1 v1 n (vals P 0 n) := by simpa using O1
  have L1 : Hid (Ls w1 v1 n (vals P 0 n)) := Ls.of_own O1' hn1
  obtain ⟨_, ⟨_, h0⟩ | ⟨g1, cap1, cur1, rfl, hgb, hg1b, hcap, _, hsz, _⟩⟩ := O1'
  · omega
  have HG1 : Hid (w1.heap[g1]? = some (.cells cur1 33 (0, 0)) ∧ n ≤ cur1.size ∧ w.heap.size ≤ g1) := ⟨hg1b, by rw [hsz]; omega, hgb⟩
  clear O1 hg1 hgb hg1b hsz
  refine (HS.out.new kind n P _ w1 h1 h3 hn1 hn hk R1.out L1.out).mono ?_
  rintro e w2 ⟨r, own, rfl, ho, hb2, hJ⟩
  have hg2 : w2.heap[g1]? = some (.cells cur1 33 (0, 0)) := (hb2.block _ (Array.getElem?_eq_some_iff.1 HG1.out.1).1).trans HG1.out.1
  have hq := row_clear hg2 HG1.out.2.1
  have hclr := clear_run g1 0 n cap1 hn1 hq.1 hq.2
  have F3 : Hid (Fr (fun k => k = g1) w2 (w2.setCells g1 0 (List.replicate n (.int .u64 0)))) := setCells_fr g1 _ 0 w2
  have J3 : Hid (J own (w2.setCells g1 0 (List.replicate n (.int .u64 0))) r P n 0 0 0 0 0 0) := HS.out.kept hJ F3.out.size (fun k hk => F3.out.block k (HS.out.own hJ k hk) (fun e => by have := ho k hk; have := (Array.getElem?_eq_some_iff.1 HG1.out.1).1; omega))
  have B3 : Hid (Below w.heap.size w (w2.setCells g1 0 (List.replicate n (.int .u64 0)))) := by
    have b2 := below_step B1.out hb2
    exact (((Fr.of_below (own := fun k => k = g1) b2).trans F3.out (fun _ _ e => e)).to_below (fun i hi e => by have := HG1.out.2.2; omega))
  have HO : Hid (∀ k, own k → w.heap.size ≤ k) := fun k hk => Nat.le_trans B1.out.size (ho k hk)
  clear hg2 hq hb2 hJ ho L1 R1
  go_wp2_with fail
  clear hclr F3
  generalize w2.setCells g1 0 (List.replicate n (.int .u64 0)) = w3 at J3 B3 ⊢
  refine (number_nil _).mono ?_
  rintro e w4 ⟨rfl, hb4⟩
  have HB4 : Hid (Below w3.heap.size w3 w4) := hb4
  clear hb4
  go_wp2
  refine bodyPost_ret (v := .tuple #[.pointer (some ⟨r, 0, none⟩), .int .i64 0]) (by simp [results, Tryd.results7, go_sem]) rfl ⟨r, own, rfl, HO.out, below_step B3.out HB4.out, HS.out.kept J3.out HB4.out.size (fun k hk => HB4.out.block k (HS.out.own J3.out k hk))⟩

end Go.Proofs.YtgaepakdhdfdfaaDoor
