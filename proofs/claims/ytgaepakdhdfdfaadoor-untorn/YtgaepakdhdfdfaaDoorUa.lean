/-
  Registers asked from outside: what a call leaves as it was; lists of words; numbers of errors.
-/
import Derived.Test.YtgaepakdhdfdfaaDoorProg
import Derived.KernelRfl
import Derived.RowKit
import Derived.WalkKit
import Derived.WalkSpells
import Derived.WalkLawsBesides
import Derived.Deep.LoopGhost
import Derived.Deep.CutRange
import Derived.Deep.QuietTactic
import Derived.BigQuiet
import Derived.OwnWalk
import Derived.Laws.AppendOwn
import Derived.Laws.Rows
import Derived.Lib.SliceRun
import Derived.LaidEql
namespace Go.Proofs.YtgaepakdhdfdfaaDoor
open Go.RowKit

theorem lt_of_cell {w : World} {p : Addr} {v : Value} (h : w.cell? p = some v) : p.block < w.heap.size := by
  rcases Nat.lt_or_ge p.block w.heap.size with h' | h'
  · exact h'
  · obtain ⟨k, o, s⟩ := p
    cases s <;> simp [World.cell?, Array.getElem?_eq_none h'] at h
theorem below_step {W u v : World} (h : Below W.heap.size W u) (k : Below u.heap.size u v) : Below W.heap.size W v := h.trans (k.mono h.size)

/-- All blocks that there were are as they were, but for those of a set. -/
structure Fr (own : Nat → Prop) (w w' : World) : Prop where
  os : w'.os = w.os
  tape : w'.tape = w.tape
  output : w'.output = w.output
  size : w.heap.size ≤ w'.heap.size
  block : ∀ k, k < w.heap.size → ¬ own k → w'.heap[k]? = w.heap[k]?
theorem Fr.refl (own : Nat → Prop) (w : World) : Fr own w w := ⟨rfl, rfl, rfl, Nat.le_refl _, fun _ _ _ => rfl⟩
theorem Fr.of_below {own : Nat → Prop} {w w' : World} (h : Below w.heap.size w w') : Fr own w w' := ⟨h.os, h.tape, h.output, h.size, fun k h1 _ => h.block k h1⟩
theorem Fr.trans {own own' : Nat → Prop} {u v w : World} (h : Fr own u v) (k : Fr own' v w) (ho : ∀ i, i < u.heap.size → own' i → own i) : Fr own u w :=
  ⟨k.os.trans h.os, k.tape.trans h.tape, k.output.trans h.output, Nat.le_trans h.size k.size, fun i h1 h2 => (k.block i (Nat.lt_of_lt_of_le h1 h.size) (fun e => h2 (ho i h1 e))).trans (h.block i h1 h2)⟩
theorem Fr.to_below {own : Nat → Prop} {w w' : World} (h : Fr own w w') (hn : ∀ i, i < w.heap.size → ¬ own i) : Below w.heap.size w w' :=
  ⟨h.os, h.tape, h.output, h.size, fun k h1 => h.block k h1 (hn k h1)⟩
theorem Fr.held {own : Nat → Prop} {w w' : World} (h : Fr own w w') {p : Addr} {v : Value} (hv : w.cell? p = some v) (hb : ¬ own p.block) : w'.cell? p = some v :=
  (World.cell?_of_block (w := w) (h.block p.block (lt_of_cell hv) hb)).trans hv

/-- The words of a payload. -/
def vals (P : Nat → Nat → Nat) (k n : Nat) : List Value := (List.range n).map fun i => .int .u64 (P k i : Nat)
theorem vals_len (P : Nat → Nat → Nat) (k n : Nat) : (vals P k n).length = n := by simp [vals]
theorem vals_snoc (P : Nat → Nat → Nat) (k n : Nat) : vals P k (n + 1) = vals P k n ++ [.int .u64 (P k n : Nat)] := by
  unfold vals; rw [List.range_succ, List.map_append]; rfl
theorem vals_at (P : Nat → Nat → Nat) (k n j : Nat) (h : j < n) : (vals P k n)[j]? = some (.int .u64 (P k j : Nat)) := by
  unfold vals
  rw [List.getElem?_map, List.getElem?_range h]; rfl

/-- The four errors of package reg, in their order; different ones. -/
abbrev errV (a : Addr) : Value := .iface 108 (.pointer (some a))
structure Rg (a : Nat → Addr) (B : Nat) (w : World) : Prop where
  low : 4 ≤ B
  size : B ≤ w.heap.size
  e1 : w.cell? ⟨0, 0, none⟩ = some (errV (a 1))
  e2 : w.cell? ⟨1, 0, none⟩ = some (errV (a 2))
  e3 : w.cell? ⟨2, 0, none⟩ = some (errV (a 3))
  e4 : w.cell? ⟨3, 0, none⟩ = some (errV (a 4))
  ne : ∀ i k, 1 ≤ k → k < i → i ≤ 4 → a k ≠ a i
  row : ∀ i, 1 ≤ i → i ≤ 4 → (a i).block < B ∧ ∃ c t, w.heap[(a i).block]? = some (.cells c t (0, 0))
theorem Rg.fr {a : Nat → Addr} {B : Nat} {own : Nat → Prop} {w w' : World} (h : Rg a B w) (k : Fr own w w') (ho : ∀ i, own i → B ≤ i) : Rg a B w' := by
  have hl := h.low
  refine ⟨hl, Nat.le_trans h.size k.size, k.held h.e1 (fun e => ?_), k.held h.e2 (fun e => ?_), k.held h.e3 (fun e => ?_), k.held h.e4 (fun e => ?_), h.ne, fun i h1 h4 => ?_⟩
  · have : B ≤ 0 := ho _ e
    omega
  · have : B ≤ 1 := ho _ e
    omega
  · have : B ≤ 2 := ho _ e
    omega
  · have : B ≤ 3 := ho _ e
    omega
  · obtain ⟨hb, c, t, hr⟩ := h.row i h1 h4
    exact ⟨hb, c, t, (k.block _ (Nat.lt_of_lt_of_le hb h.size) (fun e => by have := ho _ e; omega)).trans hr⟩
theorem Rg.below {a : Nat → Addr} {B : Nat} {w w' : World} (h : Rg a B w) (k : Below w.heap.size w w') : Rg a B w' := h.fr (Fr.of_below (own := fun _ => False) k) (fun _ e => e.elim)

theorem kCompE : (Tryd.prog.info? 108).map (·.comparable) = some true := by kernel_rfl
theorem kSizeE : (Tryd.prog.info? 134).map (·.size) = some 1 := by kernel_rfl
theorem eql_err (x y : Addr) (w : World) (hx : ∃ c t, w.heap[x.block]? = some (.cells c t (0, 0))) (hy : ∃ c t, w.heap[y.block]? = some (.cells c t (0, 0))) :
    (binOp BinOp.eql 48 (errV x) (errV y)).run Tryd.prog w = .ok (.bool (decide (x = y))) w := by
  obtain ⟨i, hi, hcmp⟩ := Option.map_eq_some_iff.1 kCompE
  obtain ⟨j, hj, hjs⟩ := Option.map_eq_some_iff.1 kSizeE
  obtain ⟨ca, ta, ha⟩ := hx
  obtain ⟨cb, tb, hb⟩ := hy
  by_cases h : x = y
  · subst h
    rw [decide_eq_true rfl]
    exact run_eql_iface_ptr_same (P := Tryd.prog) w x Tryd.underlying48 Tryd.underlying108 hi hcmp hj
  · rw [decide_eq_false h]
    exact run_eql_iface_ptr_other (P := Tryd.prog) w Tryd.underlying48 Tryd.underlying108 hi hcmp hj (by rw [hjs]; decide) h ha hb
set_option maxHeartbeats 1000000 in
theorem number_nil (w : World) : Calls Tryd.prog 16 #[.nilIface] w fun e w' => e = .returned (.int .i64 0) ∧ Below w.heap.size w w' := by
  go_enter Tryd.func16, Tryd.ntmps16
  go_wp2
  go_ret
  exact ⟨rfl, Below.refl _ _⟩
set_option maxHeartbeats 2000000 in
theorem number_err (a : Nat → Addr) (B : Nat) (k : Nat) (h1 : 1 ≤ k) (h4 : k ≤ 4) (w : World) (R : Rg a B w) : Calls Tryd.prog 16 #[errV (a k)] w fun e w' => e = .returned (.int .i64 (k : Nat)) ∧ Below w.heap.size w w' := by
  have HR : Hid (Rg a B w) := R
  obtain ⟨_, _, e1, e2, e3, e4, _, _⟩ := R
  have HE : Hid (∀ w', Below w.heap.size w w' → ∀ j, j < 4 → (binOp BinOp.eql 48 (errV (a k)) (errV (a (j + 1)))).run Tryd.prog w' = .ok (.bool (decide (k = j + 1))) w') := by
    intro w' hw j hj
    have h := HR.out.below hw
    have := eql_err (a k) (a (j + 1)) w' (h.row k h1 h4).2 (h.row (j + 1) (by omega) (by omega)).2
    rw [this]
    have e : decide (a k = a (j + 1)) = decide (k = j + 1) := by
      rcases Nat.lt_trichotomy k (j + 1) with c | c | c
      · rw [decide_eq_false (h.ne (j + 1) k h1 c (by omega)), decide_eq_false (by omega)]
      · rw [← c, decide_eq_true rfl, decide_eq_true rfl]
      · rw [decide_eq_false (fun e => h.ne k (j + 1) (by omega) c h4 e.symm), decide_eq_false (by omega)]
    rw [e]
  have HB : Hid (Below w.heap.size w (w.alloc (.cells #[errV (a 1), errV (a 2), errV (a 3), errV (a 4)] 48))) := (Below.refl _ _).alloc (Nat.le_refl _) _
  have HC : Hid (∀ j, j < 4 → (w.alloc (.cells #[errV (a 1), errV (a 2), errV (a 3), errV (a 4)] 48)).cell? ⟨w.heap.size, j, none⟩ = some (errV (a (j + 1)))) := by
    intro j hj
    match j, hj with
    | 0, _ => simp
    | 1, _ => simp
    | 2, _ => simp
    | 3, _ => simp
  go_enter Tryd.func16, Tryd.ntmps16
  go_wp2
  generalize w.alloc (.cells #[errV (a 1), errV (a 2), errV (a 3), errV (a 4)] 48) = W at HB HC ⊢
  clear e1 e2 e3 e4 HR
  go_loopg [13] 4 (fun g s13 wr => ∃ j : Nat, j < k ∧ s13 = .int .i64 j ∧ g = 4 - j ∧ wr = W)
  case atStart => exact ⟨0, by omega, rfl, rfl, rfl⟩
  case round =>
    obtain ⟨j, hj, rfl, hg, rfl⟩ := hrel
    have HG : Hid (gk = 4 - j) := hg
    clear hg
    have hc := HC.out j (by omega)
    have he := HE.out _ HB.out j (by omega)
    have hlt : (j : Int) < 4 := by omega
    by_cases hk : k = j + 1
    · have hd : decide (k = j + 1) = true := decide_eq_true hk
      rw [hd] at he
      have HK : Hid (k = j + 1) := hk
      clear hk hd
      go_wp2
      go_ret
      refine ⟨?_, HB.out⟩
      rw [HK.out]; rfl
    · have hd : decide (k = j + 1) = false := decide_eq_false hk
      rw [hd] at he
      have HK : Hid (k ≠ j + 1) := hk
      clear hk hd
      go_wp2
      go_roundg (4 - (j + 1))
      case measure => have := HG.out; omega
      case rel => exact ⟨j + 1, by have := HK.out; omega, by go_num, rfl, rfl⟩

end Go.Proofs.YtgaepakdhdfdfaaDoor
