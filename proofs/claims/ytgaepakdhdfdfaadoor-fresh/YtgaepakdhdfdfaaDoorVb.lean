/-
  A register in memory: what is common to all kinds; what the cells of a kind must do.
-/
import Derived.Test.YtgaepakdhdfdfaaDoorVa
import Derived.Laws.OwnMore
namespace Go.Proofs.YtgaepakdhdfdfaaDoor
open Go.RowKit

abbrev slV (k n c : Nat) : Value := .slice (some ⟨k, 0, none⟩) n c
abbrev nilS : Value := .slice none 0 0
/-- A writing: the steps that are left, all steps; its payload. -/
def Wkw (w : World) (n l T : Nat) (g : Nat → Nat) (W : Option Nat) (v x : Value) : Prop :=
  (l = 0 ∧ W = none ∧ v = nilS ∧ x = .int .i64 0) ∨ (0 < l ∧ ∃ k c, W = some k ∧ v = slV k n c ∧ x = .int .i64 ((T - l : Nat) : Int) ∧ Rw w k n g)
/-- A reading: and what has been read. -/
def Wkr (w : World) (n l T : Nat) (A : List Nat) (W : Option Nat) (v x : Value) : Prop :=
  (l = 0 ∧ W = none ∧ v = nilS ∧ x = .int .i64 0) ∨ (0 < l ∧ ∃ k c g, W = some k ∧ v = slV k n c ∧ x = .int .i64 ((T - l : Nat) : Int) ∧ Rw w k n g ∧ ∀ i y, A[i]? = some y → g i = y)
theorem Wkw.heap {w w' : World} {n l T : Nat} {g : Nat → Nat} {W : Option Nat} {v x : Value} (h : Wkw w n l T g W v x) (e : ∀ k, W = some k → w'.heap[k]? = w.heap[k]?) : Wkw w' n l T g W v x := by
  rcases h with h | ⟨h0, k, c, h1, h2, h3, h4⟩
  · exact Or.inl h
  · exact Or.inr ⟨h0, k, c, h1, h2, h3, h4.heap (e k h1)⟩
theorem Wkr.heap {w w' : World} {n l T : Nat} {A : List Nat} {W : Option Nat} {v x : Value} (h : Wkr w n l T A W v x) (e : ∀ k, W = some k → w'.heap[k]? = w.heap[k]?) : Wkr w' n l T A W v x := by
  rcases h with h | ⟨h0, k, c, g, h1, h2, h3, h4, h5⟩
  · exact Or.inl h
  · exact Or.inr ⟨h0, k, c, g, h1, h2, h3, h4.heap (e k h1), h5⟩
theorem Wkw.lt {w : World} {n l T : Nat} {g : Nat → Nat} {W : Option Nat} {v x : Value} (h : Wkw w n l T g W v x) (k : Nat) (e : W = some k) : k < w.heap.size := by
  rcases h with ⟨_, h, _⟩ | ⟨_, k', c, h1, _, _, h4⟩
  · rw [h] at e; cases e
  · rw [h1] at e; cases e; exact h4.lt
theorem Wkr.lt {w : World} {n l T : Nat} {A : List Nat} {W : Option Nat} {v x : Value} (h : Wkr w n l T A W v x) (k : Nat) (e : W = some k) : k < w.heap.size := by
  rcases h with ⟨_, h, _⟩ | ⟨_, k', c, g, h1, _, _, h4, _⟩
  · rw [h] at e; cases e
  · rw [h1] at e; cases e; exact h4.lt

/-- How the cells of a kind lie: their blocks, the world, where they are, what they stand for. -/
abbrev KK (Q : Type) : Type := List Nat → World → Nat → Q → Prop
/-- A kind: all steps of a writing, of a reading; the payload that is written, what has been read. -/
structure Kd (Q : Type) where
  m : Reg.Mach Q
  K : KK Q
  WT : Nat → Nat
  RT : Nat → Nat
  pay : Q → Nat → Nat
  acc : Q → List Nat
def Good {Q : Type} (m : Reg.Mach Q) (s : Q) : Prop := ∃ Y b e f l, m.Inv Y s b e f l
/-- What the cells of a kind must do. -/
structure Cc {Q : Type} (D : Kd Q) (fw fr : FuncId) : Prop where
  wt0 : ∀ n, D.WT n ≠ 0
  rt0 : ∀ n, D.RT n ≠ 0
  kept : ∀ {CB w w' f s}, D.K CB w f s → (∀ k ∈ CB, w'.heap[k]? = w.heap[k]?) → D.K CB w' f s
  lt : ∀ {CB w f s}, D.K CB w f s → ∀ k ∈ CB, k < w.heap.size
  begW : ∀ {CB w f s} (v : Nat → Nat), D.K CB w f s → D.m.wl s = 0 → D.K CB w f (D.m.write s v) ∧ (∀ i, i < D.m.width s → D.pay (D.m.write s v) i = v i) ∧ D.m.wl (D.m.write s v) = D.WT (D.m.width s) ∧ D.acc (D.m.write s v) = D.acc s ∧ D.m.width (D.m.write s v) = D.m.width s ∧ D.m.rl (D.m.write s v) = D.m.rl s
  begR : ∀ {CB w f s}, D.K CB w f s → D.m.rl s = 0 → D.K CB w f (D.m.read s) ∧ D.m.rl (D.m.read s) = D.RT (D.m.width s) ∧ D.pay (D.m.read s) = D.pay s ∧ D.acc (D.m.read s) = [] ∧ D.m.width (D.m.read s) = D.m.width s ∧ D.m.wl (D.m.read s) = D.m.wl s
  payW : ∀ s, D.pay (D.m.stepW s) = D.pay s
  payR : ∀ s, D.pay (D.m.stepR s) = D.pay s
  accW : ∀ s, D.acc (D.m.stepW s) = D.acc s
  top : ∀ s, Good D.m s → D.m.wl s ≤ D.WT (D.m.width s) ∧ D.m.rl s ≤ D.RT (D.m.width s) ∧ D.WT (D.m.width s) ≤ D.m.width s + 4 ∧ D.RT (D.m.width s) ≤ D.m.width s + 4
  write : ∀ {CB w f s} (kw c : Nat), D.K CB w f s → CB.Nodup → Good D.m s → D.m.width s ≤ 40 → 0 < D.m.wl s → kw ∉ CB → Rw w kw (D.m.width s) (D.pay s) →
    Calls Tryd.prog fw #[.pointer (some ⟨f, 0, none⟩), .int .i64 ((D.WT (D.m.width s) - D.m.wl s : Nat) : Int), slV kw (D.m.width s) c] w fun E w' =>
      E = .returned (.bool (D.m.wl s == 1)) ∧ D.K CB w' f (D.m.stepW s) ∧ Fr (fun k => k ∈ CB) w w'
  read : ∀ {CB w f s} (kr c : Nat) (g : Nat → Nat), D.K CB w f s → CB.Nodup → Good D.m s → D.m.width s ≤ 40 → 0 < D.m.rl s → kr ∉ CB → Rw w kr (D.m.width s) g → (∀ i y, (D.acc s)[i]? = some y → g i = y) →
    Calls Tryd.prog fr #[.pointer (some ⟨f, 0, none⟩), .int .i64 ((D.RT (D.m.width s) - D.m.rl s : Nat) : Int), slV kr (D.m.width s) c] w fun E w' =>
      E = .returned (.bool (D.m.rl s == 1)) ∧ D.K CB w' f (D.m.stepR s) ∧ Fr (fun k => k ∈ CB ∨ k = kr) w w' ∧ ∃ g', Rw w' kr (D.m.width s) g' ∧ (1 < D.m.rl s → ∀ i y, (D.acc (D.m.stepR s))[i]? = some y → g' i = y) ∧ (D.m.rl s = 1 → ∀ i y, (D.m.out s)[i]? = some y → g' i = y)

/-- A register of a kind. -/
abbrev blkR (n : Nat) (tc : TypeId) (f : Nat) (wv wx rv rx : Value) : Array Value := #[.int .i64 (n : Nat), .iface tc (.pointer (some ⟨f, 0, none⟩)), wv, wx, rv, rx]
structure Ri {Q : Type} (D : Kd Q) (tc : TypeId) (own : Nat → Prop) (w : World) (r : Nat) (s : Q) (f : Nat) (CB : List Nat) (W Z : Option Nat) (wv wx rv rx : Value) : Prop where
  nd : CB.Nodup
  r1 : r ∉ CB
  r2 : W ≠ some r
  r3 : Z ≠ some r
  q1 : ∀ k, W = some k → k ∉ CB
  q2 : ∀ k, Z = some k → k ∉ CB
  q3 : ∀ k, W = some k → Z ≠ some k
  ow : ∀ k, own k ↔ (k = r ∨ k ∈ CB ∨ W = some k ∨ Z = some k)
  bk : Bk w r (blkR (D.m.width s) tc f wv wx rv rx) 65
  ce : D.K CB w f s
  wk : Wkw w (D.m.width s) (D.m.wl s) (D.WT (D.m.width s)) (D.pay s) W wv wx
  rk : Wkr w (D.m.width s) (D.m.rl s) (D.RT (D.m.width s)) (D.acc s) Z rv rx
def Rall {Q : Type} (D : Kd Q) (tc : TypeId) : Reg.RR Q := fun own w r s => ∃ f CB W Z wv wx rv rx, Ri D tc own w r s f CB W Z wv wx rv rx

theorem rall_kept {Q : Type} {D : Kd Q} {tc : TypeId} {fw fr : FuncId} (C : Cc D fw fr) {own : Nat → Prop} {w w' : World} {r : Nat} {s : Q} (h : Rall D tc own w r s) (hk : ∀ k, own k → w'.heap[k]? = w.heap[k]?) : Rall D tc own w' r s := by
  obtain ⟨f, CB, W, Z, wv, wx, rv, rx, h⟩ := h
  have o := fun k => (h.ow k).2
  exact ⟨f, CB, W, Z, wv, wx, rv, rx, h.nd, h.r1, h.r2, h.r3, h.q1, h.q2, h.q3, h.ow, h.bk.heap (hk _ (o _ (Or.inl rfl))), C.kept h.ce (fun k hc => hk k (o k (Or.inr (Or.inl hc)))), h.wk.heap (fun k e => hk k (o k (Or.inr (Or.inr (Or.inl e))))), h.rk.heap (fun k e => hk k (o k (Or.inr (Or.inr (Or.inr e)))))⟩
theorem Ri.lt {Q : Type} {D : Kd Q} {tc : TypeId} {fw fr : FuncId} (C : Cc D fw fr) {own : Nat → Prop} {w : World} {r : Nat} {s : Q} {f : Nat} {CB : List Nat} {W Z : Option Nat} {wv wx rv rx : Value} (h : Ri D tc own w r s f CB W Z wv wx rv rx) (k : Nat) (hk : own k) : k < w.heap.size := by
  rcases (h.ow k).1 hk with e | e | e | e
  · subst e; exact h.bk.lt
  · exact C.lt h.ce k e
  · exact h.wk.lt k e
  · exact h.rk.lt k e
theorem rall_own {Q : Type} {D : Kd Q} {tc : TypeId} {fw fr : FuncId} (C : Cc D fw fr) {own : Nat → Prop} {w : World} {r : Nat} {s : Q} (h : Rall D tc own w r s) (k : Nat) (hk : own k) : k < w.heap.size := by
  obtain ⟨f, CB, W, Z, wv, wx, rv, rx, h⟩ := h
  exact h.lt C k hk

set_option maxRecDepth 100000 in
set_option maxHeartbeats 2000000 in
theorem clone_any {w : World} (v : Value) (n : Nat) (P : Nat → Nat → Nat) (kk : Nat) (hn1 : 1 ≤ n) (hn : n ≤ 40) (hv : Ls w v n (vals P kk n)) :
    Calls Tryd.prog 28 #[v] w fun E w' => ∃ k c, E = .returned (slV k n c) ∧ w.heap.size ≤ k ∧ Rw w' k n (P kk) ∧ Below w.heap.size w w' := by
  obtain ⟨i0, hi, hz0, hz1, hz2⟩ := info_parts Tryd.infoU
  obtain ⟨g, o, c, rfl, hl, hc, h1c⟩ := hv
  have HL : Hid ((vals P kk n).length = n ∧ (∀ j u, (vals P kk n)[j]? = some u → w.cell? ⟨g, o + j, none⟩ = some u) ∧ ∀ u ∈ vals P kk n, u.oneCell' = true) := ⟨hl, hc, h1c⟩
  have c4 : (0 + n) * 8 ≤ 140737488355328 := by omega
  clear hl hc h1c
  have he := Lib.run_eql_slice_nil (P := Tryd.prog) w 34 33 (some ⟨g, o, none⟩) n c 0 0 Tryd.underlying34
  have O0 : Hid ((w.alloc (.cells #[] 33)).ownsRow w.heap.size 33 1 (.slice (some ⟨w.heap.size, 0, none⟩) 0 0) 0 []) := World.ownsRow_lit w #[] 0 (Nat.le_refl _) (by unfold maxLen; omega) rfl
  have HB0 : Hid (Below w.heap.size w (w.alloc (.cells #[] 33))) := (Below.refl _ _).alloc (Nat.le_refl _) _
  have HC0 : Hid (∀ j u, (vals P kk n)[j]? = some u → (w.alloc (.cells #[] 33)).cell? ((⟨g, o, none⟩ : Addr).add j) = some u) := fun j u hu => by
    rw [addr_add]
    have hc := HL.out.2.1 j u hu
    exact (HB0.out.cell (lt_of_cell hc)).trans hc
  have c5 : w.heap.size ≤ (w.alloc (.cells #[] 33)).heap.size := by simp
  go_enter Tryd.func28, Tryd.ntmps28
  go_wp2_with (at_builtin; refine wpList_append_own _ rfl _ _ 34 rfl w.heap.size 33 i0 (.int .u64 0) 1 8 Tryd.underlying34 hi hz0 hz1 hz2 rfl (by decide) (.slice (some ⟨w.heap.size, 0, none⟩) 0 0) 0 [] rfl O0.out ⟨g, o, none⟩ n c (vals P kk n) rfl (by rw [HL.out.1, Nat.mul_one]) HC0.out HL.out.2.2 (by unfold maxLen; omega) c4 c5 ?_; intro v1 w1 O1 hg1 _)
  have B1 : Hid (Below w.heap.size w w1) := below_grown HB0.out hg1 (fun k hk => by cases hk; exact Nat.le_refl _)
  have O1' : w1.ownsRow w.heap.size 33 1 v1 n (vals P kk n) := by simpa using O1
  obtain ⟨_, ⟨_, h0⟩ | ⟨g1, cap1, cur1, rfl, hgb, hg1b, hcap, _, hsz, htk⟩⟩ := O1'
  · omega
  have HR : Hid (w.heap.size ≤ g1 ∧ Rw w1 g1 n (P kk)) := by
    refine ⟨hgb, cur1, hg1b, fun i hi => ?_⟩
    have hu := vals_at P kk n i hi
    rw [← htk, Nat.mul_one, List.getElem?_take, if_pos hi] at hu
    simpa using hu
  clear O1 hg1 hgb hg1b hsz htk hcap
  go_wp2_with fail
  go_ret
  exact ⟨g1, cap1, rfl, HR.out.1, HR.out.2, B1.out⟩

end Go.Proofs.YtgaepakdhdfdfaaDoor
