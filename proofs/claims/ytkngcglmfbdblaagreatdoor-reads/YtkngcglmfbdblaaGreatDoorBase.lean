/-
  The reader in memory; what a call leaves as it was.
-/
import Derived.Test.YtkngcglmfbdblaaGreatDoorProg
import Derived.KernelRfl
import Derived.RowKit
import Derived.Test.YtkngcglmfbdblaaGreatDoorPap
import Derived.WalkKit
import Derived.WalkSpells
import Derived.WalkLawsBesides
import Derived.Deep.LoopGhost
import Derived.Deep.CutRange
import Derived.Deep.QuietTactic
import Derived.BigQuiet
namespace Go.Proofs.YtkngcglmfbdblaaGreatDoor
open Go.RowKit

/-- All blocks that there were are as they were, but for block b. -/
structure Kp (b : Nat) (w w' : World) : Prop where
  os : w'.os = w.os
  tape : w'.tape = w.tape
  output : w'.output = w.output
  size : w.heap.size ≤ w'.heap.size
  block : ∀ k, k < w.heap.size → k ≠ b → w'.heap[k]? = w.heap[k]?

theorem Kp.refl (b : Nat) (w : World) : Kp b w w := ⟨rfl, rfl, rfl, Nat.le_refl _, fun _ _ _ => rfl⟩
theorem Kp.trans {b : Nat} {u v w : World} (h : Kp b u v) (k : Kp b v w) : Kp b u w :=
  ⟨k.os.trans h.os, k.tape.trans h.tape, k.output.trans h.output, Nat.le_trans h.size k.size, fun i h1 h2 => (k.block i (Nat.lt_of_lt_of_le h1 h.size) h2).trans (h.block i h1 h2)⟩
theorem Kp.of_below {b : Nat} {w w' : World} (h : Below w.heap.size w w') : Kp b w w' := ⟨h.os, h.tape, h.output, h.size, fun k h1 _ => h.block k h1⟩
theorem Kp.drew {b : Nat} {u w : World} (h : Kp b u w) : Kp b u w.drew := ⟨h.os, h.tape, h.output, h.size, h.block⟩
theorem Kp.drewN {b : Nat} {u w : World} (h : Kp b u w) (n : Nat) : Kp b u (w.drewN n) := h.trans (Kp.of_below (below_drewN (Below.refl _ _) n))
theorem Kp.setCell {b : Nat} {u w : World} (h : Kp b u w) (o : Nat) (v : Value) : Kp b u (w.setCell ⟨b, o, none⟩ v) :=
  ⟨h.os, h.tape, h.output, by simpa using h.size, fun k h1 h2 => (Below.heap_setCell w ⟨b, o, none⟩ v k h2).trans (h.block k h1 h2)⟩
theorem Kp.alloc {b : Nat} {u w : World} (h : Kp b u w) (o : Obj) : Kp b u (w.alloc o) :=
  ⟨h.os, h.tape, h.output, by simp; have := h.size; omega, fun k h1 h2 => (Below.heap_alloc w o k (Nat.lt_of_lt_of_le h1 h.size)).trans (h.block k h1 h2)⟩
theorem Kp.setNew {b : Nat} {u w : World} (h : Kp b u w) {r : Nat} (hr : u.heap.size ≤ r) (o : Nat) (v : Value) : Kp b u (w.setCell ⟨r, o, none⟩ v) :=
  ⟨h.os, h.tape, h.output, by simpa using h.size, fun k h1 h2 => (Below.heap_setCell w ⟨r, o, none⟩ v k (by show k ≠ r; omega)).trans (h.block k h1 h2)⟩
theorem Kp.cell {b : Nat} {w w' : World} (h : Kp b w w') {p : Addr} (hp : p.block < w.heap.size) (hb : p.block ≠ b) : w'.cell? p = w.cell? p := World.cell?_of_block (w := w) (h.block p.block hp hb)
theorem lt_of_cell {w : World} {p : Addr} {v : Value} (h : w.cell? p = some v) : p.block < w.heap.size := by
  rcases Nat.lt_or_ge p.block w.heap.size with h' | h'
  · exact h'
  · obtain ⟨k, o, s⟩ := p
    cases s <;> simp [World.cell?, Array.getElem?_eq_none h'] at h
theorem Kp.held {b : Nat} {w w' : World} (h : Kp b w w') {p : Addr} {v : Value} (hv : w.cell? p = some v) (hb : p.block ≠ b) : w'.cell? p = some v := (h.cell (lt_of_cell hv) hb).trans hv

/-- A reader: its text, its place, its count; its token. -/
structure Rd (w : World) (b : Nat) (s : ByteArray) (p n : Nat) (k tp : Int) (x : ByteArray) (v : Int) : Prop where
  c0 : w.cell? ⟨b, 0, none⟩ = some (.string s)
  c1 : w.cell? ⟨b, 1, none⟩ = some (.int .i64 p)
  c2 : w.cell? ⟨b, 2, none⟩ = some (.int .i64 n)
  c3 : w.cell? ⟨b, 3, none⟩ = some (.int .i64 k)
  c4 : w.cell? ⟨b, 4, none⟩ = some (.int .i64 tp)
  c5 : w.cell? ⟨b, 5, none⟩ = some (.string x)
  c6 : w.cell? ⟨b, 6, none⟩ = some (.int .i64 v)
  fz : ∀ o, w.frozen? ⟨b, o, none⟩ = false

theorem Rd.drewN {w : World} {b : Nat} {s : ByteArray} {p n : Nat} {k tp : Int} {x : ByteArray} {v : Int} (h : Rd w b s p n k tp x v) (q : Nat) : Rd (w.drewN q) b s p n k tp x v := by
  have hb := below_drewN (Below.refl w.heap.size w) q
  have hlt : b < w.heap.size := lt_of_cell h.c0
  exact ⟨(hb.cell hlt).trans h.c0, (hb.cell hlt).trans h.c1, (hb.cell hlt).trans h.c2, (hb.cell hlt).trans h.c3, (hb.cell hlt).trans h.c4, (hb.cell hlt).trans h.c5, (hb.cell hlt).trans h.c6, fun o => (hb.frozen hlt).trans (h.fz o)⟩
theorem Rd.kept {w w' : World} {b c : Nat} {s : ByteArray} {p n : Nat} {k tp : Int} {x : ByteArray} {v : Int} (h : Rd w b s p n k tp x v) (hk : Kp c w w') (hc : b ≠ c) : Rd w' b s p n k tp x v := by
  have hlt : b < w.heap.size := lt_of_cell h.c0
  have cell : ∀ o, w'.cell? ⟨b, o, none⟩ = w.cell? ⟨b, o, none⟩ := fun o => hk.cell (p := ⟨b, o, none⟩) hlt hc
  have fr : ∀ o, w'.frozen? ⟨b, o, none⟩ = w.frozen? ⟨b, o, none⟩ := fun o => World.frozen?_of_block (w := w) (hk.block b hlt hc)
  exact ⟨(cell 0).trans h.c0, (cell 1).trans h.c1, (cell 2).trans h.c2, (cell 3).trans h.c3, (cell 4).trans h.c4, (cell 5).trans h.c5, (cell 6).trans h.c6, fun o => (fr o).trans (h.fz o)⟩
/-- The same behind four stores into another block. -/
theorem Rd.four {w : World} {b r : Nat} {s : ByteArray} {p n : Nat} {k tp : Int} {x : ByteArray} {v : Int} (h : Rd w b s p n k tp x v) (hr : b ≠ r) (v0 v1 v2 v3 : Value) :
    Rd ((((w.setCell ⟨r, 0, none⟩ v0).setCell ⟨r, 1, none⟩ v1).setCell ⟨r, 2, none⟩ v2).setCell ⟨r, 3, none⟩ v3) b s p n k tp x v :=
  h.kept (((((Kp.refl r w).setCell 0 v0).setCell 1 v1).setCell 2 v2).setCell 3 v3) hr
theorem Kp.four {b r : Nat} {u w : World} (h : Kp b u w) (hr : u.heap.size ≤ r) (v0 v1 v2 v3 : Value) :
    Kp b u ((((w.setCell ⟨r, 0, none⟩ v0).setCell ⟨r, 1, none⟩ v1).setCell ⟨r, 2, none⟩ v2).setCell ⟨r, 3, none⟩ v3) :=
  (((h.setNew hr 0 v0).setNew hr 1 v1).setNew hr 2 v2).setNew hr 3 v3
theorem Rd.set1 {w : World} {b : Nat} {s : ByteArray} {p n : Nat} {k tp : Int} {x : ByteArray} {v : Int} (h : Rd w b s p n k tp x v) (q : Nat) : Rd (w.setCell ⟨b, 1, none⟩ (.int .i64 q)) b s q n k tp x v := by
  have fr : ∀ o, (w.setCell ⟨b, 1, none⟩ (.int .i64 q)).frozen? ⟨b, o, none⟩ = false := fun o => by simp [h.fz]
  have oth : ∀ o, o ≠ 1 → (w.setCell ⟨b, 1, none⟩ (.int .i64 q)).cell? ⟨b, o, none⟩ = w.cell? ⟨b, o, none⟩ := fun o ho => World.cell?_setCell_other _ ⟨b, 1, none⟩ ⟨b, o, none⟩ _ (fun e => ho (by cases e; rfl))
  exact ⟨(oth 0 (by decide)).trans h.c0, World.cell?_setCell_same _ _ _ h.c1, (oth 2 (by decide)).trans h.c2, (oth 3 (by decide)).trans h.c3, (oth 4 (by decide)).trans h.c4, (oth 5 (by decide)).trans h.c5, (oth 6 (by decide)).trans h.c6, fr⟩

theorem Rd.step1 {w : World} {b : Nat} {s : ByteArray} {p n : Nat} {k tp : Int} {x : ByteArray} {v : Int} (h : Rd w b s p n k tp x v) : Rd (w.setCell ⟨b, 1, none⟩ (.int .i64 ((p : Int) + 1))) b s (p + 1) n k tp x v := by
  have := h.set1 (p + 1)
  rwa [show ((p + 1 : Nat) : Int) = (p : Int) + 1 from by omega] at this

end Go.Proofs.YtkngcglmfbdblaaGreatDoor
