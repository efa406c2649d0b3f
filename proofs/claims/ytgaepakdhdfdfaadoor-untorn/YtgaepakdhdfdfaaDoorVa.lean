/-
  Package reg's small functions: blocks as they lie; atomic words; work.
-/
import Derived.Test.YtgaepakdhdfdfaaDoorPd
import Derived.Laws.LoneSync
import Derived.Deep.RegionWith
import Derived.RegionTactic
namespace Go.Proofs.YtgaepakdhdfdfaaDoor
open Go.RowKit

/-- A block as it lies. -/
def Bk (w : World) (k : Nat) (xs : Array Value) (t : TypeId) : Prop := w.heap[k]? = some (.cells xs t (0, 0))
theorem Bk.cell {w : World} {k : Nat} {xs : Array Value} {t : TypeId} (h : Bk w k xs t) (i : Nat) : w.cell? ⟨k, i, none⟩ = xs[i]? := by
  unfold World.cell?
  dsimp only
  rw [h]
  simp
theorem Bk.fz {w : World} {k : Nat} {xs : Array Value} {t : TypeId} (h : Bk w k xs t) (i : Nat) : w.frozen? ⟨k, i, none⟩ = false := by
  unfold World.frozen?
  dsimp only
  rw [h]
  simp
theorem Bk.lt {w : World} {k : Nat} {xs : Array Value} {t : TypeId} (h : Bk w k xs t) : k < w.heap.size := (Array.getElem?_eq_some_iff.1 h).1
theorem Bk.set {w : World} {k : Nat} {xs : Array Value} {t : TypeId} (h : Bk w k xs t) (i : Nat) (v : Value) : Bk (w.setCell ⟨k, i, none⟩ v) k (xs.setIfInBounds i v) t := by
  unfold Bk World.setCell
  dsimp only
  rw [Array.getElem?_modify, if_pos rfl, h]
  rfl
theorem Bk.other {w : World} {k : Nat} {xs : Array Value} {t : TypeId} (h : Bk w k xs t) {j : Nat} (hne : k ≠ j) (i : Nat) (v : Value) : Bk (w.setCell ⟨j, i, none⟩ v) k xs t :=
  (Below.heap_setCell w ⟨j, i, none⟩ v k hne).trans h
theorem Bk.heap {w w' : World} {k : Nat} {xs : Array Value} {t : TypeId} (h : Bk w k xs t) (e : w'.heap[k]? = w.heap[k]?) : Bk w' k xs t := e.trans h

/-- The first words of a row. -/
def Rw (w : World) (k n : Nat) (g : Nat → Nat) : Prop := ∃ cur, Bk w k cur 33 ∧ ∀ i, i < n → cur[i]? = some (.int .u64 (g i : Nat))
theorem Rw.cell {w : World} {k n : Nat} {g : Nat → Nat} (h : Rw w k n g) (i : Nat) (hi : i < n) : w.cell? ⟨k, i, none⟩ = some (.int .u64 (g i : Nat)) := by
  obtain ⟨cur, h1, h2⟩ := h
  rw [h1.cell, h2 i hi]
theorem Rw.fz {w : World} {k n : Nat} {g : Nat → Nat} (h : Rw w k n g) (i : Nat) : w.frozen? ⟨k, i, none⟩ = false := by
  obtain ⟨cur, h1, h2⟩ := h
  exact h1.fz i
theorem Rw.lt {w : World} {k n : Nat} {g : Nat → Nat} (h : Rw w k n g) : k < w.heap.size := by
  obtain ⟨cur, h1, h2⟩ := h
  exact h1.lt
theorem Rw.other {w : World} {k n : Nat} {g : Nat → Nat} (h : Rw w k n g) {j : Nat} (hne : k ≠ j) (i : Nat) (v : Value) : Rw (w.setCell ⟨j, i, none⟩ v) k n g := by
  obtain ⟨cur, h1, h2⟩ := h
  exact ⟨cur, h1.other hne i v, h2⟩
theorem Rw.heap {w w' : World} {k n : Nat} {g : Nat → Nat} (h : Rw w k n g) (e : w'.heap[k]? = w.heap[k]?) : Rw w' k n g := by
  obtain ⟨cur, h1, h2⟩ := h
  exact ⟨cur, h1.heap e, h2⟩
theorem Rw.congr {w : World} {k n : Nat} {g g' : Nat → Nat} (h : Rw w k n g) (e : ∀ i, i < n → g i = g' i) : Rw w k n g' := by
  obtain ⟨cur, h1, h2⟩ := h
  exact ⟨cur, h1, fun i hi => by rw [h2 i hi, e i hi]⟩
theorem Rw.set {w : World} {k n : Nat} {g : Nat → Nat} (h : Rw w k n g) (i : Nat) (hi : i < n) (x : Nat) : Rw (w.setCell ⟨k, i, none⟩ (.int .u64 (x : Nat))) k n (fun j => if j = i then x else g j) := by
  obtain ⟨cur, h1, h2⟩ := h
  refine ⟨_, h1.set i _, fun j hj => ?_⟩
  rw [Array.getElem?_setIfInBounds]
  by_cases e : j = i
  · subst e
    have hl := (Array.getElem?_eq_some_iff.1 (h2 j hi)).1
    simp [hl]
  · simp [e, Ne.symm e, h2 j hj]
theorem fr_one {w : World} (k i : Nat) (v : Value) : Fr (fun j => j = k) w (w.setCell ⟨k, i, none⟩ v) := ⟨rfl, rfl, rfl, by simp, fun j _ hj => Below.heap_setCell w ⟨k, i, none⟩ v j hj⟩
theorem fr_drewN {own : Nat → Prop} {w u : World} (h : Fr own w u) (q : Nat) : Fr own w (u.drewN q) := ⟨h.os, h.tape, h.output, h.size, h.block⟩

/-- Atomic words. -/
theorem law_load32 {w : World} {p : Addr} {x : Int} (h : w.cell? p = some (.int .u32 x)) : (callFunc 56 #[.pointer (some p)]).run Tryd.prog w = .ok (.value (.int .u32 x)) w :=
  run_call_load (P := Tryd.prog) Tryd.func56 (by kernel_rfl) (by kernel_rfl) (by kernel_rfl) .u32 (by kernel_rfl) h
theorem law_load64 {w : World} {p : Addr} {x : Int} (h : w.cell? p = some (.int .u64 x)) : (callFunc 66 #[.pointer (some p)]).run Tryd.prog w = .ok (.value (.int .u64 x)) w :=
  run_call_load (P := Tryd.prog) Tryd.func66 (by kernel_rfl) (by kernel_rfl) (by kernel_rfl) .u64 (by kernel_rfl) h
theorem law_store32 {w : World} {p : Addr} {u : Value} {y : Int} (h : w.cell? p = some u) (hz : w.frozen? p = false) : (callFunc 35 #[.pointer (some p), .int .u32 y]).run Tryd.prog w = .ok (.value (.tuple #[])) (w.setCell p (.int .u32 y)) :=
  run_call_store (P := Tryd.prog) Tryd.func35 (by kernel_rfl) (by kernel_rfl) (by kernel_rfl) (by kernel_rfl) h hz
theorem law_store64 {w : World} {p : Addr} {u : Value} {y : Int} (h : w.cell? p = some u) (hz : w.frozen? p = false) : (callFunc 36 #[.pointer (some p), .int .u64 y]).run Tryd.prog w = .ok (.value (.tuple #[])) (w.setCell p (.int .u64 y)) :=
  run_call_store (P := Tryd.prog) Tryd.func36 (by kernel_rfl) (by kernel_rfl) (by kernel_rfl) (by kernel_rfl) h hz
theorem law_swap32 {w : World} {p : Addr} {x y : Int} (h : w.cell? p = some (.int .u32 x)) (hz : w.frozen? p = false) : (callFunc 62 #[.pointer (some p), .int .u32 y]).run Tryd.prog w = .ok (.value (.int .u32 x)) (w.setCell p (.int .u32 y)) := by
  rw [run_callFunc_extern (P := Tryd.prog) Tryd.func62 (by kernel_rfl) (by kernel_rfl) (by kernel_rfl) (show Extern.find _ = some (Extern.Atomic.swapT (.int .u32)) by kernel_rfl)]
  change (Sem.run Tryd.prog (do
    let a' ← asAddr (.pointer (some p))
    let old ← Extern.Atomic.read (.int .u32) a'
    store a' (.int .u32 y) .atomic
    pure old) w).andThen _ = _
  simp [Extern.Atomic.read, asAddr, h, hz, run_store Tryd.prog w p (.int .u32 y) .atomic rfl, Result.andThen]

set_option maxHeartbeats 1000000 in
theorem load32_any {w : World} (k i : Nat) (x : Int) (h : w.cell? ⟨k, i, none⟩ = some (.int .u32 x)) : Calls Tryd.prog 54 #[.pointer (some ⟨k, i, none⟩)] w fun E w' => E = .returned (.int .u32 x) ∧ w = w' := by
  have hl := law_load32 h
  go_enter Tryd.func54, Tryd.ntmps54
  go_wp2
  go_ret
  exact ⟨rfl, rfl⟩
set_option maxHeartbeats 1000000 in
theorem load64_any {w : World} (k i : Nat) (x : Int) (h : w.cell? ⟨k, i, none⟩ = some (.int .u64 x)) : Calls Tryd.prog 65 #[.pointer (some ⟨k, i, none⟩)] w fun E w' => E = .returned (.int .u64 x) ∧ w = w' := by
  have hl := law_load64 h
  go_enter Tryd.func65, Tryd.ntmps65
  go_wp2
  go_ret
  exact ⟨rfl, rfl⟩
set_option maxHeartbeats 1000000 in
theorem store32_any {w : World} (k i : Nat) (x : Int) {u : Value} (h : w.cell? ⟨k, i, none⟩ = some u) (hz : w.frozen? ⟨k, i, none⟩ = false) : Calls Tryd.prog 33 #[.pointer (some ⟨k, i, none⟩), .int .u32 x] w fun E w' => E = .returned (.tuple #[]) ∧ w' = w.setCell ⟨k, i, none⟩ (.int .u32 x) := by
  have hl := law_store32 (y := x) h hz
  go_enter Tryd.func33, Tryd.ntmps33
  go_wp2
  go_end0
  exact ⟨rfl, rfl⟩
set_option maxHeartbeats 1000000 in
theorem store64_any {w : World} (k i : Nat) (x : Int) {u : Value} (h : w.cell? ⟨k, i, none⟩ = some u) (hz : w.frozen? ⟨k, i, none⟩ = false) : Calls Tryd.prog 34 #[.pointer (some ⟨k, i, none⟩), .int .u64 x] w fun E w' => E = .returned (.tuple #[]) ∧ w' = w.setCell ⟨k, i, none⟩ (.int .u64 x) := by
  have hl := law_store64 (y := x) h hz
  go_enter Tryd.func34, Tryd.ntmps34
  go_wp2
  go_end0
  exact ⟨rfl, rfl⟩
set_option maxHeartbeats 1000000 in
theorem swap32_any {w : World} (k i : Nat) (x y : Int) (h : w.cell? ⟨k, i, none⟩ = some (.int .u32 x)) (hz : w.frozen? ⟨k, i, none⟩ = false) : Calls Tryd.prog 61 #[.pointer (some ⟨k, i, none⟩), .int .u32 y] w fun E w' => E = .returned (.int .u32 x) ∧ w' = w.setCell ⟨k, i, none⟩ (.int .u32 y) := by
  have hl := law_swap32 (y := y) h hz
  go_enter Tryd.func61, Tryd.ntmps61
  go_wp2
  go_ret
  exact ⟨rfl, rfl⟩

set_option maxHeartbeats 1000000 in
theorem made_any {w : World} (r : Nat) (t : TypeId) (x : Value) (c1 : w.cell? ⟨r, 1, none⟩ = some (.iface t x)) : Calls Tryd.prog 23 #[.pointer (some ⟨r, 0, none⟩)] w fun E w' => E = .returned (.bool true) ∧ w = w' := by
  go_enter Tryd.func23, Tryd.ntmps23
  go_wp2
  go_ret
  exact ⟨rfl, rfl⟩
set_option maxHeartbeats 1000000 in
theorem under_no {w : World} (r o : Nat) (c1 : w.cell? ⟨r, o, none⟩ = some (.slice none 0 0)) : Calls Tryd.prog 24 #[.pointer (some ⟨r, o, none⟩)] w fun E w' => E = .returned (.bool false) ∧ w = w' := by
  go_enter Tryd.func24, Tryd.ntmps24
  go_wp2
  go_ret
  exact ⟨rfl, rfl⟩
set_option maxHeartbeats 1000000 in
theorem under_yes {w : World} (r o : Nat) (p : Addr) (n c : Nat) (c1 : w.cell? ⟨r, o, none⟩ = some (.slice (some p) n c)) : Calls Tryd.prog 24 #[.pointer (some ⟨r, o, none⟩)] w fun E w' => E = .returned (.bool true) ∧ w = w' := by
  go_enter Tryd.func24, Tryd.ntmps24
  go_wp2
  go_ret
  exact ⟨rfl, rfl⟩
set_option maxHeartbeats 1000000 in
theorem begin_any {w : World} (r o : Nat) (v : Value) {u x : Value} (c1 : w.cell? ⟨r, o, none⟩ = some u) (c2 : w.cell? ⟨r, o + 1, none⟩ = some x) (z1 : w.frozen? ⟨r, o, none⟩ = false) (z2 : w.frozen? ⟨r, o + 1, none⟩ = false) (p : Option Addr) (n c : Nat) (hv : v = .slice p n c) : Calls Tryd.prog 25 #[.pointer (some ⟨r, o, none⟩), v] w fun E w' => E = .returned (.tuple #[]) ∧ w' = (w.setCell ⟨r, o, none⟩ v).setCell ⟨r, o + 1, none⟩ (.int .i64 0) := by
  subst hv
  go_enter Tryd.func25, Tryd.ntmps25
  go_wp2
  go_end0
  exact ⟨rfl, rfl⟩
set_option maxHeartbeats 1000000 in
theorem next_any {w : World} (r o : Nat) (v : Value) (d : Nat) (hd : d ≤ 100) (c1 : w.cell? ⟨r, o, none⟩ = some v) (c2 : w.cell? ⟨r, o + 1, none⟩ = some (.int .i64 d)) (z2 : w.frozen? ⟨r, o + 1, none⟩ = false) : Calls Tryd.prog 26 #[.pointer (some ⟨r, o, none⟩)] w fun E w' => E = .returned (.tuple #[.int .i64 d, v]) ∧ ∃ q, w' = (w.setCell ⟨r, o + 1, none⟩ (.int .i64 (d + 1 : Nat))).drewN q := by
  have e1 : Hid (((d : Int) + 1) = ((d + 1 : Nat) : Int)) := by show _ = _; omega
  go_enter Tryd.func26, Tryd.ntmps26
  go_wp2_with fail
  go_quiet (fail)
  go_wp2
  go_ret2
  rw [← e1.out]
  exact ⟨rfl, _, rfl⟩
set_option maxHeartbeats 1000000 in
theorem end_any {w : World} (r o : Nat) (v x : Value) (c1 : w.cell? ⟨r, o, none⟩ = some v) (c2 : w.cell? ⟨r, o + 1, none⟩ = some x) (z1 : w.frozen? ⟨r, o, none⟩ = false) (z2 : w.frozen? ⟨r, o + 1, none⟩ = false) : Calls Tryd.prog 27 #[.pointer (some ⟨r, o, none⟩)] w fun E w' => E = .returned v ∧ w' = (w.setCell ⟨r, o, none⟩ (.slice none 0 0)).setCell ⟨r, o + 1, none⟩ (.int .i64 0) := by
  go_enter Tryd.func27, Tryd.ntmps27
  go_wp2
  go_ret
  exact ⟨rfl, rfl⟩

end Go.Proofs.YtgaepakdhdfdfaaDoor
