/-
  The place of the token that is seen: here, atomHere.
-/
import Derived.Test.YtfoabfffmjljmaaGreatDoorPrim
import Derived.Test.YtfoabfffmjljmaaGreatDoorPap
namespace Go.Proofs.YtfoabfffmjljmaaGreatDoor
open Go.RowKit

set_option maxHeartbeats 400000 in
theorem here_any (b : Nat) (s : ByteArray) (st : Mil.St) (w : World) (h : RdS w b s st) :
    Calls Tryz.prog 52 #[.pointer (some ⟨b, 0, none⟩)] w fun e w' => e = .returned (.agg #[.int .i64 (place s.size st)]) ∧ Below w.heap.size w w' := by
  obtain ⟨p, tp, x, hp, hR, hr, hx, hn⟩ := h
  have HB : Hid (Below w.heap.size w (w.alloc (.cells #[.int .i64 tp] 102))) := (Below.refl _ _).alloc (Nat.le_refl _) _
  have c4 := hR.c4
  have hlt : b < w.heap.size := lt_of_cell hR.c4
  have c4' : (w.alloc (.cells #[.int .i64 0] 102)).cell? ⟨b, 4, none⟩ = some (.int .i64 tp) := (((Below.refl w.heap.size w).alloc (Nat.le_refl _) _).cell hlt).trans c4
  have HT : Hid (tp = place s.size st) := hn.2.2
  clear hR hn hx hr
  go_enter Tryz.func52, Tryz.ntmps52
  go_wp2
  exact bodyPost_ret (v := .agg #[.int .i64 tp]) (by simp [results, Tryz.results52, go_sem]) rfl ⟨by rw [HT.out], HB.out⟩
set_option maxHeartbeats 400000 in
theorem atomHere_any (b : Nat) (s : ByteArray) (st : Mil.St) (w : World) (h : RdS w b s st) :
    Calls Tryz.prog 50 #[.pointer (some ⟨b, 0, none⟩)] w fun e w' => e = .returned (.agg #[.int .i64 (place s.size st)]) ∧ Below w.heap.size w w' := by
  have hlt : b < w.heap.size := by
    obtain ⟨p, tp, x, hp, hR, _⟩ := h
    exact lt_of_cell hR.c4
  have HB : Hid (Below w.heap.size w (w.alloc (.cells #[.int .i64 0] 104))) := (Below.refl _ _).alloc (Nat.le_refl _) _
  have H : Hid (RdS (w.alloc (.cells #[.int .i64 0] 104)) b s st) := h.kept (Kp.of_below (b := b + 1) HB.out) (by omega)
  have HN : Hid ((w.alloc (.cells #[.int .i64 0] 104)).heap[w.heap.size]? = some (.cells #[.int .i64 0] 104 (0, 0))) := heap_alloc_new w _
  clear h
  go_enter Tryz.func50, Tryz.ntmps50
  go_wp2_with fail
  refine (here_any b s st _ H.out).mono ?_
  rintro e w1 ⟨rfl, hb1⟩
  have B1 : Hid (Below w.heap.size w w1) := HB.out.trans (hb1.mono HB.out.size)
  have hn : w1.heap[w.heap.size]? = some (.cells #[.int .i64 0] 104 (0, 0)) := (hb1.block _ (Array.getElem?_eq_some_iff.1 HN.out).1).trans HN.out
  have r0 : w1.cell? ⟨w.heap.size, 0, none⟩ = some (.int .i64 0) := (cell_of_row _ _ 0 _ _ _ hn).trans rfl
  have z0 : w1.frozen? ⟨w.heap.size, 0, none⟩ = false := by unfold World.frozen?; rw [hn]; simp
  clear hb1 hn
  go_wp2
  have r1 : (w1.setCell ⟨w.heap.size, 0, none⟩ (.int .i64 (place s.size st))).cell? ⟨w.heap.size, 0, none⟩ = some (.int .i64 (place s.size st)) := World.cell?_setCell_same _ _ _ r0
  exact bodyPost_ret (v := .agg #[.int .i64 (place s.size st)]) (by simp [results, Tryz.results50, go_sem, r1]) rfl ⟨rfl, B1.out.setCell (p := ⟨w.heap.size, 0, none⟩) (Nat.le_refl _) _⟩
/-- What a call is worth behind its first step, where a place is laid aside in a new block. -/
structure Hd (a : Nat → Addr) (b : Nat) (s : ByteArray) (st : Mil.St) (w v : World) (q : Int) (k : Nat) : Prop where
  kp : Kp b w v
  rd : RdS v b s st
  laid : Laid a v
  cell : v.cell? ⟨k, 0, none⟩ = some (.int .i64 q)
  ne : k ≠ b
theorem head_facts {a : Nat → Addr} {b : Nat} {s : ByteArray} {st : Mil.St} {w w0 : World} {ty : TypeId} {q : Int} (L : Laid a w) (hb : 23 ≤ b) (h : RdS w b s st) (hw : Below w.heap.size w w0) :
    Hd a b s st w (w0.alloc (.cells #[.int .i64 q] ty)) q w0.heap.size := by
  have hlt : b < w.heap.size := by
    obtain ⟨p, tp, x, hp, hR, _⟩ := h
    exact lt_of_cell hR.c4
  have B1 : Below w.heap.size w (w0.alloc (.cells #[.int .i64 q] ty)) := hw.alloc hw.size _
  have := hw.size
  exact ⟨Kp.of_below B1, h.kept (Kp.of_below (b := b + 1) B1) (by omega), L.kept (Kp.of_below (b := b) B1) hb, by simp, by omega⟩
theorem place_off (n : Nat) (st : Mil.St) : place n st = (n : Int) - (Mip.off st : Nat) := by
  unfold place Mip.off; omega
end Go.Proofs.YtfoabfffmjljmaaGreatDoor
