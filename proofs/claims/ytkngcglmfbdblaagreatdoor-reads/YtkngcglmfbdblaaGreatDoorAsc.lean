/-
  errors.As, by contracts.
-/
import Derived.Test.YtkngcglmfbdblaaGreatDoorAsw
namespace Go.Proofs.YtkngcglmfbdblaaGreatDoor
open Go.RowKit Go.Extern.Stop Go.Stop Go.Extern

abbrev eTy : Value := .iface 88 (.agg #[.pointer (some ⟨24, 36, none⟩)])
def A1 (t : Addr) (w : World) : World := w.alloc (.cells #[.pointer (some t)] 56)
def A2 (t : Addr) (w : World) : World := (w.alloc (.cells #[.pointer (some t)] 56)).alloc (.cells #[hDD, .pointer (some ⟨w.heap.size, 0, none⟩), .int .u64 150] 73)
def A3 (t : Addr) (w : World) : World := ((w.alloc (.cells #[.pointer (some t)] 56)).alloc (.cells #[hDD, .pointer (some ⟨w.heap.size, 0, none⟩), .int .u64 150] 73)).alloc (.cells #[hDD, .pointer (some ⟨w.heap.size, 0, none⟩), .int .u64 150] 73)

set_option maxHeartbeats 4000000 in
theorem as_hit (e t : Addr) (old : Value) (w : World) (hg : w.cell? ⟨2, 0, none⟩ = some eTy) (ht0 : w.cell? t = some old) (hf0 : w.frozen? t = false) :
    Calls Tryz.prog 12 #[.iface 52 (.pointer (some e)), .iface 56 (.pointer (some t))] w fun ev w' => ev = .returned (.bool true) ∧ w' = ((A3 t w).alloc (.cells #[.pointer (some e)] 52)).setCell t (.pointer (some e)) := by
  have a1 := cValueT
  have a2 := cValueD
  have a3 := cTypeT
  have a4 := cKindT
  have a5 := cKindD
  have a6 := mKind
  have a7 := mElem
  have a8 := mImplements
  have a9 := mAssignableTo
  have b1 := cElemT
  have b2 := cImplD
  have b3 := cTypeOfD
  have b4 := cAssignD
  have hlt : 2 < w.heap.size := lt_of_cell hg
  have htl : t.block < w.heap.size := lt_of_cell ht0
  have n8 := cIsNil ⟨w.heap.size, 0, none⟩ t (A2 t w) (by unfold A2; simp)
  have hg2 : (A2 t w).cell? ⟨2, 0, none⟩ = some eTy := by
    unfold A2
    rw [World.cell?_alloc_lt _ _ ⟨2, 0, none⟩ (by simp; omega), World.cell?_alloc_lt _ _ ⟨2, 0, none⟩ hlt]; exact hg
  have el := cElemV ⟨w.heap.size, 0, none⟩ t (A3 t w) (by unfold A3; rw [World.cell?_alloc_lt _ _ ⟨w.heap.size, 0, none⟩ (by simp; omega)]; simp)
  have st := cSet t ⟨w.heap.size + 1 + 1 + 1, 0, none⟩ e old ((A3 t w).alloc (.cells #[.pointer (some e)] 52))
    (by unfold A3; rw [World.cell?_alloc_at _ _ _ _ (by simp)]; rfl)
    (by unfold A3; rw [World.cell?_alloc_lt _ _ t (by simp; omega), World.cell?_alloc_lt _ _ t (by simp; omega), World.cell?_alloc_lt _ _ t (by simp; omega), World.cell?_alloc_lt _ _ t htl]; exact ht0)
    (by unfold A3; rw [World.frozen?_alloc_old _ _ t (by simp; omega), World.frozen?_alloc_old _ _ t (by simp; omega), World.frozen?_alloc_old _ _ t (by simp; omega), World.frozen?_alloc_old _ _ t (Nat.ne_of_lt htl)]; exact hf0)
  unfold A3 at st el ⊢
  unfold A2 at n8 hg2
  clear hg ht0 hf0
  go_enter Tryz.func12, Tryz.ntmps12
  go_wp2
  refine wp_loop_rounds 1 ?_
  rw [rounds_succ]
  go_wp2
  go_ret
  exact ⟨rfl, rfl⟩

set_option maxHeartbeats 4000000 in
theorem as_miss (x t : Addr) (w : World) (hg : w.cell? ⟨2, 0, none⟩ = some eTy) :
    Calls Tryz.prog 12 #[errV x, .iface 56 (.pointer (some t))] w fun ev w' => ev = .returned (.bool false) ∧ w' = A3 t w := by
  have a1 := cValueT
  have a3 := cTypeT
  have a4 := cKindT
  have a5 := cKindD
  have a6 := mKind
  have a7 := mElem
  have a8 := mImplements
  have a9 := mAssignableTo
  have b1 := cElemT
  have b2 := cImplD
  have b3 := cTypeOfE
  have b4 := cAssignE
  have b5 := kNoAsE
  have b6 := kNoUnwrapE
  have b7 := kNoUnwrapsE
  have hlt : 2 < w.heap.size := lt_of_cell hg
  have n8 := cIsNil ⟨w.heap.size, 0, none⟩ t (A2 t w) (by unfold A2; simp)
  have hg2 : (A2 t w).cell? ⟨2, 0, none⟩ = some eTy := by
    unfold A2
    rw [World.cell?_alloc_lt _ _ ⟨2, 0, none⟩ (by simp; omega), World.cell?_alloc_lt _ _ ⟨2, 0, none⟩ hlt]; exact hg
  unfold A3
  unfold A2 at n8 hg2
  clear hg
  go_enter Tryz.func12, Tryz.ntmps12
  go_wp2
  refine wp_loop_rounds 1 ?_
  rw [rounds_succ]
  go_wp2
  go_ret
  exact ⟨rfl, rfl⟩

end Go.Proofs.YtkngcglmfbdblaaGreatDoor
