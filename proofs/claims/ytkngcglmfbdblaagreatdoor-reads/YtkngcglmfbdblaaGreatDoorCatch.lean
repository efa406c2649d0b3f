/-
  The reader's edge: what is thrown is caught there.
-/
import Derived.Test.YtkngcglmfbdblaaGreatDoorIto
import Derived.Defers
import Derived.Recover
namespace Go.Proofs.YtkngcglmfbdblaaGreatDoor
open Go.RowKit

theorem as_diag (v : Value) (w : World) : (Instr.typeAssert (.iface 52 v) 20 52 true).run Tryz.prog w = .ok (.tuple #[v, .bool true]) w := by kernel_rfl
theorem diag_not_nil (v : Value) (w : World) : (binOp BinOp.eql 20 (.iface 52 v) .nilIface).run Tryz.prog w = .ok (.bool false) w := by kernel_rfl

theorem catch_idle (p q : Addr) (w : World) :
    CallsD Tryz.prog 17 #[.pointer (some p), .pointer (some q)] .returning w fun e u' w' => e = .returned (.tuple #[]) ∧ u' = .returning ∧ w' = w := by
  refine callsD_of_wpS Tryz.func17 rfl fun c₀ cs hu => ?_
  apply wpS_seq
  apply wpS_region
  simp [wpOpsS, go_sem, recoverD, hu, Tryz.ntmps17, Exit.thenS]
  refine wpS_of_wp ?_
  go_wp2
  cases c₀
  simp_all [bodyPostS, results, Tryz.results17]

set_option maxHeartbeats 1000000 in
theorem catch_hit (p q : Addr) (v0 v1 : Value) (d : Nat) (w : World) (hp : w.cell? p = some v0) (hq : w.cell? q = some v1) (hfp : w.frozen? p = false) (hfq : w.frozen? q = false) (hpq : p ≠ q) :
    CallsD Tryz.prog 17 #[.pointer (some p), .pointer (some q)] (.panicking [{ v := .iface 52 (.pointer (some ⟨d, 0, none⟩)), recovered := false }]) w fun e u' w' =>
      e = .returned (.tuple #[]) ∧ u' = .panicking [{ v := .iface 52 (.pointer (some ⟨d, 0, none⟩)), recovered := true }] ∧ w' = (w.setCell p (.slice none 0 0)).setCell q (.pointer (some ⟨d, 0, none⟩)) := by
  have h1 := as_diag
  have h2 := diag_not_nil
  refine callsD_of_wpS Tryz.func17 rfl fun c₀ cs hu => ?_
  apply wpS_seq
  apply wpS_region
  simp [wpOpsS, go_sem, recoverD, hu, Tryz.ntmps17, Exit.thenS]
  refine wpS_of_wp ?_
  change Code.wp _ _ _ { tmps := #[.pointer (some p), .pointer (some q), undef, undef, undef, .iface 52 (.pointer (some ⟨d, 0, none⟩)), undef, undef, undef, undef, undef, undef], defers := [] } w
  go_wp2
  simp [bodyPostS, results, Tryz.results17]

end Go.Proofs.YtkngcglmfbdblaaGreatDoor
