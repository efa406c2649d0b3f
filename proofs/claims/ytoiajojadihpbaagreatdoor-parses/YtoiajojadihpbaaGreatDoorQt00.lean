import Derived.Test.YtoiajojadihpbaaGreatDoorRows
import Derived.ProofKit
namespace Go.Proofs.YtoiajojadihpbaaGreatDoor
set_option maxHeartbeats 8000000
set_option maxRecDepth 100000
section
open Go Go.RowKit
theorem k_inPlace:(Rows.parsesRow.inPlace==Tryz.prog.inPlace 3)=true:=by kernel_rfl
theorem k_unfollowed:(Rows.parsesRow.unfollowed==Tryz.prog.unfollowed 3)=true:=by kernel_rfl
theorem k_recurses:(Rows.parsesRow.recurses==Tryz.prog.recurses 3)=true:=by kernel_rfl
theorem k_named:(Rows.parsesRow.named==Tryz.prog.varsNamed 3)=true:=by kernel_rfl
theorem k_laidOut:laidOutB Tryz.prog=true:=by kernel_rfl
theorem and2 {a b:Bool} (h:a=true) (k:b=true):(a && b)=true:=by rw[h,k];rfl
theorem parses_closed:joinedFacts Tryz.prog 3 Tryz.f3 Rows.parsesSpec Rows.parsesRow=true:=by
 unfold joinedFacts
 exact and2 (and2 (and2 (and2 (and2 (and2 (and2 (and2 (and2 (and2 (and2 (and2 (and2 (and2 (and2 (and2 (and2 (and2 (and2 (and2 (and2 (and2 (and2 (and2 (and2 (and2 (and2 (and2 (and2 (and2 (and2 (by kernel_rfl) k_laidOut) (by kernel_rfl)) (by kernel_rfl)) (by kernel_rfl)) (by kernel_rfl)) (by kernel_rfl)) (by kernel_rfl)) (by kernel_rfl)) k_inPlace) k_unfollowed) k_recurses) k_named) (by kernel_rfl)) (by kernel_rfl)) (by kernel_rfl)) (by kernel_rfl)) (by kernel_rfl)) (by kernel_rfl)) (by kernel_rfl)) (by kernel_rfl)) (by kernel_rfl)) (by kernel_rfl)) (by kernel_rfl)) (by kernel_rfl)) (by kernel_rfl)) (by kernel_rfl)) (by kernel_rfl)) (by kernel_rfl)) (by kernel_rfl)) (by kernel_rfl)) (by kernel_rfl)
end
end Go.Proofs.YtoiajojadihpbaaGreatDoor
