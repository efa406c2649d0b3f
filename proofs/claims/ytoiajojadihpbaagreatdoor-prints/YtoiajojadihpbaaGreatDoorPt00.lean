import Derived.Test.YtoiajojadihpbaaGreatDoorRows
import Derived.ProofKit
namespace Go.Proofs.YtoiajojadihpbaaGreatDoor
set_option maxHeartbeats 8000000
section
open Go Go.RowKit
theorem k_inPlace:(Rows.printsRow.inPlace==Tryz.prog.inPlace 4)=true:=by kernel_rfl
theorem k_unfollowed:(Rows.printsRow.unfollowed==Tryz.prog.unfollowed 4)=true:=by kernel_rfl
theorem k_recurses:(Rows.printsRow.recurses==Tryz.prog.recurses 4)=true:=by kernel_rfl
theorem k_named:(Rows.printsRow.named==Tryz.prog.varsNamed 4)=true:=by kernel_rfl
theorem k_laidOut:laidOutB Tryz.prog=true:=by kernel_rfl
theorem and2 {a b:Bool} (h:a=true) (k:b=true):(a && b)=true:=by rw [h,k];rfl
theorem prints_closed:joinedFacts Tryz.prog 4 Tryz.f4 Rows.printsSpec Rows.printsRow=true:=by
 unfold joinedFacts
 exact and2 (and2 (and2 (and2 (and2 (and2 (and2 (and2 (and2 (and2 (and2 (and2 (and2 (and2 (and2 (and2 (and2 (and2 (and2 (and2 (and2 (and2 (and2 (and2 (and2 (and2 (and2 (and2 (and2 (and2 (and2 (by kernel_rfl) k_laidOut) (by kernel_rfl)) (by kernel_rfl)) (by kernel_rfl)) (by kernel_rfl)) (by kernel_rfl)) (by kernel_rfl)) (by kernel_rfl)) k_inPlace) k_unfollowed) k_recurses) k_named) (by kernel_rfl)) (by kernel_rfl)) (by kernel_rfl)) (by kernel_rfl)) (by kernel_rfl)) (by kernel_rfl)) (by kernel_rfl)) (by kernel_rfl)) (by kernel_rfl)) (by kernel_rfl)) (by kernel_rfl)) (by kernel_rfl)) (by kernel_rfl)) (by kernel_rfl)) (by kernel_rfl)) (by kernel_rfl)) (by kernel_rfl)) (by kernel_rfl)) (by kernel_rfl)
end
end Go.Proofs.YtoiajojadihpbaaGreatDoor
