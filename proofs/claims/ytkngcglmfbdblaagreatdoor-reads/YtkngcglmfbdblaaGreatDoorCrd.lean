/-
  The card, closed by the builder's one call.
-/
import Derived.Test.YtkngcglmfbdblaaGreatDoorPrf
import Derived.Test.YtkngcglmfbdblaaGreatDoorTie
import Derived.Test.YtkngcglmfbdblaaGreatDoorCards
import Derived.SevenTiedAt
namespace Go.Proofs.YtkngcglmfbdblaaGreatDoor
open Go

theorem reads_card : Rows.ReadsCardSaid :=
  Claim7.holds_tied_plain_at .later [] [.data, .data, .data, .handle, .sentinel, .sentinel, .sentinel, .sentinel, .sentinel, .sentinel, .sentinel, .sentinel, .sentinel, .sentinel, .sentinel, .sentinel, .sentinel, .sentinel, .sentinel, .data, .data, .data, .data] true (true, "dc02caf43396f9224832e82d745a6bdc707d1ef8a4df0171901f98833d1ea3be") true
    reads_holds (fun _ h => by cases h) (by kernel_rfl) (fun _ h => by cases h) reads_row_tie rfl ⟨rfl, rfl⟩ (by kernel_rfl) rfl
    (fun f fn hf hfn => by
      obtain rfl : f = 3 := Option.some.inj ((show Tryz.prog.funcNamed "ratemill/ratemilllaw.Reads" = some 3 by kernel_rfl).symm.trans hf) |>.symm
      obtain rfl : fn = Tryz.f3 := (Option.some.inj (Tryz.func3.symm.trans hfn)).symm
      exact ⟨by kernel_rfl, fun j t ht => by
        rw [Tryz.params3] at ht
        have hm : t ∈ [22] := by simpa using Array.mem_of_getElem? ht
        have hall : ([22].all fun u => !Tryz.prog.wantsStandIn u) = true := by kernel_rfl
        exact (show Tryz.prog.wantsStandIn t = false by simpa using List.all_eq_true.1 hall t hm)⟩)
    (by kernel_rfl)
#print axioms reads_card
end Go.Proofs.YtkngcglmfbdblaaGreatDoor
