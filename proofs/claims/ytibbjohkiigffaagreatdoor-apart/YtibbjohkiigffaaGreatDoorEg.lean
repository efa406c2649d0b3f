/-
  The card, closed by the builder's one call.
-/
import Derived.Test.YtibbjohkiigffaaGreatDoorEh
import Derived.Test.YtibbjohkiigffaaGreatDoorTie
import Derived.Test.YtibbjohkiigffaaGreatDoorCards
import Derived.SevenTiedAt
namespace Go.Proofs.YtibbjohkiigffaaGreatDoor
open Go

theorem apart_card : Rows.ApartCardSaid :=
  Claim7.holds_tied_plain_at .later [] [.data, .data, .data, .handle, .sentinel, .sentinel, .sentinel, .sentinel, .sentinel, .sentinel, .sentinel, .sentinel, .sentinel, .sentinel, .sentinel, .sentinel, .sentinel, .sentinel, .sentinel, .data, .data, .data, .data] true (true, "22b1a28baaf74e933ee25a7f29e329e60dcabd926783aa275a2279d83010d630") true
    apart_holds (fun _ h => by cases h) (by kernel_rfl) (fun _ h => by cases h) apart_row_tie rfl ⟨rfl, rfl⟩ (by kernel_rfl) rfl
    (fun f fn hf hfn => by
      obtain rfl : f = 3 := Option.some.inj ((show Tryz.prog.funcNamed "ratemill/ratemilllaw.Apart" = some 3 by kernel_rfl).symm.trans hf) |>.symm
      obtain rfl : fn = Tryz.f3 := (Option.some.inj (Tryz.func3.symm.trans hfn)).symm
      exact ⟨by kernel_rfl, fun j t ht => by
        rw [Tryz.params3] at ht
        have hm : t ∈ [22] := by simpa using Array.mem_of_getElem? ht
        have hall : ([22].all fun u => !Tryz.prog.wantsStandIn u) = true := by kernel_rfl
        exact (show Tryz.prog.wantsStandIn t = false by simpa using List.all_eq_true.1 hall t hm)⟩)
    (by kernel_rfl)
#print axioms apart_card
end Go.Proofs.YtibbjohkiigffaaGreatDoor
