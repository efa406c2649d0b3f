/-
  The card, closed by the builder's one call.
-/
import Derived.Test.YtogomoocnnbjoaaDoorProofs
import Derived.Test.YtogomoocnnbjoaaDoorTie
import Derived.Test.YtogomoocnnbjoaaDoorCards
import Derived.SevenTiedAt
namespace Go.Proofs.YtogomoocnnbjoaaDoor
open Go

theorem names_card : Rows.NamesCardSaid :=
  Claim7.holds_tied_plain_at .later [] [.sentinel, .sentinel, .sentinel, .sentinel, .sentinel, .sentinel, .sentinel, .sentinel, .sentinel, .sentinel, .sentinel, .sentinel, .sentinel, .sentinel, .sentinel, .sentinel, .sentinel] true (true, "9db8592249a11b7665529aefcbf2b2f3186bcf62be8598cf3c32fc9632af4e0e") true
    names_holds (fun _ h => by cases h) (by kernel_rfl) (fun _ h => by cases h) names_row_tie rfl ⟨rfl, rfl⟩ (by kernel_rfl) rfl
    (fun f fn hf hfn => by
      obtain rfl : f = 3 := Option.some.inj ((show Tryd.prog.funcNamed "ratemill/ratemilllaw.Names" = some 3 by kernel_rfl).symm.trans hf) |>.symm
      obtain rfl : fn = Tryd.f3 := (Option.some.inj (Tryd.func3.symm.trans hfn)).symm
      exact ⟨by kernel_rfl, fun j t ht => by
        rw [Tryd.params3] at ht
        simp at ht⟩)
    (by kernel_rfl)
#print axioms names_card
end Go.Proofs.YtogomoocnnbjoaaDoor
