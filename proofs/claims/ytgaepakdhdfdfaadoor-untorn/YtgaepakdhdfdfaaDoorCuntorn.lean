/-
  The card of Untorn, closed by the builder's one call.
-/
import Derived.Test.YtgaepakdhdfdfaaDoorVo
import Derived.Test.YtgaepakdhdfdfaaDoorTie
import Derived.Test.YtgaepakdhdfdfaaDoorCards
import Derived.SevenTiedAt
namespace Go.Proofs.YtgaepakdhdfdfaaDoor
open Go

theorem untorn_card : Rows.UntornCardSaid :=
  Claim7.holds_tied_plain_at .later [] [.sentinel, .sentinel, .sentinel, .sentinel] true (true, "dc6ceca3ec1cf688b673b1422250b749e02cafd1bec410cca9fd27cbb75af1b1") true
    untorn_said (fun _ h => by cases h) (by kernel_rfl) (fun _ h => by cases h) untorn_row_tie rfl ⟨rfl, rfl⟩ (by kernel_rfl) rfl
    (fun f fn hf hfn => by
      obtain rfl : f = 3 := Option.some.inj ((show Tryd.prog.funcNamed "ratemill/ratemilllaw.Untorn" = some 3 by kernel_rfl).symm.trans hf) |>.symm
      obtain rfl : fn = Tryd.f3 := (Option.some.inj (Tryd.func3.symm.trans hfn)).symm
      exact ⟨by kernel_rfl, fun j t ht => by
        rw [Tryd.params3] at ht
        have hm : t ∈ [22] := by simpa using Array.mem_of_getElem? ht
        have hall : ([22].all fun u => !Tryd.prog.wantsStandIn u) = true := by kernel_rfl
        exact (show Tryd.prog.wantsStandIn t = false by simpa using List.all_eq_true.1 hall t hm)⟩)
    (by kernel_rfl)
#print axioms untorn_card
end Go.Proofs.YtgaepakdhdfdfaaDoor
