/-
  The card of Fresh, closed by the builder's one call.
-/
import Derived.Test.YtgaepakdhdfdfaaDoorVo
import Derived.Test.YtgaepakdhdfdfaaDoorTie
import Derived.Test.YtgaepakdhdfdfaaDoorCards
import Derived.SevenTiedAt
namespace Go.Proofs.YtgaepakdhdfdfaaDoor
open Go

theorem fresh_card : Rows.FreshCardSaid :=
  Claim7.holds_tied_plain_at .later [] [.sentinel, .sentinel, .sentinel, .sentinel] true (true, "dc6ceca3ec1cf688b673b1422250b749e02cafd1bec410cca9fd27cbb75af1b1") true
    fresh_said (fun _ h => by cases h) (by kernel_rfl) (fun _ h => by cases h) fresh_row_tie rfl ⟨rfl, rfl⟩ (by kernel_rfl) rfl
    (fun f fn hf hfn => by
      obtain rfl : f = 4 := Option.some.inj ((show Tryd.prog.funcNamed "ratemill/ratemilllaw.Fresh" = some 4 by kernel_rfl).symm.trans hf) |>.symm
      obtain rfl : fn = Tryd.f4 := (Option.some.inj (Tryd.func4.symm.trans hfn)).symm
      exact ⟨by kernel_rfl, fun j t ht => by
        rw [Tryd.params4] at ht
        have hm : t ∈ [22] := by simpa using Array.mem_of_getElem? ht
        have hall : ([22].all fun u => !Tryd.prog.wantsStandIn u) = true := by kernel_rfl
        exact (show Tryd.prog.wantsStandIn t = false by simpa using List.all_eq_true.1 hall t hm)⟩)
    (by kernel_rfl)
#print axioms fresh_card
end Go.Proofs.YtgaepakdhdfdfaaDoor
