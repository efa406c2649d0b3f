/-
  DERIVED. GIVEN WITH THE SEED: THE PROGRAM's TIES (one call each: nine closed facts by the kernel) AND EACH ROW's TIE, after the 31st guide's Derived/Test/Toyas{Tie, Card}.lean. No idea stands in it: it is a product of the set-up. Laid BY PROGRAM, IN A SANDBOX (cutbox-door.mjs). By AI agents, Wed Nov 11 2026. No macro, syntax, notation, axiom, sorry.
-/
import Derived.Test.YtgaepakdhdfdfaaDoorRows
import Derived.LaidByTextLater
import Derived.SevenTiedAt
import Derived.LaidSub
import Derived.LaidOnce
namespace Go.Proofs.YtgaepakdhdfdfaaDoor
open Go
set_option maxRecDepth 100000
theorem seatTie1 : Tryd.prog.laidByTextLater [("ratemill/reg.ErrKind", Rows.laid_ratemill_reg_ErrKind), ("ratemill/reg.ErrWidth", Rows.laid_ratemill_reg_ErrWidth), ("ratemill/reg.ErrBusy", Rows.laid_ratemill_reg_ErrBusy), ("ratemill/reg.ErrIdle", Rows.laid_ratemill_reg_ErrIdle)] [.sentinel, .sentinel, .sentinel, .sentinel] true :=
  Program.laidByTextLater_by_one 85 8 2 (by kernel_rfl) (by kernel_rfl) (by kernel_rfl) (by kernel_rfl) (by kernel_rfl) (by kernel_rfl) (fun _ _ => by kernel_rfl)
theorem noOwnUnsafe : Tryd.pinned.checked.prog.headLifts.contains "ownunsafe" = false := by kernel_rfl
theorem tie : Tryd.prog.laidByTextLater [("ratemill/reg.ErrKind", Rows.laid_ratemill_reg_ErrKind), ("ratemill/reg.ErrWidth", Rows.laid_ratemill_reg_ErrWidth), ("ratemill/reg.ErrBusy", Rows.laid_ratemill_reg_ErrBusy), ("ratemill/reg.ErrIdle", Rows.laid_ratemill_reg_ErrIdle)] [.sentinel, .sentinel, .sentinel, .sentinel] true :=
  Program.laidByTextLater.sub seatTie1 ["ratemill/reg.ErrKind", "ratemill/reg.ErrWidth", "ratemill/reg.ErrBusy", "ratemill/reg.ErrIdle"] (by kernel_rfl) (by kernel_rfl)
theorem untorn_row_tie : Rows.untornRow.laidByTextAt .later Tryd.pinned [.sentinel, .sentinel, .sentinel, .sentinel] true :=
  OpenClaim.laidByTextAt_later rfl rfl tie noOwnUnsafe
theorem fresh_row_tie : Rows.freshRow.laidByTextAt .later Tryd.pinned [.sentinel, .sentinel, .sentinel, .sentinel] true :=
  OpenClaim.laidByTextAt_later rfl rfl tie noOwnUnsafe
theorem untornUpto_row_tie : Rows.untornUptoRow.laidByTextAt .later Tryd.pinned [.sentinel, .sentinel, .sentinel, .sentinel] true :=
  OpenClaim.laidByTextAt_later rfl rfl tie noOwnUnsafe
theorem freshUpto_row_tie : Rows.freshUptoRow.laidByTextAt .later Tryd.pinned [.sentinel, .sentinel, .sentinel, .sentinel] true :=
  OpenClaim.laidByTextAt_later rfl rfl tie noOwnUnsafe
end Go.Proofs.YtgaepakdhdfdfaaDoor
