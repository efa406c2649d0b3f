/-
  DERIVED. GIVEN WITH THE SEED: THE CARDS: each row of YtjehljjlcifndaaGreatDoorRows.lean that lists a variable, with what it lists TIED to the program's text (the seventh form; the later family's looks); each row that meets fmt, with fmt's text TOLD by the authors' own Lean function (tested against real Go, not proved from fmt's source: count such statements apart). THE CARD IS WHAT COUNTS. Prove the row's statement (the work); the ties are given (YtjehljjlcifndaaGreatDoorTie.lean); close each card by the builder's one call (the guide's Derived/Test/ToyasCard.lean, 'card_holds'). Laid BY PROGRAM, IN A SANDBOX (cutbox-door.mjs). By AI agents, Wed Nov 11 2026. No macro, syntax, notation, axiom, sorry.
-/
import Derived.Test.YtjehljjlcifndaaGreatDoorRows
import GoSem.ClaimSeven
namespace Go.Proofs.YtjehljjlcifndaaGreatDoor
namespace Rows

/-- THE TIED CARD OF 'ratemilllaw.Steady'. -/
def steadyCard : Claim7 := { stood := { row := steadyRow, standIns := [], harness := (true, "77c714289a94225197769ac761058cbb67adeebef6c17cc21e11678214789b38"), looks := true }, kinds := [], alts := [], laidByText := true, laidKinds := [.data, .data, .data, .handle, .sentinel, .sentinel, .sentinel, .sentinel, .sentinel, .sentinel, .sentinel, .sentinel, .sentinel, .sentinel, .sentinel, .sentinel, .sentinel, .sentinel, .sentinel, .data, .data, .data, .data], laidTests := true, laidLooks := .later }
def SteadyCardSaid : Prop := Claim7.holds Tryz.pinned (.plain (OpenSpec.ofChange steadySpec)) steadyCard

/-- THE TIED CARD OF 'ratemilllaw.Prefixes'. -/
def prefixesCard : Claim7 := { stood := { row := prefixesRow, standIns := [], harness := (true, "77c714289a94225197769ac761058cbb67adeebef6c17cc21e11678214789b38"), looks := true }, kinds := [], alts := [], laidByText := true, laidKinds := [.data, .data, .data, .handle, .sentinel, .sentinel, .sentinel, .sentinel, .sentinel, .sentinel, .sentinel, .sentinel, .sentinel, .sentinel, .sentinel, .sentinel, .sentinel, .sentinel, .sentinel, .data, .data, .data, .data], laidTests := true, laidLooks := .later }
def PrefixesCardSaid : Prop := Claim7.holds Tryz.pinned (.plain (OpenSpec.ofChange prefixesSpec)) prefixesCard

/-- THE TIED CARD OF 'ratemilllaw.Quiet'. -/
def quietCard : Claim7 := { stood := { row := quietRow, standIns := [], harness := (true, "77c714289a94225197769ac761058cbb67adeebef6c17cc21e11678214789b38"), looks := true }, kinds := [], alts := [], laidByText := true, laidKinds := [.data, .data, .data, .handle, .sentinel, .sentinel, .sentinel, .sentinel, .sentinel, .sentinel, .sentinel, .sentinel, .sentinel, .sentinel, .sentinel, .sentinel, .sentinel, .sentinel, .sentinel, .data, .data, .data, .data], laidTests := true, laidLooks := .later }
def QuietCardSaid : Prop := Claim7.holds Tryz.pinned (.plain (OpenSpec.ofChange quietSpec)) quietCard

/-- THE SECOND FORM's CARD OF 'ratemilllaw.Steady'. -/
def steadyUptoCard : Claim7 := { stood := { row := steadyUptoRow, standIns := [], harness := (true, "77c714289a94225197769ac761058cbb67adeebef6c17cc21e11678214789b38"), looks := true }, kinds := [], alts := [], laidByText := true, laidKinds := [.data, .data, .data, .handle, .sentinel, .sentinel, .sentinel, .sentinel, .sentinel, .sentinel, .sentinel, .sentinel, .sentinel, .sentinel, .sentinel, .sentinel, .sentinel, .sentinel, .sentinel, .data, .data, .data, .data], laidTests := true, laidLooks := .later }
def SteadyUptoCardSaid : Prop := Claim7.holds Tryz.pinned (.plain (OpenSpec.upto steadySpec)) steadyUptoCard

/-- THE SECOND FORM's CARD OF 'ratemilllaw.Prefixes'. -/
def prefixesUptoCard : Claim7 := { stood := { row := prefixesUptoRow, standIns := [], harness := (true, "77c714289a94225197769ac761058cbb67adeebef6c17cc21e11678214789b38"), looks := true }, kinds := [], alts := [], laidByText := true, laidKinds := [.data, .data, .data, .handle, .sentinel, .sentinel, .sentinel, .sentinel, .sentinel, .sentinel, .sentinel, .sentinel, .sentinel, .sentinel, .sentinel, .sentinel, .sentinel, .sentinel, .sentinel, .data, .data, .data, .data], laidTests := true, laidLooks := .later }
def PrefixesUptoCardSaid : Prop := Claim7.holds Tryz.pinned (.plain (OpenSpec.upto prefixesSpec)) prefixesUptoCard

/-- THE SECOND FORM's CARD OF 'ratemilllaw.Quiet'. -/
def quietUptoCard : Claim7 := { stood := { row := quietUptoRow, standIns := [], harness := (true, "77c714289a94225197769ac761058cbb67adeebef6c17cc21e11678214789b38"), looks := true }, kinds := [], alts := [], laidByText := true, laidKinds := [.data, .data, .data, .handle, .sentinel, .sentinel, .sentinel, .sentinel, .sentinel, .sentinel, .sentinel, .sentinel, .sentinel, .sentinel, .sentinel, .sentinel, .sentinel, .sentinel, .sentinel, .data, .data, .data, .data], laidTests := true, laidLooks := .later }
def QuietUptoCardSaid : Prop := Claim7.holds Tryz.pinned (.plain (OpenSpec.upto quietSpec)) quietUptoCard
end Rows
end Go.Proofs.YtjehljjlcifndaaGreatDoor
