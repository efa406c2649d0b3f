/-
  DERIVED. GIVEN WITH THE SEED: THE CARDS: each row of YtgaepakdhdfdfaaDoorRows.lean that lists a variable, with what it lists TIED to the program's text (the seventh form; the later family's looks); each row that meets fmt, with fmt's text TOLD by the authors' own Lean function (tested against real Go, not proved from fmt's source: count such statements apart). THE CARD IS WHAT COUNTS. Prove the row's statement (the work); the ties are given (YtgaepakdhdfdfaaDoorTie.lean); close each card by the builder's one call (the guide's Derived/Test/ToyasCard.lean, 'card_holds'). Laid BY PROGRAM, IN A SANDBOX (cutbox-door.mjs). By AI agents, Wed Nov 11 2026. No macro, syntax, notation, axiom, sorry.
-/
import Derived.Test.YtgaepakdhdfdfaaDoorRows
import GoSem.ClaimSeven
namespace Go.Proofs.YtgaepakdhdfdfaaDoor
namespace Rows

/-- THE TIED CARD OF 'ratemilllaw.Untorn'. -/
def untornCard : Claim7 := { stood := { row := untornRow, standIns := [], harness := (true, "dc6ceca3ec1cf688b673b1422250b749e02cafd1bec410cca9fd27cbb75af1b1"), looks := true }, kinds := [], alts := [], laidByText := true, laidKinds := [.sentinel, .sentinel, .sentinel, .sentinel], laidTests := true, laidLooks := .later }
def UntornCardSaid : Prop := Claim7.holds Tryd.pinned (.plain (OpenSpec.ofChange untornSpec)) untornCard

/-- THE TIED CARD OF 'ratemilllaw.Fresh'. -/
def freshCard : Claim7 := { stood := { row := freshRow, standIns := [], harness := (true, "dc6ceca3ec1cf688b673b1422250b749e02cafd1bec410cca9fd27cbb75af1b1"), looks := true }, kinds := [], alts := [], laidByText := true, laidKinds := [.sentinel, .sentinel, .sentinel, .sentinel], laidTests := true, laidLooks := .later }
def FreshCardSaid : Prop := Claim7.holds Tryd.pinned (.plain (OpenSpec.ofChange freshSpec)) freshCard

/-- THE SECOND FORM's CARD OF 'ratemilllaw.Untorn'. -/
def untornUptoCard : Claim7 := { stood := { row := untornUptoRow, standIns := [], harness := (true, "dc6ceca3ec1cf688b673b1422250b749e02cafd1bec410cca9fd27cbb75af1b1"), looks := true }, kinds := [], alts := [], laidByText := true, laidKinds := [.sentinel, .sentinel, .sentinel, .sentinel], laidTests := true, laidLooks := .later }
def UntornUptoCardSaid : Prop := Claim7.holds Tryd.pinned (.plain (OpenSpec.upto untornSpec)) untornUptoCard

/-- THE SECOND FORM's CARD OF 'ratemilllaw.Fresh'. -/
def freshUptoCard : Claim7 := { stood := { row := freshUptoRow, standIns := [], harness := (true, "dc6ceca3ec1cf688b673b1422250b749e02cafd1bec410cca9fd27cbb75af1b1"), looks := true }, kinds := [], alts := [], laidByText := true, laidKinds := [.sentinel, .sentinel, .sentinel, .sentinel], laidTests := true, laidLooks := .later }
def FreshUptoCardSaid : Prop := Claim7.holds Tryd.pinned (.plain (OpenSpec.upto freshSpec)) freshUptoCard
end Rows
end Go.Proofs.YtgaepakdhdfdfaaDoor
