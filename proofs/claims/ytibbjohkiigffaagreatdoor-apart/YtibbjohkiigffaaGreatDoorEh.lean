/-
  The row.
-/
import Derived.Test.YtibbjohkiigffaaGreatDoorEf
import Derived.Test.YtibbjohkiigffaaGreatDoorEd
namespace Go.Proofs.YtibbjohkiigffaaGreatDoor
open Go

theorem apart_holds : Rows.ApartSaid := apart_of (fun al w h1 h2 h3 => ⟨law_zero al w ⟨h1, h2, h3⟩, law_some al w ⟨h1, h2, h3⟩⟩)
#print axioms apart_holds
end Go.Proofs.YtibbjohkiigffaaGreatDoor
