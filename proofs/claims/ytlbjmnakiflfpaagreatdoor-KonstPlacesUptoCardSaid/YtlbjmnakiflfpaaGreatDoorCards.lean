/-
  DERIVED. GIVEN WITH THE SEED: THE CARDS: each row of YtlbjmnakiflfpaaGreatDoorRows.lean that lists a variable, with what it lists TIED to the program's text (the seventh form; the later family's looks); each row that meets fmt, with fmt's text TOLD by the authors' own Lean function (tested against real Go, not proved from fmt's source: count such statements apart). THE CARD IS WHAT COUNTS. Prove the row's statement (the work); the ties are given (YtlbjmnakiflfpaaGreatDoorTie.lean); close each card by the builder's one call (the guide's Derived/Test/ToyasCard.lean, 'card_holds'). Laid BY PROGRAM, IN A SANDBOX (cutbox-door.mjs). By AI agents, Wed Nov 11 2026. No macro, syntax, notation, axiom, sorry.
-/
import Derived.Test.YtlbjmnakiflfpaaGreatDoorRows
import GoSem.ClaimSeven
namespace Go.Proofs.YtlbjmnakiflfpaaGreatDoor
namespace Rows

/-- THE TIED CARD OF 'filigreelaw03.AstParts'. -/
def astPartsCard : Claim7 := { stood := { row := astPartsRow, standIns := [], harness := (true, "4f18e8b6f0b66366d93fea097fed1c7c01e3fbaf0f2f5d7c84d8629a7b1de38a"), looks := false }, kinds := [], alts := [], laidByText := true, laidKinds := [.data, .data, .data, .data], laidTests := true, laidLooks := .later }
def AstPartsCardSaid : Prop := Claim7.holds Tryz.pinned (.plain (OpenSpec.ofChange astPartsSpec)) astPartsCard

/-- THE TIED CARD OF 'filigreelaw03.AstSame'. -/
def astSameCard : Claim7 := { stood := { row := astSameRow, standIns := [], harness := (true, "4f18e8b6f0b66366d93fea097fed1c7c01e3fbaf0f2f5d7c84d8629a7b1de38a"), looks := false }, kinds := [], alts := [], laidByText := true, laidKinds := [.data, .data, .data, .data], laidTests := true, laidLooks := .later }
def AstSameCardSaid : Prop := Claim7.holds Tryz.pinned (.plain (OpenSpec.ofChange astSameSpec)) astSameCard

/-- THE TIED CARD OF 'filigreelaw06.KonstPlaces'. -/
def konstPlacesCard : Claim7 := { stood := { row := konstPlacesRow, standIns := [], harness := (true, "4f18e8b6f0b66366d93fea097fed1c7c01e3fbaf0f2f5d7c84d8629a7b1de38a"), looks := false }, kinds := [], alts := [], laidByText := true, laidKinds := [.data, .data], laidTests := true, laidLooks := .later }
def KonstPlacesCardSaid : Prop := Claim7.holds Tryz.pinned (.plain (OpenSpec.ofChange konstPlacesSpec)) konstPlacesCard

/-- THE SECOND FORM's CARD OF 'filigreelaw03.AstParts'. -/
def astPartsUptoCard : Claim7 := { stood := { row := astPartsUptoRow, standIns := [], harness := (true, "4f18e8b6f0b66366d93fea097fed1c7c01e3fbaf0f2f5d7c84d8629a7b1de38a"), looks := false }, kinds := [], alts := [], laidByText := true, laidKinds := [.data, .data, .data, .data], laidTests := true, laidLooks := .later }
def AstPartsUptoCardSaid : Prop := Claim7.holds Tryz.pinned (.plain (OpenSpec.upto astPartsSpec)) astPartsUptoCard

/-- THE SECOND FORM's CARD OF 'filigreelaw03.AstSame'. -/
def astSameUptoCard : Claim7 := { stood := { row := astSameUptoRow, standIns := [], harness := (true, "4f18e8b6f0b66366d93fea097fed1c7c01e3fbaf0f2f5d7c84d8629a7b1de38a"), looks := false }, kinds := [], alts := [], laidByText := true, laidKinds := [.data, .data, .data, .data], laidTests := true, laidLooks := .later }
def AstSameUptoCardSaid : Prop := Claim7.holds Tryz.pinned (.plain (OpenSpec.upto astSameSpec)) astSameUptoCard

/-- THE SECOND FORM's CARD OF 'filigreelaw06.KonstPlaces'. -/
def konstPlacesUptoCard : Claim7 := { stood := { row := konstPlacesUptoRow, standIns := [], harness := (true, "4f18e8b6f0b66366d93fea097fed1c7c01e3fbaf0f2f5d7c84d8629a7b1de38a"), looks := false }, kinds := [], alts := [], laidByText := true, laidKinds := [.data, .data], laidTests := true, laidLooks := .later }
def KonstPlacesUptoCardSaid : Prop := Claim7.holds Tryz.pinned (.plain (OpenSpec.upto konstPlacesSpec)) konstPlacesUptoCard
end Rows
end Go.Proofs.YtlbjmnakiflfpaaGreatDoor
