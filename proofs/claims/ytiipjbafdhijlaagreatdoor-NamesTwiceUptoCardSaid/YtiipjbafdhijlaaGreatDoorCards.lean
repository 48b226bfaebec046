/-
  DERIVED. GIVEN WITH THE SEED: THE CARDS: each row of YtiipjbafdhijlaaGreatDoorRows.lean that lists a variable, with what it lists TIED to the program's text (the seventh form; the later family's looks); each row that meets fmt, with fmt's text TOLD by the authors' own Lean function (tested against real Go, not proved from fmt's source: count such statements apart). THE CARD IS WHAT COUNTS. Prove the row's statement (the work); the ties are given (YtiipjbafdhijlaaGreatDoorTie.lean); close each card by the builder's one call (the guide's Derived/Test/ToyasCard.lean, 'card_holds'). Laid BY PROGRAM, IN A SANDBOX (cutbox-door.mjs). By AI agents, Wed Nov 11 2026. No macro, syntax, notation, axiom, sorry.
-/
import Derived.Test.YtiipjbafdhijlaaGreatDoorRows
import GoSem.ClaimSeven
namespace Go.Proofs.YtiipjbafdhijlaaGreatDoor
namespace Rows

/-- THE TIED CARD OF 'filigreelaw07.NamesChecks'. -/
def namesChecksCard : Claim7 := { stood := { row := namesChecksRow, standIns := [], harness := (true, "07f20440b10a72cfdec567239dc6c21b9257554a8932b8fd220b6f0a58f6e16b"), looks := true }, kinds := [], alts := [], laidByText := true, laidKinds := [.data, .data, .data, .data], laidTests := true, laidLooks := .later }
def NamesChecksCardSaid : Prop := Claim7.holds Tryz.pinned (.plain (OpenSpec.ofChange namesChecksSpec)) namesChecksCard

/-- THE TIED CARD OF 'filigreelaw07.NamesOrders'. -/
def namesOrdersCard : Claim7 := { stood := { row := namesOrdersRow, standIns := [], harness := (true, "07f20440b10a72cfdec567239dc6c21b9257554a8932b8fd220b6f0a58f6e16b"), looks := true }, kinds := [], alts := [], laidByText := true, laidKinds := [.data, .data, .data, .data], laidTests := true, laidLooks := .later }
def NamesOrdersCardSaid : Prop := Claim7.holds Tryz.pinned (.plain (OpenSpec.ofChange namesOrdersSpec)) namesOrdersCard

/-- THE TIED CARD OF 'filigreelaw07.NamesTwice'. -/
def namesTwiceCard : Claim7 := { stood := { row := namesTwiceRow, standIns := [], harness := (true, "07f20440b10a72cfdec567239dc6c21b9257554a8932b8fd220b6f0a58f6e16b"), looks := true }, kinds := [], alts := [], laidByText := true, laidKinds := [.data, .data, .data, .data], laidTests := true, laidLooks := .later }
def NamesTwiceCardSaid : Prop := Claim7.holds Tryz.pinned (.plain (OpenSpec.ofChange namesTwiceSpec)) namesTwiceCard

/-- THE TIED CARD OF 'filigreelaw07.NamesSides'. -/
def namesSidesCard : Claim7 := { stood := { row := namesSidesRow, standIns := [], harness := (true, "07f20440b10a72cfdec567239dc6c21b9257554a8932b8fd220b6f0a58f6e16b"), looks := true }, kinds := [], alts := [], laidByText := true, laidKinds := [.data, .data, .data, .data], laidTests := true, laidLooks := .later }
def NamesSidesCardSaid : Prop := Claim7.holds Tryz.pinned (.plain (OpenSpec.ofChange namesSidesSpec)) namesSidesCard

/-- THE TIED CARD OF 'filigreelaw07.NamesLoops'. -/
def namesLoopsCard : Claim7 := { stood := { row := namesLoopsRow, standIns := [], harness := (true, "07f20440b10a72cfdec567239dc6c21b9257554a8932b8fd220b6f0a58f6e16b"), looks := true }, kinds := [], alts := [], laidByText := true, laidKinds := [.data, .data, .data, .data], laidTests := true, laidLooks := .later }
def NamesLoopsCardSaid : Prop := Claim7.holds Tryz.pinned (.plain (OpenSpec.ofChange namesLoopsSpec)) namesLoopsCard

/-- THE SECOND FORM's CARD OF 'filigreelaw07.NamesChecks'. -/
def namesChecksUptoCard : Claim7 := { stood := { row := namesChecksUptoRow, standIns := [], harness := (true, "07f20440b10a72cfdec567239dc6c21b9257554a8932b8fd220b6f0a58f6e16b"), looks := true }, kinds := [], alts := [], laidByText := true, laidKinds := [.data, .data, .data, .data], laidTests := true, laidLooks := .later }
def NamesChecksUptoCardSaid : Prop := Claim7.holds Tryz.pinned (.plain (OpenSpec.upto namesChecksSpec)) namesChecksUptoCard

/-- THE SECOND FORM's CARD OF 'filigreelaw07.NamesOrders'. -/
def namesOrdersUptoCard : Claim7 := { stood := { row := namesOrdersUptoRow, standIns := [], harness := (true, "07f20440b10a72cfdec567239dc6c21b9257554a8932b8fd220b6f0a58f6e16b"), looks := true }, kinds := [], alts := [], laidByText := true, laidKinds := [.data, .data, .data, .data], laidTests := true, laidLooks := .later }
def NamesOrdersUptoCardSaid : Prop := Claim7.holds Tryz.pinned (.plain (OpenSpec.upto namesOrdersSpec)) namesOrdersUptoCard

/-- THE SECOND FORM's CARD OF 'filigreelaw07.NamesTwice'. -/
def namesTwiceUptoCard : Claim7 := { stood := { row := namesTwiceUptoRow, standIns := [], harness := (true, "07f20440b10a72cfdec567239dc6c21b9257554a8932b8fd220b6f0a58f6e16b"), looks := true }, kinds := [], alts := [], laidByText := true, laidKinds := [.data, .data, .data, .data], laidTests := true, laidLooks := .later }
def NamesTwiceUptoCardSaid : Prop := Claim7.holds Tryz.pinned (.plain (OpenSpec.upto namesTwiceSpec)) namesTwiceUptoCard

/-- THE SECOND FORM's CARD OF 'filigreelaw07.NamesSides'. -/
def namesSidesUptoCard : Claim7 := { stood := { row := namesSidesUptoRow, standIns := [], harness := (true, "07f20440b10a72cfdec567239dc6c21b9257554a8932b8fd220b6f0a58f6e16b"), looks := true }, kinds := [], alts := [], laidByText := true, laidKinds := [.data, .data, .data, .data], laidTests := true, laidLooks := .later }
def NamesSidesUptoCardSaid : Prop := Claim7.holds Tryz.pinned (.plain (OpenSpec.upto namesSidesSpec)) namesSidesUptoCard

/-- THE SECOND FORM's CARD OF 'filigreelaw07.NamesLoops'. -/
def namesLoopsUptoCard : Claim7 := { stood := { row := namesLoopsUptoRow, standIns := [], harness := (true, "07f20440b10a72cfdec567239dc6c21b9257554a8932b8fd220b6f0a58f6e16b"), looks := true }, kinds := [], alts := [], laidByText := true, laidKinds := [.data, .data, .data, .data], laidTests := true, laidLooks := .later }
def NamesLoopsUptoCardSaid : Prop := Claim7.holds Tryz.pinned (.plain (OpenSpec.upto namesLoopsSpec)) namesLoopsUptoCard
end Rows
end Go.Proofs.YtiipjbafdhijlaaGreatDoor
