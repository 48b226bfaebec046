/-
  DERIVED. GIVEN WITH THE SEED: THE CARDS: each row of YtbfhbblbjgkolaaGreatDoorRows.lean that lists a variable, with what it lists TIED to the program's text (the seventh form; the later family's looks); each row that meets fmt, with fmt's text TOLD by the authors' own Lean function (tested against real Go, not proved from fmt's source: count such statements apart). THE CARD IS WHAT COUNTS. Prove the row's statement (the work); the ties are given (YtbfhbblbjgkolaaGreatDoorTie.lean); close each card by the builder's one call (the guide's Derived/Test/ToyasCard.lean, 'card_holds'). Laid BY PROGRAM, IN A SANDBOX (cutbox-door.mjs). By AI agents, Wed Nov 11 2026. No macro, syntax, notation, axiom, sorry.
-/
import Derived.Test.YtbfhbblbjgkolaaGreatDoorRows
import GoSem.ClaimSeven
namespace Go.Proofs.YtbfhbblbjgkolaaGreatDoor
namespace Rows

/-- THE TIED CARD OF 'filigreelaw07.NamesChecks'. -/
def namesChecksCard : Claim7 := { stood := { row := namesChecksRow, standIns := [], harness := (true, "a7eb1faeadbc040746ed4b270a3267824c271ca3c92d2db9e1977a5c457186c2"), looks := true }, kinds := [], alts := [], laidByText := true, laidKinds := [.data, .data, .data, .data], laidTests := true, laidLooks := .later }
def NamesChecksCardSaid : Prop := Claim7.holds Tryz.pinned (.plain (OpenSpec.ofChange namesChecksSpec)) namesChecksCard

/-- THE TIED CARD OF 'filigreelaw07.NamesFinds'. -/
def namesFindsCard : Claim7 := { stood := { row := namesFindsRow, standIns := [], harness := (true, "a7eb1faeadbc040746ed4b270a3267824c271ca3c92d2db9e1977a5c457186c2"), looks := true }, kinds := [], alts := [], laidByText := true, laidKinds := [.data, .data, .data, .data], laidTests := true, laidLooks := .later }
def NamesFindsCardSaid : Prop := Claim7.holds Tryz.pinned (.plain (OpenSpec.ofChange namesFindsSpec)) namesFindsCard

/-- THE TIED CARD OF 'filigreelaw07.NamesOrders'. -/
def namesOrdersCard : Claim7 := { stood := { row := namesOrdersRow, standIns := [], harness := (true, "a7eb1faeadbc040746ed4b270a3267824c271ca3c92d2db9e1977a5c457186c2"), looks := true }, kinds := [], alts := [], laidByText := true, laidKinds := [.data, .data, .data, .data], laidTests := true, laidLooks := .later }
def NamesOrdersCardSaid : Prop := Claim7.holds Tryz.pinned (.plain (OpenSpec.ofChange namesOrdersSpec)) namesOrdersCard

/-- THE TIED CARD OF 'filigreelaw07.NamesOrder'. -/
def namesOrderCard : Claim7 := { stood := { row := namesOrderRow, standIns := [], harness := (true, "a7eb1faeadbc040746ed4b270a3267824c271ca3c92d2db9e1977a5c457186c2"), looks := true }, kinds := [], alts := [], laidByText := true, laidKinds := [.data, .data, .data, .data], laidTests := true, laidLooks := .later }
def NamesOrderCardSaid : Prop := Claim7.holds Tryz.pinned (.plain (OpenSpec.ofChange namesOrderSpec)) namesOrderCard

/-- THE TIED CARD OF 'filigreelaw07.NamesBelow'. -/
def namesBelowCard : Claim7 := { stood := { row := namesBelowRow, standIns := [], harness := (true, "a7eb1faeadbc040746ed4b270a3267824c271ca3c92d2db9e1977a5c457186c2"), looks := true }, kinds := [], alts := [], laidByText := true, laidKinds := [.data, .data, .data, .data], laidTests := true, laidLooks := .later }
def NamesBelowCardSaid : Prop := Claim7.holds Tryz.pinned (.plain (OpenSpec.ofChange namesBelowSpec)) namesBelowCard

/-- THE TIED CARD OF 'filigreelaw07.NamesTwice'. -/
def namesTwiceCard : Claim7 := { stood := { row := namesTwiceRow, standIns := [], harness := (true, "a7eb1faeadbc040746ed4b270a3267824c271ca3c92d2db9e1977a5c457186c2"), looks := true }, kinds := [], alts := [], laidByText := true, laidKinds := [.data, .data, .data, .data], laidTests := true, laidLooks := .later }
def NamesTwiceCardSaid : Prop := Claim7.holds Tryz.pinned (.plain (OpenSpec.ofChange namesTwiceSpec)) namesTwiceCard

/-- THE TIED CARD OF 'filigreelaw07.NamesFresh'. -/
def namesFreshCard : Claim7 := { stood := { row := namesFreshRow, standIns := [], harness := (true, "a7eb1faeadbc040746ed4b270a3267824c271ca3c92d2db9e1977a5c457186c2"), looks := true }, kinds := [], alts := [], laidByText := true, laidKinds := [.data, .data, .data, .data], laidTests := true, laidLooks := .later }
def NamesFreshCardSaid : Prop := Claim7.holds Tryz.pinned (.plain (OpenSpec.ofChange namesFreshSpec)) namesFreshCard

/-- THE TIED CARD OF 'filigreelaw07.NamesSides'. -/
def namesSidesCard : Claim7 := { stood := { row := namesSidesRow, standIns := [], harness := (true, "a7eb1faeadbc040746ed4b270a3267824c271ca3c92d2db9e1977a5c457186c2"), looks := true }, kinds := [], alts := [], laidByText := true, laidKinds := [.data, .data, .data, .data], laidTests := true, laidLooks := .later }
def NamesSidesCardSaid : Prop := Claim7.holds Tryz.pinned (.plain (OpenSpec.ofChange namesSidesSpec)) namesSidesCard

/-- THE TIED CARD OF 'filigreelaw07.NamesLoops'. -/
def namesLoopsCard : Claim7 := { stood := { row := namesLoopsRow, standIns := [], harness := (true, "a7eb1faeadbc040746ed4b270a3267824c271ca3c92d2db9e1977a5c457186c2"), looks := true }, kinds := [], alts := [], laidByText := true, laidKinds := [.data, .data, .data, .data], laidTests := true, laidLooks := .later }
def NamesLoopsCardSaid : Prop := Claim7.holds Tryz.pinned (.plain (OpenSpec.ofChange namesLoopsSpec)) namesLoopsCard

/-- THE TIED CARD OF 'filigreelaw07.NamesRing'. -/
def namesRingCard : Claim7 := { stood := { row := namesRingRow, standIns := [], harness := (true, "a7eb1faeadbc040746ed4b270a3267824c271ca3c92d2db9e1977a5c457186c2"), looks := true }, kinds := [], alts := [], laidByText := true, laidKinds := [.data, .data, .data, .data], laidTests := true, laidLooks := .later }
def NamesRingCardSaid : Prop := Claim7.holds Tryz.pinned (.plain (OpenSpec.ofChange namesRingSpec)) namesRingCard

/-- THE TIED CARD OF 'filigreelaw07.NamesWithout'. -/
def namesWithoutCard : Claim7 := { stood := { row := namesWithoutRow, standIns := [], harness := (true, "a7eb1faeadbc040746ed4b270a3267824c271ca3c92d2db9e1977a5c457186c2"), looks := true }, kinds := [], alts := [], laidByText := true, laidKinds := [.data, .data, .data, .data], laidTests := true, laidLooks := .later }
def NamesWithoutCardSaid : Prop := Claim7.holds Tryz.pinned (.plain (OpenSpec.ofChange namesWithoutSpec)) namesWithoutCard

/-- THE SECOND FORM's CARD OF 'filigreelaw07.NamesChecks'. -/
def namesChecksUptoCard : Claim7 := { stood := { row := namesChecksUptoRow, standIns := [], harness := (true, "a7eb1faeadbc040746ed4b270a3267824c271ca3c92d2db9e1977a5c457186c2"), looks := true }, kinds := [], alts := [], laidByText := true, laidKinds := [.data, .data, .data, .data], laidTests := true, laidLooks := .later }
def NamesChecksUptoCardSaid : Prop := Claim7.holds Tryz.pinned (.plain (OpenSpec.upto namesChecksSpec)) namesChecksUptoCard

/-- THE SECOND FORM's CARD OF 'filigreelaw07.NamesFinds'. -/
def namesFindsUptoCard : Claim7 := { stood := { row := namesFindsUptoRow, standIns := [], harness := (true, "a7eb1faeadbc040746ed4b270a3267824c271ca3c92d2db9e1977a5c457186c2"), looks := true }, kinds := [], alts := [], laidByText := true, laidKinds := [.data, .data, .data, .data], laidTests := true, laidLooks := .later }
def NamesFindsUptoCardSaid : Prop := Claim7.holds Tryz.pinned (.plain (OpenSpec.upto namesFindsSpec)) namesFindsUptoCard

/-- THE SECOND FORM's CARD OF 'filigreelaw07.NamesOrders'. -/
def namesOrdersUptoCard : Claim7 := { stood := { row := namesOrdersUptoRow, standIns := [], harness := (true, "a7eb1faeadbc040746ed4b270a3267824c271ca3c92d2db9e1977a5c457186c2"), looks := true }, kinds := [], alts := [], laidByText := true, laidKinds := [.data, .data, .data, .data], laidTests := true, laidLooks := .later }
def NamesOrdersUptoCardSaid : Prop := Claim7.holds Tryz.pinned (.plain (OpenSpec.upto namesOrdersSpec)) namesOrdersUptoCard

/-- THE SECOND FORM's CARD OF 'filigreelaw07.NamesOrder'. -/
def namesOrderUptoCard : Claim7 := { stood := { row := namesOrderUptoRow, standIns := [], harness := (true, "a7eb1faeadbc040746ed4b270a3267824c271ca3c92d2db9e1977a5c457186c2"), looks := true }, kinds := [], alts := [], laidByText := true, laidKinds := [.data, .data, .data, .data], laidTests := true, laidLooks := .later }
def NamesOrderUptoCardSaid : Prop := Claim7.holds Tryz.pinned (.plain (OpenSpec.upto namesOrderSpec)) namesOrderUptoCard

/-- THE SECOND FORM's CARD OF 'filigreelaw07.NamesBelow'. -/
def namesBelowUptoCard : Claim7 := { stood := { row := namesBelowUptoRow, standIns := [], harness := (true, "a7eb1faeadbc040746ed4b270a3267824c271ca3c92d2db9e1977a5c457186c2"), looks := true }, kinds := [], alts := [], laidByText := true, laidKinds := [.data, .data, .data, .data], laidTests := true, laidLooks := .later }
def NamesBelowUptoCardSaid : Prop := Claim7.holds Tryz.pinned (.plain (OpenSpec.upto namesBelowSpec)) namesBelowUptoCard

/-- THE SECOND FORM's CARD OF 'filigreelaw07.NamesTwice'. -/
def namesTwiceUptoCard : Claim7 := { stood := { row := namesTwiceUptoRow, standIns := [], harness := (true, "a7eb1faeadbc040746ed4b270a3267824c271ca3c92d2db9e1977a5c457186c2"), looks := true }, kinds := [], alts := [], laidByText := true, laidKinds := [.data, .data, .data, .data], laidTests := true, laidLooks := .later }
def NamesTwiceUptoCardSaid : Prop := Claim7.holds Tryz.pinned (.plain (OpenSpec.upto namesTwiceSpec)) namesTwiceUptoCard

/-- THE SECOND FORM's CARD OF 'filigreelaw07.NamesFresh'. -/
def namesFreshUptoCard : Claim7 := { stood := { row := namesFreshUptoRow, standIns := [], harness := (true, "a7eb1faeadbc040746ed4b270a3267824c271ca3c92d2db9e1977a5c457186c2"), looks := true }, kinds := [], alts := [], laidByText := true, laidKinds := [.data, .data, .data, .data], laidTests := true, laidLooks := .later }
def NamesFreshUptoCardSaid : Prop := Claim7.holds Tryz.pinned (.plain (OpenSpec.upto namesFreshSpec)) namesFreshUptoCard

/-- THE SECOND FORM's CARD OF 'filigreelaw07.NamesSides'. -/
def namesSidesUptoCard : Claim7 := { stood := { row := namesSidesUptoRow, standIns := [], harness := (true, "a7eb1faeadbc040746ed4b270a3267824c271ca3c92d2db9e1977a5c457186c2"), looks := true }, kinds := [], alts := [], laidByText := true, laidKinds := [.data, .data, .data, .data], laidTests := true, laidLooks := .later }
def NamesSidesUptoCardSaid : Prop := Claim7.holds Tryz.pinned (.plain (OpenSpec.upto namesSidesSpec)) namesSidesUptoCard

/-- THE SECOND FORM's CARD OF 'filigreelaw07.NamesLoops'. -/
def namesLoopsUptoCard : Claim7 := { stood := { row := namesLoopsUptoRow, standIns := [], harness := (true, "a7eb1faeadbc040746ed4b270a3267824c271ca3c92d2db9e1977a5c457186c2"), looks := true }, kinds := [], alts := [], laidByText := true, laidKinds := [.data, .data, .data, .data], laidTests := true, laidLooks := .later }
def NamesLoopsUptoCardSaid : Prop := Claim7.holds Tryz.pinned (.plain (OpenSpec.upto namesLoopsSpec)) namesLoopsUptoCard

/-- THE SECOND FORM's CARD OF 'filigreelaw07.NamesRing'. -/
def namesRingUptoCard : Claim7 := { stood := { row := namesRingUptoRow, standIns := [], harness := (true, "a7eb1faeadbc040746ed4b270a3267824c271ca3c92d2db9e1977a5c457186c2"), looks := true }, kinds := [], alts := [], laidByText := true, laidKinds := [.data, .data, .data, .data], laidTests := true, laidLooks := .later }
def NamesRingUptoCardSaid : Prop := Claim7.holds Tryz.pinned (.plain (OpenSpec.upto namesRingSpec)) namesRingUptoCard

/-- THE SECOND FORM's CARD OF 'filigreelaw07.NamesWithout'. -/
def namesWithoutUptoCard : Claim7 := { stood := { row := namesWithoutUptoRow, standIns := [], harness := (true, "a7eb1faeadbc040746ed4b270a3267824c271ca3c92d2db9e1977a5c457186c2"), looks := true }, kinds := [], alts := [], laidByText := true, laidKinds := [.data, .data, .data, .data], laidTests := true, laidLooks := .later }
def NamesWithoutUptoCardSaid : Prop := Claim7.holds Tryz.pinned (.plain (OpenSpec.upto namesWithoutSpec)) namesWithoutUptoCard
end Rows
end Go.Proofs.YtbfhbblbjgkolaaGreatDoor
