/-
  DERIVED. GIVEN WITH THE SEED: THE CARDS: each row of YtglpkfeokojdkaaDoorRows.lean that lists a variable, with what it lists TIED to the program's text (the seventh form; the later family's looks); each row that meets fmt, with fmt's text TOLD by the authors' own Lean function (tested against real Go, not proved from fmt's source: count such statements apart). THE CARD IS WHAT COUNTS. Prove the row's statement (the work); the ties are given (YtglpkfeokojdkaaDoorTie.lean); close each card by the builder's one call (the guide's Derived/Test/ToyasCard.lean, 'card_holds'). Laid BY PROGRAM, IN A SANDBOX (cutbox-door.mjs). By AI agents, Wed Nov 11 2026. No macro, syntax, notation, axiom, sorry.
-/
import Derived.Test.YtglpkfeokojdkaaDoorRows
import GoSem.ClaimSeven
namespace Go.Proofs.YtglpkfeokojdkaaDoor
namespace Rows

/-- THE TIED CARD OF 'filigreelaw09.SizedBehind'. -/
def sizedBehindCard : Claim7 := { stood := { row := sizedBehindRow, standIns := [], harness := (true, "844df52c7f22427a77e149f79986ebe37ff141d98080388c31fd5af252123248"), looks := false }, kinds := [], alts := [], laidByText := true, laidKinds := [.data], laidTests := true, laidLooks := .later }
def SizedBehindCardSaid : Prop := Claim7.holds Tryd.pinned (.plain (OpenSpec.ofChange sizedBehindSpec)) sizedBehindCard

/-- THE TIED CARD OF 'filigreelaw09.SizedBit'. -/
def sizedBitCard : Claim7 := { stood := { row := sizedBitRow, standIns := [], harness := (true, "844df52c7f22427a77e149f79986ebe37ff141d98080388c31fd5af252123248"), looks := false }, kinds := [], alts := [], laidByText := true, laidKinds := [.data], laidTests := true, laidLooks := .later }
def SizedBitCardSaid : Prop := Claim7.holds Tryd.pinned (.plain (OpenSpec.ofChange sizedBitSpec)) sizedBitCard

/-- THE TIED CARD OF 'filigreelaw09.SizedNumber'. -/
def sizedNumberCard : Claim7 := { stood := { row := sizedNumberRow, standIns := [], harness := (true, "844df52c7f22427a77e149f79986ebe37ff141d98080388c31fd5af252123248"), looks := false }, kinds := [], alts := [], laidByText := true, laidKinds := [.data], laidTests := true, laidLooks := .later }
def SizedNumberCardSaid : Prop := Claim7.holds Tryd.pinned (.plain (OpenSpec.ofChange sizedNumberSpec)) sizedNumberCard

/-- THE TIED CARD OF 'filigreelaw09.SizedParts'. -/
def sizedPartsCard : Claim7 := { stood := { row := sizedPartsRow, standIns := [], harness := (true, "844df52c7f22427a77e149f79986ebe37ff141d98080388c31fd5af252123248"), looks := false }, kinds := [], alts := [], laidByText := true, laidKinds := [.data], laidTests := true, laidLooks := .later }
def SizedPartsCardSaid : Prop := Claim7.holds Tryd.pinned (.plain (OpenSpec.ofChange sizedPartsSpec)) sizedPartsCard

/-- THE TIED CARD OF 'filigreelaw09.SizedSame'. -/
def sizedSameCard : Claim7 := { stood := { row := sizedSameRow, standIns := [], harness := (true, "844df52c7f22427a77e149f79986ebe37ff141d98080388c31fd5af252123248"), looks := false }, kinds := [], alts := [], laidByText := true, laidKinds := [.data], laidTests := true, laidLooks := .later }
def SizedSameCardSaid : Prop := Claim7.holds Tryd.pinned (.plain (OpenSpec.ofChange sizedSameSpec)) sizedSameCard

/-- THE TIED CARD OF 'filigreelaw09.SizedWant'. -/
def sizedWantCard : Claim7 := { stood := { row := sizedWantRow, standIns := [], harness := (true, "844df52c7f22427a77e149f79986ebe37ff141d98080388c31fd5af252123248"), looks := false }, kinds := [], alts := [], laidByText := true, laidKinds := [.data], laidTests := true, laidLooks := .later }
def SizedWantCardSaid : Prop := Claim7.holds Tryd.pinned (.plain (OpenSpec.ofChange sizedWantSpec)) sizedWantCard

/-- THE SECOND FORM's CARD OF 'filigreelaw09.SizedBehind'. -/
def sizedBehindUptoCard : Claim7 := { stood := { row := sizedBehindUptoRow, standIns := [], harness := (true, "844df52c7f22427a77e149f79986ebe37ff141d98080388c31fd5af252123248"), looks := false }, kinds := [], alts := [], laidByText := true, laidKinds := [.data], laidTests := true, laidLooks := .later }
def SizedBehindUptoCardSaid : Prop := Claim7.holds Tryd.pinned (.plain (OpenSpec.upto sizedBehindSpec)) sizedBehindUptoCard

/-- THE SECOND FORM's CARD OF 'filigreelaw09.SizedBit'. -/
def sizedBitUptoCard : Claim7 := { stood := { row := sizedBitUptoRow, standIns := [], harness := (true, "844df52c7f22427a77e149f79986ebe37ff141d98080388c31fd5af252123248"), looks := false }, kinds := [], alts := [], laidByText := true, laidKinds := [.data], laidTests := true, laidLooks := .later }
def SizedBitUptoCardSaid : Prop := Claim7.holds Tryd.pinned (.plain (OpenSpec.upto sizedBitSpec)) sizedBitUptoCard

/-- THE SECOND FORM's CARD OF 'filigreelaw09.SizedNumber'. -/
def sizedNumberUptoCard : Claim7 := { stood := { row := sizedNumberUptoRow, standIns := [], harness := (true, "844df52c7f22427a77e149f79986ebe37ff141d98080388c31fd5af252123248"), looks := false }, kinds := [], alts := [], laidByText := true, laidKinds := [.data], laidTests := true, laidLooks := .later }
def SizedNumberUptoCardSaid : Prop := Claim7.holds Tryd.pinned (.plain (OpenSpec.upto sizedNumberSpec)) sizedNumberUptoCard

/-- THE SECOND FORM's CARD OF 'filigreelaw09.SizedParts'. -/
def sizedPartsUptoCard : Claim7 := { stood := { row := sizedPartsUptoRow, standIns := [], harness := (true, "844df52c7f22427a77e149f79986ebe37ff141d98080388c31fd5af252123248"), looks := false }, kinds := [], alts := [], laidByText := true, laidKinds := [.data], laidTests := true, laidLooks := .later }
def SizedPartsUptoCardSaid : Prop := Claim7.holds Tryd.pinned (.plain (OpenSpec.upto sizedPartsSpec)) sizedPartsUptoCard

/-- THE SECOND FORM's CARD OF 'filigreelaw09.SizedSame'. -/
def sizedSameUptoCard : Claim7 := { stood := { row := sizedSameUptoRow, standIns := [], harness := (true, "844df52c7f22427a77e149f79986ebe37ff141d98080388c31fd5af252123248"), looks := false }, kinds := [], alts := [], laidByText := true, laidKinds := [.data], laidTests := true, laidLooks := .later }
def SizedSameUptoCardSaid : Prop := Claim7.holds Tryd.pinned (.plain (OpenSpec.upto sizedSameSpec)) sizedSameUptoCard

/-- THE SECOND FORM's CARD OF 'filigreelaw09.SizedWant'. -/
def sizedWantUptoCard : Claim7 := { stood := { row := sizedWantUptoRow, standIns := [], harness := (true, "844df52c7f22427a77e149f79986ebe37ff141d98080388c31fd5af252123248"), looks := false }, kinds := [], alts := [], laidByText := true, laidKinds := [.data], laidTests := true, laidLooks := .later }
def SizedWantUptoCardSaid : Prop := Claim7.holds Tryd.pinned (.plain (OpenSpec.upto sizedWantSpec)) sizedWantUptoCard
end Rows
end Go.Proofs.YtglpkfeokojdkaaDoor
