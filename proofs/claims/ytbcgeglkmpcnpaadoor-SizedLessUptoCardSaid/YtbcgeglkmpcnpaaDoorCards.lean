/-
  DERIVED. GIVEN WITH THE SEED: THE CARDS: each row of YtbcgeglkmpcnpaaDoorRows.lean that lists a variable, with what it lists TIED to the program's text (the seventh form; the later family's looks); each row that meets fmt, with fmt's text TOLD by the authors' own Lean function (tested against real Go, not proved from fmt's source: count such statements apart). THE CARD IS WHAT COUNTS. Prove the row's statement (the work); the ties are given (YtbcgeglkmpcnpaaDoorTie.lean); close each card by the builder's one call (the guide's Derived/Test/ToyasCard.lean, 'card_holds'). Laid BY PROGRAM, IN A SANDBOX (cutbox-door.mjs). By AI agents, Wed Nov 11 2026. No macro, syntax, notation, axiom, sorry.
-/
import Derived.Test.YtbcgeglkmpcnpaaDoorRows
import GoSem.ClaimSeven
namespace Go.Proofs.YtbcgeglkmpcnpaaDoor
namespace Rows

/-- THE TIED CARD OF 'filigreelaw09.SizedExpr'. -/
def sizedExprCard : Claim7 := { stood := { row := sizedExprRow, standIns := [], harness := (true, "15f975eadfa23cbee42bb8d774fa6ee2f28061467bf364e9b8a8569bd6b96f5e"), looks := false }, kinds := [], alts := [], laidByText := true, laidKinds := [.data], laidTests := true, laidLooks := .later }
def SizedExprCardSaid : Prop := Claim7.holds Tryd.pinned (.plain (OpenSpec.ofChange sizedExprSpec)) sizedExprCard

/-- THE TIED CARD OF 'filigreelaw09.SizedOnce'. -/
def sizedOnceCard : Claim7 := { stood := { row := sizedOnceRow, standIns := [], harness := (true, "15f975eadfa23cbee42bb8d774fa6ee2f28061467bf364e9b8a8569bd6b96f5e"), looks := false }, kinds := [], alts := [], laidByText := true, laidKinds := [.data], laidTests := true, laidLooks := .later }
def SizedOnceCardSaid : Prop := Claim7.holds Tryd.pinned (.plain (OpenSpec.ofChange sizedOnceSpec)) sizedOnceCard

/-- THE TIED CARD OF 'filigreelaw09.SizedLess'. -/
def sizedLessCard : Claim7 := { stood := { row := sizedLessRow, standIns := [], harness := (true, "15f975eadfa23cbee42bb8d774fa6ee2f28061467bf364e9b8a8569bd6b96f5e"), looks := false }, kinds := [], alts := [], laidByText := true, laidKinds := [.data], laidTests := true, laidLooks := .later }
def SizedLessCardSaid : Prop := Claim7.holds Tryd.pinned (.plain (OpenSpec.ofChange sizedLessSpec)) sizedLessCard

/-- THE SECOND FORM's CARD OF 'filigreelaw09.SizedExpr'. -/
def sizedExprUptoCard : Claim7 := { stood := { row := sizedExprUptoRow, standIns := [], harness := (true, "15f975eadfa23cbee42bb8d774fa6ee2f28061467bf364e9b8a8569bd6b96f5e"), looks := false }, kinds := [], alts := [], laidByText := true, laidKinds := [.data], laidTests := true, laidLooks := .later }
def SizedExprUptoCardSaid : Prop := Claim7.holds Tryd.pinned (.plain (OpenSpec.upto sizedExprSpec)) sizedExprUptoCard

/-- THE SECOND FORM's CARD OF 'filigreelaw09.SizedOnce'. -/
def sizedOnceUptoCard : Claim7 := { stood := { row := sizedOnceUptoRow, standIns := [], harness := (true, "15f975eadfa23cbee42bb8d774fa6ee2f28061467bf364e9b8a8569bd6b96f5e"), looks := false }, kinds := [], alts := [], laidByText := true, laidKinds := [.data], laidTests := true, laidLooks := .later }
def SizedOnceUptoCardSaid : Prop := Claim7.holds Tryd.pinned (.plain (OpenSpec.upto sizedOnceSpec)) sizedOnceUptoCard

/-- THE SECOND FORM's CARD OF 'filigreelaw09.SizedLess'. -/
def sizedLessUptoCard : Claim7 := { stood := { row := sizedLessUptoRow, standIns := [], harness := (true, "15f975eadfa23cbee42bb8d774fa6ee2f28061467bf364e9b8a8569bd6b96f5e"), looks := false }, kinds := [], alts := [], laidByText := true, laidKinds := [.data], laidTests := true, laidLooks := .later }
def SizedLessUptoCardSaid : Prop := Claim7.holds Tryd.pinned (.plain (OpenSpec.upto sizedLessSpec)) sizedLessUptoCard
end Rows
end Go.Proofs.YtbcgeglkmpcnpaaDoor
