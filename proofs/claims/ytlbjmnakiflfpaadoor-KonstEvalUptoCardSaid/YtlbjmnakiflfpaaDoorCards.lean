/-
  DERIVED. GIVEN WITH THE SEED: THE CARDS: each row of YtlbjmnakiflfpaaDoorRows.lean that lists a variable, with what it lists TIED to the program's text (the seventh form; the later family's looks); each row that meets fmt, with fmt's text TOLD by the authors' own Lean function (tested against real Go, not proved from fmt's source: count such statements apart). THE CARD IS WHAT COUNTS. Prove the row's statement (the work); the ties are given (YtlbjmnakiflfpaaDoorTie.lean); close each card by the builder's one call (the guide's Derived/Test/ToyasCard.lean, 'card_holds'). Laid BY PROGRAM, IN A SANDBOX (cutbox-door.mjs). By AI agents, Wed Nov 11 2026. No macro, syntax, notation, axiom, sorry.
-/
import Derived.Test.YtlbjmnakiflfpaaDoorRows
import GoSem.ClaimSeven
namespace Go.Proofs.YtlbjmnakiflfpaaDoor
namespace Rows

/-- THE TIED CARD OF 'filigreelaw06.KonstEval'. -/
def konstEvalCard : Claim7 := { stood := { row := konstEvalRow, standIns := [], harness := (true, "12d252d5c7869b1da77e14325c862ac8514b71d61ebf54f17bd2d3ebf9077d7a"), looks := false }, kinds := [], alts := [], laidByText := true, laidKinds := [.data, .data], laidTests := true, laidLooks := .later }
def KonstEvalCardSaid : Prop := Claim7.holds Tryd.pinned (.plain (OpenSpec.ofChange konstEvalSpec)) konstEvalCard

/-- THE TIED CARD OF 'filigreelaw06.KonstFree'. -/
def konstFreeCard : Claim7 := { stood := { row := konstFreeRow, standIns := [], harness := (true, "12d252d5c7869b1da77e14325c862ac8514b71d61ebf54f17bd2d3ebf9077d7a"), looks := false }, kinds := [], alts := [], laidByText := true, laidKinds := [.data, .data], laidTests := true, laidLooks := .later }
def KonstFreeCardSaid : Prop := Claim7.holds Tryd.pinned (.plain (OpenSpec.ofChange konstFreeSpec)) konstFreeCard

/-- THE SECOND FORM's CARD OF 'filigreelaw06.KonstEval'. -/
def konstEvalUptoCard : Claim7 := { stood := { row := konstEvalUptoRow, standIns := [], harness := (true, "12d252d5c7869b1da77e14325c862ac8514b71d61ebf54f17bd2d3ebf9077d7a"), looks := false }, kinds := [], alts := [], laidByText := true, laidKinds := [.data, .data], laidTests := true, laidLooks := .later }
def KonstEvalUptoCardSaid : Prop := Claim7.holds Tryd.pinned (.plain (OpenSpec.upto konstEvalSpec)) konstEvalUptoCard

/-- THE SECOND FORM's CARD OF 'filigreelaw06.KonstFree'. -/
def konstFreeUptoCard : Claim7 := { stood := { row := konstFreeUptoRow, standIns := [], harness := (true, "12d252d5c7869b1da77e14325c862ac8514b71d61ebf54f17bd2d3ebf9077d7a"), looks := false }, kinds := [], alts := [], laidByText := true, laidKinds := [.data, .data], laidTests := true, laidLooks := .later }
def KonstFreeUptoCardSaid : Prop := Claim7.holds Tryd.pinned (.plain (OpenSpec.upto konstFreeSpec)) konstFreeUptoCard
end Rows
end Go.Proofs.YtlbjmnakiflfpaaDoor
