/-
  DERIVED. GIVEN WITH THE SEED: THE PROGRAM's TIES (one call each: nine closed facts by the kernel) AND EACH ROW's TIE, after the 31st guide's Derived/Test/Toyas{Tie, Card}.lean. No idea stands in it: it is a product of the set-up. Laid BY PROGRAM, IN A SANDBOX (cutbox-door.mjs). By AI agents, Wed Nov 11 2026. No macro, syntax, notation, axiom, sorry.
-/
import Derived.Test.YtlbjmnakiflfpaaGreatDoorRows
import Derived.LaidByTextLater
import Derived.SevenTiedAt
import Derived.LaidSub
import Derived.LaidOnce
namespace Go.Proofs.YtlbjmnakiflfpaaGreatDoor
open Go
set_option maxRecDepth 100000
theorem seatTie1 : Tryz.prog.laidByTextLater [("filigree/scan.signs", Rows.laid_filigree_scan_signs), ("filigree/ast.expressionKinds", Rows.laid_filigree_ast_expressionKinds), ("filigree/ast.statementKinds", Rows.laid_filigree_ast_statementKinds), ("filigree/ast.itemKinds", Rows.laid_filigree_ast_itemKinds)] [.data, .data, .data, .data] true :=
  Program.laidByTextLater_by_one 55 8 89 (by kernel_rfl) (by kernel_rfl) (by kernel_rfl) (by kernel_rfl) (by kernel_rfl) (by kernel_rfl) (fun _ _ => by kernel_rfl)
theorem noOwnUnsafe : Tryz.pinned.checked.prog.headLifts.contains "ownunsafe" = false := by kernel_rfl
theorem tie : Tryz.prog.laidByTextLater [("filigree/scan.signs", Rows.laid_filigree_scan_signs), ("filigree/ast.expressionKinds", Rows.laid_filigree_ast_expressionKinds), ("filigree/ast.statementKinds", Rows.laid_filigree_ast_statementKinds), ("filigree/ast.itemKinds", Rows.laid_filigree_ast_itemKinds)] [.data, .data, .data, .data] true :=
  Program.laidByTextLater.sub seatTie1 ["filigree/scan.signs", "filigree/ast.expressionKinds", "filigree/ast.statementKinds", "filigree/ast.itemKinds"] (by kernel_rfl) (by kernel_rfl)
theorem astParts_row_tie : Rows.astPartsRow.laidByTextAt .later Tryz.pinned [.data, .data, .data, .data] true :=
  OpenClaim.laidByTextAt_later rfl rfl tie noOwnUnsafe
theorem astSame_row_tie : Rows.astSameRow.laidByTextAt .later Tryz.pinned [.data, .data, .data, .data] true :=
  OpenClaim.laidByTextAt_later rfl rfl tie noOwnUnsafe
theorem tie2 : Tryz.prog.laidByTextLater [("filigree/scan.signs", Rows.laid_filigree_scan_signs), ("filigree/ast.expressionKinds", Rows.laid_filigree_ast_expressionKinds)] [.data, .data] true :=
  Program.laidByTextLater.sub seatTie1 ["filigree/scan.signs", "filigree/ast.expressionKinds"] (by kernel_rfl) (by kernel_rfl)
theorem konstPlaces_row_tie : Rows.konstPlacesRow.laidByTextAt .later Tryz.pinned [.data, .data] true :=
  OpenClaim.laidByTextAt_later rfl rfl tie2 noOwnUnsafe
theorem astPartsUpto_row_tie : Rows.astPartsUptoRow.laidByTextAt .later Tryz.pinned [.data, .data, .data, .data] true :=
  OpenClaim.laidByTextAt_later rfl rfl tie noOwnUnsafe
theorem astSameUpto_row_tie : Rows.astSameUptoRow.laidByTextAt .later Tryz.pinned [.data, .data, .data, .data] true :=
  OpenClaim.laidByTextAt_later rfl rfl tie noOwnUnsafe
theorem konstPlacesUpto_row_tie : Rows.konstPlacesUptoRow.laidByTextAt .later Tryz.pinned [.data, .data] true :=
  OpenClaim.laidByTextAt_later rfl rfl tie2 noOwnUnsafe
end Go.Proofs.YtlbjmnakiflfpaaGreatDoor
