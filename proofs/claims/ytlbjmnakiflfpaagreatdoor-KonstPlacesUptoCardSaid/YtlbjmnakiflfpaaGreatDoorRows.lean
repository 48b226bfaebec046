/-
  NARROWER THAN 'FOR EVERY INPUT', by the rows' own cells (each row's printed sentence says how): AstParts: loops, laid · AstSame: loops, laid · KonstPlaces: loops, laid.
  DERIVED. THE GIVEN ROWS OF THIS SEAT. 3 by the template 'for every input the law returns true; each argument reads behind the call as it read before'; 0 by the template 'total and deterministic' (their statements: YtlbjmnakiflfpaaGreatDoorTotals.lean).
  GIVEN WITH THE SEED: the statements are not yours to turn. If you find one false, say at which input.
  Laid BY PROGRAM, IN A SANDBOX (cutbox-rows.mjs): the forced cells as the released guide's own fill.sh prints them over the translation 2b168404a6836b87… (all of the seat's roots in one cut). By AI agents, Wed Nov 11 2026. No macro, syntax, notation, axiom, sorry.
-/
import Derived.Test.YtlbjmnakiflfpaaGreatDoorChecked
import GoSem.Claim
import GoSem.ClaimJoined
import GoSem.ClaimMapViews
import Derived.JoinedTies
import Derived.KernelRfl
namespace Go.Proofs.YtlbjmnakiflfpaaGreatDoor
/- THE CELL 'sum', in the pinned program and in every row, IS THE sha256 OF THE DUMP (.gsa) THAT YtlbjmnakiflfpaaGreatDoorProg.lean LOADS. Nothing in Lean hashes anything: it is a label: what it is worth is what the hold of that sum in a sandbox is worth. -/
noncomputable def Tryz.pinned : Pinned := { name := "ytlbjmnakiflfpaagreatdoor", sum := "2b168404a6836b876d95a86c9f32f48f279e3bd7e178b4127abfe8e214e66389", checked := Tryz.checked }
namespace Rows
def none {H : Type} : Left H := { results := [], args := [] }

/- WHAT THE LISTED PACKAGE-LEVEL VARIABLES READ AS WHEN THE CALL BEGINS. Each datum BY PROGRAM (the guide's laid-datum.mjs) off the statement by which the dump's own 'gosem.cut.vars' lays the variable. In a bare row this is a premise. The card (YtlbjmnakiflfpaaGreatDoorCards.lean) ties it to the program's text. -/
def laid_filigree_scan_signs {H : Type} : DataW H := .agg [.lit (.string [46, 46]), .lit (.string [60, 61]), .lit (.string [62, 61]), .lit (.string [124, 124]), .lit (.string [38, 38]), .lit (.string [61, 61]), .lit (.string [33, 61]), .lit (.string [60, 60]), .lit (.string [62, 62]), .lit (.string [35]), .lit (.string [40]), .lit (.string [41]), .lit (.string [44]), .lit (.string [123]), .lit (.string [125]), .lit (.string [61]), .lit (.string [58]), .lit (.string [59]), .lit (.string [91]), .lit (.string [93]), .lit (.string [63]), .lit (.string [124]), .lit (.string [94]), .lit (.string [38]), .lit (.string [60]), .lit (.string [62]), .lit (.string [43]), .lit (.string [45]), .lit (.string [42]), .lit (.string [126]), .lit (.string [33])]
def laid_filigree_ast_expressionKinds {H : Type} : DataW H := .agg [.agg [.lit (.bool false), .lit (.int .i64 0), .lit (.bool false), .lit (.int .i64 0), .lit (.int .i64 0)], .agg [.lit (.bool false), .lit (.int .i64 0), .lit (.bool false), .lit (.int .i64 0), .lit (.int .i64 0)], .agg [.lit (.bool true), .lit (.int .i64 0), .lit (.bool false), .lit (.int .i64 0), .lit (.int .i64 0)], .agg [.lit (.bool true), .lit (.int .i64 2), .lit (.bool false), .lit (.int .i64 0), .lit (.int .i64 0)], .agg [.lit (.bool true), .lit (.int .i64 1), .lit (.bool false), .lit (.int .i64 0), .lit (.int .i64 0)], .agg [.lit (.bool false), .lit (.int .i64 1), .lit (.bool false), .lit (.int .i64 1), .lit (.int .i64 6)], .agg [.lit (.bool false), .lit (.int .i64 2), .lit (.bool false), .lit (.int .i64 11), .lit (.int .i64 26)], .agg [.lit (.bool false), .lit (.int .i64 3), .lit (.bool false), .lit (.int .i64 0), .lit (.int .i64 0)], .agg [.lit (.bool false), .lit (.int .i64 1), .lit (.bool true), .lit (.int .i64 0), .lit (.int .i64 0)], .agg [.lit (.bool false), .lit (.int .i64 2), .lit (.bool false), .lit (.int .i64 0), .lit (.int .i64 0)], .agg [.lit (.bool false), .lit (.int .i64 2), .lit (.bool false), .lit (.int .i64 31), .lit (.int .i64 33)]]
def laid_filigree_ast_statementKinds {H : Type} : DataW H := .agg [.agg [.lit (.bool false), .lit (.bool false), .lit (.int .i64 0), .lit (.int .i64 0), .lit (.bool false), .lit (.bool false), .lit (.int .u64 0), .lit (.int .u64 0)], .agg [.lit (.bool false), .lit (.bool true), .lit (.int .i64 2), .lit (.int .i64 0), .lit (.bool false), .lit (.bool false), .lit (.int .u64 0), .lit (.int .u64 0)], .agg [.lit (.bool false), .lit (.bool false), .lit (.int .i64 1), .lit (.int .i64 2), .lit (.bool false), .lit (.bool false), .lit (.int .u64 32), .lit (.int .u64 36)], .agg [.lit (.bool false), .lit (.bool false), .lit (.int .i64 1), .lit (.int .i64 1), .lit (.bool false), .lit (.bool true), .lit (.int .u64 16), .lit (.int .u64 16)], .agg [.lit (.bool false), .lit (.bool false), .lit (.int .i64 0), .lit (.int .i64 0), .lit (.bool true), .lit (.bool true), .lit (.int .u64 110), .lit (.int .u64 110)], .agg [.lit (.bool false), .lit (.bool false), .lit (.int .i64 0), .lit (.int .i64 0), .lit (.bool false), .lit (.bool true), .lit (.int .u64 110), .lit (.int .u64 110)], .agg [.lit (.bool true), .lit (.bool false), .lit (.int .i64 2), .lit (.int .i64 0), .lit (.bool false), .lit (.bool true), .lit (.int .u64 110), .lit (.int .u64 110)]]
def laid_filigree_ast_itemKinds {H : Type} : DataW H := .agg [.agg [.lit (.bool false), .lit (.bool false), .lit (.bool false), .lit (.int .i64 0), .lit (.bool false), .lit (.bool false), .lit (.bool false), .lit (.bool false)], .agg [.lit (.bool true), .lit (.bool false), .lit (.bool false), .lit (.int .i64 1), .lit (.bool false), .lit (.bool false), .lit (.bool false), .lit (.bool false)], .agg [.lit (.bool true), .lit (.bool false), .lit (.bool false), .lit (.int .i64 1), .lit (.bool false), .lit (.bool false), .lit (.bool false), .lit (.bool false)], .agg [.lit (.bool true), .lit (.bool false), .lit (.bool false), .lit (.int .i64 2), .lit (.bool false), .lit (.bool false), .lit (.bool false), .lit (.bool false)], .agg [.lit (.bool false), .lit (.bool false), .lit (.bool true), .lit (.int .i64 2), .lit (.bool false), .lit (.bool false), .lit (.bool false), .lit (.bool false)], .agg [.lit (.bool false), .lit (.bool false), .lit (.bool false), .lit (.int .i64 0), .lit (.bool true), .lit (.bool false), .lit (.bool false), .lit (.bool false)], .agg [.lit (.bool false), .lit (.bool false), .lit (.bool false), .lit (.int .i64 0), .lit (.bool true), .lit (.bool false), .lit (.bool false), .lit (.bool false)], .agg [.lit (.bool true), .lit (.bool true), .lit (.bool false), .lit (.int .i64 0), .lit (.bool false), .lit (.bool false), .lit (.bool false), .lit (.bool true)], .agg [.lit (.bool false), .lit (.bool false), .lit (.bool false), .lit (.int .i64 1), .lit (.bool false), .lit (.bool true), .lit (.bool true), .lit (.bool false)], .agg [.lit (.bool true), .lit (.bool true), .lit (.bool false), .lit (.int .i64 2), .lit (.bool false), .lit (.bool true), .lit (.bool false), .lit (.bool false)], .agg [.lit (.bool true), .lit (.bool false), .lit (.bool false), .lit (.int .i64 1), .lit (.bool false), .lit (.bool false), .lit (.bool false), .lit (.bool false)]]

/-- 'filigreelaw03.AstParts': WHATEVER THE INPUT: true; the input reads as it did. -/
def astPartsSpec : ChangeSpec := { name := "astParts", fn := fun _ => fun
  | [d1, d2] => { results := [.lit (.bool true)], args := [d1, d2] }
  | _ => none }
def astPartsRow : OpenClaim := { program := "ytlbjmnakiflfpaagreatdoor", sum := "2b168404a6836b876d95a86c9f32f48f279e3bd7e178b4127abfe8e214e66389", func := "filigree/filigreelaw03.AstParts", spec := "astParts", inPlace := ["internal/bytealg.IndexByteString", "internal/bytealg.IndexString"], unfollowed := true, recurses := true, named := ["filigree/ast.expressionKinds", "internal/bytealg.MaxLen", "filigree/scan.signs", "filigree/ast.statementKinds", "filigree/ast.itemKinds"], loops := true, apart := false, laid := [("filigree/scan.signs", laid_filigree_scan_signs), ("filigree/ast.expressionKinds", laid_filigree_ast_expressionKinds), ("filigree/ast.statementKinds", laid_filigree_ast_statementKinds), ("filigree/ast.itemKinds", laid_filigree_ast_itemKinds)] }
def AstPartsSaid : Prop := astPartsRow.holds Tryz.pinned (OpenSpec.ofChange astPartsSpec)

/-- ITS FALSE NEIGHBOUR: 'it returns false'. Refute it at one input. -/
def astPartsWrong : ChangeSpec := { name := "astParts", fn := fun _ => fun
  | [d1, d2] => { results := [.lit (.bool false)], args := [d1, d2] }
  | _ => none }
def AstPartsWrongFalsely : Prop := astPartsRow.holds Tryz.pinned (OpenSpec.ofChange astPartsWrong)

/-- 'filigreelaw03.AstSame': WHATEVER THE INPUT: true; the input reads as it did. -/
def astSameSpec : ChangeSpec := { name := "astSame", fn := fun _ => fun
  | [d1, d2, d3, d4, d5, d6] => { results := [.lit (.bool true)], args := [d1, d2, d3, d4, d5, d6] }
  | _ => none }
def astSameRow : OpenClaim := { program := "ytlbjmnakiflfpaagreatdoor", sum := "2b168404a6836b876d95a86c9f32f48f279e3bd7e178b4127abfe8e214e66389", func := "filigree/filigreelaw03.AstSame", spec := "astSame", inPlace := ["internal/bytealg.IndexByteString", "internal/bytealg.IndexString"], unfollowed := true, recurses := true, named := ["filigree/ast.expressionKinds", "internal/bytealg.MaxLen", "filigree/scan.signs", "filigree/ast.statementKinds", "filigree/ast.itemKinds"], loops := true, apart := false, laid := [("filigree/scan.signs", laid_filigree_scan_signs), ("filigree/ast.expressionKinds", laid_filigree_ast_expressionKinds), ("filigree/ast.statementKinds", laid_filigree_ast_statementKinds), ("filigree/ast.itemKinds", laid_filigree_ast_itemKinds)] }
def AstSameSaid : Prop := astSameRow.holds Tryz.pinned (OpenSpec.ofChange astSameSpec)

/-- ITS FALSE NEIGHBOUR: 'it returns false'. Refute it at one input. -/
def astSameWrong : ChangeSpec := { name := "astSame", fn := fun _ => fun
  | [d1, d2, d3, d4, d5, d6] => { results := [.lit (.bool false)], args := [d1, d2, d3, d4, d5, d6] }
  | _ => none }
def AstSameWrongFalsely : Prop := astSameRow.holds Tryz.pinned (OpenSpec.ofChange astSameWrong)

/-- 'filigreelaw06.KonstPlaces': WHATEVER THE INPUT: true; the input reads as it did. -/
def konstPlacesSpec : ChangeSpec := { name := "konstPlaces", fn := fun _ => fun
  | [d1, d2] => { results := [.lit (.bool true)], args := [d1, d2] }
  | _ => none }
def konstPlacesRow : OpenClaim := { program := "ytlbjmnakiflfpaagreatdoor", sum := "2b168404a6836b876d95a86c9f32f48f279e3bd7e178b4127abfe8e214e66389", func := "filigree/filigreelaw06.KonstPlaces", spec := "konstPlaces", inPlace := ["internal/bytealg.IndexByteString", "internal/bytealg.IndexString"], unfollowed := true, recurses := true, named := ["filigree/ast.expressionKinds", "internal/bytealg.MaxLen", "filigree/scan.signs"], loops := true, apart := false, laid := [("filigree/scan.signs", laid_filigree_scan_signs), ("filigree/ast.expressionKinds", laid_filigree_ast_expressionKinds)] }
def KonstPlacesSaid : Prop := konstPlacesRow.holds Tryz.pinned (OpenSpec.ofChange konstPlacesSpec)

/-- ITS FALSE NEIGHBOUR: 'it returns false'. Refute it at one input. -/
def konstPlacesWrong : ChangeSpec := { name := "konstPlaces", fn := fun _ => fun
  | [d1, d2] => { results := [.lit (.bool false)], args := [d1, d2] }
  | _ => none }
def KonstPlacesWrongFalsely : Prop := konstPlacesRow.holds Tryz.pinned (OpenSpec.ofChange konstPlacesWrong)

/- THE SECOND FORM. 'bulk': how many values and letters a reading holds, each counted each time it is reached (what is shared counts as often as it is met; a slice's spare places count too). A statement '..UptoSaid' is the law's where the arguments, and the package variables that the reading takes, are together of bulk at most 1048576: NARROWER than '..Said'. Prove '..Said' where nothing that the law and all that it calls make is longer than what came in: it says more and counts as full. Else prove '..UptoSaid'. A law counts once. -/
mutual
def uptoBulk {H : Type} : DataW H → Nat
  | .lit (.string bytes) => bytes.length + 1
  | .lit _ => 1
  | .nil => 1
  | .ptr d => uptoBulk d + 1
  | .slice elems spare => uptoBulkAll elems + uptoBulkAll spare + 1
  | .agg parts => uptoBulkAll parts + 1
  | .iface _ d => uptoBulk d + 1
  | .map entries => uptoBulkEntries entries + 1
  | .held _ => 1
def uptoBulkAll {H : Type} : List (DataW H) → Nat
  | [] => 0
  | d :: r => uptoBulk d + uptoBulkAll r
def uptoBulkEntries {H : Type} : List (Lit × DataW H) → Nat
  | [] => 0
  | x :: r => uptoBulkEntry x + uptoBulkEntries r
def uptoBulkEntry {H : Type} : Lit × DataW H → Nat
  | (.string bytes, d) => bytes.length + uptoBulk d + 1
  | (_, d) => uptoBulk d + 1
 end
def uptoSmall : (H : Type) → List (DataW H) → Bool := fun _ ds => decide (uptoBulkAll ds ≤ 1048576)
def OpenSpec.upto (s : _root_.Go.ChangeSpec) : _root_.Go.OpenSpec := { _root_.Go.OpenSpec.ofChange s with cond := some uptoSmall }

/-- 'filigreelaw03.AstParts', WHERE WHAT IT READS IS OF BULK AT MOST 1048576: true; the input reads as it did. -/
def astPartsUptoRow : OpenClaim := { program := "ytlbjmnakiflfpaagreatdoor", sum := "2b168404a6836b876d95a86c9f32f48f279e3bd7e178b4127abfe8e214e66389", func := "filigree/filigreelaw03.AstParts", spec := "astParts", inPlace := ["internal/bytealg.IndexByteString", "internal/bytealg.IndexString"], unfollowed := true, recurses := true, named := ["filigree/ast.expressionKinds", "internal/bytealg.MaxLen", "filigree/scan.signs", "filigree/ast.statementKinds", "filigree/ast.itemKinds"], loops := true, apart := false, laid := [("filigree/scan.signs", laid_filigree_scan_signs), ("filigree/ast.expressionKinds", laid_filigree_ast_expressionKinds), ("filigree/ast.statementKinds", laid_filigree_ast_statementKinds), ("filigree/ast.itemKinds", laid_filigree_ast_itemKinds)], narrowed := true }
def AstPartsUptoSaid : Prop := astPartsUptoRow.holds Tryz.pinned (OpenSpec.upto astPartsSpec)

/-- 'filigreelaw03.AstSame', WHERE WHAT IT READS IS OF BULK AT MOST 1048576: true; the input reads as it did. -/
def astSameUptoRow : OpenClaim := { program := "ytlbjmnakiflfpaagreatdoor", sum := "2b168404a6836b876d95a86c9f32f48f279e3bd7e178b4127abfe8e214e66389", func := "filigree/filigreelaw03.AstSame", spec := "astSame", inPlace := ["internal/bytealg.IndexByteString", "internal/bytealg.IndexString"], unfollowed := true, recurses := true, named := ["filigree/ast.expressionKinds", "internal/bytealg.MaxLen", "filigree/scan.signs", "filigree/ast.statementKinds", "filigree/ast.itemKinds"], loops := true, apart := false, laid := [("filigree/scan.signs", laid_filigree_scan_signs), ("filigree/ast.expressionKinds", laid_filigree_ast_expressionKinds), ("filigree/ast.statementKinds", laid_filigree_ast_statementKinds), ("filigree/ast.itemKinds", laid_filigree_ast_itemKinds)], narrowed := true }
def AstSameUptoSaid : Prop := astSameUptoRow.holds Tryz.pinned (OpenSpec.upto astSameSpec)

/-- 'filigreelaw06.KonstPlaces', WHERE WHAT IT READS IS OF BULK AT MOST 1048576: true; the input reads as it did. -/
def konstPlacesUptoRow : OpenClaim := { program := "ytlbjmnakiflfpaagreatdoor", sum := "2b168404a6836b876d95a86c9f32f48f279e3bd7e178b4127abfe8e214e66389", func := "filigree/filigreelaw06.KonstPlaces", spec := "konstPlaces", inPlace := ["internal/bytealg.IndexByteString", "internal/bytealg.IndexString"], unfollowed := true, recurses := true, named := ["filigree/ast.expressionKinds", "internal/bytealg.MaxLen", "filigree/scan.signs"], loops := true, apart := false, laid := [("filigree/scan.signs", laid_filigree_scan_signs), ("filigree/ast.expressionKinds", laid_filigree_ast_expressionKinds)], narrowed := true }
def KonstPlacesUptoSaid : Prop := konstPlacesUptoRow.holds Tryz.pinned (OpenSpec.upto konstPlacesSpec)

end Rows
end Go.Proofs.YtlbjmnakiflfpaaGreatDoor
