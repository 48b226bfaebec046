/-
  NARROWER THAN 'FOR EVERY INPUT', by the rows' own cells (each row's printed sentence says how): KonstEval: loops, laid · KonstFree: loops, laid.
  DERIVED. THE GIVEN ROWS OF THIS SEAT. 2 by the template 'for every input the law returns true; each argument reads behind the call as it read before'; 0 by the template 'total and deterministic' (their statements: YtlbjmnakiflfpaaDoorTotals.lean).
  GIVEN WITH THE SEED: the statements are not yours to turn. If you find one false, say at which input.
  Laid BY PROGRAM, IN A SANDBOX (cutbox-rows.mjs): the forced cells as the released guide's own fill.sh prints them over the translation 4908d248751a0c77… (all of the seat's roots in one cut). By AI agents, Wed Nov 11 2026. No macro, syntax, notation, axiom, sorry.
-/
import Derived.Test.YtlbjmnakiflfpaaDoorChecked
import GoSem.Claim
import GoSem.ClaimJoined
import GoSem.ClaimMapViews
import Derived.JoinedTies
import Derived.KernelRfl
namespace Go.Proofs.YtlbjmnakiflfpaaDoor
/- THE CELL 'sum', in the pinned program and in every row, IS THE sha256 OF THE DUMP (.gsa) THAT YtlbjmnakiflfpaaDoorProg.lean LOADS. Nothing in Lean hashes anything: it is a label: what it is worth is what the hold of that sum in a sandbox is worth. -/
noncomputable def Tryd.pinned : Pinned := { name := "ytlbjmnakiflfpaadoor", sum := "4908d248751a0c7750cc61e78fc60d3ca4775f2bc674268869e5fde1fbe7870a", checked := Tryd.checked }
namespace Rows
def none {H : Type} : Left H := { results := [], args := [] }

/- WHAT THE LISTED PACKAGE-LEVEL VARIABLES READ AS WHEN THE CALL BEGINS. Each datum BY PROGRAM (the guide's laid-datum.mjs) off the statement by which the dump's own 'gosem.cut.vars' lays the variable. In a bare row this is a premise. The card (YtlbjmnakiflfpaaDoorCards.lean) ties it to the program's text. -/
def laid_filigree_scan_signs {H : Type} : DataW H := .agg [.lit (.string [46, 46]), .lit (.string [60, 61]), .lit (.string [62, 61]), .lit (.string [124, 124]), .lit (.string [38, 38]), .lit (.string [61, 61]), .lit (.string [33, 61]), .lit (.string [60, 60]), .lit (.string [62, 62]), .lit (.string [35]), .lit (.string [40]), .lit (.string [41]), .lit (.string [44]), .lit (.string [123]), .lit (.string [125]), .lit (.string [61]), .lit (.string [58]), .lit (.string [59]), .lit (.string [91]), .lit (.string [93]), .lit (.string [63]), .lit (.string [124]), .lit (.string [94]), .lit (.string [38]), .lit (.string [60]), .lit (.string [62]), .lit (.string [43]), .lit (.string [45]), .lit (.string [42]), .lit (.string [126]), .lit (.string [33])]
def laid_filigree_ast_expressionKinds {H : Type} : DataW H := .agg [.agg [.lit (.bool false), .lit (.int .i64 0), .lit (.bool false), .lit (.int .i64 0), .lit (.int .i64 0)], .agg [.lit (.bool false), .lit (.int .i64 0), .lit (.bool false), .lit (.int .i64 0), .lit (.int .i64 0)], .agg [.lit (.bool true), .lit (.int .i64 0), .lit (.bool false), .lit (.int .i64 0), .lit (.int .i64 0)], .agg [.lit (.bool true), .lit (.int .i64 2), .lit (.bool false), .lit (.int .i64 0), .lit (.int .i64 0)], .agg [.lit (.bool true), .lit (.int .i64 1), .lit (.bool false), .lit (.int .i64 0), .lit (.int .i64 0)], .agg [.lit (.bool false), .lit (.int .i64 1), .lit (.bool false), .lit (.int .i64 1), .lit (.int .i64 6)], .agg [.lit (.bool false), .lit (.int .i64 2), .lit (.bool false), .lit (.int .i64 11), .lit (.int .i64 26)], .agg [.lit (.bool false), .lit (.int .i64 3), .lit (.bool false), .lit (.int .i64 0), .lit (.int .i64 0)], .agg [.lit (.bool false), .lit (.int .i64 1), .lit (.bool true), .lit (.int .i64 0), .lit (.int .i64 0)], .agg [.lit (.bool false), .lit (.int .i64 2), .lit (.bool false), .lit (.int .i64 0), .lit (.int .i64 0)], .agg [.lit (.bool false), .lit (.int .i64 2), .lit (.bool false), .lit (.int .i64 31), .lit (.int .i64 33)]]

/-- 'filigreelaw06.KonstEval': WHATEVER THE INPUT: true; the input reads as it did. -/
def konstEvalSpec : ChangeSpec := { name := "konstEval", fn := fun _ => fun
  | [d1, d2, d3] => { results := [.lit (.bool true)], args := [d1, d2, d3] }
  | _ => none }
def konstEvalRow : OpenClaim := { program := "ytlbjmnakiflfpaadoor", sum := "4908d248751a0c7750cc61e78fc60d3ca4775f2bc674268869e5fde1fbe7870a", func := "filigree/filigreelaw06.KonstEval", spec := "konstEval", inPlace := ["internal/bytealg.IndexByteString", "internal/bytealg.IndexString"], unfollowed := true, recurses := true, named := ["filigree/ast.expressionKinds", "internal/bytealg.MaxLen", "filigree/scan.signs"], loops := true, apart := false, laid := [("filigree/scan.signs", laid_filigree_scan_signs), ("filigree/ast.expressionKinds", laid_filigree_ast_expressionKinds)] }
def KonstEvalSaid : Prop := konstEvalRow.holds Tryd.pinned (OpenSpec.ofChange konstEvalSpec)

/-- ITS FALSE NEIGHBOUR: 'it returns false'. Refute it at one input. -/
def konstEvalWrong : ChangeSpec := { name := "konstEval", fn := fun _ => fun
  | [d1, d2, d3] => { results := [.lit (.bool false)], args := [d1, d2, d3] }
  | _ => none }
def KonstEvalWrongFalsely : Prop := konstEvalRow.holds Tryd.pinned (OpenSpec.ofChange konstEvalWrong)

/-- 'filigreelaw06.KonstFree': WHATEVER THE INPUT: true; the input reads as it did. -/
def konstFreeSpec : ChangeSpec := { name := "konstFree", fn := fun _ => fun
  | [d1, d2, d3, d4] => { results := [.lit (.bool true)], args := [d1, d2, d3, d4] }
  | _ => none }
def konstFreeRow : OpenClaim := { program := "ytlbjmnakiflfpaadoor", sum := "4908d248751a0c7750cc61e78fc60d3ca4775f2bc674268869e5fde1fbe7870a", func := "filigree/filigreelaw06.KonstFree", spec := "konstFree", inPlace := ["internal/bytealg.IndexByteString", "internal/bytealg.IndexString"], unfollowed := true, recurses := true, named := ["filigree/ast.expressionKinds", "internal/bytealg.MaxLen", "filigree/scan.signs"], loops := true, apart := false, laid := [("filigree/scan.signs", laid_filigree_scan_signs), ("filigree/ast.expressionKinds", laid_filigree_ast_expressionKinds)] }
def KonstFreeSaid : Prop := konstFreeRow.holds Tryd.pinned (OpenSpec.ofChange konstFreeSpec)

/-- ITS FALSE NEIGHBOUR: 'it returns false'. Refute it at one input. -/
def konstFreeWrong : ChangeSpec := { name := "konstFree", fn := fun _ => fun
  | [d1, d2, d3, d4] => { results := [.lit (.bool false)], args := [d1, d2, d3, d4] }
  | _ => none }
def KonstFreeWrongFalsely : Prop := konstFreeRow.holds Tryd.pinned (OpenSpec.ofChange konstFreeWrong)

/- THE SECOND FORM. 'bulk': how many values and letters a reading holds, each counted each time it is reached (what is shared counts as often as it is met; a slice's spare places count too). A statement '..UptoSaid' is the law's where the arguments, and the package variables that the reading takes, are together of bulk at most 1048576: NARROWER than '..Said'. Prove '..Said' where nothing that the law and all that it calls make is longer than what came in: it says more and counts as full. Else prove '..UptoSaid'. A law counts once. -/
mutual
def uptoBulk {H : Type} : DataW H → Nat
  | .lit (.string bytes) => bytes.length + 1
  | .lit _ => 1
  | .nil => 1
  | .ptr d => uptoBulk d + 1
  | .slice elems spare => uptoBulkAll elems + uptoBulkAll spare + 1
  | .agg parts => uptoBulkAll parts + 1
  | .iface _ d => uptoBulk d + 1
  | .map entries => uptoBulkEntries entries + 1
  | .held _ => 1
def uptoBulkAll {H : Type} : List (DataW H) → Nat
  | [] => 0
  | d :: r => uptoBulk d + uptoBulkAll r
def uptoBulkEntries {H : Type} : List (Lit × DataW H) → Nat
  | [] => 0
  | x :: r => uptoBulkEntry x + uptoBulkEntries r
def uptoBulkEntry {H : Type} : Lit × DataW H → Nat
  | (.string bytes, d) => bytes.length + uptoBulk d + 1
  | (_, d) => uptoBulk d + 1
 end
def uptoSmall : (H : Type) → List (DataW H) → Bool := fun _ ds => decide (uptoBulkAll ds ≤ 1048576)
def OpenSpec.upto (s : _root_.Go.ChangeSpec) : _root_.Go.OpenSpec := { _root_.Go.OpenSpec.ofChange s with cond := some uptoSmall }

/-- 'filigreelaw06.KonstEval', WHERE WHAT IT READS IS OF BULK AT MOST 1048576: true; the input reads as it did. -/
def konstEvalUptoRow : OpenClaim := { program := "ytlbjmnakiflfpaadoor", sum := "4908d248751a0c7750cc61e78fc60d3ca4775f2bc674268869e5fde1fbe7870a", func := "filigree/filigreelaw06.KonstEval", spec := "konstEval", inPlace := ["internal/bytealg.IndexByteString", "internal/bytealg.IndexString"], unfollowed := true, recurses := true, named := ["filigree/ast.expressionKinds", "internal/bytealg.MaxLen", "filigree/scan.signs"], loops := true, apart := false, laid := [("filigree/scan.signs", laid_filigree_scan_signs), ("filigree/ast.expressionKinds", laid_filigree_ast_expressionKinds)], narrowed := true }
def KonstEvalUptoSaid : Prop := konstEvalUptoRow.holds Tryd.pinned (OpenSpec.upto konstEvalSpec)

/-- 'filigreelaw06.KonstFree', WHERE WHAT IT READS IS OF BULK AT MOST 1048576: true; the input reads as it did. -/
def konstFreeUptoRow : OpenClaim := { program := "ytlbjmnakiflfpaadoor", sum := "4908d248751a0c7750cc61e78fc60d3ca4775f2bc674268869e5fde1fbe7870a", func := "filigree/filigreelaw06.KonstFree", spec := "konstFree", inPlace := ["internal/bytealg.IndexByteString", "internal/bytealg.IndexString"], unfollowed := true, recurses := true, named := ["filigree/ast.expressionKinds", "internal/bytealg.MaxLen", "filigree/scan.signs"], loops := true, apart := false, laid := [("filigree/scan.signs", laid_filigree_scan_signs), ("filigree/ast.expressionKinds", laid_filigree_ast_expressionKinds)], narrowed := true }
def KonstFreeUptoSaid : Prop := konstFreeUptoRow.holds Tryd.pinned (OpenSpec.upto konstFreeSpec)

end Rows
end Go.Proofs.YtlbjmnakiflfpaaDoor
