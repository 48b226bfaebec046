/-
  NARROWER THAN 'FOR EVERY INPUT', by the rows' own cells (each row's printed sentence says how): NamesChecks: loops, laid · NamesOrders: loops, laid · NamesTwice: loops, laid · NamesSides: loops, laid · NamesLoops: loops, laid.
  DERIVED. THE GIVEN ROWS OF THIS SEAT. 5 by the template 'for every input the law returns true; each argument reads behind the call as it read before'; 0 by the template 'total and deterministic' (their statements: YtiipjbafdhijlaaGreatDoorTotals.lean).
  GIVEN WITH THE SEED: the statements are not yours to turn. If you find one false, say at which input.
  Laid BY PROGRAM, IN A SANDBOX (cutbox-rows.mjs): the forced cells as the released guide's own fill.sh prints them over the translation e10d5f24564bd280… (all of the seat's roots in one cut). By AI agents, Wed Nov 11 2026. No macro, syntax, notation, axiom, sorry.
-/
import Derived.Test.YtiipjbafdhijlaaGreatDoorChecked
import GoSem.Claim
import GoSem.ClaimJoined
import GoSem.ClaimMapViews
import Derived.JoinedTies
import Derived.KernelRfl
namespace Go.Proofs.YtiipjbafdhijlaaGreatDoor
/- THE CELL 'sum', in the pinned program and in every row, IS THE sha256 OF THE DUMP (.gsa) THAT YtiipjbafdhijlaaGreatDoorProg.lean LOADS. Nothing in Lean hashes anything: it is a label: what it is worth is what the hold of that sum in a sandbox is worth. -/
noncomputable def Tryz.pinned : Pinned := { name := "ytiipjbafdhijlaagreatdoor", sum := "e10d5f24564bd28062f2b8f09e7d05dfbbdf6d1aa43a8df53d2f89eaced9f1fd", checked := Tryz.checked }
namespace Rows
def none {H : Type} : Left H := { results := [], args := [] }

/- WHAT THE LISTED PACKAGE-LEVEL VARIABLES READ AS WHEN THE CALL BEGINS. Each datum BY PROGRAM (the guide's laid-datum.mjs) off the statement by which the dump's own 'gosem.cut.vars' lays the variable. In a bare row this is a premise. The card (YtiipjbafdhijlaaGreatDoorCards.lean) ties it to the program's text. -/
def laid_filigree_scan_signs {H : Type} : DataW H := .agg [.lit (.string [46, 46]), .lit (.string [60, 61]), .lit (.string [62, 61]), .lit (.string [124, 124]), .lit (.string [38, 38]), .lit (.string [61, 61]), .lit (.string [33, 61]), .lit (.string [60, 60]), .lit (.string [62, 62]), .lit (.string [35]), .lit (.string [40]), .lit (.string [41]), .lit (.string [44]), .lit (.string [123]), .lit (.string [125]), .lit (.string [61]), .lit (.string [58]), .lit (.string [59]), .lit (.string [91]), .lit (.string [93]), .lit (.string [63]), .lit (.string [124]), .lit (.string [94]), .lit (.string [38]), .lit (.string [60]), .lit (.string [62]), .lit (.string [43]), .lit (.string [45]), .lit (.string [42]), .lit (.string [126]), .lit (.string [33])]
def laid_filigree_ast_expressionKinds {H : Type} : DataW H := .agg [.agg [.lit (.bool false), .lit (.int .i64 0), .lit (.bool false), .lit (.int .i64 0), .lit (.int .i64 0)], .agg [.lit (.bool false), .lit (.int .i64 0), .lit (.bool false), .lit (.int .i64 0), .lit (.int .i64 0)], .agg [.lit (.bool true), .lit (.int .i64 0), .lit (.bool false), .lit (.int .i64 0), .lit (.int .i64 0)], .agg [.lit (.bool true), .lit (.int .i64 2), .lit (.bool false), .lit (.int .i64 0), .lit (.int .i64 0)], .agg [.lit (.bool true), .lit (.int .i64 1), .lit (.bool false), .lit (.int .i64 0), .lit (.int .i64 0)], .agg [.lit (.bool false), .lit (.int .i64 1), .lit (.bool false), .lit (.int .i64 1), .lit (.int .i64 6)], .agg [.lit (.bool false), .lit (.int .i64 2), .lit (.bool false), .lit (.int .i64 11), .lit (.int .i64 26)], .agg [.lit (.bool false), .lit (.int .i64 3), .lit (.bool false), .lit (.int .i64 0), .lit (.int .i64 0)], .agg [.lit (.bool false), .lit (.int .i64 1), .lit (.bool true), .lit (.int .i64 0), .lit (.int .i64 0)], .agg [.lit (.bool false), .lit (.int .i64 2), .lit (.bool false), .lit (.int .i64 0), .lit (.int .i64 0)], .agg [.lit (.bool false), .lit (.int .i64 2), .lit (.bool false), .lit (.int .i64 31), .lit (.int .i64 33)]]
def laid_filigree_ast_statementKinds {H : Type} : DataW H := .agg [.agg [.lit (.bool false), .lit (.bool false), .lit (.int .i64 0), .lit (.int .i64 0), .lit (.bool false), .lit (.bool false), .lit (.int .u64 0), .lit (.int .u64 0)], .agg [.lit (.bool false), .lit (.bool true), .lit (.int .i64 2), .lit (.int .i64 0), .lit (.bool false), .lit (.bool false), .lit (.int .u64 0), .lit (.int .u64 0)], .agg [.lit (.bool false), .lit (.bool false), .lit (.int .i64 1), .lit (.int .i64 2), .lit (.bool false), .lit (.bool false), .lit (.int .u64 32), .lit (.int .u64 36)], .agg [.lit (.bool false), .lit (.bool false), .lit (.int .i64 1), .lit (.int .i64 1), .lit (.bool false), .lit (.bool true), .lit (.int .u64 16), .lit (.int .u64 16)], .agg [.lit (.bool false), .lit (.bool false), .lit (.int .i64 0), .lit (.int .i64 0), .lit (.bool true), .lit (.bool true), .lit (.int .u64 110), .lit (.int .u64 110)], .agg [.lit (.bool false), .lit (.bool false), .lit (.int .i64 0), .lit (.int .i64 0), .lit (.bool false), .lit (.bool true), .lit (.int .u64 110), .lit (.int .u64 110)], .agg [.lit (.bool true), .lit (.bool false), .lit (.int .i64 2), .lit (.int .i64 0), .lit (.bool false), .lit (.bool true), .lit (.int .u64 110), .lit (.int .u64 110)]]
def laid_filigree_ast_itemKinds {H : Type} : DataW H := .agg [.agg [.lit (.bool false), .lit (.bool false), .lit (.bool false), .lit (.int .i64 0), .lit (.bool false), .lit (.bool false), .lit (.bool false), .lit (.bool false)], .agg [.lit (.bool true), .lit (.bool false), .lit (.bool false), .lit (.int .i64 1), .lit (.bool false), .lit (.bool false), .lit (.bool false), .lit (.bool false)], .agg [.lit (.bool true), .lit (.bool false), .lit (.bool false), .lit (.int .i64 1), .lit (.bool false), .lit (.bool false), .lit (.bool false), .lit (.bool false)], .agg [.lit (.bool true), .lit (.bool false), .lit (.bool false), .lit (.int .i64 2), .lit (.bool false), .lit (.bool false), .lit (.bool false), .lit (.bool false)], .agg [.lit (.bool false), .lit (.bool false), .lit (.bool true), .lit (.int .i64 2), .lit (.bool false), .lit (.bool false), .lit (.bool false), .lit (.bool false)], .agg [.lit (.bool false), .lit (.bool false), .lit (.bool false), .lit (.int .i64 0), .lit (.bool true), .lit (.bool false), .lit (.bool false), .lit (.bool false)], .agg [.lit (.bool false), .lit (.bool false), .lit (.bool false), .lit (.int .i64 0), .lit (.bool true), .lit (.bool false), .lit (.bool false), .lit (.bool false)], .agg [.lit (.bool true), .lit (.bool true), .lit (.bool false), .lit (.int .i64 0), .lit (.bool false), .lit (.bool false), .lit (.bool false), .lit (.bool true)], .agg [.lit (.bool false), .lit (.bool false), .lit (.bool false), .lit (.int .i64 1), .lit (.bool false), .lit (.bool true), .lit (.bool true), .lit (.bool false)], .agg [.lit (.bool true), .lit (.bool true), .lit (.bool false), .lit (.int .i64 2), .lit (.bool false), .lit (.bool true), .lit (.bool false), .lit (.bool false)], .agg [.lit (.bool true), .lit (.bool false), .lit (.bool false), .lit (.int .i64 1), .lit (.bool false), .lit (.bool false), .lit (.bool false), .lit (.bool false)]]

/-- 'filigreelaw07.NamesChecks': WHATEVER THE INPUT: true; the input reads as it did. -/
def namesChecksSpec : ChangeSpec := { name := "namesChecks", fn := fun _ => fun
  | [d] => { results := [.lit (.bool true)], args := [d] }
  | _ => none }
def namesChecksRow : OpenClaim := { program := "ytiipjbafdhijlaagreatdoor", sum := "e10d5f24564bd28062f2b8f09e7d05dfbbdf6d1aa43a8df53d2f89eaced9f1fd", func := "filigree/filigreelaw07.NamesChecks", spec := "namesChecks", inPlace := ["internal/bytealg.IndexByteString", "internal/bytealg.IndexString"], unfollowed := true, recurses := true, named := ["internal/bytealg.MaxLen", "filigree/scan.signs", "filigree/ast.expressionKinds", "filigree/ast.itemKinds", "filigree/ast.statementKinds"], loops := true, apart := false, laid := [("filigree/scan.signs", laid_filigree_scan_signs), ("filigree/ast.expressionKinds", laid_filigree_ast_expressionKinds), ("filigree/ast.statementKinds", laid_filigree_ast_statementKinds), ("filigree/ast.itemKinds", laid_filigree_ast_itemKinds)] }
def NamesChecksSaid : Prop := namesChecksRow.holds Tryz.pinned (OpenSpec.ofChange namesChecksSpec)

/-- ITS FALSE NEIGHBOUR: 'it returns false'. Refute it at one input. -/
def namesChecksWrong : ChangeSpec := { name := "namesChecks", fn := fun _ => fun
  | [d] => { results := [.lit (.bool false)], args := [d] }
  | _ => none }
def NamesChecksWrongFalsely : Prop := namesChecksRow.holds Tryz.pinned (OpenSpec.ofChange namesChecksWrong)

/-- 'filigreelaw07.NamesOrders': WHATEVER THE INPUT: true; the input reads as it did. -/
def namesOrdersSpec : ChangeSpec := { name := "namesOrders", fn := fun _ => fun
  | [d1, d2] => { results := [.lit (.bool true)], args := [d1, d2] }
  | _ => none }
def namesOrdersRow : OpenClaim := { program := "ytiipjbafdhijlaagreatdoor", sum := "e10d5f24564bd28062f2b8f09e7d05dfbbdf6d1aa43a8df53d2f89eaced9f1fd", func := "filigree/filigreelaw07.NamesOrders", spec := "namesOrders", inPlace := ["internal/bytealg.IndexByteString", "internal/bytealg.IndexString"], unfollowed := true, recurses := true, named := ["internal/bytealg.MaxLen", "filigree/scan.signs", "filigree/ast.expressionKinds", "filigree/ast.itemKinds", "filigree/ast.statementKinds"], loops := true, apart := false, laid := [("filigree/scan.signs", laid_filigree_scan_signs), ("filigree/ast.expressionKinds", laid_filigree_ast_expressionKinds), ("filigree/ast.statementKinds", laid_filigree_ast_statementKinds), ("filigree/ast.itemKinds", laid_filigree_ast_itemKinds)] }
def NamesOrdersSaid : Prop := namesOrdersRow.holds Tryz.pinned (OpenSpec.ofChange namesOrdersSpec)

/-- ITS FALSE NEIGHBOUR: 'it returns false'. Refute it at one input. -/
def namesOrdersWrong : ChangeSpec := { name := "namesOrders", fn := fun _ => fun
  | [d1, d2] => { results := [.lit (.bool false)], args := [d1, d2] }
  | _ => none }
def NamesOrdersWrongFalsely : Prop := namesOrdersRow.holds Tryz.pinned (OpenSpec.ofChange namesOrdersWrong)

/-- 'filigreelaw07.NamesTwice': WHATEVER THE INPUT: true; the input reads as it did. -/
def namesTwiceSpec : ChangeSpec := { name := "namesTwice", fn := fun _ => fun
  | [d1, d2, d3] => { results := [.lit (.bool true)], args := [d1, d2, d3] }
  | _ => none }
def namesTwiceRow : OpenClaim := { program := "ytiipjbafdhijlaagreatdoor", sum := "e10d5f24564bd28062f2b8f09e7d05dfbbdf6d1aa43a8df53d2f89eaced9f1fd", func := "filigree/filigreelaw07.NamesTwice", spec := "namesTwice", inPlace := ["internal/bytealg.IndexByteString", "internal/bytealg.IndexString"], unfollowed := true, recurses := true, named := ["internal/bytealg.MaxLen", "filigree/scan.signs", "filigree/ast.expressionKinds", "filigree/ast.itemKinds", "filigree/ast.statementKinds"], loops := true, apart := false, laid := [("filigree/scan.signs", laid_filigree_scan_signs), ("filigree/ast.expressionKinds", laid_filigree_ast_expressionKinds), ("filigree/ast.statementKinds", laid_filigree_ast_statementKinds), ("filigree/ast.itemKinds", laid_filigree_ast_itemKinds)] }
def NamesTwiceSaid : Prop := namesTwiceRow.holds Tryz.pinned (OpenSpec.ofChange namesTwiceSpec)

/-- ITS FALSE NEIGHBOUR: 'it returns false'. Refute it at one input. -/
def namesTwiceWrong : ChangeSpec := { name := "namesTwice", fn := fun _ => fun
  | [d1, d2, d3] => { results := [.lit (.bool false)], args := [d1, d2, d3] }
  | _ => none }
def NamesTwiceWrongFalsely : Prop := namesTwiceRow.holds Tryz.pinned (OpenSpec.ofChange namesTwiceWrong)

/-- 'filigreelaw07.NamesSides': WHATEVER THE INPUT: true; the input reads as it did. -/
def namesSidesSpec : ChangeSpec := { name := "namesSides", fn := fun _ => fun
  | [d1, d2] => { results := [.lit (.bool true)], args := [d1, d2] }
  | _ => none }
def namesSidesRow : OpenClaim := { program := "ytiipjbafdhijlaagreatdoor", sum := "e10d5f24564bd28062f2b8f09e7d05dfbbdf6d1aa43a8df53d2f89eaced9f1fd", func := "filigree/filigreelaw07.NamesSides", spec := "namesSides", inPlace := ["internal/bytealg.IndexByteString", "internal/bytealg.IndexString"], unfollowed := true, recurses := true, named := ["internal/bytealg.MaxLen", "filigree/scan.signs", "filigree/ast.expressionKinds", "filigree/ast.itemKinds", "filigree/ast.statementKinds"], loops := true, apart := false, laid := [("filigree/scan.signs", laid_filigree_scan_signs), ("filigree/ast.expressionKinds", laid_filigree_ast_expressionKinds), ("filigree/ast.statementKinds", laid_filigree_ast_statementKinds), ("filigree/ast.itemKinds", laid_filigree_ast_itemKinds)] }
def NamesSidesSaid : Prop := namesSidesRow.holds Tryz.pinned (OpenSpec.ofChange namesSidesSpec)

/-- ITS FALSE NEIGHBOUR: 'it returns false'. Refute it at one input. -/
def namesSidesWrong : ChangeSpec := { name := "namesSides", fn := fun _ => fun
  | [d1, d2] => { results := [.lit (.bool false)], args := [d1, d2] }
  | _ => none }
def NamesSidesWrongFalsely : Prop := namesSidesRow.holds Tryz.pinned (OpenSpec.ofChange namesSidesWrong)

/-- 'filigreelaw07.NamesLoops': WHATEVER THE INPUT: true; the input reads as it did. -/
def namesLoopsSpec : ChangeSpec := { name := "namesLoops", fn := fun _ => fun
  | [d1, d2, d3] => { results := [.lit (.bool true)], args := [d1, d2, d3] }
  | _ => none }
def namesLoopsRow : OpenClaim := { program := "ytiipjbafdhijlaagreatdoor", sum := "e10d5f24564bd28062f2b8f09e7d05dfbbdf6d1aa43a8df53d2f89eaced9f1fd", func := "filigree/filigreelaw07.NamesLoops", spec := "namesLoops", inPlace := ["internal/bytealg.IndexByteString", "internal/bytealg.IndexString"], unfollowed := true, recurses := true, named := ["internal/bytealg.MaxLen", "filigree/scan.signs", "filigree/ast.expressionKinds", "filigree/ast.itemKinds", "filigree/ast.statementKinds"], loops := true, apart := false, laid := [("filigree/scan.signs", laid_filigree_scan_signs), ("filigree/ast.expressionKinds", laid_filigree_ast_expressionKinds), ("filigree/ast.statementKinds", laid_filigree_ast_statementKinds), ("filigree/ast.itemKinds", laid_filigree_ast_itemKinds)] }
def NamesLoopsSaid : Prop := namesLoopsRow.holds Tryz.pinned (OpenSpec.ofChange namesLoopsSpec)

/-- ITS FALSE NEIGHBOUR: 'it returns false'. Refute it at one input. -/
def namesLoopsWrong : ChangeSpec := { name := "namesLoops", fn := fun _ => fun
  | [d1, d2, d3] => { results := [.lit (.bool false)], args := [d1, d2, d3] }
  | _ => none }
def NamesLoopsWrongFalsely : Prop := namesLoopsRow.holds Tryz.pinned (OpenSpec.ofChange namesLoopsWrong)

/- THE SECOND FORM. 'bulk': how many values and letters a reading holds, each counted each time it is reached (what is shared counts as often as it is met; a slice's spare places count too). A statement '..UptoSaid' is the law's where the arguments, and the package variables that the reading takes, are together of bulk at most 1048576: NARROWER than '..Said'. Prove '..Said' where nothing that the law and all that it calls make is longer than what came in: it says more and counts as full. Else prove '..UptoSaid'. A law counts once. -/
mutual
def uptoBulk {H : Type} : DataW H → Nat
  | .lit (.string bytes) => bytes.length + 1
  | .lit _ => 1
  | .nil => 1
  | .ptr d => uptoBulk d + 1
  | .slice elems spare => uptoBulkAll elems + uptoBulkAll spare + 1
  | .agg parts => uptoBulkAll parts + 1
  | .iface _ d => uptoBulk d + 1
  | .map entries => uptoBulkEntries entries + 1
  | .held _ => 1
def uptoBulkAll {H : Type} : List (DataW H) → Nat
  | [] => 0
  | d :: r => uptoBulk d + uptoBulkAll r
def uptoBulkEntries {H : Type} : List (Lit × DataW H) → Nat
  | [] => 0
  | x :: r => uptoBulkEntry x + uptoBulkEntries r
def uptoBulkEntry {H : Type} : Lit × DataW H → Nat
  | (.string bytes, d) => bytes.length + uptoBulk d + 1
  | (_, d) => uptoBulk d + 1
 end
def uptoSmall : (H : Type) → List (DataW H) → Bool := fun _ ds => decide (uptoBulkAll ds ≤ 1048576)
def OpenSpec.upto (s : _root_.Go.ChangeSpec) : _root_.Go.OpenSpec := { _root_.Go.OpenSpec.ofChange s with cond := some uptoSmall }

/-- 'filigreelaw07.NamesChecks', WHERE WHAT IT READS IS OF BULK AT MOST 1048576: true; the input reads as it did. -/
def namesChecksUptoRow : OpenClaim := { program := "ytiipjbafdhijlaagreatdoor", sum := "e10d5f24564bd28062f2b8f09e7d05dfbbdf6d1aa43a8df53d2f89eaced9f1fd", func := "filigree/filigreelaw07.NamesChecks", spec := "namesChecks", inPlace := ["internal/bytealg.IndexByteString", "internal/bytealg.IndexString"], unfollowed := true, recurses := true, named := ["internal/bytealg.MaxLen", "filigree/scan.signs", "filigree/ast.expressionKinds", "filigree/ast.itemKinds", "filigree/ast.statementKinds"], loops := true, apart := false, laid := [("filigree/scan.signs", laid_filigree_scan_signs), ("filigree/ast.expressionKinds", laid_filigree_ast_expressionKinds), ("filigree/ast.statementKinds", laid_filigree_ast_statementKinds), ("filigree/ast.itemKinds", laid_filigree_ast_itemKinds)], narrowed := true }
def NamesChecksUptoSaid : Prop := namesChecksUptoRow.holds Tryz.pinned (OpenSpec.upto namesChecksSpec)

/-- 'filigreelaw07.NamesOrders', WHERE WHAT IT READS IS OF BULK AT MOST 1048576: true; the input reads as it did. -/
def namesOrdersUptoRow : OpenClaim := { program := "ytiipjbafdhijlaagreatdoor", sum := "e10d5f24564bd28062f2b8f09e7d05dfbbdf6d1aa43a8df53d2f89eaced9f1fd", func := "filigree/filigreelaw07.NamesOrders", spec := "namesOrders", inPlace := ["internal/bytealg.IndexByteString", "internal/bytealg.IndexString"], unfollowed := true, recurses := true, named := ["internal/bytealg.MaxLen", "filigree/scan.signs", "filigree/ast.expressionKinds", "filigree/ast.itemKinds", "filigree/ast.statementKinds"], loops := true, apart := false, laid := [("filigree/scan.signs", laid_filigree_scan_signs), ("filigree/ast.expressionKinds", laid_filigree_ast_expressionKinds), ("filigree/ast.statementKinds", laid_filigree_ast_statementKinds), ("filigree/ast.itemKinds", laid_filigree_ast_itemKinds)], narrowed := true }
def NamesOrdersUptoSaid : Prop := namesOrdersUptoRow.holds Tryz.pinned (OpenSpec.upto namesOrdersSpec)

/-- 'filigreelaw07.NamesTwice', WHERE WHAT IT READS IS OF BULK AT MOST 1048576: true; the input reads as it did. -/
def namesTwiceUptoRow : OpenClaim := { program := "ytiipjbafdhijlaagreatdoor", sum := "e10d5f24564bd28062f2b8f09e7d05dfbbdf6d1aa43a8df53d2f89eaced9f1fd", func := "filigree/filigreelaw07.NamesTwice", spec := "namesTwice", inPlace := ["internal/bytealg.IndexByteString", "internal/bytealg.IndexString"], unfollowed := true, recurses := true, named := ["internal/bytealg.MaxLen", "filigree/scan.signs", "filigree/ast.expressionKinds", "filigree/ast.itemKinds", "filigree/ast.statementKinds"], loops := true, apart := false, laid := [("filigree/scan.signs", laid_filigree_scan_signs), ("filigree/ast.expressionKinds", laid_filigree_ast_expressionKinds), ("filigree/ast.statementKinds", laid_filigree_ast_statementKinds), ("filigree/ast.itemKinds", laid_filigree_ast_itemKinds)], narrowed := true }
def NamesTwiceUptoSaid : Prop := namesTwiceUptoRow.holds Tryz.pinned (OpenSpec.upto namesTwiceSpec)

/-- 'filigreelaw07.NamesSides', WHERE WHAT IT READS IS OF BULK AT MOST 1048576: true; the input reads as it did. -/
def namesSidesUptoRow : OpenClaim := { program := "ytiipjbafdhijlaagreatdoor", sum := "e10d5f24564bd28062f2b8f09e7d05dfbbdf6d1aa43a8df53d2f89eaced9f1fd", func := "filigree/filigreelaw07.NamesSides", spec := "namesSides", inPlace := ["internal/bytealg.IndexByteString", "internal/bytealg.IndexString"], unfollowed := true, recurses := true, named := ["internal/bytealg.MaxLen", "filigree/scan.signs", "filigree/ast.expressionKinds", "filigree/ast.itemKinds", "filigree/ast.statementKinds"], loops := true, apart := false, laid := [("filigree/scan.signs", laid_filigree_scan_signs), ("filigree/ast.expressionKinds", laid_filigree_ast_expressionKinds), ("filigree/ast.statementKinds", laid_filigree_ast_statementKinds), ("filigree/ast.itemKinds", laid_filigree_ast_itemKinds)], narrowed := true }
def NamesSidesUptoSaid : Prop := namesSidesUptoRow.holds Tryz.pinned (OpenSpec.upto namesSidesSpec)

/-- 'filigreelaw07.NamesLoops', WHERE WHAT IT READS IS OF BULK AT MOST 1048576: true; the input reads as it did. -/
def namesLoopsUptoRow : OpenClaim := { program := "ytiipjbafdhijlaagreatdoor", sum := "e10d5f24564bd28062f2b8f09e7d05dfbbdf6d1aa43a8df53d2f89eaced9f1fd", func := "filigree/filigreelaw07.NamesLoops", spec := "namesLoops", inPlace := ["internal/bytealg.IndexByteString", "internal/bytealg.IndexString"], unfollowed := true, recurses := true, named := ["internal/bytealg.MaxLen", "filigree/scan.signs", "filigree/ast.expressionKinds", "filigree/ast.itemKinds", "filigree/ast.statementKinds"], loops := true, apart := false, laid := [("filigree/scan.signs", laid_filigree_scan_signs), ("filigree/ast.expressionKinds", laid_filigree_ast_expressionKinds), ("filigree/ast.statementKinds", laid_filigree_ast_statementKinds), ("filigree/ast.itemKinds", laid_filigree_ast_itemKinds)], narrowed := true }
def NamesLoopsUptoSaid : Prop := namesLoopsUptoRow.holds Tryz.pinned (OpenSpec.upto namesLoopsSpec)

end Rows
end Go.Proofs.YtiipjbafdhijlaaGreatDoor
