/-
  NARROWER THAN 'FOR EVERY INPUT', by the rows' own cells (each row's printed sentence says how): SizedExpr: loops, laid · SizedOnce: loops, laid · SizedLess: loops, laid.
  DERIVED. THE GIVEN ROWS OF THIS SEAT. 3 by the template 'for every input the law returns true; each argument reads behind the call as it read before'; 0 by the template 'total and deterministic' (their statements: YtbcgeglkmpcnpaaDoorTotals.lean).
  GIVEN WITH THE SEED: the statements are not yours to turn. If you find one false, say at which input.
  Laid BY PROGRAM, IN A SANDBOX (cutbox-rows.mjs): the forced cells as the released guide's own fill.sh prints them over the translation 3b8b312f886b90e0… (all of the seat's roots in one cut). By AI agents, Wed Nov 11 2026. No macro, syntax, notation, axiom, sorry.
-/
import Derived.Test.YtbcgeglkmpcnpaaDoorChecked
import GoSem.Claim
import GoSem.ClaimJoined
import GoSem.ClaimMapViews
import Derived.JoinedTies
import Derived.KernelRfl
namespace Go.Proofs.YtbcgeglkmpcnpaaDoor
/- THE CELL 'sum', in the pinned program and in every row, IS THE sha256 OF THE DUMP (.gsa) THAT YtbcgeglkmpcnpaaDoorProg.lean LOADS. Nothing in Lean hashes anything: it is a label: what it is worth is what the hold of that sum in a sandbox is worth. -/
noncomputable def Tryd.pinned : Pinned := { name := "ytbcgeglkmpcnpaadoor", sum := "3b8b312f886b90e09704d906e25d2d3c2deac1098d43925d2c46fff0b752ef96", checked := Tryd.checked }
namespace Rows
def none {H : Type} : Left H := { results := [], args := [] }

/- WHAT THE LISTED PACKAGE-LEVEL VARIABLES READ AS WHEN THE CALL BEGINS. Each datum BY PROGRAM (the guide's laid-datum.mjs) off the statement by which the dump's own 'gosem.cut.vars' lays the variable. In a bare row this is a premise. The card (YtbcgeglkmpcnpaaDoorCards.lean) ties it to the program's text. -/
def laid_filigree_sized_kinds {H : Type} : DataW H := .agg [.agg [.lit (.int .i64 0), .lit (.bool false), .lit (.int .i64 0), .lit (.int .i64 0)], .agg [.lit (.int .i64 0), .lit (.bool false), .lit (.int .i64 0), .lit (.int .i64 0)], .agg [.lit (.int .i64 0), .lit (.bool false), .lit (.int .i64 0), .lit (.int .i64 0)], .agg [.lit (.int .i64 1), .lit (.bool false), .lit (.int .i64 0), .lit (.int .i64 0)], .agg [.lit (.int .i64 1), .lit (.bool false), .lit (.int .i64 1), .lit (.int .i64 6)], .agg [.lit (.int .i64 2), .lit (.bool false), .lit (.int .i64 11), .lit (.int .i64 26)], .agg [.lit (.int .i64 3), .lit (.bool false), .lit (.int .i64 0), .lit (.int .i64 0)], .agg [.lit (.int .i64 1), .lit (.bool true), .lit (.int .i64 0), .lit (.int .i64 0)], .agg [.lit (.int .i64 1), .lit (.bool false), .lit (.int .i64 31), .lit (.int .i64 33)]]

/-- 'filigreelaw09.SizedExpr': WHATEVER THE INPUT: true; the input reads as it did. -/
def sizedExprSpec : ChangeSpec := { name := "sizedExpr", fn := fun _ => fun
  | [d1, d2, d3] => { results := [.lit (.bool true)], args := [d1, d2, d3] }
  | _ => none }
def sizedExprRow : OpenClaim := { program := "ytbcgeglkmpcnpaadoor", sum := "3b8b312f886b90e09704d906e25d2d3c2deac1098d43925d2c46fff0b752ef96", func := "filigree/filigreelaw09.SizedExpr", spec := "sizedExpr", unfollowed := true, recurses := true, named := ["filigree/sized.kinds"], loops := true, apart := false, laid := [("filigree/sized.kinds", laid_filigree_sized_kinds)] }
def SizedExprSaid : Prop := sizedExprRow.holds Tryd.pinned (OpenSpec.ofChange sizedExprSpec)

/-- ITS FALSE NEIGHBOUR: 'it returns false'. Refute it at one input. -/
def sizedExprWrong : ChangeSpec := { name := "sizedExpr", fn := fun _ => fun
  | [d1, d2, d3] => { results := [.lit (.bool false)], args := [d1, d2, d3] }
  | _ => none }
def SizedExprWrongFalsely : Prop := sizedExprRow.holds Tryd.pinned (OpenSpec.ofChange sizedExprWrong)

/-- 'filigreelaw09.SizedOnce': WHATEVER THE INPUT: true; the input reads as it did. -/
def sizedOnceSpec : ChangeSpec := { name := "sizedOnce", fn := fun _ => fun
  | [d] => { results := [.lit (.bool true)], args := [d] }
  | _ => none }
def sizedOnceRow : OpenClaim := { program := "ytbcgeglkmpcnpaadoor", sum := "3b8b312f886b90e09704d906e25d2d3c2deac1098d43925d2c46fff0b752ef96", func := "filigree/filigreelaw09.SizedOnce", spec := "sizedOnce", unfollowed := true, recurses := true, named := ["filigree/sized.kinds"], loops := true, apart := false, laid := [("filigree/sized.kinds", laid_filigree_sized_kinds)] }
def SizedOnceSaid : Prop := sizedOnceRow.holds Tryd.pinned (OpenSpec.ofChange sizedOnceSpec)

/-- ITS FALSE NEIGHBOUR: 'it returns false'. Refute it at one input. -/
def sizedOnceWrong : ChangeSpec := { name := "sizedOnce", fn := fun _ => fun
  | [d] => { results := [.lit (.bool false)], args := [d] }
  | _ => none }
def SizedOnceWrongFalsely : Prop := sizedOnceRow.holds Tryd.pinned (OpenSpec.ofChange sizedOnceWrong)

/-- 'filigreelaw09.SizedLess': WHATEVER THE INPUT: true; the input reads as it did. -/
def sizedLessSpec : ChangeSpec := { name := "sizedLess", fn := fun _ => fun
  | [d1, d2, d3] => { results := [.lit (.bool true)], args := [d1, d2, d3] }
  | _ => none }
def sizedLessRow : OpenClaim := { program := "ytbcgeglkmpcnpaadoor", sum := "3b8b312f886b90e09704d906e25d2d3c2deac1098d43925d2c46fff0b752ef96", func := "filigree/filigreelaw09.SizedLess", spec := "sizedLess", unfollowed := true, recurses := true, named := ["filigree/sized.kinds"], loops := true, apart := false, laid := [("filigree/sized.kinds", laid_filigree_sized_kinds)] }
def SizedLessSaid : Prop := sizedLessRow.holds Tryd.pinned (OpenSpec.ofChange sizedLessSpec)

/-- ITS FALSE NEIGHBOUR: 'it returns false'. Refute it at one input. -/
def sizedLessWrong : ChangeSpec := { name := "sizedLess", fn := fun _ => fun
  | [d1, d2, d3] => { results := [.lit (.bool false)], args := [d1, d2, d3] }
  | _ => none }
def SizedLessWrongFalsely : Prop := sizedLessRow.holds Tryd.pinned (OpenSpec.ofChange sizedLessWrong)

/- THE SECOND FORM. 'bulk': how many values and letters a reading holds, each counted each time it is reached (what is shared counts as often as it is met; a slice's spare places count too). A statement '..UptoSaid' is the law's where the arguments, and the package variables that the reading takes, are together of bulk at most 1048576: NARROWER than '..Said'. Prove '..Said' where nothing that the law and all that it calls make is longer than what came in: it says more and counts as full. Else prove '..UptoSaid'. A law counts once. -/
mutual
def uptoBulk {H : Type} : DataW H → Nat
  | .lit (.string bytes) => bytes.length + 1
  | .lit _ => 1
  | .nil => 1
  | .ptr d => uptoBulk d + 1
  | .slice elems spare => uptoBulkAll elems + uptoBulkAll spare + 1
  | .agg parts => uptoBulkAll parts + 1
  | .iface _ d => uptoBulk d + 1
  | .map entries => uptoBulkEntries entries + 1
  | .held _ => 1
def uptoBulkAll {H : Type} : List (DataW H) → Nat
  | [] => 0
  | d :: r => uptoBulk d + uptoBulkAll r
def uptoBulkEntries {H : Type} : List (Lit × DataW H) → Nat
  | [] => 0
  | x :: r => uptoBulkEntry x + uptoBulkEntries r
def uptoBulkEntry {H : Type} : Lit × DataW H → Nat
  | (.string bytes, d) => bytes.length + uptoBulk d + 1
  | (_, d) => uptoBulk d + 1
 end
def uptoSmall : (H : Type) → List (DataW H) → Bool := fun _ ds => decide (uptoBulkAll ds ≤ 1048576)
def OpenSpec.upto (s : _root_.Go.ChangeSpec) : _root_.Go.OpenSpec := { _root_.Go.OpenSpec.ofChange s with cond := some uptoSmall }

/-- 'filigreelaw09.SizedExpr', WHERE WHAT IT READS IS OF BULK AT MOST 1048576: true; the input reads as it did. -/
def sizedExprUptoRow : OpenClaim := { program := "ytbcgeglkmpcnpaadoor", sum := "3b8b312f886b90e09704d906e25d2d3c2deac1098d43925d2c46fff0b752ef96", func := "filigree/filigreelaw09.SizedExpr", spec := "sizedExpr", unfollowed := true, recurses := true, named := ["filigree/sized.kinds"], loops := true, apart := false, laid := [("filigree/sized.kinds", laid_filigree_sized_kinds)], narrowed := true }
def SizedExprUptoSaid : Prop := sizedExprUptoRow.holds Tryd.pinned (OpenSpec.upto sizedExprSpec)

/-- 'filigreelaw09.SizedOnce', WHERE WHAT IT READS IS OF BULK AT MOST 1048576: true; the input reads as it did. -/
def sizedOnceUptoRow : OpenClaim := { program := "ytbcgeglkmpcnpaadoor", sum := "3b8b312f886b90e09704d906e25d2d3c2deac1098d43925d2c46fff0b752ef96", func := "filigree/filigreelaw09.SizedOnce", spec := "sizedOnce", unfollowed := true, recurses := true, named := ["filigree/sized.kinds"], loops := true, apart := false, laid := [("filigree/sized.kinds", laid_filigree_sized_kinds)], narrowed := true }
def SizedOnceUptoSaid : Prop := sizedOnceUptoRow.holds Tryd.pinned (OpenSpec.upto sizedOnceSpec)

/-- 'filigreelaw09.SizedLess', WHERE WHAT IT READS IS OF BULK AT MOST 1048576: true; the input reads as it did. -/
def sizedLessUptoRow : OpenClaim := { program := "ytbcgeglkmpcnpaadoor", sum := "3b8b312f886b90e09704d906e25d2d3c2deac1098d43925d2c46fff0b752ef96", func := "filigree/filigreelaw09.SizedLess", spec := "sizedLess", unfollowed := true, recurses := true, named := ["filigree/sized.kinds"], loops := true, apart := false, laid := [("filigree/sized.kinds", laid_filigree_sized_kinds)], narrowed := true }
def SizedLessUptoSaid : Prop := sizedLessUptoRow.holds Tryd.pinned (OpenSpec.upto sizedLessSpec)

end Rows
end Go.Proofs.YtbcgeglkmpcnpaaDoor
