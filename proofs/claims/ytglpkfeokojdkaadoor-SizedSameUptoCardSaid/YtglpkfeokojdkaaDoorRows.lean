/-
  NARROWER THAN 'FOR EVERY INPUT', by the rows' own cells (each row's printed sentence says how): SizedBehind: loops, laid · SizedBit: loops, laid · SizedNumber: laid · SizedParts: loops, laid · SizedSame: loops, laid · SizedWant: loops, laid.
  DERIVED. THE GIVEN ROWS OF THIS SEAT. 6 by the template 'for every input the law returns true; each argument reads behind the call as it read before'; 0 by the template 'total and deterministic' (their statements: YtglpkfeokojdkaaDoorTotals.lean).
  GIVEN WITH THE SEED: the statements are not yours to turn. If you find one false, say at which input.
  Laid BY PROGRAM, IN A SANDBOX (cutbox-rows.mjs): the forced cells as the released guide's own fill.sh prints them over the translation c9902ab9ec1b639f… (all of the seat's roots in one cut). By AI agents, Wed Nov 11 2026. No macro, syntax, notation, axiom, sorry.
-/
import Derived.Test.YtglpkfeokojdkaaDoorChecked
import GoSem.Claim
import GoSem.ClaimJoined
import GoSem.ClaimMapViews
import Derived.JoinedTies
import Derived.KernelRfl
namespace Go.Proofs.YtglpkfeokojdkaaDoor
/- THE CELL 'sum', in the pinned program and in every row, IS THE sha256 OF THE DUMP (.gsa) THAT YtglpkfeokojdkaaDoorProg.lean LOADS. Nothing in Lean hashes anything: it is a label: what it is worth is what the hold of that sum in a sandbox is worth. -/
noncomputable def Tryd.pinned : Pinned := { name := "ytglpkfeokojdkaadoor", sum := "c9902ab9ec1b639fc2415527244f38aab92554184f8bf0bf423ca66096dfe085", checked := Tryd.checked }
namespace Rows
def none {H : Type} : Left H := { results := [], args := [] }

/- WHAT THE LISTED PACKAGE-LEVEL VARIABLES READ AS WHEN THE CALL BEGINS. Each datum BY PROGRAM (the guide's laid-datum.mjs) off the statement by which the dump's own 'gosem.cut.vars' lays the variable. In a bare row this is a premise. The card (YtglpkfeokojdkaaDoorCards.lean) ties it to the program's text. -/
def laid_filigree_sized_kinds {H : Type} : DataW H := .agg [.agg [.lit (.int .i64 0), .lit (.bool false), .lit (.int .i64 0), .lit (.int .i64 0)], .agg [.lit (.int .i64 0), .lit (.bool false), .lit (.int .i64 0), .lit (.int .i64 0)], .agg [.lit (.int .i64 0), .lit (.bool false), .lit (.int .i64 0), .lit (.int .i64 0)], .agg [.lit (.int .i64 1), .lit (.bool false), .lit (.int .i64 0), .lit (.int .i64 0)], .agg [.lit (.int .i64 1), .lit (.bool false), .lit (.int .i64 1), .lit (.int .i64 6)], .agg [.lit (.int .i64 2), .lit (.bool false), .lit (.int .i64 11), .lit (.int .i64 26)], .agg [.lit (.int .i64 3), .lit (.bool false), .lit (.int .i64 0), .lit (.int .i64 0)], .agg [.lit (.int .i64 1), .lit (.bool true), .lit (.int .i64 0), .lit (.int .i64 0)], .agg [.lit (.int .i64 1), .lit (.bool false), .lit (.int .i64 31), .lit (.int .i64 33)]]

/-- 'filigreelaw09.SizedBehind': WHATEVER THE INPUT: true; the input reads as it did. -/
def sizedBehindSpec : ChangeSpec := { name := "sizedBehind", fn := fun _ => fun
  | [d1, d2, d3, d4] => { results := [.lit (.bool true)], args := [d1, d2, d3, d4] }
  | _ => none }
def sizedBehindRow : OpenClaim := { program := "ytglpkfeokojdkaadoor", sum := "c9902ab9ec1b639fc2415527244f38aab92554184f8bf0bf423ca66096dfe085", func := "filigree/filigreelaw09.SizedBehind", spec := "sizedBehind", unfollowed := true, recurses := true, named := ["filigree/sized.kinds"], loops := true, apart := false, laid := [("filigree/sized.kinds", laid_filigree_sized_kinds)] }
def SizedBehindSaid : Prop := sizedBehindRow.holds Tryd.pinned (OpenSpec.ofChange sizedBehindSpec)

/-- ITS FALSE NEIGHBOUR: 'it returns false'. Refute it at one input. -/
def sizedBehindWrong : ChangeSpec := { name := "sizedBehind", fn := fun _ => fun
  | [d1, d2, d3, d4] => { results := [.lit (.bool false)], args := [d1, d2, d3, d4] }
  | _ => none }
def SizedBehindWrongFalsely : Prop := sizedBehindRow.holds Tryd.pinned (OpenSpec.ofChange sizedBehindWrong)

/-- 'filigreelaw09.SizedBit': WHATEVER THE INPUT: true; the input reads as it did. -/
def sizedBitSpec : ChangeSpec := { name := "sizedBit", fn := fun _ => fun
  | [d1, d2] => { results := [.lit (.bool true)], args := [d1, d2] }
  | _ => none }
def sizedBitRow : OpenClaim := { program := "ytglpkfeokojdkaadoor", sum := "c9902ab9ec1b639fc2415527244f38aab92554184f8bf0bf423ca66096dfe085", func := "filigree/filigreelaw09.SizedBit", spec := "sizedBit", unfollowed := true, recurses := true, named := ["filigree/sized.kinds"], loops := true, apart := false, laid := [("filigree/sized.kinds", laid_filigree_sized_kinds)] }
def SizedBitSaid : Prop := sizedBitRow.holds Tryd.pinned (OpenSpec.ofChange sizedBitSpec)

/-- ITS FALSE NEIGHBOUR: 'it returns false'. Refute it at one input. -/
def sizedBitWrong : ChangeSpec := { name := "sizedBit", fn := fun _ => fun
  | [d1, d2] => { results := [.lit (.bool false)], args := [d1, d2] }
  | _ => none }
def SizedBitWrongFalsely : Prop := sizedBitRow.holds Tryd.pinned (OpenSpec.ofChange sizedBitWrong)

/-- 'filigreelaw09.SizedNumber': WHATEVER THE INPUT: true; the input reads as it did. -/
def sizedNumberSpec : ChangeSpec := { name := "sizedNumber", fn := fun _ => fun
  | [d1, d2, d3] => { results := [.lit (.bool true)], args := [d1, d2, d3] }
  | _ => none }
def sizedNumberRow : OpenClaim := { program := "ytglpkfeokojdkaadoor", sum := "c9902ab9ec1b639fc2415527244f38aab92554184f8bf0bf423ca66096dfe085", func := "filigree/filigreelaw09.SizedNumber", spec := "sizedNumber", unfollowed := true, recurses := true, named := ["filigree/sized.kinds"], apart := false, laid := [("filigree/sized.kinds", laid_filigree_sized_kinds)] }
def SizedNumberSaid : Prop := sizedNumberRow.holds Tryd.pinned (OpenSpec.ofChange sizedNumberSpec)

/-- ITS FALSE NEIGHBOUR: 'it returns false'. Refute it at one input. -/
def sizedNumberWrong : ChangeSpec := { name := "sizedNumber", fn := fun _ => fun
  | [d1, d2, d3] => { results := [.lit (.bool false)], args := [d1, d2, d3] }
  | _ => none }
def SizedNumberWrongFalsely : Prop := sizedNumberRow.holds Tryd.pinned (OpenSpec.ofChange sizedNumberWrong)

/-- 'filigreelaw09.SizedParts': WHATEVER THE INPUT: true; the input reads as it did. -/
def sizedPartsSpec : ChangeSpec := { name := "sizedParts", fn := fun _ => fun
  | [d1, d2, d3] => { results := [.lit (.bool true)], args := [d1, d2, d3] }
  | _ => none }
def sizedPartsRow : OpenClaim := { program := "ytglpkfeokojdkaadoor", sum := "c9902ab9ec1b639fc2415527244f38aab92554184f8bf0bf423ca66096dfe085", func := "filigree/filigreelaw09.SizedParts", spec := "sizedParts", unfollowed := true, recurses := true, named := ["filigree/sized.kinds"], loops := true, apart := false, laid := [("filigree/sized.kinds", laid_filigree_sized_kinds)] }
def SizedPartsSaid : Prop := sizedPartsRow.holds Tryd.pinned (OpenSpec.ofChange sizedPartsSpec)

/-- ITS FALSE NEIGHBOUR: 'it returns false'. Refute it at one input. -/
def sizedPartsWrong : ChangeSpec := { name := "sizedParts", fn := fun _ => fun
  | [d1, d2, d3] => { results := [.lit (.bool false)], args := [d1, d2, d3] }
  | _ => none }
def SizedPartsWrongFalsely : Prop := sizedPartsRow.holds Tryd.pinned (OpenSpec.ofChange sizedPartsWrong)

/-- 'filigreelaw09.SizedSame': WHATEVER THE INPUT: true; the input reads as it did. -/
def sizedSameSpec : ChangeSpec := { name := "sizedSame", fn := fun _ => fun
  | [d1, d2, d3, d4] => { results := [.lit (.bool true)], args := [d1, d2, d3, d4] }
  | _ => none }
def sizedSameRow : OpenClaim := { program := "ytglpkfeokojdkaadoor", sum := "c9902ab9ec1b639fc2415527244f38aab92554184f8bf0bf423ca66096dfe085", func := "filigree/filigreelaw09.SizedSame", spec := "sizedSame", unfollowed := true, recurses := true, named := ["filigree/sized.kinds"], loops := true, apart := false, laid := [("filigree/sized.kinds", laid_filigree_sized_kinds)] }
def SizedSameSaid : Prop := sizedSameRow.holds Tryd.pinned (OpenSpec.ofChange sizedSameSpec)

/-- ITS FALSE NEIGHBOUR: 'it returns false'. Refute it at one input. -/
def sizedSameWrong : ChangeSpec := { name := "sizedSame", fn := fun _ => fun
  | [d1, d2, d3, d4] => { results := [.lit (.bool false)], args := [d1, d2, d3, d4] }
  | _ => none }
def SizedSameWrongFalsely : Prop := sizedSameRow.holds Tryd.pinned (OpenSpec.ofChange sizedSameWrong)

/-- 'filigreelaw09.SizedWant': WHATEVER THE INPUT: true; the input reads as it did. -/
def sizedWantSpec : ChangeSpec := { name := "sizedWant", fn := fun _ => fun
  | [d1, d2, d3] => { results := [.lit (.bool true)], args := [d1, d2, d3] }
  | _ => none }
def sizedWantRow : OpenClaim := { program := "ytglpkfeokojdkaadoor", sum := "c9902ab9ec1b639fc2415527244f38aab92554184f8bf0bf423ca66096dfe085", func := "filigree/filigreelaw09.SizedWant", spec := "sizedWant", unfollowed := true, recurses := true, named := ["filigree/sized.kinds"], loops := true, apart := false, laid := [("filigree/sized.kinds", laid_filigree_sized_kinds)] }
def SizedWantSaid : Prop := sizedWantRow.holds Tryd.pinned (OpenSpec.ofChange sizedWantSpec)

/-- ITS FALSE NEIGHBOUR: 'it returns false'. Refute it at one input. -/
def sizedWantWrong : ChangeSpec := { name := "sizedWant", fn := fun _ => fun
  | [d1, d2, d3] => { results := [.lit (.bool false)], args := [d1, d2, d3] }
  | _ => none }
def SizedWantWrongFalsely : Prop := sizedWantRow.holds Tryd.pinned (OpenSpec.ofChange sizedWantWrong)

/- THE SECOND FORM. 'bulk': how many values and letters a reading holds, each counted each time it is reached (what is shared counts as often as it is met; a slice's spare places count too). A statement '..UptoSaid' is the law's where the arguments, and the package variables that the reading takes, are together of bulk at most 1048576: NARROWER than '..Said'. Prove '..Said' where nothing that the law and all that it calls make is longer than what came in: it says more and counts as full. Else prove '..UptoSaid'. A law counts once. -/
mutual
def uptoBulk {H : Type} : DataW H → Nat
  | .lit (.string bytes) => bytes.length + 1
  | .lit _ => 1
  | .nil => 1
  | .ptr d => uptoBulk d + 1
  | .slice elems spare => uptoBulkAll elems + uptoBulkAll spare + 1
  | .agg parts => uptoBulkAll parts + 1
  | .iface _ d => uptoBulk d + 1
  | .map entries => uptoBulkEntries entries + 1
  | .held _ => 1
def uptoBulkAll {H : Type} : List (DataW H) → Nat
  | [] => 0
  | d :: r => uptoBulk d + uptoBulkAll r
def uptoBulkEntries {H : Type} : List (Lit × DataW H) → Nat
  | [] => 0
  | x :: r => uptoBulkEntry x + uptoBulkEntries r
def uptoBulkEntry {H : Type} : Lit × DataW H → Nat
  | (.string bytes, d) => bytes.length + uptoBulk d + 1
  | (_, d) => uptoBulk d + 1
 end
def uptoSmall : (H : Type) → List (DataW H) → Bool := fun _ ds => decide (uptoBulkAll ds ≤ 1048576)
def OpenSpec.upto (s : _root_.Go.ChangeSpec) : _root_.Go.OpenSpec := { _root_.Go.OpenSpec.ofChange s with cond := some uptoSmall }

/-- 'filigreelaw09.SizedBehind', WHERE WHAT IT READS IS OF BULK AT MOST 1048576: true; the input reads as it did. -/
def sizedBehindUptoRow : OpenClaim := { program := "ytglpkfeokojdkaadoor", sum := "c9902ab9ec1b639fc2415527244f38aab92554184f8bf0bf423ca66096dfe085", func := "filigree/filigreelaw09.SizedBehind", spec := "sizedBehind", unfollowed := true, recurses := true, named := ["filigree/sized.kinds"], loops := true, apart := false, laid := [("filigree/sized.kinds", laid_filigree_sized_kinds)], narrowed := true }
def SizedBehindUptoSaid : Prop := sizedBehindUptoRow.holds Tryd.pinned (OpenSpec.upto sizedBehindSpec)

/-- 'filigreelaw09.SizedBit', WHERE WHAT IT READS IS OF BULK AT MOST 1048576: true; the input reads as it did. -/
def sizedBitUptoRow : OpenClaim := { program := "ytglpkfeokojdkaadoor", sum := "c9902ab9ec1b639fc2415527244f38aab92554184f8bf0bf423ca66096dfe085", func := "filigree/filigreelaw09.SizedBit", spec := "sizedBit", unfollowed := true, recurses := true, named := ["filigree/sized.kinds"], loops := true, apart := false, laid := [("filigree/sized.kinds", laid_filigree_sized_kinds)], narrowed := true }
def SizedBitUptoSaid : Prop := sizedBitUptoRow.holds Tryd.pinned (OpenSpec.upto sizedBitSpec)

/-- 'filigreelaw09.SizedNumber', WHERE WHAT IT READS IS OF BULK AT MOST 1048576: true; the input reads as it did. -/
def sizedNumberUptoRow : OpenClaim := { program := "ytglpkfeokojdkaadoor", sum := "c9902ab9ec1b639fc2415527244f38aab92554184f8bf0bf423ca66096dfe085", func := "filigree/filigreelaw09.SizedNumber", spec := "sizedNumber", unfollowed := true, recurses := true, named := ["filigree/sized.kinds"], apart := false, laid := [("filigree/sized.kinds", laid_filigree_sized_kinds)], narrowed := true }
def SizedNumberUptoSaid : Prop := sizedNumberUptoRow.holds Tryd.pinned (OpenSpec.upto sizedNumberSpec)

/-- 'filigreelaw09.SizedParts', WHERE WHAT IT READS IS OF BULK AT MOST 1048576: true; the input reads as it did. -/
def sizedPartsUptoRow : OpenClaim := { program := "ytglpkfeokojdkaadoor", sum := "c9902ab9ec1b639fc2415527244f38aab92554184f8bf0bf423ca66096dfe085", func := "filigree/filigreelaw09.SizedParts", spec := "sizedParts", unfollowed := true, recurses := true, named := ["filigree/sized.kinds"], loops := true, apart := false, laid := [("filigree/sized.kinds", laid_filigree_sized_kinds)], narrowed := true }
def SizedPartsUptoSaid : Prop := sizedPartsUptoRow.holds Tryd.pinned (OpenSpec.upto sizedPartsSpec)

/-- 'filigreelaw09.SizedSame', WHERE WHAT IT READS IS OF BULK AT MOST 1048576: true; the input reads as it did. -/
def sizedSameUptoRow : OpenClaim := { program := "ytglpkfeokojdkaadoor", sum := "c9902ab9ec1b639fc2415527244f38aab92554184f8bf0bf423ca66096dfe085", func := "filigree/filigreelaw09.SizedSame", spec := "sizedSame", unfollowed := true, recurses := true, named := ["filigree/sized.kinds"], loops := true, apart := false, laid := [("filigree/sized.kinds", laid_filigree_sized_kinds)], narrowed := true }
def SizedSameUptoSaid : Prop := sizedSameUptoRow.holds Tryd.pinned (OpenSpec.upto sizedSameSpec)

/-- 'filigreelaw09.SizedWant', WHERE WHAT IT READS IS OF BULK AT MOST 1048576: true; the input reads as it did. -/
def sizedWantUptoRow : OpenClaim := { program := "ytglpkfeokojdkaadoor", sum := "c9902ab9ec1b639fc2415527244f38aab92554184f8bf0bf423ca66096dfe085", func := "filigree/filigreelaw09.SizedWant", spec := "sizedWant", unfollowed := true, recurses := true, named := ["filigree/sized.kinds"], loops := true, apart := false, laid := [("filigree/sized.kinds", laid_filigree_sized_kinds)], narrowed := true }
def SizedWantUptoSaid : Prop := sizedWantUptoRow.holds Tryd.pinned (OpenSpec.upto sizedWantSpec)

end Rows
end Go.Proofs.YtglpkfeokojdkaaDoor
