/-
  Contracts of what asks of one byte.
-/
import Derived.Test.YtbcgeglkmpcnpaaDoorScP
import Derived.Test.YtbcgeglkmpcnpaaDoorProg
import Derived.WalkSmall
import Derived.Lib.Hide
import Derived.Below
namespace Go.Proofs.YtbcgeglkmpcnpaaDoor
open Go Go.RowKit
theorem ret_b {a b : Bool} (h : a = b) : Ending.returned (.bool a) = .returned (.bool b) := by rw [h]
theorem ret_n {k : IntKind} {a b : Int} (h : a = b) : Ending.returned (.int k a) = .returned (.int k b) := by rw [h]

end Go.Proofs.YtbcgeglkmpcnpaaDoor
