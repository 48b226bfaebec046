/-
  Contracts: runs of bytes, beginnings.
-/
import Derived.Test.YtbcgeglkmpcnpaaDoorScA
import Derived.LoopTactic
import Derived.WalkSpells
namespace Go.Proofs.YtbcgeglkmpcnpaaDoor
open Go Go.RowKit

end Go.Proofs.YtbcgeglkmpcnpaaDoor
