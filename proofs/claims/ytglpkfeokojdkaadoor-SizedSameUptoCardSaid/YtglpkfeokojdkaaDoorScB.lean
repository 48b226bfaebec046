/-
  Contracts: runs of bytes, beginnings.
-/
import Derived.Test.YtglpkfeokojdkaaDoorScA
import Derived.LoopTactic
import Derived.WalkSpells
namespace Go.Proofs.YtglpkfeokojdkaaDoor
open Go Go.RowKit

end Go.Proofs.YtglpkfeokojdkaaDoor
