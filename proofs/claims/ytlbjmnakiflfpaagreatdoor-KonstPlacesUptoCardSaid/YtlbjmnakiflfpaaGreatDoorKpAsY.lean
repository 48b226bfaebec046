/-
  The walkers: a node tells its own depth, and goes on to its parts, one by one.
-/
import Derived.Test.YtlbjmnakiflfpaaGreatDoorKpAsX
namespace Go.Proofs.YtlbjmnakiflfpaaGreatDoor
open Go Go.RowKit Go.Shelf
set_option linter.unusedVariables false
set_option linter.unusedSimpArgs false
attribute [local go_sem] Oper.semAt_some

end Go.Proofs.YtlbjmnakiflfpaaGreatDoor
