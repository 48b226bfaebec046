/-
  AsR, in one text.
-/
import Derived.Test.YtiipjbafdhijlaaGreatDoorZAZ
import Derived.Test.YtiipjbafdhijlaaGreatDoorZAO
namespace Go.Proofs.YtiipjbafdhijlaaGreatDoor
open Go Go.RowKit
set_option linter.unusedVariables false
set_option linter.unusedSimpArgs false
open Go.Sort
def checkX (x : XT) : Int := if (decide (65536 < x.sz) || decide (64 < x.dp)) = true then 2 else if mayX x = true then 0 else 1
def checkSt (x : ST) : Int := if (decide (65536 < x.sz) || decide (64 < x.dp)) = true then 2 else if standS x = true then 0 else 1
end Go.Proofs.YtiipjbafdhijlaaGreatDoor
