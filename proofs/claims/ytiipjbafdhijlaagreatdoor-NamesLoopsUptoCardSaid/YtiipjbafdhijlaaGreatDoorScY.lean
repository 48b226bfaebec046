/-
  Contracts: names, and words.
-/
import Derived.Test.YtiipjbafdhijlaaGreatDoorScH
import Derived.Test.YtiipjbafdhijlaaGreatDoorScX
namespace Go.Proofs.YtiipjbafdhijlaaGreatDoor
open Go Go.RowKit
set_option linter.unusedVariables false
open Go.Sort

def nameS (l : Bytes) : Tk :=
  if 64 < run inName l then badT 2
  else ⟨if isWord (l.take (run inName l)) = true then 2 else 1, l.take (run inName l), 0, 0, run inName l, 0⟩
theorem take_take_len (l : Bytes) (n : Nat) : List.take n l = List.take n l := rfl

end Go.Proofs.YtiipjbafdhijlaaGreatDoor
