/-
  May statements be.
-/
import Derived.Test.YtlbjmnakiflfpaaGreatDoorKpAsM
import Derived.Deep.LoopGhost
import Derived.Deep.DeepCutAuto
namespace Go.Proofs.YtlbjmnakiflfpaaGreatDoor
open Go Go.RowKit
set_option linter.unusedVariables false
set_option linter.unusedSimpArgs false
open Go.Sort

theorem kinds_drop (others fit : Nat) (l : List ST) (k : Nat) (h : k < l.length) : kindsK others fit (l.drop k) = (!(fit &&& (1 <<< l[k].op.toNat) == 0) && kindsK others others (l.drop (k + 1))) := by
  rw [← List.getElem_cons_drop h]; rfl
theorem labels_drop (l : List ST) (k : Nat) (h : k < l.length) : labelsK (l.drop k) = (((l.drop (k + 1)).isEmpty == l[k].xl.isEmpty) && labelsK (l.drop (k + 1))) := by
  rw [← List.getElem_cons_drop h]; rfl
end Go.Proofs.YtlbjmnakiflfpaaGreatDoor
