/-
  Are trees the same: SameX, SameS, Same.
-/
import Derived.Test.YtlbjmnakiflfpaaGreatDoorKpAsM
import Derived.Deep.LoopGhost
import Derived.Deep.DeepCutAuto
namespace Go.Proofs.YtlbjmnakiflfpaaGreatDoor
open Go Go.RowKit
set_option linter.unusedVariables false
set_option linter.unusedSimpArgs false
open Go.Sort

/-- Are two lists the same, element by element? -/
def eqList {α : Type} (p : α → α → Bool) : List α → List α → Bool
  | [], [] => true
  | x :: r, y :: t => p x y && eqList p r t
  | _, _ => false
theorem eqList_len {α : Type} (p : α → α → Bool) : ∀ l m : List α, l.length ≠ m.length → eqList p l m = false
  | [], [], h => absurd rfl h
  | [], _ :: _, _ => rfl
  | _ :: _, [], _ => rfl
  | x :: r, y :: t, h => by rw [eqList, eqList_len p r t (by simpa using h), Bool.and_false]
theorem eqList_drop {α : Type} (p : α → α → Bool) (l m : List α) (k : Nat) (h : k < l.length) (h2 : k < m.length) : eqList p (l.drop k) (m.drop k) = (p l[k] m[k] && eqList p (l.drop (k + 1)) (m.drop (k + 1))) := by
  rw [← List.getElem_cons_drop h, ← List.getElem_cons_drop h2]; rfl

end Go.Proofs.YtlbjmnakiflfpaaGreatDoor
