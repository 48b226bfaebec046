/-
  AsLf, in one text.
-/
import Derived.Test.YtiipjbafdhijlaaGreatDoorZAG
import Derived.Maps.Views
import Derived.Carry
namespace Go.Proofs.YtiipjbafdhijlaaGreatDoor
open Go Go.RowKit
set_option linter.unusedVariables false
set_option linter.unusedSimpArgs false
open Go.Sort
theorem seen_made (w : World) : SeenAt (w.alloc (.map #[] 0)) w.heap.size 0 [] := ⟨.map [], World.ownsMap_made w _ _ _, Maps.isMap_empty, fun s => by rfl⟩
theorem EnvA.size {w : World} (h : EnvA w) : 5 ≤ w.heap.size := by
 obtain ⟨he, h1, h2, h3⟩ := h
 obtain ⟨m, hm⟩ := he.most
 exact block_lt_of_cell hm
/-- What Free tells. -/
def ToldN (w : World) (N : List Bytes) (e : Ending) (w' : World) : Prop := ∃ v, e = .returned v ∧ w'.ownsRow w.heap.size 9 1 v N.length (strs N) ∧ (N = [] → v = .slice none 0 0) ∧ Below w.heap.size w w'
end Go.Proofs.YtiipjbafdhijlaaGreatDoor
