/-
  Contract: token.
-/
import Derived.Test.YtiipjbafdhijlaaGreatDoorScY
import Derived.Test.YtiipjbafdhijlaaGreatDoorScT
namespace Go.Proofs.YtiipjbafdhijlaaGreatDoor
open Go Go.RowKit
set_option linter.unusedVariables false
open Go.Sort

/-- What of the world is read: how long the library's search may be, and the signs. -/
structure Env (w : World) : Prop where
  most : ∃ m, w.cell? ⟨4, 0, none⟩ = some (.int .i64 m)
  signs : w.rangeAt 3 0 signCells
theorem Env.keep {w w' : World} (h : Env w) (hb : Below w.heap.size w w') : Env w' := by
  obtain ⟨⟨m, hm⟩, hs⟩ := h
  exact ⟨⟨m, keep_cell hb hm⟩, fun j v hv => keep_cell hb (hs j v hv)⟩
theorem Env.alloc {w : World} (h : Env w) (x : Obj) : Env (w.alloc x) := h.keep ((Below.refl _ _).alloc (Nat.le_refl _) x)
theorem Env.drewN {w : World} (h : Env w) (n : Nat) : Env (w.drewN n) := h.keep (below_drewN (Below.refl _ _) n)
def tokenS (l : Bytes) : Tk :=
  match l with
  | [] => badT 0
  | c :: _ => if letter c = true then nameS l else if digit c = true then numberS l
    else if signS l = [] then badT 20 else ⟨4, signS l, 0, 0, (signS l).length, 0⟩
theorem signS_short (l : Bytes) : (signS l).length ≤ 2 := by
  unfold signS
  have hall : signList.all (fun s => decide (s.length ≤ 2)) = true := by decide
  rw [List.all_eq_true] at hall
  cases h : signList.find? (fun s => s.isPrefixOf l) with
  | none => simp
  | some s => have := hall s (List.mem_of_find?_eq_some h); simpa using this

end Go.Proofs.YtiipjbafdhijlaaGreatDoor
