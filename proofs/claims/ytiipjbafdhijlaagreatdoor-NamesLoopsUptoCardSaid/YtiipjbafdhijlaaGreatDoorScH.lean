/-
  Contracts: numbers.
-/
import Derived.Test.YtiipjbafdhijlaaGreatDoorScG
namespace Go.Proofs.YtiipjbafdhijlaaGreatDoor
open Go Go.RowKit
set_option linter.unusedVariables false
open Go.Sort

def numberS (l : Bytes) : Tk :=
  if ([39] : Bytes).isPrefixOf (l.drop (run digit l)) = true then wideS l (run digit l)
  else if 0 < run inName (l.drop (run digit l)) then badT 21
  else if ¬ num 10 (l.take (run digit l)) < 18446744073709551616 then badT 22
  else ⟨3, [], 0, num 10 (l.take (run digit l)), run digit l, 0⟩
theorem dg_digit (c : UInt8) (h : digit c = true) : dg c < 10 := by
  unfold dg worthI
  unfold digit at h
  rw [if_pos h]
  unfold digitI at h
  simp at h
  omega
theorem allD_run (l : Bytes) : allD 10 (l.take (run digit l)) = true := by
  unfold run
  induction l with
  | nil => rfl
  | cons c l ih =>
    by_cases hc : digit c = true
    · rw [List.takeWhile_cons, if_pos hc, List.length_cons, List.take_succ_cons]
      unfold allD at ih ⊢
      rw [List.all_cons, ih]
      simp [dg_digit c hc]
    · rw [List.takeWhile_cons, if_neg hc]; rfl
theorem prefix39 (m : Bytes) (h : ([39] : Bytes).isPrefixOf m = true) : 0 < m.length := by
  cases m with
  | nil => simp at h
  | cons c m => simp

end Go.Proofs.YtiipjbafdhijlaaGreatDoor
