/-
  Contracts: HasPrefix; what is told of a wrong token; bases; what a digit counts; start.
-/
import Derived.Test.YtbcgeglkmpcnpaaDoorScB
import Derived.ScopeJumps
import Derived.WalkSpells
import Derived.BigQuiet
import Derived.Deep.QuietTactic
import Derived.Lib.Strings
namespace Go.Proofs.YtbcgeglkmpcnpaaDoor
open Go Go.RowKit
set_option linter.unusedVariables false

theorem bs_list (l : Bytes) : (bs l).toList = l := by rw [Lib.toList_data]; simp [bs]
attribute [go_sem] bs_list
theorem prefix_take (p l : Bytes) (h : p.length ≤ l.length) : (l.take p.length == p) = p.isPrefixOf l := by
  rw [Bool.eq_iff_iff, beq_iff_eq, List.isPrefixOf_iff_prefix, List.prefix_iff_eq_take]
  exact eq_comm
theorem prefix_not (p l : Bytes) (h : ¬ p.length ≤ l.length) : p.isPrefixOf l = false := by
  rw [Bool.eq_false_iff]
  intro hp
  rw [List.isPrefixOf_iff_prefix] at hp
  exact h hp.length_le
/-- A token as the model holds it. -/
def tk (k : Int) (s : Bytes) (W V at' : Int) : Value := .agg #[.int .i64 k, .string (bs s), .int .i64 W, .int .u64 V, .int .i64 at']
/-- What a digit counts. -/
def worthI (n : Int) : Int := if digitI n = true then n - 48 else if 97 ≤ n ∧ n ≤ 102 then n - 87 else if 65 ≤ n ∧ n ≤ 70 then n - 55 else 16
theorem worth_range (n : Int) : 0 ≤ worthI n ∧ worthI n ≤ 16 := by
  unfold worthI digitI
  split
  · rename_i h; simp at h; omega
  · split
    · omega
    · split <;> omega

end Go.Proofs.YtbcgeglkmpcnpaaDoor
