/-
  sized: its small functions.
-/
import Derived.Test.YtbcgeglkmpcnpaaDoorEzA
import Derived.Test.YtbcgeglkmpcnpaaDoorEzP
namespace Go.Proofs.YtbcgeglkmpcnpaaDoor
open Go Go.RowKit
set_option linter.unusedVariables false
set_option linter.unusedSimpArgs false
open Go.Sort

def isW (w : Int) : Bool := decide (1 ≤ w) && decide (w ≤ 64)
def orU (w : Int) : Int := if w = 0 then 32 else w
def extB (op a b : Int) : Bool := if op = 33 then decide (b ≤ a) else decide (a ≤ b)
def haveB (n : Nat) (k : Int) : Bool := decide (0 ≤ k) && decide (k < (n : Int))
set_option maxHeartbeats 4000000 in
set_option maxRecDepth 100000 in
theorem isWidth_any (w : Int) (W : World) : Calls Tryd.prog 27 #[.int .i64 w] W fun e W' => e = .returned (.bool (isW w)) ∧ W = W' := by
  by_cases t0 : 1 ≤ w
  · have e00 : decide (1 ≤ w) = true := by first | (rw [decide_eq_true_eq]; omega) | (rw [decide_eq_false_iff_not]; omega) | (rw [beq_iff_eq]; omega) | (rw [beq_eq_false_iff_ne]; omega) | (rw [bne_iff_ne]; omega) | (rw [bne_eq_false_iff_eq]; omega)
    by_cases t1 : w ≤ 64
    · have e10 : decide (w ≤ 64) = true := by first | (rw [decide_eq_true_eq]; omega) | (rw [decide_eq_false_iff_not]; omega) | (rw [beq_iff_eq]; omega) | (rw [beq_eq_false_iff_ne]; omega) | (rw [bne_iff_ne]; omega) | (rw [bne_eq_false_iff_eq]; omega)
      go_enter Tryd.func27, Tryd.ntmps27
      go_wp2
      go_ret
      exact ⟨by simp [isW, e00, e10], rfl⟩
    have e10 : decide (w ≤ 64) = false := by first | (rw [decide_eq_true_eq]; omega) | (rw [decide_eq_false_iff_not]; omega) | (rw [beq_iff_eq]; omega) | (rw [beq_eq_false_iff_ne]; omega) | (rw [bne_iff_ne]; omega) | (rw [bne_eq_false_iff_eq]; omega)
    go_enter Tryd.func27, Tryd.ntmps27
    go_wp2
    go_ret
    exact ⟨by simp [isW, e00, e10], rfl⟩
  have e00 : decide (1 ≤ w) = false := by first | (rw [decide_eq_true_eq]; omega) | (rw [decide_eq_false_iff_not]; omega) | (rw [beq_iff_eq]; omega) | (rw [beq_eq_false_iff_ne]; omega) | (rw [bne_iff_ne]; omega) | (rw [bne_eq_false_iff_eq]; omega)
  go_enter Tryd.func27, Tryd.ntmps27
  go_wp2
  go_ret
  exact ⟨by simp [isW, e00], rfl⟩
set_option maxHeartbeats 4000000 in
set_option maxRecDepth 100000 in
theorem orUsual_any (w : Int) (W : World) : Calls Tryd.prog 56 #[.int .i64 w] W fun e W' => e = .returned (.int .i64 (orU w)) ∧ W = W' := by
  by_cases t0 : w = 0
  · subst t0
    go_enter Tryd.func56, Tryd.ntmps56
    go_wp2
    go_ret
    exact ⟨rfl, rfl⟩
  have e00 : (w == 0) = false := by simpa using t0
  go_enter Tryd.func56, Tryd.ntmps56
  go_wp2
  go_ret
  exact ⟨by simp [orU, t0], rfl⟩
set_option maxHeartbeats 4000000 in
set_option maxRecDepth 100000 in
theorem extends_any (op a b : Int) (W : World) : Calls Tryd.prog 62 #[.int .i64 op, .int .i64 a, .int .i64 b] W fun e W' => e = .returned (.bool (extB op a b)) ∧ W = W' := by
  by_cases t0 : op = 33
  · subst t0
    go_enter Tryd.func62, Tryd.ntmps62
    go_wp2
    go_ret
    exact ⟨by simp [extB], rfl⟩
  have e00 : (op == 33) = false := by simpa using t0
  go_enter Tryd.func62, Tryd.ntmps62
  go_wp2
  go_ret
  exact ⟨by simp [extB, t0], rfl⟩
set_option maxHeartbeats 4000000 in
set_option maxRecDepth 100000 in
theorem unchanged_any (b : Bool) (W : World) : Calls Tryd.prog 35 #[.bool b] W fun e W' => e = .returned (.int .i64 (if b = true then 0 else 90)) ∧ W = W' := by
  cases b
  all_goals
    go_enter Tryd.func35, Tryd.ntmps35
    go_wp2
    go_ret
    exact ⟨by simp, rfl⟩
set_option maxHeartbeats 4000000 in
set_option maxRecDepth 100000 in
theorem have_any (a : Option Addr) (n c : Nat) (k : Int) (W : World) : Calls Tryd.prog 88 #[.slice a n c, .int .i64 k] W fun e W' => e = .returned (.bool (haveB n k)) ∧ W = W' := by
  by_cases t0 : 0 ≤ k
  · have e00 : decide (0 ≤ k) = true := by first | (rw [decide_eq_true_eq]; omega) | (rw [decide_eq_false_iff_not]; omega) | (rw [beq_iff_eq]; omega) | (rw [beq_eq_false_iff_ne]; omega) | (rw [bne_iff_ne]; omega) | (rw [bne_eq_false_iff_eq]; omega)
    by_cases t1 : k < (n : Int)
    · have e10 : decide (k < (n : Int)) = true := by first | (rw [decide_eq_true_eq]; omega) | (rw [decide_eq_false_iff_not]; omega) | (rw [beq_iff_eq]; omega) | (rw [beq_eq_false_iff_ne]; omega) | (rw [bne_iff_ne]; omega) | (rw [bne_eq_false_iff_eq]; omega)
      go_enter Tryd.func88, Tryd.ntmps88
      go_wp2
      go_ret
      exact ⟨by simp [haveB, e00, e10], rfl⟩
    have e10 : decide (k < (n : Int)) = false := by first | (rw [decide_eq_true_eq]; omega) | (rw [decide_eq_false_iff_not]; omega) | (rw [beq_iff_eq]; omega) | (rw [beq_eq_false_iff_ne]; omega) | (rw [bne_iff_ne]; omega) | (rw [bne_eq_false_iff_eq]; omega)
    go_enter Tryd.func88, Tryd.ntmps88
    go_wp2
    go_ret
    exact ⟨by simp [haveB, e00, e10], rfl⟩
  have e00 : decide (0 ≤ k) = false := by first | (rw [decide_eq_true_eq]; omega) | (rw [decide_eq_false_iff_not]; omega) | (rw [beq_iff_eq]; omega) | (rw [beq_eq_false_iff_ne]; omega) | (rw [bne_iff_ne]; omega) | (rw [bne_eq_false_iff_eq]; omega)
  go_enter Tryd.func88, Tryd.ntmps88
  go_wp2
  go_ret
  exact ⟨by simp [haveB, e00], rfl⟩
end Go.Proofs.YtbcgeglkmpcnpaaDoor
