/-
  May statements be: mayBeS, mayStand.
-/
import Derived.Test.YtlbjmnakiflfpaaGreatDoorKpAsN
namespace Go.Proofs.YtlbjmnakiflfpaaGreatDoor
open Go Go.RowKit
set_option linter.unusedVariables false
set_option linter.unusedSimpArgs false
open Go.Sort

theorem mayS_op (x : ST) (h : mayS x = true) : 1 ≤ x.op ∧ x.op < 7 := by
  obtain ⟨op, nm, xa, xc, xl, sa, sc, sl⟩ := x
  rw [mayS] at h
  simp only [Bool.and_eq_true] at h
  have := h.1
  unfold amongB at this
  simpa [ST.op] using this
theorem ks_pair (k : Nat) (h1 : 1 ≤ k) (h2 : k < 7) : ((ks k).2.2.2.2.2.2.1 = 0 ∧ (ks k).2.2.2.2.2.2.2 = 0) ∨ ((ks k).2.2.2.2.2.2.1 = 32 ∧ (ks k).2.2.2.2.2.2.2 = 36) ∨ ((ks k).2.2.2.2.2.2.1 = 16 ∧ (ks k).2.2.2.2.2.2.2 = 16) ∨ ((ks k).2.2.2.2.2.2.1 = 110 ∧ (ks k).2.2.2.2.2.2.2 = 110) := by
  have : k = 1 ∨ k = 2 ∨ k = 3 ∨ k = 4 ∨ k = 5 ∨ k = 6 := by omega
  rcases this with rfl | rfl | rfl | rfl | rfl | rfl <;> simp [ks]
theorem ks_target (k : Nat) (h1 : 1 ≤ k) (h2 : k < 7) (h : (ks k).2.1 = true) : k ≠ 3 ∧ (ks k).2.2.1 = 2 ∧ (ks k).2.2.2.2.1 = false := by
  have : k = 1 ∨ k = 2 ∨ k = 3 ∨ k = 4 ∨ k = 5 ∨ k = 6 := by omega
  rcases this with rfl | rfl | rfl | rfl | rfl | rfl <;> simp_all [ks]
theorem ki_target (k : Nat) (h1 : 1 ≤ k) (h2 : k < 11) (h : (ki k).2.2.1 = true) : (ki k).2.2.2.1 = 2 := by
  have : k = 1 ∨ k = 2 ∨ k = 3 ∨ k = 4 ∨ k = 5 ∨ k = 6 ∨ k = 7 ∨ k = 8 ∨ k = 9 ∨ k = 10 := by omega
  rcases this with rfl | rfl | rfl | rfl | rfl | rfl | rfl | rfl | rfl | rfl <;> simp_all [ki]
theorem head_true (l : List XT) (h : 0 < l.length) : headB true l = hasB l[0].op := by
  cases l with
  | nil => simp at h
  | cons x r => rfl
theorem hasName_call (x : XT) (b : Bool) (h : hasB x.op = b) (w : World) (he : EnvA w) : Calls Tryz.prog 95 #[x.val] w fun e w' => e = .returned (.bool b) ∧ Below w.heap.size w w' := h ▸ hasName_any x w he
end Go.Proofs.YtlbjmnakiflfpaaGreatDoor
