/-
  The reference: signs are the same; Fits.
-/
import Derived.Test.YtigdegjhajdmhaaDoorScAm
import Derived.Test.YtigdegjhajdmhaaDoorScMb
namespace Go.Proofs.YtigdegjhajdmhaaDoor
open Go Go.RowKit
set_option linter.unusedVariables false
set_option linter.unusedSimpArgs false
open Go.Sort

theorem sign_mem (s : Bytes) : isSignB s = signList.contains s := by
  by_cases h : s ∈ signList
  · have hall : signList.all isSignB = true := by kernel_rfl
    rw [List.all_eq_true] at hall
    rw [hall s h]
    simpa using h
  · have hc : signList.contains s = false := by simpa using h
    rw [hc]
    unfold isSignB
    cases hs : s.isEmpty with
    | true => rfl
    | false =>
      have hne : s ≠ [] := by intro e; rw [e] at hs; cases hs
      simp only [Bool.not_false, Bool.true_and, beq_eq_false_iff_ne]
      intro e
      unfold signS at e
      cases hf : signList.find? (fun t => t.isPrefixOf s) with
      | none => rw [hf] at e; exact hne e.symm
      | some t =>
        rw [hf] at e
        have := List.mem_of_find?_eq_some hf
        simp only [Option.getD_some] at e
        rw [e] at this
        exact h this
theorem pieces_signs : (pieces SIGNS_ (SIGNS_.length + 1) 0 0).all (fun t => signList.contains t) = true ∧ signList.all (fun t => (pieces SIGNS_ (SIGNS_.length + 1) 0 0).contains t) = true := And.intro (by kernel_rfl) (by kernel_rfl)
theorem among_signs (s : Bytes) : amK SIGNS_ s (SIGNS_.length + 1) 0 0 = isSignB s := by
  rw [amK_pieces, sign_mem, Bool.eq_iff_iff]
  have h1 := pieces_signs.1
  have h2 := pieces_signs.2
  rw [List.all_eq_true] at h1 h2
  constructor
  · intro h
    exact h1 s (by simpa using h)
  · intro h
    exact h2 s (by simpa using h)
end Go.Proofs.YtigdegjhajdmhaaDoor
