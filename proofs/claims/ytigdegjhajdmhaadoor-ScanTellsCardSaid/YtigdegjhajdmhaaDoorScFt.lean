/-
  The reference: Fits.
-/
import Derived.Test.YtigdegjhajdmhaaDoorScMb
namespace Go.Proofs.YtigdegjhajdmhaaDoor
open Go Go.RowKit
set_option linter.unusedVariables false
set_option linter.unusedSimpArgs false
open Go.Sort

set_option maxHeartbeats 1000000 in
theorem fits_any (W : Int) (v : Nat) (hv : v < 18446744073709551616) (w : World) : Calls Tryd.prog 59 #[.int .i64 W, .int .u64 (v : Int)] w fun e w' => e = .returned (.bool (holdsI W v)) ∧ w = w' := by
  by_cases h64 : W = 64
  · subst h64
    have HH : Hid (holdsI 64 v = true) := Lib.hid (by
      unfold holdsI
      have : v < 2 ^ (64 : Int).toNat := hv
      simp only [this, decide_true]; rfl)
    clear hv
    go_enter Tryd.func59, Tryd.ntmps59
    go_wp2
    go_ret
    exact ⟨ret_b HH.out.symm, rfl⟩
  · have e64 : (W == 64) = false := by rw [beq_eq_false_iff_ne]; exact h64
    by_cases h1 : 1 ≤ W
    · have d1 : decide (1 ≤ W) = true := by simpa using h1
      by_cases h2 : W < 64
      · have d2 : decide (W < 64) = true := by simpa using h2
        have d2b : decide (W ≤ 64) = true := by rw [decide_eq_true_eq]; omega
        have HH : Hid (holdsI W v = decide (v < 2 ^ W.toNat)) := Lib.hid (by unfold holdsI; rw [d1, d2b]; rfl)
        obtain ⟨n, rfl⟩ : ∃ n : Nat, W = n := ⟨W.toNat, by omega⟩
        have wu : IntKind.u64.wrap (n : Int) = n := by rw [IntKind.wrap_u64]; omega
        have HV := Lib.hid hv
        clear hv
        go_enter Tryd.func59, Tryd.ntmps59
        go_wp2
        go_ret
        refine ⟨ret_b ?_, rfl⟩
        have hp : (2 : Nat) ^ n ≤ 2 ^ 63 := Nat.pow_le_pow_right (by omega) (by omega)
        have hq : ((2 ^ n : Nat) : Int) = (2 : Int) ^ n := by rw [Int.natCast_pow]; rfl
        have hw : IntKind.u64.wrap ((2 : Int) ^ n) = ((2 ^ n : Nat) : Int) := by
          have key : ∀ X : Nat, X ≤ 2 ^ 63 → IntKind.u64.wrap (X : Int) = (X : Int) := by
            intro X h
            have h63 : (2 : Nat) ^ 63 = 9223372036854775808 := by decide
            rw [IntKind.wrap_u64]
            omega
          rw [← hq]
          exact key _ hp
        rw [hw, HH.out, Int.toNat_natCast, Bool.eq_iff_iff, decide_eq_true_eq, decide_eq_true_eq]
        exact Int.ofNat_lt
      · have d2 : decide (W < 64) = false := by simpa using h2
        have d3 : decide (W ≤ 64) = false := by rw [decide_eq_false_iff_not]; omega
        have HH : Hid (holdsI W v = false) := Lib.hid (by unfold holdsI; rw [d1, d3]; rfl)
        clear hv d3
        go_enter Tryd.func59, Tryd.ntmps59
        go_wp2
        go_ret
        exact ⟨ret_b HH.out.symm, rfl⟩
    · have d1 : decide (1 ≤ W) = false := by simpa using h1
      have HH : Hid (holdsI W v = false) := Lib.hid (by unfold holdsI; rw [d1]; rfl)
      clear hv
      go_enter Tryd.func59, Tryd.ntmps59
      go_wp2
      go_ret
      exact ⟨ret_b HH.out.symm, rfl⟩
end Go.Proofs.YtigdegjhajdmhaaDoor
