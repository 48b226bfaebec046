/-
  The reference: what constant expressions are.
-/
import Derived.Test.YtlbjmnakiflfpaaDoorKsF
import Derived.Test.YtlbjmnakiflfpaaDoorRfB
namespace Go.Proofs.YtlbjmnakiflfpaaDoor
open Go Go.RowKit
set_option linter.unusedVariables false
set_option linter.unusedSimpArgs false
open Go.Sort

set_option maxHeartbeats 2000000 in
set_option maxRecDepth 100000 in
theorem refLookup_any (l : List NT) (hll : l.length ≤ 4000000) (s : Bytes) (a : Option Addr) (c n0 : Nat) (w : World) (hn0 : n0 ≤ w.heap.size) (hin : NRow n0 w l a) : Calls Tryd.prog 10 #[.slice a l.length c, .string (bs s)] w fun e w' => e = .returned (.tuple #[.int .i64 ((findN l s).getD 0), .bool (findN l s).isSome]) ∧ w = w' := by
  obtain ⟨R, hR⟩ : ∃ R, findN l s = R := ⟨_, rfl⟩
  rw [hR]
  have HR := Lib.hid hR
  clear hR
  have hsub0 : IntKind.i64.wrap ((l.length : Int) - 1) = (l.length : Int) - 1 := IntWalk.i64_in _ (by omega)
  go_enter Tryd.func10, Tryd.ntmps10
  go_wp2
  go_loopg [6] l.length (fun g u wr => ∃ k : Nat, u = .int .i64 ((k : Int) - 1) ∧ k = g ∧ k ≤ l.length ∧ findN (l.take k) s = R ∧ wr = w)
  case atStart => exact ⟨l.length, rfl, rfl, Nat.le_refl _, by rw [List.take_length]; exact HR.out, rfl⟩
  case round =>
    obtain ⟨k, rfl, hk, hkl, hf, rfl⟩ := hrel
    have HF := Lib.hid hf
    clear hf hsub0
    cases k with
    | zero =>
      have HE : Hid (R = none) := Lib.hid (by rw [← HF.out]; rfl)
      have d1 : decide ((0 : Int) ≤ ((0 : Nat) : Int) - 1) = false := by decide
      go_wp2
      go_ret2
      exact ⟨by rw [HE.out]; rfl, rfl⟩
    | succ j =>
      have hj : j < l.length := by omega
      have e1 : (((j + 1 : Nat) : Int) - 1) = (j : Int) := by omega
      rw [e1]
      have d1 : decide ((0 : Int) ≤ (j : Int)) = true := by rw [decide_eq_true_eq]; omega
      have x2 : (j : Int) < (l.length : Int) := by omega
      have hsub : IntKind.i64.wrap ((j : Int) - 1) = (j : Int) - 1 := IntWalk.i64_in _ (by omega)
      obtain ⟨b, o, rfl, hb, hr, hx⟩ := InRow.at hin hj
      have HT := Lib.hid (findN_take l s j hj)
      obtain ⟨y, hy⟩ : ∃ y, l[j] = y := ⟨_, rfl⟩
      rw [hy] at hr HT
      clear hy hx
      obtain ⟨ynm, yv⟩ := y
      have r0 : wr.cell? ⟨b, o + j * 2, none⟩ = some (.string (bs ynm)) := hr 0 _ rfl
      have r1 : wr.cell? ⟨b, o + j * 2 + 1, none⟩ = some (.int .i64 yv) := hr 1 _ rfl
      simp only at HT
      clear hr e1
      cases hq : (ynm == s) with
      | true =>
        have HE : Hid (R = some yv) := Lib.hid (by rw [← HF.out, HT.out, if_pos hq])
        go_wp2
        go_ret2
        exact ⟨by rw [HE.out]; rfl, rfl⟩
      | false =>
        have HE : Hid (findN (l.take j) s = R) := Lib.hid (by rw [← HF.out, HT.out, if_neg (by rw [hq]; decide)])
        go_wp2
        cases gk with
        | zero => omega
        | succ gg =>
          go_roundg gg
          case rel => exact ⟨j, rfl, by omega, by omega, HE.out, rfl⟩
          case measure => omega
theorem refbit_any (b : Bool) (w : World) : Calls Tryd.prog 43 #[.bool b] w fun e w' => e = .returned (.int .i64 (kTruth b)) ∧ w = w' := by
  cases b
  all_goals
    go_enter Tryd.func43, Tryd.ntmps43
    go_wp2
    go_ret
    exact ⟨rfl, rfl⟩
theorem refwithin_any (v : Int) (w : World) : Calls Tryd.prog 42 #[.int .i64 v] w fun e w' => e = .returned (.tuple #[.int .i64 (kConst v).1, .int .i64 (kConst v).2]) ∧ w = w' := by
  have HI : Hid (kConst v = if (decide (0 ≤ v) && decide (v ≤ 2147483647)) = true then (v, 0) else (0, 62)) := Lib.hid rfl
  generalize kConst v = R at *
  by_cases h1 : v < 0
  · have d1 : decide (v < 0) = true := by simpa using h1
    have d0 : decide (0 ≤ v) = false := by rw [decide_eq_false_iff_not]; omega
    have HE : Hid (R = (0, 62)) := Lib.hid (by rw [HI.out, d0]; rfl)
    rw [HE.out]
    go_enter Tryd.func42, Tryd.ntmps42
    go_wp2
    go_ret2
    exact ⟨rfl, rfl⟩
  · have d1 : decide (v < 0) = false := by simpa using h1
    have d0 : decide (0 ≤ v) = true := by rw [decide_eq_true_eq]; omega
    by_cases h2 : 2147483647 < v
    · have d2 : decide (2147483647 < v) = true := by simpa using h2
      have d3 : decide (v ≤ 2147483647) = false := by rw [decide_eq_false_iff_not]; omega
      have HE : Hid (R = (0, 62)) := Lib.hid (by rw [HI.out, d0, d3]; rfl)
      rw [HE.out]
      go_enter Tryd.func42, Tryd.ntmps42
      go_wp2
      go_ret2
      exact ⟨rfl, rfl⟩
    · have d2 : decide (2147483647 < v) = false := by simpa using h2
      have d3 : decide (v ≤ 2147483647) = true := by rw [decide_eq_true_eq]; omega
      have HE : Hid (R = (v, 0)) := Lib.hid (by rw [HI.out, d0, d3]; rfl)
      rw [HE.out]
      go_enter Tryd.func42, Tryd.ntmps42
      go_wp2
      go_ret2
      exact ⟨rfl, rfl⟩
/-- A number times two, so often: as far as it is a constant's value. -/
theorem pow_over {A : Int} {i b : Nat} (hA : 0 ≤ A) (hi : i ≤ b) (h : 2147483647 < A * 2 ^ i) (hm : A * 2 ^ i ≤ 4294967294) : kConst (A * 2 ^ i) = kConst (A * 2 ^ (min (b : Int) 31).toNat) := by
  have hi31 : i ≤ 31 := by
    by_cases h1 : i ≤ 31
    · exact h1
    · exfalso
      have hA1 : 1 ≤ A := by
        rcases Int.lt_or_le A 1 with h2 | h2
        · have : A = 0 := by omega
          subst this; omega
        · exact h2
      have h2 : (2 : Int) ^ 32 ≤ 2 ^ i := by
        have := Nat.pow_le_pow_right (n := 2) (by omega) (show 32 ≤ i by omega)
        exact_mod_cast this
      have h3 : A * 2 ^ i ≥ 1 * 2 ^ i := Int.mul_le_mul_of_nonneg_right hA1 (by exact_mod_cast Nat.zero_le _)
      omega
  have hm2 : i ≤ (min (b : Int) 31).toNat := by omega
  have h4 : A * 2 ^ i ≤ A * 2 ^ (min (b : Int) 31).toNat := by
    refine Int.mul_le_mul_of_nonneg_left ?_ hA
    have := Nat.pow_le_pow_right (n := 2) (by omega) hm2
    exact_mod_cast this
  unfold kConst kMay
  have e1 : decide (A * 2 ^ i ≤ 2147483647) = false := by rw [decide_eq_false_iff_not]; omega
  have e2 : decide (A * 2 ^ (min (b : Int) 31).toNat ≤ 2147483647) = false := by rw [decide_eq_false_iff_not]; omega
  rw [e1, e2]; simp
theorem pow_all {A : Int} {b : Nat} (hA : 0 ≤ A) (hb : 0 < A → A * 2 ^ (b - 1) ≤ 2147483647) : kConst (A * 2 ^ b) = kConst (A * 2 ^ (min (b : Int) 31).toNat) := by
  by_cases h : b ≤ 31
  · rw [show (min (b : Int) 31).toNat = b by omega]
  · by_cases h0 : A = 0
    · subst h0; simp
    · exfalso
      have h1 := hb (by omega)
      have h2 : (2 : Int) ^ 31 ≤ 2 ^ (b - 1) := by
        have := Nat.pow_le_pow_right (n := 2) (by omega) (show 31 ≤ b - 1 by omega)
        exact_mod_cast this
      have h3 : A * 2 ^ (b - 1) ≥ 1 * 2 ^ (b - 1) := Int.mul_le_mul_of_nonneg_right (by omega) (by exact_mod_cast Nat.zero_le _)
      omega
end Go.Proofs.YtlbjmnakiflfpaaDoor
