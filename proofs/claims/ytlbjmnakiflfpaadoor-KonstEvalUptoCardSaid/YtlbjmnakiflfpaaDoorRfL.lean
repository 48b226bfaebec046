/-
  The reference: what two constants make.
-/
import Derived.Test.YtlbjmnakiflfpaaDoorRfK
namespace Go.Proofs.YtlbjmnakiflfpaaDoor
open Go Go.RowKit
set_option linter.unusedVariables false
set_option linter.unusedSimpArgs false
open Go.Sort

set_option maxHeartbeats 2000000 in
set_option maxRecDepth 100000 in
theorem reftimes_any (A : Int) (hA : 0 ≤ A) (hA2 : A ≤ 2147483647) (b : Nat) (hb : b ≤ 2147483647) (w : World) : Calls Tryd.prog 79 #[.int .i64 A, .int .i64 (b : Int)] w fun e w' => ∃ v : Int, e = .returned (.int .i64 v) ∧ kConst v = kConst (A * 2 ^ (min (b : Int) 31).toNat) ∧ w = w' := by
  have HA := Lib.hid (And.intro hA hA2)
  clear hA hA2
  go_enter Tryd.func79, Tryd.ntmps79
  go_wp2
  go_loopg [5, 6] b (fun g v u wr => ∃ (i : Nat) (V : Int), u = .int .i64 i ∧ i + g = b ∧ v = .int .i64 V ∧ Hid (V = A * 2 ^ i ∧ (0 < A → i = 0 ∨ A * 2 ^ (i - 1) ≤ 2147483647)) ∧ 0 ≤ V ∧ V ≤ 4294967294 ∧ wr = w)
  case atStart => exact ⟨0, A, rfl, by omega, rfl, Lib.hid ⟨by simp, fun _ => .inl rfl⟩, HA.out.1, by have := HA.out.2; omega, rfl⟩
  case round =>
    obtain ⟨i, V, rfl, hi, rfl, HV, hV0, hV1, rfl⟩ := hrel
    have hw : IntKind.i64.wrap (2 * V) = 2 * V := IntWalk.i64_in _ (by omega)
    have hw2 : wrap64 (2 * V) = 2 * V := by first | exact hw | (unfold wrap64; omega)
    by_cases hlt : i < b
    · have d1 : decide (i < b) = true := by simpa using hlt
      have d2 : decide ((i : Int) < (b : Int)) = true := by rw [decide_eq_true_eq]; omega
      by_cases h0 : 0 < V
      · have d3 : decide (0 < V) = true := by simpa using h0
        by_cases h1 : V ≤ 2147483647
        · have d4 : decide (V ≤ 2147483647) = true := by simpa using h1
          have HN : Hid (2 * V = A * 2 ^ (i + 1) ∧ (0 < A → i + 1 = 0 ∨ A * 2 ^ (i + 1 - 1) ≤ 2147483647)) := Lib.hid ⟨by rw [HV.out.1, Int.pow_succ]; rw [Int.mul_comm 2, Int.mul_assoc], fun _ => .inr (by rw [Nat.add_sub_cancel, ← HV.out.1]; exact h1)⟩
          go_wp2
          cases gk with
          | zero => omega
          | succ gg =>
            go_roundg gg
            case rel => exact ⟨i + 1, 2 * V, by simp; first | done | rfl | omega, by omega, by first | rfl | (simp; done) | (rw [hw2]) | (rw [hw]), HN, by omega, by omega, rfl⟩
            case measure => omega
        · have d4 : decide (V ≤ 2147483647) = false := by simpa using h1
          have HE : Hid (kConst V = kConst (A * 2 ^ (min (b : Int) 31).toNat)) := Lib.hid (by have h := HV.out.1; rw [h]; exact pow_over HA.out.1 (Nat.le_of_lt hlt) (by rw [← h]; omega) (by rw [← h]; omega))
          go_wp2
          go_ret
          exact ⟨V, rfl, HE.out, rfl⟩
      · have d3 : decide (0 < V) = false := by simpa using h0
        have HE : Hid (kConst V = kConst (A * 2 ^ (min (b : Int) 31).toNat)) := Lib.hid (by
          have h := HV.out.1
          have hV : V = 0 := by omega
          have hp : (0 : Int) < 2 ^ i := Int.pow_pos (by decide)
          have hA : A = 0 := by
            rcases Int.mul_eq_zero.1 (h.symm.trans hV) with h1 | h1
            · exact h1
            · omega
          rw [hV, hA]; simp)
        go_wp2
        go_ret
        exact ⟨V, rfl, HE.out, rfl⟩
    · have d1 : decide (i < b) = false := by simpa using hlt
      have d2 : decide ((i : Int) < (b : Int)) = false := by rw [decide_eq_false_iff_not]; omega
      have HE : Hid (kConst V = kConst (A * 2 ^ (min (b : Int) 31).toNat)) := Lib.hid (by
        have h := HV.out
        have hib : i = b := by omega
        rw [h.1, hib]
        rw [hib] at h
        refine pow_all HA.out.1 (fun hp => ?_)
        rcases h.2 hp with h1 | h1
        · rw [h1]; have := HA.out.2; simpa using this
        · exact h1)
      go_wp2
      go_ret
      exact ⟨V, rfl, HE.out, rfl⟩
theorem half_pow (A : Int) (i : Nat) (hA : 0 ≤ A) : A / 2 ^ (i + 1) = (A / 2 ^ i) / 2 := by
  rw [Int.pow_succ, Int.ediv_ediv_of_nonneg (Int.le_of_lt (Int.pow_pos (by decide)))]
set_option maxHeartbeats 2000000 in
set_option maxRecDepth 100000 in
theorem refhalved_any (A : Int) (hA : 0 ≤ A) (hA2 : A ≤ 2147483647) (b : Nat) (hb : b ≤ 2147483647) (w : World) : Calls Tryd.prog 80 #[.int .i64 A, .int .i64 (b : Int)] w fun e w' => ∃ v : Int, e = .returned (.int .i64 v) ∧ v = A / 2 ^ b ∧ w = w' := by
  have HA := Lib.hid (And.intro hA hA2)
  clear hA hA2
  go_enter Tryd.func80, Tryd.ntmps80
  go_wp2
  go_loopg [5, 6] b (fun g v u wr => ∃ (i : Nat) (V : Int), u = .int .i64 i ∧ i + g = b ∧ v = .int .i64 V ∧ Hid (V = A / 2 ^ i) ∧ 0 ≤ V ∧ V ≤ 2147483647 ∧ wr = w)
  case atStart => exact ⟨0, A, rfl, by omega, rfl, Lib.hid (by simp), HA.out.1, HA.out.2, rfl⟩
  case round =>
    obtain ⟨i, V, rfl, hi, rfl, HV, hV0, hV1, rfl⟩ := hrel
    have hq : Int.tdiv V 2 = V / 2 := Int.tdiv_eq_ediv_of_nonneg hV0
    have hw : IntKind.i64.wrap (V / 2) = V / 2 := IntWalk.i64_in _ (by omega)
    have hw2 : wrap64 (V / 2) = V / 2 := by first | exact hw | (unfold wrap64; omega)
    by_cases hlt : i < b
    · have d1 : decide (i < b) = true := by simpa using hlt
      have d2 : decide ((i : Int) < (b : Int)) = true := by rw [decide_eq_true_eq]; omega
      by_cases h0 : 0 < V
      · have d3 : decide (0 < V) = true := by simpa using h0
        have HN : Hid (V / 2 = A / 2 ^ (i + 1)) := Lib.hid (by rw [half_pow A i HA.out.1, HV.out])
        go_wp2
        cases gk with
        | zero => omega
        | succ gg =>
          go_roundg gg
          case rel => exact ⟨i + 1, V / 2, by simp; first | done | rfl | omega, by omega, by first | rfl | (simp; done) | (rw [hq, hw2]) | (rw [hq, hw]) | (rw [hw2]) | (rw [hw]) | (rw [hq]), HN, by omega, by omega, rfl⟩
          case measure => omega
      · have d3 : decide (0 < V) = false := by simpa using h0
        have HE : Hid (V = A / 2 ^ b) := Lib.hid (by
          have h := HV.out
          have hV : V = 0 := by omega
          rw [hV] at h ⊢
          have hp : (0 : Int) < 2 ^ i := Int.pow_pos (by decide)
          have h1 : A < 2 ^ i := by
            have := Int.lt_ediv_add_one_mul_self A hp
            rw [← h] at this; omega
          have h2 : (2 : Int) ^ i ≤ 2 ^ b := by
            have := Nat.pow_le_pow_right (n := 2) (by omega) (Nat.le_of_lt hlt)
            exact_mod_cast this
          exact (Int.ediv_eq_zero_of_lt HA.out.1 (by omega)).symm)
        go_wp2
        go_ret
        exact ⟨V, rfl, HE.out, rfl⟩
    · have d1 : decide (i < b) = false := by simpa using hlt
      have d2 : decide ((i : Int) < (b : Int)) = false := by rw [decide_eq_false_iff_not]; omega
      have HE : Hid (V = A / 2 ^ b) := Lib.hid (by rw [HV.out, show i = b by omega])
      go_wp2
      go_ret
      exact ⟨V, rfl, HE.out, rfl⟩

set_option maxHeartbeats 1000000 in
set_option maxRecDepth 100000 in
theorem reftwo_14 (A B : Int) (hA : 0 ≤ A) (hA2 : A ≤ 2147483647) (hB : 0 ≤ B) (hB2 : B ≤ 2147483647) (w : World) : Calls Tryd.prog 44 #[.int .i64 14, .int .i64 A, .int .i64 B] w fun e w' => ∃ v : Int, e = .returned (.int .i64 v) ∧ kConst v = kConst (kTwo 14 A B) ∧ w = w' := by
  have hw : IntKind.i64.wrap (A + B) = A + B := IntWalk.i64_in _ (by omega)
  have hw2 : wrap64 (A + B) = A + B := by first | exact hw | (unfold wrap64; omega)
  have HE : Hid (kTwo 14 A B = A + B) := Lib.hid rfl
  go_enter Tryd.func44, Tryd.ntmps44
  go_wp2
  go_ret
  exact ⟨A + B, by first | rfl | (rw [hw2]) | (rw [hw]), by rw [HE.out], rfl⟩

set_option maxHeartbeats 1000000 in
set_option maxRecDepth 100000 in
theorem reftwo_15 (A B : Int) (hA : 0 ≤ A) (hA2 : A ≤ 2147483647) (hB : 0 ≤ B) (hB2 : B ≤ 2147483647) (w : World) : Calls Tryd.prog 44 #[.int .i64 15, .int .i64 A, .int .i64 B] w fun e w' => ∃ v : Int, e = .returned (.int .i64 v) ∧ kConst v = kConst (kTwo 15 A B) ∧ w = w' := by
  have hw : IntKind.i64.wrap (A - B) = A - B := IntWalk.i64_in _ (by omega)
  have hw2 : wrap64 (A - B) = A - B := by first | exact hw | (unfold wrap64; omega)
  have HE : Hid (kTwo 15 A B = A - B) := Lib.hid rfl
  go_enter Tryd.func44, Tryd.ntmps44
  go_wp2
  go_ret
  exact ⟨A - B, by first | rfl | (rw [hw2]) | (rw [hw]), by rw [HE.out], rfl⟩

set_option maxHeartbeats 1000000 in
set_option maxRecDepth 100000 in
theorem reftwo_16 (A B : Int) (hA : 0 ≤ A) (hA2 : A ≤ 2147483647) (hB : 0 ≤ B) (hB2 : B ≤ 2147483647) (w : World) : Calls Tryd.prog 44 #[.int .i64 16, .int .i64 A, .int .i64 B] w fun e w' => ∃ v : Int, e = .returned (.int .i64 v) ∧ kConst v = kConst (kTwo 16 A B) ∧ w = w' := by
  have hm0 : 0 ≤ A * B := Int.mul_nonneg hA hB
  have hm1 : A * B ≤ 2147483647 * 2147483647 := Int.le_trans (Int.mul_le_mul_of_nonneg_right hA2 hB) (Int.mul_le_mul_of_nonneg_left hB2 (by omega))
  have hw : IntKind.i64.wrap (A * B) = A * B := IntWalk.i64_in _ (by omega)
  have hw2 : wrap64 (A * B) = A * B := by first | exact hw | (unfold wrap64; omega)
  have HE : Hid (kTwo 16 A B = A * B) := Lib.hid rfl
  go_enter Tryd.func44, Tryd.ntmps44
  go_wp2
  go_ret
  exact ⟨A * B, by first | rfl | (rw [hw2]) | (rw [hw]), by rw [HE.out], rfl⟩

set_option maxHeartbeats 1000000 in
set_option maxRecDepth 100000 in
theorem reftwo_17 (A B : Int) (hA : 0 ≤ A) (hA2 : A ≤ 2147483647) (hB : 0 ≤ B) (hB2 : B ≤ 2147483647) (w : World) : Calls Tryd.prog 44 #[.int .i64 17, .int .i64 A, .int .i64 B] w fun e w' => ∃ v : Int, e = .returned (.int .i64 v) ∧ kConst v = kConst (kTwo 17 A B) ∧ w = w' := by
  obtain ⟨b, rfl⟩ : ∃ b : Nat, B = b := ⟨B.toNat, by omega⟩
  have HE : Hid (kTwo 17 A (b : Int) = A * 2 ^ (min (b : Int) 31).toNat) := Lib.hid rfl
  have HT := Lib.hid (fun w => reftimes_any A hA hA2 b (by omega) w)
  go_enter Tryd.func44, Tryd.ntmps44
  go_wp2_with fail
  refine (HT.out _).mono ?_
  rintro e w1 ⟨v, rfl, hv, rfl⟩
  go_wp2
  go_ret
  exact ⟨v, rfl, by rw [HE.out]; exact hv, rfl⟩

set_option maxHeartbeats 1000000 in
set_option maxRecDepth 100000 in
theorem reftwo_18 (A B : Int) (hA : 0 ≤ A) (hA2 : A ≤ 2147483647) (hB : 0 ≤ B) (hB2 : B ≤ 2147483647) (w : World) : Calls Tryd.prog 44 #[.int .i64 18, .int .i64 A, .int .i64 B] w fun e w' => ∃ v : Int, e = .returned (.int .i64 v) ∧ kConst v = kConst (kTwo 18 A B) ∧ w = w' := by
  obtain ⟨b, rfl⟩ : ∃ b : Nat, B = b := ⟨B.toNat, by omega⟩
  have HE : Hid (kTwo 18 A (b : Int) = A / 2 ^ b) := Lib.hid rfl
  have HT := Lib.hid (fun w => refhalved_any A hA hA2 b (by omega) w)
  go_enter Tryd.func44, Tryd.ntmps44
  go_wp2_with fail
  refine (HT.out _).mono ?_
  rintro e w1 ⟨v, rfl, hv, rfl⟩
  replace hv := Lib.hid hv
  go_wp2
  go_ret
  exact ⟨v, rfl, by rw [HE.out, hv.out], rfl⟩

set_option maxHeartbeats 1000000 in
set_option maxRecDepth 100000 in
theorem reftwo_19 (A B : Int) (hA : 0 ≤ A) (hA2 : A ≤ 2147483647) (hB : 0 ≤ B) (hB2 : B ≤ 2147483647) (w : World) : Calls Tryd.prog 44 #[.int .i64 19, .int .i64 A, .int .i64 B] w fun e w' => ∃ v : Int, e = .returned (.int .i64 v) ∧ kConst v = kConst (kTwo 19 A B) ∧ w = w' := by
  have HE : Hid (kTwo 19 A B = kTruth (A == B)) := Lib.hid rfl
  obtain ⟨q, hq⟩ : ∃ q, (A == B) = q := ⟨_, rfl⟩
  rw [hq] at HE
  go_enter Tryd.func44, Tryd.ntmps44
  go_wp2_with fail
  refine (refbit_any q _).mono ?_
  rintro e w1 ⟨rfl, rfl⟩
  go_wp2
  go_ret
  exact ⟨_, rfl, by rw [HE.out], rfl⟩

set_option maxHeartbeats 1000000 in
set_option maxRecDepth 100000 in
theorem reftwo_20 (A B : Int) (hA : 0 ≤ A) (hA2 : A ≤ 2147483647) (hB : 0 ≤ B) (hB2 : B ≤ 2147483647) (w : World) : Calls Tryd.prog 44 #[.int .i64 20, .int .i64 A, .int .i64 B] w fun e w' => ∃ v : Int, e = .returned (.int .i64 v) ∧ kConst v = kConst (kTwo 20 A B) ∧ w = w' := by
  have HE : Hid (kTwo 20 A B = kTruth (A != B)) := Lib.hid rfl
  obtain ⟨q, hq⟩ : ∃ q, (A != B) = q := ⟨_, rfl⟩
  rw [hq] at HE
  go_enter Tryd.func44, Tryd.ntmps44
  go_wp2_with fail
  refine (refbit_any q _).mono ?_
  rintro e w1 ⟨rfl, rfl⟩
  go_wp2
  go_ret
  exact ⟨_, rfl, by rw [HE.out], rfl⟩

set_option maxHeartbeats 1000000 in
set_option maxRecDepth 100000 in
theorem reftwo_21 (A B : Int) (hA : 0 ≤ A) (hA2 : A ≤ 2147483647) (hB : 0 ≤ B) (hB2 : B ≤ 2147483647) (w : World) : Calls Tryd.prog 44 #[.int .i64 21, .int .i64 A, .int .i64 B] w fun e w' => ∃ v : Int, e = .returned (.int .i64 v) ∧ kConst v = kConst (kTwo 21 A B) ∧ w = w' := by
  have HE : Hid (kTwo 21 A B = kTruth (decide (A < B))) := Lib.hid rfl
  obtain ⟨q, hq⟩ : ∃ q, (decide (A < B)) = q := ⟨_, rfl⟩
  rw [hq] at HE
  go_enter Tryd.func44, Tryd.ntmps44
  go_wp2_with fail
  refine (refbit_any q _).mono ?_
  rintro e w1 ⟨rfl, rfl⟩
  go_wp2
  go_ret
  exact ⟨_, rfl, by rw [HE.out], rfl⟩

set_option maxHeartbeats 1000000 in
set_option maxRecDepth 100000 in
theorem reftwo_22 (A B : Int) (hA : 0 ≤ A) (hA2 : A ≤ 2147483647) (hB : 0 ≤ B) (hB2 : B ≤ 2147483647) (w : World) : Calls Tryd.prog 44 #[.int .i64 22, .int .i64 A, .int .i64 B] w fun e w' => ∃ v : Int, e = .returned (.int .i64 v) ∧ kConst v = kConst (kTwo 22 A B) ∧ w = w' := by
  have HE : Hid (kTwo 22 A B = kTruth (decide (A ≤ B))) := Lib.hid rfl
  obtain ⟨q, hq⟩ : ∃ q, (decide (A ≤ B)) = q := ⟨_, rfl⟩
  rw [hq] at HE
  go_enter Tryd.func44, Tryd.ntmps44
  go_wp2_with fail
  refine (refbit_any q _).mono ?_
  rintro e w1 ⟨rfl, rfl⟩
  go_wp2
  go_ret
  exact ⟨_, rfl, by rw [HE.out], rfl⟩

set_option maxHeartbeats 1000000 in
set_option maxRecDepth 100000 in
theorem reftwo_23 (A B : Int) (hA : 0 ≤ A) (hA2 : A ≤ 2147483647) (hB : 0 ≤ B) (hB2 : B ≤ 2147483647) (w : World) : Calls Tryd.prog 44 #[.int .i64 23, .int .i64 A, .int .i64 B] w fun e w' => ∃ v : Int, e = .returned (.int .i64 v) ∧ kConst v = kConst (kTwo 23 A B) ∧ w = w' := by
  have HE : Hid (kTwo 23 A B = kTruth (decide (B < A))) := Lib.hid rfl
  obtain ⟨q, hq⟩ : ∃ q, (decide (B < A)) = q := ⟨_, rfl⟩
  rw [hq] at HE
  go_enter Tryd.func44, Tryd.ntmps44
  go_wp2_with fail
  refine (refbit_any q _).mono ?_
  rintro e w1 ⟨rfl, rfl⟩
  go_wp2
  go_ret
  exact ⟨_, rfl, by rw [HE.out], rfl⟩

set_option maxHeartbeats 1000000 in
set_option maxRecDepth 100000 in
theorem reftwo_24 (A B : Int) (hA : 0 ≤ A) (hA2 : A ≤ 2147483647) (hB : 0 ≤ B) (hB2 : B ≤ 2147483647) (w : World) : Calls Tryd.prog 44 #[.int .i64 24, .int .i64 A, .int .i64 B] w fun e w' => ∃ v : Int, e = .returned (.int .i64 v) ∧ kConst v = kConst (kTwo 24 A B) ∧ w = w' := by
  have HE : Hid (kTwo 24 A B = kTruth (decide (B ≤ A))) := Lib.hid rfl
  obtain ⟨q, hq⟩ : ∃ q, (decide (B ≤ A)) = q := ⟨_, rfl⟩
  rw [hq] at HE
  go_enter Tryd.func44, Tryd.ntmps44
  go_wp2_with fail
  refine (refbit_any q _).mono ?_
  rintro e w1 ⟨rfl, rfl⟩
  go_wp2
  go_ret
  exact ⟨_, rfl, by rw [HE.out], rfl⟩

set_option maxHeartbeats 1000000 in
set_option maxRecDepth 100000 in
theorem reftwo_25 (A B : Int) (hA : 0 ≤ A) (hA2 : A ≤ 2147483647) (hB : 0 ≤ B) (hB2 : B ≤ 2147483647) (w : World) : Calls Tryd.prog 44 #[.int .i64 25, .int .i64 A, .int .i64 B] w fun e w' => ∃ v : Int, e = .returned (.int .i64 v) ∧ kConst v = kConst (kTwo 25 A B) ∧ w = w' := by
  have HE : Hid (kTwo 25 A B = kTruth (A != 0 && B != 0)) := Lib.hid rfl
  obtain ⟨q, hq⟩ : ∃ q, (A != 0) = q := ⟨_, rfl⟩
  obtain ⟨p, hp⟩ : ∃ p, (B != 0) = p := ⟨_, rfl⟩
  rw [hq, hp] at HE
  cases q
  all_goals
    go_enter Tryd.func44, Tryd.ntmps44
    go_wp2_with fail
    refine (refbit_any _ _).mono ?_
    rintro e w1 ⟨rfl, rfl⟩
    go_wp2
    go_ret
    exact ⟨_, rfl, by rw [HE.out]; rfl, rfl⟩

set_option maxHeartbeats 1000000 in
set_option maxRecDepth 100000 in
theorem reftwo_26 (A B : Int) (hA : 0 ≤ A) (hA2 : A ≤ 2147483647) (hB : 0 ≤ B) (hB2 : B ≤ 2147483647) (w : World) : Calls Tryd.prog 44 #[.int .i64 26, .int .i64 A, .int .i64 B] w fun e w' => ∃ v : Int, e = .returned (.int .i64 v) ∧ kConst v = kConst (kTwo 26 A B) ∧ w = w' := by
  have HE : Hid (kTwo 26 A B = kTruth (A != 0 || B != 0)) := Lib.hid rfl
  obtain ⟨q, hq⟩ : ∃ q, (A != 0) = q := ⟨_, rfl⟩
  obtain ⟨p, hp⟩ : ∃ p, (B != 0) = p := ⟨_, rfl⟩
  rw [hq, hp] at HE
  cases q
  all_goals
    go_enter Tryd.func44, Tryd.ntmps44
    go_wp2_with fail
    refine (refbit_any _ _).mono ?_
    rintro e w1 ⟨rfl, rfl⟩
    go_wp2
    go_ret
    exact ⟨_, rfl, by rw [HE.out]; rfl, rfl⟩

theorem reftwo_any (n A B : Int) (hn : 14 ≤ n) (hn2 : n ≤ 26) (hA : 0 ≤ A) (hA2 : A ≤ 2147483647) (hB : 0 ≤ B) (hB2 : B ≤ 2147483647) (w : World) : Calls Tryd.prog 44 #[.int .i64 n, .int .i64 A, .int .i64 B] w fun e w' => ∃ v : Int, e = .returned (.int .i64 v) ∧ kConst v = kConst (kTwo n A B) ∧ w = w' := by
  have h : n = 14 ∨ n = 15 ∨ n = 16 ∨ n = 17 ∨ n = 18 ∨ n = 19 ∨ n = 20 ∨ n = 21 ∨ n = 22 ∨ n = 23 ∨ n = 24 ∨ n = 25 ∨ n = 26 := by omega
  rcases h with rfl | rfl | rfl | rfl | rfl | rfl | rfl | rfl | rfl | rfl | rfl | rfl | rfl
  · exact reftwo_14 A B hA hA2 hB hB2 w
  · exact reftwo_15 A B hA hA2 hB hB2 w
  · exact reftwo_16 A B hA hA2 hB hB2 w
  · exact reftwo_17 A B hA hA2 hB hB2 w
  · exact reftwo_18 A B hA hA2 hB hB2 w
  · exact reftwo_19 A B hA hA2 hB hB2 w
  · exact reftwo_20 A B hA hA2 hB hB2 w
  · exact reftwo_21 A B hA hA2 hB hB2 w
  · exact reftwo_22 A B hA hA2 hB hB2 w
  · exact reftwo_23 A B hA hA2 hB hB2 w
  · exact reftwo_24 A B hA hA2 hB hB2 w
  · exact reftwo_25 A B hA hA2 hB hB2 w
  · exact reftwo_26 A B hA hA2 hB hB2 w
end Go.Proofs.YtlbjmnakiflfpaaDoor
