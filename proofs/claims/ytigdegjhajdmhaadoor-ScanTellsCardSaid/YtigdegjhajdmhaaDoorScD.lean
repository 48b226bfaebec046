/-
  Contracts: digits as a number.
-/
import Derived.Test.YtigdegjhajdmhaaDoorScC
import Derived.Shelf.Spec.BitsCarry
import Derived.Laws.BitsAllLaws
namespace Go.Proofs.YtigdegjhajdmhaaDoor
open Go Go.RowKit
set_option linter.unusedVariables false

theorem or_add (v d k : Nat) (hd : d < 2 ^ k) (hk : k ≤ 64) : ((v * 2 ^ k) % 18446744073709551616) ||| d = (v * 2 ^ k + d) % 18446744073709551616 := by
  have e : (v * 2 ^ k) % 18446744073709551616 = 2 ^ k * (v % 2 ^ (64 - k)) := by
    have : (18446744073709551616 : Nat) = 2 ^ k * 2 ^ (64 - k) := by rw [← Nat.pow_add, Nat.add_sub_cancel' hk]
    rw [this, Nat.mul_comm v, Nat.mul_mod_mul_left]
  rw [e, ← Nat.two_pow_add_eq_or_of_lt hd]
  have lt : 2 ^ k * (v % 2 ^ (64 - k)) + d < 18446744073709551616 := by
    have h1 : v % 2 ^ (64 - k) + 1 ≤ 2 ^ (64 - k) := Nat.mod_lt _ (Nat.two_pow_pos _)
    have h2 : 2 ^ k * (v % 2 ^ (64 - k) + 1) ≤ 2 ^ k * 2 ^ (64 - k) := Nat.mul_le_mul_left _ h1
    rw [← Nat.pow_add, Nat.add_sub_cancel' hk, Nat.mul_add] at h2
    have h3 : (2 ^ 64 : Nat) = 18446744073709551616 := by decide
    omega
  rw [← e] at lt ⊢
  have h4 : (v * 2 ^ k + d) % 18446744073709551616 = ((v * 2 ^ k) % 18446744073709551616 + d) % 18446744073709551616 := by rw [Nat.add_mod, Nat.mod_add_mod, Nat.add_mod_mod] <;> simp
  rw [h4, Nat.mod_eq_of_lt lt]
theorem or16 (v d : Nat) (hd : d < 16) : bits .or .u64 (IntKind.u64.wrap ((v : Int) * 16)) (d : Int) = (((v * 16 + d) % 18446744073709551616 : Nat) : Int) := by
  have e : IntKind.u64.wrap ((v : Int) * 16) = (((v * 16) % 18446744073709551616 : Nat) : Int) := by rw [IntKind.wrap_u64]; omega
  rw [e, u64_or_nat _ _ (by omega) (by omega), or_add v d 4 (by omega) (by omega)]
theorem or2 (v d : Nat) (hd : d < 2) : bits .or .u64 (IntKind.u64.wrap ((v : Int) * 2)) (d : Int) = (((v * 2 + d) % 18446744073709551616 : Nat) : Int) := by
  have e : IntKind.u64.wrap ((v : Int) * 2) = (((v * 2) % 18446744073709551616 : Nat) : Int) := by rw [IntKind.wrap_u64]; omega
  rw [e, u64_or_nat _ _ (by omega) (by omega), or_add v d 1 (by omega) (by omega)]
theorem ret_uu {a b c d : Int} (h : a = c) (k : b = d) : Ending.returned (.tuple #[.int .u64 a, .int .u64 b]) = .returned (.tuple #[.int .u64 c, .int .u64 d]) := by rw [h, k]

set_option maxHeartbeats 1000000 in
theorem push16 (v d : Nat) (hv : v < 18446744073709551616) (hd : d < 16) (w : World) : Calls Tryd.prog 56 #[.agg #[.int .u64 16, .int .u64 4], .int .u64 (v : Int), .int .u64 (d : Int)] w fun e w' => e = .returned (.tuple #[.int .u64 (((v * 16 + d) % 18446744073709551616 : Nat) : Int), .int .u64 (((v * 16 + d) / 18446744073709551616 : Nat) : Int)]) ∧ Below w.heap.size w w' := by
  go_enter Tryd.func56, Tryd.ntmps56
  go_wp2
  go_quiet (fail)
  go_wp2
  go_ret2
  exact ⟨ret_uu (or16 v d hd) (by omega), below_drewN ((Below.refl _ _).alloc (Nat.le_refl _) _) _⟩

set_option maxHeartbeats 1000000 in
theorem push2 (v d : Nat) (hv : v < 18446744073709551616) (hd : d < 2) (w : World) : Calls Tryd.prog 56 #[.agg #[.int .u64 2, .int .u64 1], .int .u64 (v : Int), .int .u64 (d : Int)] w fun e w' => e = .returned (.tuple #[.int .u64 (((v * 2 + d) % 18446744073709551616 : Nat) : Int), .int .u64 (((v * 2 + d) / 18446744073709551616 : Nat) : Int)]) ∧ Below w.heap.size w w' := by
  go_enter Tryd.func56, Tryd.ntmps56
  go_wp2
  go_quiet (fail)
  go_wp2
  go_ret2
  exact ⟨ret_uu (or2 v d hd) (by omega), below_drewN ((Below.refl _ _).alloc (Nat.le_refl _) _) _⟩

theorem and32 (v : Nat) (hv : v < 18446744073709551616) : bits .and .u64 (v : Int) 4294967295 = ((v % 4294967296 : Nat) : Int) := by
  rw [show (4294967295 : Int) = ((4294967295 : Nat) : Int) from rfl, u64_and_nat _ _ hv (by omega)]
  congr 1
  exact Nat.and_two_pow_sub_one_eq_mod v 32
theorem and32w (n : Int) : bits .and .u64 (IntKind.u64.wrap n) 4294967295 = n % 18446744073709551616 % 4294967296 := by
  have h0 : 0 ≤ n % 18446744073709551616 := by omega
  have h1 : n % 18446744073709551616 < 18446744073709551616 := by omega
  rw [IntKind.wrap_u64]
  generalize n % 18446744073709551616 = m at *
  obtain ⟨k, rfl⟩ := Int.eq_ofNat_of_zero_le h0
  have := and32 k (by omega)
  rw [show ((k : Nat) : Int) % 4294967296 = ((k % 4294967296 : Nat) : Int) by omega]
  exact this
theorem and10 : bits .and .u64 10 4294967295 = 10 := by
  have := and32 10 (by omega)
  simpa using this
set_option maxHeartbeats 1000000 in
theorem mul10 (v hi lo : Nat) (hv : v < 18446744073709551616) (hhi : (v * 10) / 18446744073709551616 = hi) (hlo : (v * 10) % 18446744073709551616 = lo) (w : World) : Calls Tryd.prog 70 #[.int .u64 (v : Int), .int .u64 10] w fun e w' => e = .returned (.tuple #[.int .u64 (hi : Int), .int .u64 (lo : Int)]) ∧ w = w' := by
  have HV := Lib.hid hv
  have H1 := Lib.hid hhi
  have H2 := Lib.hid hlo
  have a1 := and32 v hv
  have a2 := and10
  clear hv hhi hlo
  go_enter Tryd.func70, Tryd.ntmps70
  go_wp2
  go_ret2
  refine ⟨ret_uu ?_ ?_, rfl⟩
  · simp only [and32w]
    simp only [IntKind.wrap_u64]
    have hv := HV.out
    rw [← H1.out]
    have m1 : (v : Int) / 4294967296 * 10 % 18446744073709551616 = (v : Int) / 4294967296 * 10 := Int.emod_eq_of_lt (by omega) (by omega)
    have m2 : ((v : Int) / 4294967296 * 10 + (v : Int) % 4294967296 * 10 / 4294967296) % 18446744073709551616 = (v : Int) / 4294967296 * 10 + (v : Int) % 4294967296 * 10 / 4294967296 := Int.emod_eq_of_lt (by omega) (by omega)
    try simp only [m1]
    try simp only [m2]
    have m4 : ((v * 10 / 18446744073709551616 : Nat) : Int) = ((v : Int) / 4294967296 * 10 + (v : Int) % 4294967296 * 10 / 4294967296) / 4294967296 := by omega
    rw [m4]
    have r0 : 0 ≤ (v : Int) / 4294967296 * 10 + (v : Int) % 4294967296 * 10 / 4294967296 := by omega
    have r1 : (v : Int) / 4294967296 * 10 + (v : Int) % 4294967296 * 10 / 4294967296 < 18446744073709551616 := by omega
    generalize (v : Int) / 4294967296 * 10 + (v : Int) % 4294967296 * 10 / 4294967296 = t at *
    omega
  · simp only [IntKind.wrap_u64]
    have := HV.out
    rw [← H2.out]
    omega
theorem add64_any (x y s c : Nat) (hs : (x + y) % 18446744073709551616 = s) (hc : (x + y) / 18446744073709551616 = c) (w : World) : (callFunc 71 #[.int .u64 (x : Int), .int .u64 (y : Int), .int .u64 0]).run Tryd.prog w = .ok (.value (.tuple #[.int .u64 (s : Int), .int .u64 (c : Int)])) w := by
  rw [run_callFunc_extern Tryd.func71 (by kernel_rfl) (by kernel_rfl) (by kernel_rfl) (e := add64Entry) (by kernel_rfl), run_add64 x y 0 (by omega) (by omega) (by omega) (by omega)]
  simp only [Result.andThen]
  have e1 : ((x : Int) + y + 0) % 18446744073709551616 = s := by rw [← hs]; omega
  have e2 : ((x : Int) + y + 0) / 18446744073709551616 = c := by rw [← hc]; omega
  rw [e1, e2]
set_option maxHeartbeats 1000000 in
theorem push10 (v d : Nat) (hv : v < 18446744073709551616) (hd : d < 10) (w : World) : Calls Tryd.prog 56 #[.agg #[.int .u64 10, .int .u64 0], .int .u64 (v : Int), .int .u64 (d : Int)] w fun e w' => e = .returned (.tuple #[.int .u64 (((v * 10 + d) % 18446744073709551616 : Nat) : Int), .int .u64 (((v * 10 + d) / 18446744073709551616 : Nat) : Int)]) ∧ Below w.heap.size w w' := by
  obtain ⟨hi, hhi⟩ : ∃ hi, (v * 10) / 18446744073709551616 = hi := ⟨_, rfl⟩
  obtain ⟨lo, hlo⟩ : ∃ lo, (v * 10) % 18446744073709551616 = lo := ⟨_, rfl⟩
  obtain ⟨s, hs⟩ : ∃ s, (lo + d) % 18446744073709551616 = s := ⟨_, rfl⟩
  obtain ⟨c, hc⟩ : ∃ c, (lo + d) / 18446744073709551616 = c := ⟨_, rfl⟩
  have ka := add64_any lo d s c hs hc
  have E1 : Hid (s = (v * 10 + d) % 18446744073709551616) := Lib.hid (by omega)
  have E2 : Hid (hi + c = (v * 10 + d) / 18446744073709551616) := Lib.hid (by omega)
  have hb : IntKind.u64.wrap ((hi : Int) + (c : Int)) = (hi : Int) + (c : Int) := by rw [IntKind.wrap_u64]; omega
  have km := mul10 v hi lo hv hhi hlo
  generalize hres : ((((v * 10 + d) % 18446744073709551616 : Nat) : Int)) = R1
  generalize hres2 : ((((v * 10 + d) / 18446744073709551616 : Nat) : Int)) = R2
  have E3 : Hid ((s : Int) = R1) := Lib.hid (by rw [← hres, ← E1.out])
  have E4 : Hid ((hi : Int) + (c : Int) = R2) := Lib.hid (by rw [← hres2, ← E2.out]; omega)
  clear hhi hlo hs hc hv hres hres2 E1 E2
  go_enter Tryd.func56, Tryd.ntmps56
  go_wp2_with (go_at_call 70; refine (km _).mono ?_; rintro e w' ⟨rfl, rfl⟩)
  go_ret2
  exact ⟨ret_uu E3.out E4.out, (Below.refl _ _).alloc (Nat.le_refl _) _⟩
end Go.Proofs.YtigdegjhajdmhaaDoor
