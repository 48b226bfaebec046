/-
  Contracts: digits as a number.
-/
import Derived.Test.YtbcgeglkmpcnpaaDoorScC
import Derived.Shelf.Spec.BitsCarry
import Derived.Laws.BitsAllLaws
namespace Go.Proofs.YtbcgeglkmpcnpaaDoor
open Go Go.RowKit
set_option linter.unusedVariables false

theorem or_add (v d k : Nat) (hd : d < 2 ^ k) (hk : k ≤ 64) : ((v * 2 ^ k) % 18446744073709551616) ||| d = (v * 2 ^ k + d) % 18446744073709551616 := by
  have e : (v * 2 ^ k) % 18446744073709551616 = 2 ^ k * (v % 2 ^ (64 - k)) := by
    have : (18446744073709551616 : Nat) = 2 ^ k * 2 ^ (64 - k) := by rw [← Nat.pow_add, Nat.add_sub_cancel' hk]
    rw [this, Nat.mul_comm v, Nat.mul_mod_mul_left]
  rw [e, ← Nat.two_pow_add_eq_or_of_lt hd]
  have lt : 2 ^ k * (v % 2 ^ (64 - k)) + d < 18446744073709551616 := by
    have h1 : v % 2 ^ (64 - k) + 1 ≤ 2 ^ (64 - k) := Nat.mod_lt _ (Nat.two_pow_pos _)
    have h2 : 2 ^ k * (v % 2 ^ (64 - k) + 1) ≤ 2 ^ k * 2 ^ (64 - k) := Nat.mul_le_mul_left _ h1
    rw [← Nat.pow_add, Nat.add_sub_cancel' hk, Nat.mul_add] at h2
    have h3 : (2 ^ 64 : Nat) = 18446744073709551616 := by decide
    omega
  rw [← e] at lt ⊢
  have h4 : (v * 2 ^ k + d) % 18446744073709551616 = ((v * 2 ^ k) % 18446744073709551616 + d) % 18446744073709551616 := by rw [Nat.add_mod, Nat.mod_add_mod, Nat.add_mod_mod] <;> simp
  rw [h4, Nat.mod_eq_of_lt lt]
theorem or16 (v d : Nat) (hd : d < 16) : bits .or .u64 (IntKind.u64.wrap ((v : Int) * 16)) (d : Int) = (((v * 16 + d) % 18446744073709551616 : Nat) : Int) := by
  have e : IntKind.u64.wrap ((v : Int) * 16) = (((v * 16) % 18446744073709551616 : Nat) : Int) := by rw [IntKind.wrap_u64]; omega
  rw [e, u64_or_nat _ _ (by omega) (by omega), or_add v d 4 (by omega) (by omega)]
theorem or2 (v d : Nat) (hd : d < 2) : bits .or .u64 (IntKind.u64.wrap ((v : Int) * 2)) (d : Int) = (((v * 2 + d) % 18446744073709551616 : Nat) : Int) := by
  have e : IntKind.u64.wrap ((v : Int) * 2) = (((v * 2) % 18446744073709551616 : Nat) : Int) := by rw [IntKind.wrap_u64]; omega
  rw [e, u64_or_nat _ _ (by omega) (by omega), or_add v d 1 (by omega) (by omega)]
theorem ret_uu {a b c d : Int} (h : a = c) (k : b = d) : Ending.returned (.tuple #[.int .u64 a, .int .u64 b]) = .returned (.tuple #[.int .u64 c, .int .u64 d]) := by rw [h, k]

theorem and32 (v : Nat) (hv : v < 18446744073709551616) : bits .and .u64 (v : Int) 4294967295 = ((v % 4294967296 : Nat) : Int) := by
  rw [show (4294967295 : Int) = ((4294967295 : Nat) : Int) from rfl, u64_and_nat _ _ hv (by omega)]
  congr 1
  exact Nat.and_two_pow_sub_one_eq_mod v 32
theorem and32w (n : Int) : bits .and .u64 (IntKind.u64.wrap n) 4294967295 = n % 18446744073709551616 % 4294967296 := by
  have h0 : 0 ≤ n % 18446744073709551616 := by omega
  have h1 : n % 18446744073709551616 < 18446744073709551616 := by omega
  rw [IntKind.wrap_u64]
  generalize n % 18446744073709551616 = m at *
  obtain ⟨k, rfl⟩ := Int.eq_ofNat_of_zero_le h0
  have := and32 k (by omega)
  rw [show ((k : Nat) : Int) % 4294967296 = ((k % 4294967296 : Nat) : Int) by omega]
  exact this
theorem and10 : bits .and .u64 10 4294967295 = 10 := by
  have := and32 10 (by omega)
  simpa using this
end Go.Proofs.YtbcgeglkmpcnpaaDoor
