/-
  Plain facts: 64-bit words as a function of BitVec 64 into the integers, in the spelling of the walk. No program.
-/
import Derived.WalkKit
import Derived.OpenShut
namespace Go.Proofs.Ytemolkkpigkanaa
open Go

/-- A 64-bit word as the integer that the model holds. -/
def u (x : BitVec 64) : Int := (x.toNat : Int)

theorem u_nonneg (x : BitVec 64) : 0 ≤ u x := by unfold u; omega
theorem u_lt (x : BitVec 64) : u x < 18446744073709551616 := by unfold u; have := x.isLt; omega
theorem u_inj {x y : BitVec 64} (h : u x = u y) : x = y := by
  apply BitVec.eq_of_toNat_eq; unfold u at h; omega
theorem u_ofInt (n : Int) : u (BitVec.ofInt 64 n) = n % 18446744073709551616 := by
  unfold u
  rw [BitVec.toNat_ofInt]
  have : ((2 ^ 64 : Nat) : Int) = 18446744073709551616 := by decide
  rw [this]; omega
theorem ofInt_u (x : BitVec 64) : BitVec.ofInt 64 (u x) = x := by
  apply u_inj; rw [u_ofInt]; have := u_nonneg x; have := u_lt x; omega
theorem u_of (n : Int) (h : (Lit.int .u64 n).wf = true) : ∃ x : BitVec 64, n = u x := by
  refine ⟨BitVec.ofInt 64 n, ?_⟩
  rw [u_ofInt]
  have := bounds_u64 h
  omega
theorem u_wf (x : BitVec 64) : (Lit.int .u64 (u x)).wf = true := WalkArith.wf_u64 (by have := u_nonneg x; have := u_lt x; omega)
theorem wrap_u (x : BitVec 64) : IntKind.u64.wrap (u x) = u x := by
  rw [IntKind.wrap_u64]; have := u_nonneg x; have := u_lt x; omega
theorem wrap_ofInt (n : Int) : IntKind.u64.wrap n = u (BitVec.ofInt 64 n) := by rw [IntKind.wrap_u64, u_ofInt]
theorem u_add (x y : BitVec 64) : IntKind.u64.wrap (u x + u y) = u (x + y) := by
  rw [IntKind.wrap_u64]; unfold u; rw [BitVec.toNat_add]; omega
theorem u_sub (x y : BitVec 64) : IntKind.u64.wrap (u x - u y) = u (x - y) := by
  rw [IntKind.wrap_u64]; unfold u; rw [BitVec.toNat_sub]; have := x.isLt; have := y.isLt; omega
theorem u_neg (x : BitVec 64) : IntKind.u64.wrap (-u x) = u (-x) := by
  rw [IntKind.wrap_u64]; unfold u; rw [BitVec.toNat_neg]; have := x.isLt; omega
theorem u_mul (x y : BitVec 64) : IntKind.u64.wrap (u x * u y) = u (x * y) := by
  rw [IntKind.wrap_u64]; unfold u; rw [BitVec.toNat_mul, Int.natCast_emod, Int.natCast_mul]; rfl
theorem u_one : (1 : Int) = u 1 := by decide
theorem u_zero : (0 : Int) = u 0 := by decide
theorem u_sub_one (x : BitVec 64) : IntKind.u64.wrap (u x - 1) = u (x - 1) := by
  have := u_sub x 1; rw [← u_one] at this; exact this
theorem u_max : (18446744073709551615 : Int) = u (BitVec.allOnes 64) := by decide +kernel
theorem u_max_sub (x : BitVec 64) : IntKind.u64.wrap (18446744073709551615 - u x) = u (~~~x) := by
  rw [IntKind.wrap_u64]; unfold u; rw [BitVec.toNat_not]; have := x.isLt; omega
theorem u_bits (op : BinOp) (x y : BitVec 64) : bits op .u64 (u x) (u y) = u (match op with | .and => x &&& y | .or => x ||| y | .xor => x ^^^ y | _ => x &&& ~~~y) := by
  have hx := ofInt_u x
  have hy := ofInt_u y
  show IntKind.u64.wrap ((match op with | .and => BitVec.ofInt 64 (u x) &&& BitVec.ofInt 64 (u y) | .or => BitVec.ofInt 64 (u x) ||| BitVec.ofInt 64 (u y) | .xor => BitVec.ofInt 64 (u x) ^^^ BitVec.ofInt 64 (u y) | _ => BitVec.ofInt 64 (u x) &&& ~~~BitVec.ofInt 64 (u y)).toNat : Int) = _
  rw [hx, hy]
  exact wrap_u _
theorem u_and (x y : BitVec 64) : bits .and .u64 (u x) (u y) = u (x &&& y) := u_bits .and x y
theorem u_or (x y : BitVec 64) : bits .or .u64 (u x) (u y) = u (x ||| y) := u_bits .or x y
theorem u_xor (x y : BitVec 64) : bits .xor .u64 (u x) (u y) = u (x ^^^ y) := u_bits .xor x y
theorem u_andNot (x y : BitVec 64) : bits .andNot .u64 (u x) (u y) = u (x &&& ~~~y) := u_bits .andNot x y
theorem u_not (x : BitVec 64) : bits .xor .u64 18446744073709551615 (u x) = u (~~~x) := by
  rw [u_max, u_xor, BitVec.allOnes_xor]
theorem u64_signed : IntKind.u64.signed = false := rfl
theorem u64_max : IntKind.u64.max = 18446744073709551615 := by decide +kernel
theorem u_not' (x : BitVec 64) : bits .xor .u64 IntKind.u64.max (u x) = u (~~~x) := by rw [u64_max, u_not]
theorem u_and_one (x : BitVec 64) : bits .and .u64 (u x) 1 = u (x &&& 1) := by rw [u_one, u_and]
theorem pow_min (n : Nat) : (2 : Int) ^ min n 64 = ((2 ^ min n 64 : Nat) : Int) := by simp
theorem u_shl (x : BitVec 64) (n : Nat) : IntKind.u64.wrap (u x * 2 ^ min n 64) = u (x <<< n) := by
  rw [IntKind.wrap_u64, pow_min]; unfold u
  rw [BitVec.toNat_shiftLeft, Nat.shiftLeft_eq]
  have h2 : (2 ^ 64 : Nat) = 18446744073709551616 := by decide
  rw [h2]
  by_cases h : n ≤ 64
  · rw [Nat.min_eq_left h, Int.natCast_emod, Int.natCast_mul]; rfl
  · rw [Nat.min_eq_right (by omega)]
    have e : n = 64 + (n - 64) := by omega
    rw [e, Nat.pow_add, h2]
    have e1 : x.toNat * (18446744073709551616 * 2 ^ (n - 64)) % 18446744073709551616 = 0 := by
      rw [← Nat.mul_assoc, Nat.mul_right_comm]; exact Nat.mul_mod_left _ _
    rw [e1]; exact Int.mul_emod_left _ _
theorem u_shl_one (n : Nat) : IntKind.u64.wrap (2 ^ min n 64) = u (1 <<< n) := by
  have := u_shl 1 n; rw [← u_one, Int.one_mul] at this; exact this
theorem u_shr (x : BitVec 64) (n : Nat) : u x / 2 ^ min n 64 = u (x >>> n) := by
  rw [pow_min]; unfold u
  rw [BitVec.toNat_ushiftRight, Nat.shiftRight_eq_div_pow]
  by_cases h : n ≤ 64
  · rw [Nat.min_eq_left h, Int.natCast_ediv]
  · rw [Nat.min_eq_right (by omega)]
    have hx := x.isLt
    have e1 : x.toNat / 2 ^ n = 0 := Nat.div_eq_of_lt (Nat.lt_of_lt_of_le hx (Nat.pow_le_pow_right (by decide) (by omega)))
    have e2 : x.toNat / 2 ^ 64 = 0 := Nat.div_eq_of_lt hx
    rw [e1, ← Int.natCast_ediv, e2]
/-- One bit, moved up by n places. -/
def pw (n : Nat) : BitVec 64 := 1#64 <<< n
theorem u_shl_all (x : BitVec 64) (n : Nat) : IntKind.u64.wrap (u x * 2 ^ n) = u (x <<< n) := by
  rw [IntKind.wrap_u64]; unfold u
  rw [BitVec.toNat_shiftLeft, Nat.shiftLeft_eq, Int.natCast_emod, Int.natCast_mul, Int.natCast_pow]; rfl
theorem u_shr_all (x : BitVec 64) (n : Nat) : u x / 2 ^ n = u (x >>> n) := by
  unfold u
  rw [BitVec.toNat_ushiftRight, Nat.shiftRight_eq_div_pow, Int.natCast_ediv, Int.natCast_pow]; rfl
theorem u_pw (n : Nat) : IntKind.u64.wrap (2 ^ n) = u (pw n) := by
  have := u_shl_all 1 n; rw [← u_one, Int.one_mul] at this; exact this
theorem u_pw_min (n : Nat) : IntKind.u64.wrap (2 ^ min n 64) = u (pw n) := u_shl_one n
theorem shl_min (x : BitVec 64) (n : Nat) : x <<< min n 64 = x <<< n := by
  by_cases h : n ≤ 64
  · rw [Nat.min_eq_left h]
  · rw [Nat.min_eq_right (by omega), BitVec.shiftLeft_eq_zero (Nat.le_refl _), BitVec.shiftLeft_eq_zero (by omega)]
theorem shr_min (x : BitVec 64) (n : Nat) : x >>> min n 64 = x >>> n := by
  by_cases h : n ≤ 64
  · rw [Nat.min_eq_left h]
  · rw [Nat.min_eq_right (by omega), BitVec.ushiftRight_eq_zero (Nat.le_refl _), BitVec.ushiftRight_eq_zero (by omega)]
theorem pw_min (n : Nat) : pw (min n 64) = pw n := shl_min 1 n
theorem u_toNat (x : BitVec 64) : (u x).toNat = x.toNat := by unfold u; omega
theorem u_lt_iff (x y : BitVec 64) : u x < u y ↔ x < y := by unfold u; rw [BitVec.lt_def]; omega
theorem u_le_iff (x y : BitVec 64) : u x ≤ u y ↔ x ≤ y := by unfold u; rw [BitVec.le_def]; omega
theorem u_eq_iff (x y : BitVec 64) : u x = u y ↔ x = y := ⟨u_inj, fun h => by rw [h]⟩
theorem u_beq (x y : BitVec 64) : (u x == u y) = (x == y) := by
  rw [Bool.eq_iff_iff, beq_iff_eq, beq_iff_eq, u_eq_iff]
theorem u_beq_zero (x : BitVec 64) : (u x == 0) = (x == 0) := by rw [u_zero, u_beq]
theorem u_beq_one (x : BitVec 64) : (u x == 1) = (x == 1) := by rw [u_one, u_beq]
theorem u_bne (x y : BitVec 64) : (u x != u y) = !(x == y) := by rw [bne, u_beq]
theorem u_bne_zero (x : BitVec 64) : (u x != 0) = !(x == 0#64) := by rw [bne, u_beq_zero]; rfl
theorem u_bne_one (x : BitVec 64) : (u x != 1) = !(x == 1#64) := by rw [bne, u_beq_one]; rfl
theorem u_eq_zero (x : BitVec 64) : u x = 0 ↔ x = 0 := by rw [u_zero, u_eq_iff]
theorem u_eq_one (x : BitVec 64) : u x = 1 ↔ x = 1 := by rw [u_one, u_eq_iff]
attribute [go_sem] u64_signed u_not' u_bne u_bne_zero u_bne_one shl_min shr_min pw_min u_toNat u_nonneg wrap_u u_add u_sub u_neg u_mul u_sub_one u_max_sub u_and u_or u_xor u_andNot u_not u_and_one u_shl u_pw_min u_shr u_shl_all u_shr_all u_pw u_lt_iff u_le_iff u_beq u_beq_zero u_beq_one
end Go.Proofs.Ytemolkkpigkanaa
