/-
  Contract: OnesCount64 of the library.
-/
import Derived.Test.YtemolkkpigkanaaE
import Derived.Test.YtemolkkpigkanaaN
namespace Go.Proofs.Ytemolkkpigkanaa
open Go Go.RowKit

theorem and_lit (x : BitVec 64) (n : Int) : bits .and .u64 (u x) n = u (x &&& BitVec.ofInt 64 n) := by
  have hx := ofInt_u x
  show IntKind.u64.wrap ((BitVec.ofInt 64 (u x) &&& BitVec.ofInt 64 n).toNat : Int) = _
  rw [hx]
  exact wrap_u _
theorem litA (x : BitVec 64) : bits .and .u64 (u x) 6148914691236517205 = u (x &&& cA) := and_lit x _
theorem litB (x : BitVec 64) : bits .and .u64 (u x) 3689348814741910323 = u (x &&& cB) := and_lit x _
theorem litC (x : BitVec 64) : bits .and .u64 (u x) 1085102592571150095 = u (x &&& cC) := and_lit x _
theorem half1 (x : BitVec 64) : u x / (2 : Int) = u (x >>> 1) := u_shr_all x 1
theorem half2 (x : BitVec 64) : u x / (4 : Int) = u (x >>> 2) := u_shr_all x 2
theorem half4 (x : BitVec 64) : u x / (16 : Int) = u (x >>> 4) := u_shr_all x 4
theorem half8 (x : BitVec 64) : u x / (256 : Int) = u (x >>> 8) := u_shr_all x 8
theorem half16 (x : BitVec 64) : u x / (65536 : Int) = u (x >>> 16) := u_shr_all x 16
theorem half32 (x : BitVec 64) : u x / (4294967296 : Int) = u (x >>> 32) := u_shr_all x 32

theorem sum1 (x : BitVec 64) : u ((x >>> 1 &&& cA) + (x &&& cA)) = u (q1 x) := rfl
theorem sum2 (x : BitVec 64) : u ((x >>> 2 &&& cB) + (x &&& cB)) = u (q2 x) := rfl
theorem sum3 (x : BitVec 64) : u ((x >>> 4 + x) &&& cC) = u (q3 x) := rfl
theorem sum4 (x : BitVec 64) : u (x + x >>> 8) = u (q4 x) := rfl
theorem sum5 (x : BitVec 64) : u (x + x >>> 16) = u (q5 x) := rfl
theorem sum6 (x : BitVec 64) : u (x + x >>> 32) = u (q6 x) := rfl
theorem low7 (x : BitVec 64) : bits .and .i64 (IntKind.i64.wrap (u x)) 127 = ((x.toNat % 128 : Nat) : Int) := by
  have e : BitVec.ofInt 64 (IntKind.i64.wrap (u x)) = x := by
    apply u_inj
    rw [u_ofInt]
    have h1 := u_nonneg x
    have h2 := u_lt x
    simp [IntKind.wrap, IntKind.bits, IntKind.signed]
    omega
  show IntKind.i64.wrap ((BitVec.ofInt 64 (IntKind.i64.wrap (u x)) &&& BitVec.ofInt 64 127).toNat : Int) = _
  rw [e, BitVec.toNat_and]
  have h127 : (BitVec.ofInt 64 127).toNat = 2 ^ 7 - 1 := by decide
  rw [h127, Nat.and_two_pow_sub_one_eq_mod]
  have : x.toNat % 2 ^ 7 < 128 := Nat.mod_lt _ (by decide)
  simp [IntKind.wrap, IntKind.bits, IntKind.signed]
  omega

theorem wrap64_eq (n : Int) : wrap64 n = IntKind.i64.wrap n := by simp [wrap64, IntKind.wrap, IntKind.bits, IntKind.signed]; split <;> omega
theorem odd_eq (v : BitVec 64) : (((ones v).toNat : Int) % 2 == 1) = odds 64 v := by
  rw [← ones_odd, Bool.eq_iff_iff, beq_iff_eq, beq_iff_eq]; omega

set_option maxHeartbeats 1000000 in
theorem ones_any (v : BitVec 64) (w : World) : Calls Try.prog 35 #[.int .u64 (u v)] w fun e w' => e = .returned (.int .i64 ((ones v).toNat % 128 : Nat)) ∧ w = w' := by
  have a1 := litA; have a2 := litB; have a3 := litC
  have b1 := half1; have b2 := half2; have b3 := half4; have b4 := half8; have b5 := half16; have b6 := half32
  have s1 := sum1; have s2 := sum2; have s3 := sum3; have s4 := sum4; have s5 := sum5; have s6 := sum6
  go_enter Try.func35, Try.ntmps35
  go_wp2
  go_ret
  exact ⟨ret_i (by rw [wrap64_eq]; exact low7 _), rfl⟩
end Go.Proofs.Ytemolkkpigkanaa
