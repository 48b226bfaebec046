/-
  Shifts: contracts of bin at operations 17 and 18; a shift is a product.
-/
import Derived.Test.YtemolkkpigkanaaG
namespace Go.Proofs.Ytemolkkpigkanaa
open Go Go.RowKit

def upv (W : Int) (A K : BitVec 64) : BitVec 64 := (A <<< K.toNat) &&& msk W
def dnv (W : Int) (A K : BitVec 64) : BitVec 64 := (A >>> K.toNat) &&& msk W

theorem binup (W : Int) (V : BitVec 64) (W2 : Int) (V2 : BitVec 64) (h : ok W V = true) (h2 : ok W2 V2 = true) (m : Int) (hm : m = u V2) (w : World) : Calls Try.prog 25 #[.int .i64 17, .agg #[.int .i64 W, .int .u64 (u V)], .agg #[.int .i64 W2, .int .u64 m]] w fun e w' => e = .returned (.agg #[.int .i64 W, .int .u64 (u (upv W V V2))]) ∧ Below w.heap.size w w' := by
  subst hm
  have := bin_law 17 W (ok_wf h) V W2 (ok_wf h2) V2 w
  simpa [sBin, h, h2, some', upv] using this
theorem bindn (W : Int) (V : BitVec 64) (W2 : Int) (V2 : BitVec 64) (h : ok W V = true) (h2 : ok W2 V2 = true) (m : Int) (hm : m = u V2) (w : World) : Calls Try.prog 25 #[.int .i64 18, .agg #[.int .i64 W, .int .u64 (u V)], .agg #[.int .i64 W2, .int .u64 m]] w fun e w' => e = .returned (.agg #[.int .i64 W, .int .u64 (u (dnv W V V2))]) ∧ Below w.heap.size w w' := by
  subst hm
  have := bin_law 18 W (ok_wf h) V W2 (ok_wf h2) V2 w
  simpa [sBin, h, h2, some', dnv] using this

theorem binw_is (op W : Int) (V V2 : BitVec 64) (h : ok W V = true) (h2 : ok W V2 = true) (ho : 11 ≤ op ∧ op ≤ 18) (R : BitVec 64) (hR : rb op W V V2 = R) (w : World) : Calls Try.prog 25 #[.int .i64 op, .agg #[.int .i64 W, .int .u64 (u V)], .agg #[.int .i64 W, .int .u64 (u V2)]] w fun e w' => e = .returned (.agg #[.int .i64 W, .int .u64 (u R)]) ∧ Below w.heap.size w w' := by
  subst hR; exact binw op W V V2 h h2 ho w
theorem binup_is (W : Int) (V : BitVec 64) (W2 : Int) (V2 : BitVec 64) (h : ok W V = true) (h2 : ok W2 V2 = true) (m : Int) (hm : m = u V2) (R : BitVec 64) (hR : upv W V V2 = R) (w : World) : Calls Try.prog 25 #[.int .i64 17, .agg #[.int .i64 W, .int .u64 (u V)], .agg #[.int .i64 W2, .int .u64 m]] w fun e w' => e = .returned (.agg #[.int .i64 W, .int .u64 (u R)]) ∧ Below w.heap.size w w' := by
  subst hR; exact binup W V W2 V2 h h2 m hm w
theorem bindn_is (W : Int) (V : BitVec 64) (W2 : Int) (V2 : BitVec 64) (h : ok W V = true) (h2 : ok W2 V2 = true) (m : Int) (hm : m = u V2) (R : BitVec 64) (hR : dnv W V V2 = R) (w : World) : Calls Try.prog 25 #[.int .i64 18, .agg #[.int .i64 W, .int .u64 (u V)], .agg #[.int .i64 W2, .int .u64 m]] w fun e w' => e = .returned (.agg #[.int .i64 W, .int .u64 (u R)]) ∧ Below w.heap.size w w' := by
  subst hR; exact bindn W V W2 V2 h h2 m hm w

section
variable {W : Int} {A K F : BitVec 64}
theorem ok_dn (h : ok W A = true) : ok W (dnv W A K) = true := by obtain ⟨a, b, _⟩ := (ok_iff _ _).1 h; exact ok_masked a b _
theorem pw_toNat (h : K.toNat < 64) : (pw K.toNat).toNat = 2 ^ K.toNat := by
  unfold pw
  rw [BitVec.toNat_shiftLeft, Nat.shiftLeft_eq]
  have : 2 ^ K.toNat < 2 ^ 64 := Nat.pow_lt_pow_right (by decide) h
  show 1 * 2 ^ K.toNat % 2 ^ 64 = _
  rw [Nat.one_mul, Nat.mod_eq_of_lt this]
theorem ok_pw (w1 : 1 ≤ W) (w2 : W ≤ 64) (h : u K < W) : ok W (pw K.toNat) = true := by
  unfold u at h
  rw [ok_iff, pw_toNat (by omega)]
  exact ⟨w1, w2, Nat.pow_lt_pow_right (by decide) (by omega)⟩
theorem law_up (a : ok W A = true) (h : u K < W) : upv W A K = rb 16 W A (pw K.toNat) := by
  obtain ⟨w1, w2, _⟩ := (ok_iff _ _).1 a
  rw [rb16 a (ok_pw w1 w2 h)]
  unfold upv
  rw [BitVec.shiftLeft_eq_mul_twoPow]
  rfl
theorem one_masked (w1 : 1 ≤ W) (w2 : W ≤ 64) : (1#64 &&& msk W) = 1#64 := by
  apply BitVec.eq_of_toNat_eq
  rw [and_msk w1 w2]
  have : 1 < 2 ^ W.toNat := Nat.one_lt_two_pow (by omega)
  exact Nat.mod_eq_of_lt this
theorem rest_toNat (w1 : 1 ≤ W) (w2 : W ≤ 64) (h : u K < W) : (rb 15 W (pw K.toNat) (1#64 &&& msk W)).toNat = 2 ^ K.toNat - 1 := by
  rw [rb15 (ok_pw w1 w2 h) (ok_masked w1 w2 _), one_masked w1 w2, and_msk w1 w2]
  have hk : K.toNat < 64 := by unfold u at h; omega
  have e : (pw K.toNat - 1#64).toNat = 2 ^ K.toNat - 1 := pw_n (by omega)
  rw [e]
  refine Nat.mod_eq_of_lt ?_
  have : 2 ^ K.toNat < 2 ^ W.toNat := Nat.pow_lt_pow_right (by decide) (by unfold u at h; omega)
  have : 0 < 2 ^ K.toNat := Nat.two_pow_pos _
  omega
theorem law_down (a : ok W A = true) (h : u K < W) : upv W (dnv W A K) K = rb 15 W A (rb 11 W A (rb 15 W (pw K.toNat) (1#64 &&& msk W))) := by
  obtain ⟨w1, w2, lt⟩ := (ok_iff _ _).1 a
  have hr := rest_toNat w1 w2 h
  have okR : ok W (rb 15 W (pw K.toNat) (1#64 &&& msk W)) = true := (bin_w (ok_pw w1 w2 h) (ok_masked w1 w2 _) (by decide)).2
  generalize rb 15 W (pw K.toNat) (1#64 &&& msk W) = R at hr okR
  have ok1 : ok W (rb 11 W A R) = true := (bin_w a okR (by decide)).2
  rw [rb15 a ok1, rb11 a okR]
  have hA : A.toNat % 2 ^ W.toNat = A.toNat := Nat.mod_eq_of_lt lt
  have e1 : (A &&& R &&& msk W).toNat = A.toNat % 2 ^ K.toNat := by
    rw [and_msk w1 w2, BitVec.toNat_and, hr, Nat.and_two_pow_sub_one_eq_mod]
    exact Nat.mod_eq_of_lt (Nat.lt_of_le_of_lt (Nat.mod_le _ _) lt)
  have e2 : (dnv W A K).toNat = A.toNat / 2 ^ K.toNat := by
    unfold dnv
    rw [and_msk w1 w2, BitVec.toNat_ushiftRight, Nat.shiftRight_eq_div_pow]
    exact Nat.mod_eq_of_lt (Nat.lt_of_le_of_lt (Nat.div_le_self _ _) lt)
  have le : A.toNat / 2 ^ K.toNat * 2 ^ K.toNat ≤ A.toNat := Nat.div_mul_le_self _ _
  have dm : A.toNat / 2 ^ K.toNat * 2 ^ K.toNat + A.toNat % 2 ^ K.toNat = A.toNat := by rw [Nat.mul_comm]; exact Nat.div_add_mod _ _
  apply BitVec.eq_of_toNat_eq
  unfold upv
  rw [and_msk w1 w2, and_msk w1 w2, BitVec.toNat_shiftLeft, Nat.shiftLeft_eq, e2, BitVec.toNat_sub, e1]
  have l64 := A.isLt
  have p64 : 2 ^ W.toNat ≤ 2 ^ 64 := Nat.pow_le_pow_right (by decide) (by omega)
  rw [Nat.mod_eq_of_lt (show A.toNat / 2 ^ K.toNat * 2 ^ K.toNat < 2 ^ 64 by omega)]
  have e3 : (2 ^ 64 - A.toNat % 2 ^ K.toNat + A.toNat) % 2 ^ 64 = A.toNat / 2 ^ K.toNat * 2 ^ K.toNat := by
    have : 2 ^ 64 - A.toNat % 2 ^ K.toNat + A.toNat = A.toNat / 2 ^ K.toNat * 2 ^ K.toNat + 2 ^ 64 := by omega
    rw [this, Nat.add_mod_right, Nat.mod_eq_of_lt (by omega)]
  rw [e3]
theorem law_far (a : ok W A = true) (h : W ≤ u F) : upv W A F = 0#64 ∧ dnv W A F = 0#64 := by
  obtain ⟨w1, w2, lt⟩ := (ok_iff _ _).1 a
  have hF : F.toNat = W.toNat + (F.toNat - W.toNat) := by unfold u at h; omega
  constructor
  · apply BitVec.eq_of_toNat_eq
    unfold upv
    rw [and_msk w1 w2, BitVec.toNat_shiftLeft, Nat.shiftLeft_eq, hF, Nat.pow_add, Nat.mod_mod_of_dvd _ (Nat.pow_dvd_pow 2 (by omega)), ← Nat.mul_assoc, Nat.mul_right_comm]
    exact Nat.mul_mod_left _ _
  · apply BitVec.eq_of_toNat_eq
    unfold dnv
    rw [and_msk w1 w2, BitVec.toNat_ushiftRight, Nat.shiftRight_eq_div_pow, Nat.div_eq_of_lt (Nat.lt_of_lt_of_le lt (Nat.pow_le_pow_right (by decide) (by omega)))]
    exact Nat.zero_mod _
end
end Go.Proofs.Ytemolkkpigkanaa
