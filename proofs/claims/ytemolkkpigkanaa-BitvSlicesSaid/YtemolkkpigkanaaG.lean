/-
  The laws of words of so many bits, as facts on what the operations tell.
-/
import Derived.Test.YtemolkkpigkanaaY
namespace Go.Proofs.Ytemolkkpigkanaa
open Go

theorem msk_eq {W : Int} (h1 : 1 ≤ W) (h2 : W ≤ 64) {x y : BitVec 64} (h : x.setWidth W.toNat = y.setWidth W.toNat) : x &&& msk W = y &&& msk W := by
  apply BitVec.eq_of_toNat_eq
  rw [and_msk h1 h2, and_msk h1 h2, ← BitVec.toNat_setWidth, h, BitVec.toNat_setWidth]
theorem sw_mask {W : Int} (h1 : 1 ≤ W) (h2 : W ≤ 64) (x : BitVec 64) : (x &&& msk W).setWidth W.toNat = x.setWidth W.toNat := by
  apply BitVec.eq_of_toNat_eq
  rw [BitVec.toNat_setWidth, BitVec.toNat_setWidth, and_msk h1 h2, Nat.mod_mod]
section
variable {W : Int} {A B C : BitVec 64}
theorem rb11 (h : ok W A = true) (h2 : ok W B = true) : rb 11 W A B = A &&& B &&& msk W := by simp [rb, sBin, h, h2, some']
theorem rb12 (h : ok W A = true) (h2 : ok W B = true) : rb 12 W A B = (A ||| B) &&& msk W := by simp [rb, sBin, h, h2, some']
theorem rb13 (h : ok W A = true) (h2 : ok W B = true) : rb 13 W A B = (A ^^^ B) &&& msk W := by simp [rb, sBin, h, h2, some']
theorem rb14 (h : ok W A = true) (h2 : ok W B = true) : rb 14 W A B = (A + B) &&& msk W := by simp [rb, sBin, h, h2, some']
theorem rb15 (h : ok W A = true) (h2 : ok W B = true) : rb 15 W A B = (A - B) &&& msk W := by simp [rb, sBin, h, h2, some']
theorem rb16 (h : ok W A = true) (h2 : ok W B = true) : rb 16 W A B = (A * B) &&& msk W := by simp [rb, sBin, h, h2, some']
theorem ru1 (h : ok W A = true) : ru 1 W A = ~~~A &&& msk W := by simp [ru, sUn, h, some']
theorem ru2 (h : ok W A = true) : ru 2 W A = -A &&& msk W := by simp [ru, sUn, h, some']

theorem law_sum (a : ok W A = true) (b : ok W B = true) (c : ok W C = true) : rb 14 W (rb 14 W A B) C = rb 14 W A (rb 14 W C B) := by
  obtain ⟨h1, h2, _⟩ := (ok_iff _ _).1 a
  have hk : W.toNat ≤ 64 := by omega
  rw [rb14 (bin_w a b (by decide)).2 c, rb14 a (bin_w c b (by decide)).2, rb14 a b, rb14 c b]
  apply msk_eq h1 h2
  rw [BitVec.setWidth_add _ _ hk, BitVec.setWidth_add _ _ hk, sw_mask h1 h2, sw_mask h1 h2, BitVec.setWidth_add _ _ hk, BitVec.setWidth_add _ _ hk]
  rw [BitVec.add_assoc, BitVec.add_comm (B.setWidth _)]
theorem law_product (a : ok W A = true) (b : ok W B = true) (c : ok W C = true) : rb 16 W (rb 16 W A B) C = rb 16 W A (rb 16 W C B) := by
  obtain ⟨h1, h2, _⟩ := (ok_iff _ _).1 a
  have hk : W.toNat ≤ 64 := by omega
  rw [rb16 (bin_w a b (by decide)).2 c, rb16 a (bin_w c b (by decide)).2, rb16 a b, rb16 c b]
  apply msk_eq h1 h2
  rw [BitVec.setWidth_mul _ _ hk, BitVec.setWidth_mul _ _ hk, sw_mask h1 h2, sw_mask h1 h2, BitVec.setWidth_mul _ _ hk, BitVec.setWidth_mul _ _ hk]
  rw [BitVec.mul_assoc, BitVec.mul_comm (B.setWidth _)]
theorem law_both (a : ok W A = true) (b : ok W B = true) (c : ok W C = true) : rb 16 W A (rb 14 W B C) = rb 14 W (rb 16 W A B) (rb 16 W A C) := by
  obtain ⟨h1, h2, _⟩ := (ok_iff _ _).1 a
  have hk : W.toNat ≤ 64 := by omega
  rw [rb16 a (bin_w b c (by decide)).2, rb14 (bin_w a b (by decide)).2 (bin_w a c (by decide)).2, rb14 b c, rb16 a b, rb16 a c]
  apply msk_eq h1 h2
  rw [BitVec.setWidth_mul _ _ hk, sw_mask h1 h2, BitVec.setWidth_add _ _ hk, BitVec.setWidth_add _ _ hk, sw_mask h1 h2, sw_mask h1 h2, BitVec.setWidth_mul _ _ hk, BitVec.setWidth_mul _ _ hk]
  rw [BitVec.mul_add]
theorem law_back (a : ok W A = true) (b : ok W B = true) : rb 14 W (rb 15 W A B) B = A := by
  obtain ⟨h1, h2, _⟩ := (ok_iff _ _).1 a
  have hk : W.toNat ≤ 64 := by omega
  rw [rb14 (bin_w a b (by decide)).2 b, rb15 a b]
  conv => rhs; rw [← ok_self a]
  apply msk_eq h1 h2
  rw [BitVec.setWidth_add _ _ hk, sw_mask h1 h2, ← BitVec.setWidth_add _ _ hk, BitVec.sub_add_cancel]
theorem law_less (a : ok W A = true) (b : ok W B = true) : rb 15 W A B = rb 14 W A (ru 2 W B) := by
  obtain ⟨h1, h2, _⟩ := (ok_iff _ _).1 a
  have hk : W.toNat ≤ 64 := by omega
  rw [rb15 a b, rb14 a (un_w b (by decide)).2, ru2 b]
  apply msk_eq h1 h2
  rw [BitVec.sub_eq_add_neg, BitVec.setWidth_add _ _ hk, BitVec.setWidth_add _ _ hk, sw_mask h1 h2]
theorem law_not (a : ok W A = true) (o : ok W (1#64 &&& msk W) = true) : rb 15 W (ru 2 W A) (1#64 &&& msk W) = ru 1 W A := by
  obtain ⟨h1, h2, _⟩ := (ok_iff _ _).1 a
  have hk : W.toNat ≤ 64 := by omega
  rw [rb15 (un_w a (by decide)).2 o, ru2 a, ru1 a]
  apply msk_eq h1 h2
  rw [BitVec.sub_eq_add_neg, BitVec.setWidth_add _ _ hk, BitVec.setWidth_neg_of_le hk, sw_mask h1 h2, sw_mask h1 h2, ← BitVec.setWidth_neg_of_le hk, ← BitVec.setWidth_add _ _ hk]
  rw [BitVec.neg_eq_not_add A, ← BitVec.sub_eq_add_neg, BitVec.add_sub_cancel]
theorem law_one (a : ok W A = true) (o : ok W (1#64 &&& msk W) = true) : rb 16 W A (1#64 &&& msk W) = A := by
  obtain ⟨h1, h2, _⟩ := (ok_iff _ _).1 a
  have hk : W.toNat ≤ 64 := by omega
  rw [rb16 a o]
  conv => rhs; rw [← ok_self a]
  apply msk_eq h1 h2
  rw [BitVec.setWidth_mul _ _ hk, sw_mask h1 h2, ← BitVec.setWidth_mul _ _ hk, BitVec.mul_one]
end
end Go.Proofs.Ytemolkkpigkanaa
