/-
  What is made wider, and cut again: facts on what the operations tell.
-/
import Derived.Test.YtemolkkpigkanaaH
namespace Go.Proofs.Ytemolkkpigkanaa
open Go Go.RowKit
theorem cutp {p q : Prop} (h : p) (k : p → q) : q := k h
theorem new0 (w : World) (t : TypeId) : (w.alloc (Obj.cells #[Value.int IntKind.i64 0, Value.int IntKind.u64 0] t)).cell? ⟨w.heap.size, 0, none⟩ = some (.int .i64 0) := by
  simp
theorem new1 (w : World) (t : TypeId) : (w.alloc (Obj.cells #[Value.int IntKind.i64 0, Value.int IntKind.u64 0] t)).cell? ⟨w.heap.size, 1, none⟩ = some (.int .u64 0) := by
  simp
theorem newf (w : World) (t : TypeId) (o : Nat) : (w.alloc (Obj.cells #[Value.int IntKind.i64 0, Value.int IntKind.u64 0] t)).frozen? ⟨w.heap.size, o, none⟩ = false := by
  simp
/-- A variable of two cells that was made just ahead of a call is as it was behind it. -/
theorem new_kept {w z : World} {t : TypeId} (hb : Below (w.alloc (Obj.cells #[Value.int IntKind.i64 0, Value.int IntKind.u64 0] t)).heap.size (w.alloc (Obj.cells #[Value.int IntKind.i64 0, Value.int IntKind.u64 0] t)) z) : z.cell? ⟨w.heap.size, 0, none⟩ = some (.int .i64 0) ∧ z.cell? ⟨w.heap.size, 1, none⟩ = some (.int .u64 0) ∧ z.frozen? ⟨w.heap.size, 0, none⟩ = false ∧ z.frozen? ⟨w.heap.size, 1, none⟩ = false :=
  ⟨keep_cell hb (new0 w t), keep_cell hb (new1 w t), keep_frozen hb (by simp) (newf w t 0), keep_frozen hb (by simp) (newf w t 1)⟩
theorem new_then {q : Prop} {w z : World} {t : TypeId} (hb : Below (w.alloc (Obj.cells #[Value.int IntKind.i64 0, Value.int IntKind.u64 0] t)).heap.size (w.alloc (Obj.cells #[Value.int IntKind.i64 0, Value.int IntKind.u64 0] t)) z)
    (h : z.cell? ⟨w.heap.size, 0, none⟩ = some (.int .i64 0) → z.cell? ⟨w.heap.size, 1, none⟩ = some (.int .u64 0) → z.frozen? ⟨w.heap.size, 0, none⟩ = false → z.frozen? ⟨w.heap.size, 1, none⟩ = false → q) : q :=
  h (new_kept hb).1 (new_kept hb).2.1 (new_kept hb).2.2.1 (new_kept hb).2.2.2
section
variable {W N : Int} {A B : BitVec 64}
theorem msk_bit (h1 : 1 ≤ W) (h2 : W ≤ 64) (i : Nat) : (msk W).getLsbD i = decide (i < W.toNat) := by
  rw [← BitVec.testBit_toNat, msk_n h1 h2, Nat.testBit_two_pow_sub_one]
theorem bit_ok (a : ok W A = true) {i : Nat} (h : W.toNat ≤ i) : A.getLsbD i = false := by
  obtain ⟨h1, h2, _⟩ := (ok_iff _ _).1 a
  rw [← ok_self a, BitVec.getLsbD_and, msk_bit h1 h2, decide_eq_false (by omega), Bool.and_false]
theorem shr_zero (a : ok W A = true) : (A >>> (W.toNat - 1) = 0#64) ↔ A.getLsbD (W.toNat - 1) = false := by
  obtain ⟨h1, h2, _⟩ := (ok_iff _ _).1 a
  constructor
  · intro h
    have := congrArg (fun z : BitVec 64 => z.getLsbD 0) h
    simpa using this
  · intro h
    apply bit_ext; intro i hi
    rw [BitVec.getLsbD_ushiftRight, BitVec.getLsbD_zero]
    by_cases e : i = 0
    · subst e; simpa using h
    · exact bit_ok a (by omega)
theorem sgn_bit (a : ok W A = true) (i : Nat) (hi : i < 64) : (sgn W A).getLsbD i = (A.getLsbD (W.toNat - 1) && decide (W.toNat ≤ i)) := by
  obtain ⟨h1, h2, _⟩ := (ok_iff _ _).1 a
  unfold sgn
  by_cases h : A >>> (W.toNat - 1) = 0#64
  · rw [if_pos h, (shr_zero a).1 h]; simp
  · rw [if_neg h]
    have h' : A.getLsbD (W.toNat - 1) = true := by
      cases e : A.getLsbD (W.toNat - 1)
      · exact absurd ((shr_zero a).2 e) h
      · rfl
    rw [h', BitVec.getLsbD_not, msk_bit h1 h2, decide_eq_true hi, Bool.true_and, Bool.true_and]
    by_cases e : i < W.toNat
    · rw [decide_eq_true e, decide_eq_false (by omega)]; rfl
    · rw [decide_eq_false e, decide_eq_true (by omega)]; rfl
def sx (W N : Int) (A : BitVec 64) : BitVec 64 := (A ||| sgn W A) &&& msk N
theorem sx_bit (a : ok W A = true) (n1 : W ≤ N) (n2 : N ≤ 64) (i : Nat) (hi : i < 64) : (sx W N A).getLsbD i = ((A.getLsbD i || (A.getLsbD (W.toNat - 1) && decide (W.toNat ≤ i))) && decide (i < N.toNat)) := by
  obtain ⟨h1, h2, _⟩ := (ok_iff _ _).1 a
  unfold sx
  rw [BitVec.getLsbD_and, BitVec.getLsbD_or, msk_bit (by omega) n2, sgn_bit a i hi]
theorem ok_sx (n1 : 1 ≤ N) (n2 : N ≤ 64) : ok N (sx W N A) = true := ok_masked n1 n2 _
theorem ok_up (a : ok W A = true) (n1 : W ≤ N) (n2 : N ≤ 64) : ok N A = true := by
  obtain ⟨h1, h2, h3⟩ := (ok_iff _ _).1 a
  rw [ok_iff]
  exact ⟨by omega, n2, Nat.lt_of_lt_of_le h3 (Nat.pow_le_pow_right (by omega) (by omega))⟩
theorem e_zext (a : ok W A = true) (n1 : W ≤ N) (n2 : N ≤ 64) : sExt 31 N W A = (N, A, 0) := by
  obtain ⟨h1, h2, _⟩ := (ok_iff _ _).1 a
  have e := ok_self (ok_up a n1 n2)
  simp [sExt, a, n1, show ¬ N < 1 by omega, show ¬ 64 < N by omega, some', e]
theorem e_sext (a : ok W A = true) (n1 : W ≤ N) (n2 : N ≤ 64) : sExt 32 N W A = (N, sx W N A, 0) := by
  obtain ⟨h1, h2, _⟩ := (ok_iff _ _).1 a
  simp [sExt, a, n1, show ¬ N < 1 by omega, show ¬ 64 < N by omega, some', sx]
theorem e_cut (w1 : 1 ≤ W) (n1 : W ≤ N) (a : ok N A = true) : sExt 33 W N A = (W, A &&& msk W, 0) := by
  obtain ⟨h1, h2, _⟩ := (ok_iff _ _).1 a
  simp [sExt, a, n1, show ¬ W < 1 by omega, show ¬ 64 < W by omega, some']
theorem sx_cut (a : ok W A = true) (n1 : W ≤ N) (n2 : N ≤ 64) : sx W N A &&& msk W = A := by
  obtain ⟨h1, h2, _⟩ := (ok_iff _ _).1 a
  apply bit_ext; intro i hi
  rw [BitVec.getLsbD_and, msk_bit h1 h2, sx_bit a n1 n2 i hi]
  by_cases e : i < W.toNat
  · rw [decide_eq_true e, decide_eq_false (show ¬ W.toNat ≤ i by omega), decide_eq_true (show i < N.toNat by omega)]; simp
  · rw [decide_eq_false e, bit_ok a (by omega)]; simp
theorem sw_sx (a : ok W A = true) (n1 : W ≤ N) (n2 : N ≤ 64) : (sx W N A).setWidth W.toNat = A.setWidth W.toNat := by
  obtain ⟨h1, h2, _⟩ := (ok_iff _ _).1 a
  rw [← sw_mask h1 h2, sx_cut a n1 n2]
theorem and_msk2 (w1 : 1 ≤ W) (n1 : W ≤ N) (n2 : N ≤ 64) (x : BitVec 64) : (x &&& msk N) &&& msk W = x &&& msk W := by
  apply bit_ext; intro i hi
  rw [BitVec.getLsbD_and, BitVec.getLsbD_and, BitVec.getLsbD_and, msk_bit (by omega) n2, msk_bit w1 (by omega)]
  by_cases e : i < W.toNat
  · rw [decide_eq_true e, decide_eq_true (show i < N.toNat by omega)]; simp
  · rw [decide_eq_false e]; simp
theorem law_wideSum (a : ok W A = true) (b : ok W B = true) (n1 : W ≤ N) (n2 : N ≤ 64) : rb 14 N (sx W N A) (sx W N B) &&& msk W = rb 14 W A B := by
  obtain ⟨h1, h2, _⟩ := (ok_iff _ _).1 a
  have hk : W.toNat ≤ 64 := by omega
  rw [rb14 (ok_sx (by omega) n2) (ok_sx (by omega) n2), rb14 a b, and_msk2 h1 n1 n2]
  apply msk_eq h1 h2
  rw [BitVec.setWidth_add _ _ hk, BitVec.setWidth_add _ _ hk, sw_sx a n1 n2, sw_sx b n1 n2]
theorem law_wideProduct (a : ok W A = true) (b : ok W B = true) (n1 : W ≤ N) (n2 : N ≤ 64) : rb 16 N (sx W N A) (sx W N B) &&& msk W = rb 16 W A B := by
  obtain ⟨h1, h2, _⟩ := (ok_iff _ _).1 a
  have hk : W.toNat ≤ 64 := by omega
  rw [rb16 (ok_sx (by omega) n2) (ok_sx (by omega) n2), rb16 a b, and_msk2 h1 n1 n2]
  apply msk_eq h1 h2
  rw [BitVec.setWidth_mul _ _ hk, BitVec.setWidth_mul _ _ hk, sw_sx a n1 n2, sw_sx b n1 n2]
/-- The highest bit. -/
def hiBit (W : Int) (A : BitVec 64) : BitVec 64 := b2u (A.getLsbD (W.toNat - 1))
theorem and_one (x : BitVec 64) : x &&& 1#64 = b2u (x.getLsbD 0) := by
  apply bit_ext; intro i hi
  rw [BitVec.getLsbD_and]
  by_cases e : i = 0
  · subst e; cases x.getLsbD 0 <;> decide
  · have : (1#64).getLsbD i = false := by simp [BitVec.getLsbD_one, e]
    rw [this, Bool.and_false]
    cases x.getLsbD 0 <;> simp [b2u, BitVec.getLsbD_one, e]
theorem e_high (a : ok W A = true) : sSlice W A (W - 1) (W - 1) = (1, hiBit W A, 0) := by
  obtain ⟨h1, h2, _⟩ := (ok_iff _ _).1 a
  have e1 : W - 1 - (W - 1) + 1 = 1 := by omega
  have e2 : msk 1 = 1#64 := by decide
  have e3 : wth W (W - 1) (W - 1) = true := by simp [wth]; omega
  have e4 : (W - 1).toNat = W.toNat - 1 := by omega
  simp only [sSlice, a, e3, some', e1, e2, and_one, e4, hiBit, BitVec.getLsbD_ushiftRight]
  simp
theorem law_top (a : ok W A = true) (n1 : W ≤ N) (n2 : N ≤ 64) : hiBit N (sx W N A) = hiBit W A := by
  obtain ⟨h1, h2, _⟩ := (ok_iff _ _).1 a
  unfold hiBit
  rw [sx_bit a n1 n2 _ (by omega), decide_eq_true (show N.toNat - 1 < N.toNat by omega), Bool.and_true]
  by_cases e : N = W
  · subst e
    rw [decide_eq_false (by omega)]; simp
  · rw [decide_eq_true (by omega), bit_ok a (i := N.toNat - 1) (by omega)]; simp
end
end Go.Proofs.Ytemolkkpigkanaa
