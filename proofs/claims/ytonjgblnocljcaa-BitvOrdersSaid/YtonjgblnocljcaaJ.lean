/-
  What is less, the same and more: facts on what the operations tell, and the contract of the two that take one bit.
-/
import Derived.Test.YtonjgblnocljcaaH
namespace Go.Proofs.Ytonjgblnocljcaa
open Go Go.RowKit
section
variable {W : Int} {A B : BitVec 64}
theorem rb19 (h : ok W A = true) (h2 : ok W B = true) : rb 19 W A B = b2u (A == B) := by simp [rb, sBin, h, h2, one]
theorem rb20 (h : ok W A = true) (h2 : ok W B = true) : rb 20 W A B = b2u (!(A == B)) := by simp [rb, sBin, h, h2, one]
theorem rb21 (h : ok W A = true) (h2 : ok W B = true) : rb 21 W A B = b2u (decide (A < B)) := by simp [rb, sBin, h, h2, one]
theorem rb22 (h : ok W A = true) (h2 : ok W B = true) : rb 22 W A B = b2u (decide (A ≤ B)) := by simp [rb, sBin, h, h2, one]
theorem rb23 (h : ok W A = true) (h2 : ok W B = true) : rb 23 W A B = b2u (decide (B < A)) := by simp [rb, sBin, h, h2, one]
theorem rb24 (h : ok W A = true) (h2 : ok W B = true) : rb 24 W A B = b2u (decide (B ≤ A)) := by simp [rb, sBin, h, h2, one]
theorem b2u_not (b : Bool) : b2u (b2u b == 0#64) = b2u (!b) := by cases b <;> decide
theorem law_once (a : ok W A = true) (b : ok W B = true) : rb 21 W A B + rb 19 W A B + rb 23 W A B = 1#64 := by
  rw [rb21 a b, rb19 a b, rb23 a b]
  by_cases h : A = B
  · subst h
    have e1 : decide (A < A) = false := by simp
    rw [e1, beq_self_eq_true]; decide
  · have e1 : (A == B) = false := by simpa using h
    rw [e1]
    by_cases h2 : A < B
    · have e2 : decide (B < A) = false := by rw [decide_eq_false_iff_not, BitVec.lt_def]; rw [BitVec.lt_def] at h2; omega
      rw [decide_eq_true h2, e2]; decide
    · have e2 : decide (B < A) = true := by
        rw [decide_eq_true_iff, BitVec.lt_def]; rw [BitVec.lt_def] at h2
        have : A.toNat ≠ B.toNat := fun q => h (BitVec.eq_of_toNat_eq q)
        omega
      rw [decide_eq_false h2, e2]; decide
theorem law_le (a : ok W A = true) (b : ok W B = true) : rb 22 W A B = ru 6 1 (rb 23 W A B) := by
  rw [ru6 (bin_one a b (by decide)).2, rb22 a b, rb23 a b, b2u_not]
  congr 1
  rw [Bool.eq_iff_iff]; simp
theorem law_ge (a : ok W A = true) (b : ok W B = true) : rb 24 W A B = ru 6 1 (rb 21 W A B) := by
  rw [ru6 (bin_one a b (by decide)).2, rb24 a b, rb21 a b, b2u_not]
  congr 1
  rw [Bool.eq_iff_iff]; simp
theorem law_ne (a : ok W A = true) (b : ok W B = true) : rb 20 W A B = ru 6 1 (rb 19 W A B) := by
  rw [ru6 (bin_one a b (by decide)).2, rb20 a b, rb19 a b, b2u_not]
theorem law_same (a : ok W A = true) (b : ok W B = true) : (rb 19 W A B == 1#64) = (A == B) := by
  rw [rb19 a b]; cases (A == B) <;> decide
end
theorem ok_two {p : BitVec 64} (h : ok 1 p = true) : p = 0#64 ∨ p = 1#64 := by
  obtain ⟨_, _, h⟩ := (ok_iff _ _).1 h
  have h' : p.toNat < 2 := h
  rcases (by omega : p.toNat = 0 ∨ p.toNat = 1) with e | e
  · exact .inl (BitVec.eq_of_toNat_eq e)
  · exact .inr (BitVec.eq_of_toNat_eq e)
theorem law_bothAnd {p q : BitVec 64} (h : ok 1 p = true) (h2 : ok 1 q = true) : rb 25 1 p q = rb 11 1 p q := by
  rcases ok_two h with rfl | rfl <;> rcases ok_two h2 with rfl | rfl <;> decide
theorem law_oneOr {p q : BitVec 64} (h : ok 1 p = true) (h2 : ok 1 q = true) : rb 26 1 p q = rb 12 1 p q := by
  rcases ok_two h with rfl | rfl <;> rcases ok_two h2 with rfl | rfl <;> decide
theorem binl_ok {op : Int} {p q : BitVec 64} (h : ok 1 p = true) (h2 : ok 1 q = true) (ho : 25 ≤ op ∧ op ≤ 26) : (sBin op 1 p 1 q).1 = 1 := by
  have : op = 25 ∨ op = 26 := by omega
  rcases this with rfl | rfl <;> simp [sBin, h, h2, one]
theorem binl (op : Int) (V V2 : BitVec 64) (h : ok 1 V = true) (h2 : ok 1 V2 = true) (ho : 25 ≤ op ∧ op ≤ 26) (w : World) : Calls Try.prog 25 #[.int .i64 op, .agg #[.int .i64 1, .int .u64 (u V)], .agg #[.int .i64 1, .int .u64 (u V2)]] w fun e w' => e = .returned (.agg #[.int .i64 1, .int .u64 (u (rb op 1 V V2))]) ∧ Below w.heap.size w w' := by
  have := bin_law op 1 (ok_wf h) V 1 (ok_wf h2) V2 w
  rw [binl_ok h h2 ho] at this
  exact this
end Go.Proofs.Ytonjgblnocljcaa
