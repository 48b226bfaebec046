/-
  Bits are sets; of two numbers one is the lesser one: facts on what the operations tell.
-/
import Derived.Test.YtemolkkpigkanaaG
namespace Go.Proofs.Ytemolkkpigkanaa
open Go

theorem bit_ext {x y : BitVec 64} (h : ∀ i, i < 64 → x.getLsbD i = y.getLsbD i) : x = y := BitVec.eq_of_getLsbD_eq (fun i hi => h i hi)
theorem and_or_add (A B : BitVec 64) : (A &&& B) + (A ||| B) = A + B := by
  have d1 : A &&& (B &&& ~~~A) = 0#64 := by
    apply bit_ext; intro i hi; simp only [BitVec.getLsbD_and, BitVec.getLsbD_not, BitVec.getLsbD_zero, hi, decide_true, Bool.true_and]; cases A.getLsbD i <;> cases B.getLsbD i <;> rfl
  have d2 : (A &&& B) &&& (B &&& ~~~A) = 0#64 := by
    apply bit_ext; intro i hi; simp only [BitVec.getLsbD_and, BitVec.getLsbD_not, BitVec.getLsbD_zero, hi, decide_true, Bool.true_and]; cases A.getLsbD i <;> cases B.getLsbD i <;> rfl
  have e1 : A ||| (B &&& ~~~A) = A ||| B := by
    apply bit_ext; intro i hi; simp only [BitVec.getLsbD_and, BitVec.getLsbD_or, BitVec.getLsbD_not, hi, decide_true, Bool.true_and]; cases A.getLsbD i <;> cases B.getLsbD i <;> rfl
  have e2 : (A &&& B) ||| (B &&& ~~~A) = B := by
    apply bit_ext; intro i hi; simp only [BitVec.getLsbD_and, BitVec.getLsbD_or, BitVec.getLsbD_not, hi, decide_true, Bool.true_and]; cases A.getLsbD i <;> cases B.getLsbD i <;> rfl
  rw [← e1, ← BitVec.add_eq_or_of_and_eq_zero _ _ d1, ← BitVec.add_assoc, BitVec.add_comm (A &&& B) A, BitVec.add_assoc, BitVec.add_eq_or_of_and_eq_zero _ _ d2, e2]
theorem odds_xor (A B : BitVec 64) : ∀ n, odds n (A ^^^ B) = xor (odds n A) (odds n B) := by
  intro n
  induction n with
  | zero => rfl
  | succ n ih =>
    have hb (v : BitVec 64) : (v >>> n &&& 1#64 == 1#64) = v.getLsbD n := by
      rw [Bool.eq_iff_iff, beq_iff_eq]
      constructor
      · intro h
        have h0 := congrArg (fun z : BitVec 64 => z.getLsbD 0) h
        simpa using h0
      · intro h
        apply bit_ext
        intro i hi
        by_cases h0 : i = 0
        · subst h0; simp [h]
        · simp [h0]
    show xor (odds n (A ^^^ B)) _ = xor (xor (odds n A) _) (xor (odds n B) _)
    rw [hb, hb, hb, ih, BitVec.getLsbD_xor]
    cases odds n A <;> cases odds n B <;> cases A.getLsbD n <;> cases B.getLsbD n <;> rfl
section
variable {W : Int} {A B : BitVec 64}
theorem law_morgan (a : ok W A = true) (b : ok W B = true) : ru 1 W (rb 11 W A B) = rb 12 W (ru 1 W A) (ru 1 W B) := by
  rw [ru1 (bin_w a b (by decide)).2, rb12 (un_w a (by decide)).2 (un_w b (by decide)).2, rb11 a b, ru1 a, ru1 b]
  generalize msk W = m
  apply bit_ext; intro i hi; simp only [BitVec.getLsbD_and, BitVec.getLsbD_or, BitVec.getLsbD_not, hi, decide_true, Bool.true_and]
  cases A.getLsbD i <;> cases B.getLsbD i <;> cases m.getLsbD i <;> rfl
theorem law_either (a : ok W A = true) (b : ok W B = true) : rb 13 W A B = rb 12 W (rb 11 W A (ru 1 W B)) (rb 11 W B (ru 1 W A)) := by
  rw [rb12 (bin_w a (un_w b (by decide)).2 (by decide)).2 (bin_w b (un_w a (by decide)).2 (by decide)).2, rb11 a (un_w b (by decide)).2, rb11 b (un_w a (by decide)).2, rb13 a b, ru1 a, ru1 b]
  generalize msk W = m
  apply bit_ext; intro i hi; simp only [BitVec.getLsbD_and, BitVec.getLsbD_or, BitVec.getLsbD_xor, BitVec.getLsbD_not, hi, decide_true, Bool.true_and]
  cases A.getLsbD i <;> cases B.getLsbD i <;> cases m.getLsbD i <;> rfl
theorem ru5 (a : ok W A = true) : ru 5 W A = b2u (odds 64 A) := by
  have e : sUn 5 W A = one (odds 64 A) := by unfold sUn; rw [if_neg (by rw [a]; decide)]; simp only [Int.reduceEq, if_false, if_true]
  unfold ru; rw [e]; generalize odds 64 A = t; rfl
theorem ru4 (a : ok W A = true) : ru 4 W A = b2u (!(A == 0#64)) := by simp [ru, sUn, a, one]
theorem ru3 (a : ok W A = true) : ru 3 W A = b2u (A == msk W) := by simp [ru, sUn, a, one]
theorem ru6 (a : ok 1 A = true) : ru 6 1 A = b2u (A == 0#64) := by simp [ru, sUn, a, one]
theorem law_odd (a : ok W A = true) (b : ok W B = true) : rb 13 1 (ru 5 W A) (ru 5 W B) = ru 5 W (rb 13 W A B) := by
  have e : rb 13 W A B = A ^^^ B := by
    rw [rb13 a b, ← ok_self a, ← ok_self b]
    generalize msk W = m
    apply bit_ext; intro i hi; simp only [BitVec.getLsbD_and, BitVec.getLsbD_xor]
    cases A.getLsbD i <;> cases B.getLsbD i <;> cases m.getLsbD i <;> rfl
  rw [ru5 (bin_w a b (by decide)).2, rb13 (un_one a (by decide)).2 (un_one b (by decide)).2, ru5 a, ru5 b, e, odds_xor]
  generalize odds 64 A = s
  generalize odds 64 B = t
  cases s <;> cases t <;> decide
theorem law_any (a : ok W A = true) : ru 6 1 (ru 4 W A) = ru 3 W (ru 1 W A) := by
  rw [ru6 (un_one a (by decide)).2, ru3 (un_w a (by decide)).2, ru4 a, ru1 a]
  have e : (~~~A &&& msk W == msk W) = (A == 0#64) := by
    have hs := ok_self a
    generalize msk W = m at *
    rw [Bool.eq_iff_iff, beq_iff_eq, beq_iff_eq]
    constructor
    · intro h
      rw [← hs]
      apply bit_ext; intro i hi
      have hi' := congrArg (fun z : BitVec 64 => z.getLsbD i) h
      simp only [BitVec.getLsbD_and, BitVec.getLsbD_not, hi, decide_true, Bool.true_and] at hi'
      simp only [BitVec.getLsbD_and, BitVec.getLsbD_zero]
      cases hA : A.getLsbD i <;> cases hm : m.getLsbD i <;> simp_all
    · intro h; subst h
      apply bit_ext; intro i hi; simp only [BitVec.getLsbD_and, BitVec.getLsbD_not, BitVec.getLsbD_zero, hi, decide_true, Bool.not_false, Bool.true_and]
  rw [e]
  generalize (A == 0#64) = t
  cases t <;> decide
theorem law_twice (a : ok W A = true) (b : ok W B = true) : rb 13 W (rb 13 W A B) B = A := by
  rw [rb13 (bin_w a b (by decide)).2 b, rb13 a b]
  conv => rhs; rw [← ok_self a]
  generalize msk W = m
  apply bit_ext; intro i hi; simp only [BitVec.getLsbD_and, BitVec.getLsbD_xor]
  cases A.getLsbD i <;> cases B.getLsbD i <;> cases m.getLsbD i <;> rfl
theorem law_halves (a : ok W A = true) (b : ok W B = true) : rb 14 W (rb 11 W A B) (rb 12 W A B) = rb 14 W A B := by
  obtain ⟨h1, h2, _⟩ := (ok_iff _ _).1 a
  have hk : W.toNat ≤ 64 := by omega
  rw [rb14 (bin_w a b (by decide)).2 (bin_w a b (by decide)).2, rb14 a b, rb11 a b, rb12 a b]
  apply msk_eq h1 h2
  rw [BitVec.setWidth_add _ _ hk, sw_mask h1 h2, sw_mask h1 h2, ← BitVec.setWidth_add _ _ hk, and_or_add]
end
end Go.Proofs.Ytemolkkpigkanaa
