/-
  Plain facts on masked words. No program.
-/
import Derived.Test.YtemolkkpigkanaaS
namespace Go.Proofs.Ytemolkkpigkanaa
open Go

theorem pw_n {n : Nat} (h : n ≤ 64) : (pw n - 1).toNat = 2 ^ n - 1 := by
  by_cases h64 : n = 64
  · subst h64; decide
  · have hlt : 2 ^ n < 2 ^ 64 := Nat.pow_lt_pow_right (by decide) (by omega)
    have hp : 0 < 2 ^ n := Nat.two_pow_pos n
    unfold pw
    rw [BitVec.toNat_sub, BitVec.toNat_shiftLeft, Nat.shiftLeft_eq]
    have e1 : (1#64).toNat = 1 := rfl
    have e2 : (1 : BitVec 64).toNat = 1 := rfl
    rw [e1, e2, Nat.one_mul, Nat.mod_eq_of_lt hlt]
    rw [show 2 ^ 64 - 1 + 2 ^ n = (2 ^ n - 1) + 2 ^ 64 from by omega, Nat.add_mod_right]
    exact Nat.mod_eq_of_lt (by omega)
theorem msk_n {W : Int} (h1 : 1 ≤ W) (h2 : W ≤ 64) : (msk W).toNat = 2 ^ W.toNat - 1 := by
  rw [msk_pw h1 h2]; exact pw_n (by omega)
theorem and_msk {W : Int} (h1 : 1 ≤ W) (h2 : W ≤ 64) (x : BitVec 64) : (x &&& msk W).toNat = x.toNat % 2 ^ W.toNat := by
  rw [BitVec.toNat_and, msk_n h1 h2, Nat.and_two_pow_sub_one_eq_mod]
theorem ok_iff (W : Int) (V : BitVec 64) : ok W V = true ↔ 1 ≤ W ∧ W ≤ 64 ∧ V.toNat < 2 ^ W.toNat := by
  unfold ok
  simp only [Bool.and_eq_true, decide_eq_true_eq]
  constructor
  · rintro ⟨⟨a, b⟩, c⟩
    rw [BitVec.le_def, msk_n a b] at c
    have : 0 < 2 ^ W.toNat := Nat.two_pow_pos _
    exact ⟨a, b, by omega⟩
  · rintro ⟨a, b, c⟩
    exact ⟨⟨a, b⟩, by rw [BitVec.le_def, msk_n a b]; omega⟩
theorem ok_masked {W : Int} (h1 : 1 ≤ W) (h2 : W ≤ 64) (x : BitVec 64) : ok W (x &&& msk W) = true := by
  rw [ok_iff]; exact ⟨h1, h2, by rw [and_msk h1 h2]; exact Nat.mod_lt _ (Nat.two_pow_pos _)⟩
theorem ok_bit (b : Bool) : ok 1 (b2u b) = true := by cases b <;> decide
/-- A value that may be is its own lowest bits. -/
theorem ok_self {W : Int} {V : BitVec 64} (h : ok W V = true) : V &&& msk W = V := by
  obtain ⟨a, b, c⟩ := (ok_iff _ _).1 h
  apply BitVec.eq_of_toNat_eq
  rw [and_msk a b, Nat.mod_eq_of_lt c]
/-- Two words, one behind the other. -/
theorem cat2 (x y : BitVec 64) (a b : Nat) (hx : x.toNat < 2 ^ a) (hy : y.toNat < 2 ^ b) (hab : a + b ≤ 64) : ((x <<< b) ||| y).toNat = x.toNat * 2 ^ b + y.toNat := by
  have h1 : x.toNat * 2 ^ b < 2 ^ (a + b) := by
    rw [Nat.pow_add]; exact Nat.mul_lt_mul_of_pos_right hx (Nat.two_pow_pos b)
  have h2 : 2 ^ (a + b) ≤ 2 ^ 64 := Nat.pow_le_pow_right (by decide) hab
  rw [BitVec.toNat_or, BitVec.toNat_shiftLeft, Nat.shiftLeft_eq, Nat.mod_eq_of_lt (by omega)]
  rw [Nat.mul_comm, ← Nat.two_pow_add_eq_or_of_lt hy]
theorem cat2_lt (x y : BitVec 64) (a b : Nat) (hx : x.toNat < 2 ^ a) (hy : y.toNat < 2 ^ b) (hab : a + b ≤ 64) : ((x <<< b) ||| y).toNat < 2 ^ (a + b) := by
  rw [cat2 x y a b hx hy hab, Nat.pow_add]
  have : (x.toNat + 1) * 2 ^ b ≤ 2 ^ a * 2 ^ b := Nat.mul_le_mul_right _ hx
  rw [Nat.add_mul, Nat.one_mul] at this
  omega

/-- What is told may be; or there is an error, and nothing is told. -/
def Fine (r : R) : Prop := (r.2.2 = 0 ∧ ok r.1 r.2.1 = true) ∨ (r.2.2 ≠ 0 ∧ r.1 = 0 ∧ r.2.1 = 0#64)
theorem fine_bad : Fine bad := .inr ⟨by decide, rfl, rfl⟩
theorem fine_wide : Fine tooWide := .inr ⟨by decide, rfl, rfl⟩
theorem fine_one (b : Bool) : Fine (one b) := .inl ⟨rfl, ok_bit b⟩
theorem fine_mask {W : Int} (h1 : 1 ≤ W) (h2 : W ≤ 64) (x : BitVec 64) : Fine (some' W (x &&& msk W)) := .inl ⟨rfl, ok_masked h1 h2 x⟩
theorem ite_fine {c : Prop} [Decidable c] {a b : R} (ha : c → Fine a) (hb : ¬ c → Fine b) : Fine (if c then a else b) := by
  by_cases h : c
  · rw [if_pos h]; exact ha h
  · rw [if_neg h]; exact hb h
theorem fine_un (op W : Int) (V : BitVec 64) : Fine (sUn op W V) := by
  unfold sUn
  refine ite_fine (fun _ => fine_bad) fun h => ?_
  obtain ⟨a, b, _⟩ := (ok_iff _ _).1 (by simpa using h)
  repeat' (first | exact fine_bad | exact fine_one _ | exact fine_mask a b _ | refine ite_fine (fun _ => ?_) (fun _ => ?_))
theorem fine_bin (op W : Int) (V : BitVec 64) (W2 : Int) (V2 : BitVec 64) : Fine (sBin op W V W2 V2) := by
  unfold sBin
  refine ite_fine (fun _ => fine_bad) fun h => ?_
  obtain ⟨a, b, _⟩ := (ok_iff W V).1 (by cases e : ok W V <;> simp_all)
  repeat' (first | exact fine_bad | exact fine_one _ | exact fine_mask a b _ | refine ite_fine (fun _ => ?_) (fun _ => ?_))
theorem fine_ext (op n W : Int) (V : BitVec 64) : Fine (sExt op n W V) := by
  unfold sExt
  refine ite_fine (fun _ => fine_bad) fun _ => ite_fine (fun _ => fine_bad) fun h1 => ite_fine (fun _ => fine_bad) fun h2 => ?_
  have a : 1 ≤ n := by omega
  have b : n ≤ 64 := by omega
  repeat' (first | exact fine_bad | exact fine_mask a b _ | refine ite_fine (fun _ => ?_) (fun _ => ?_))
theorem fine_slice (W : Int) (V : BitVec 64) (hi lo : Int) : Fine (sSlice W V hi lo) := by
  unfold sSlice
  refine ite_fine (fun _ => fine_bad) fun h => ite_fine (fun _ => fine_bad) fun h1 => ?_
  obtain ⟨a, b, _⟩ := (ok_iff W V).1 (by simpa using h)
  have hw : wth W hi lo = true := by simpa using h1
  unfold wth at hw
  simp only [Bool.and_eq_true, decide_eq_true_eq] at hw
  exact fine_mask (by omega) (by omega) _
theorem fine_set (W : Int) (V : BitVec 64) (hi lo W2 : Int) (V2 : BitVec 64) : Fine (sSet W V hi lo W2 V2) := by
  unfold sSet
  refine ite_fine (fun _ => fine_bad) fun h => ?_
  obtain ⟨a, b, _⟩ := (ok_iff W V).1 (by cases e : ok W V <;> simp_all)
  repeat' (first | exact fine_bad | exact fine_mask a b _ | refine ite_fine (fun _ => ?_) (fun _ => ?_))
theorem fine_cat2 (W : Int) (V : BitVec 64) (W2 : Int) (V2 : BitVec 64) : Fine (sCat [(W, V), (W2, V2)]) := by
  unfold sCat
  refine ite_fine (fun _ => fine_bad) fun _ => ite_fine (fun _ => fine_bad) fun h => ite_fine (fun _ => fine_wide) fun h64 => ?_
  have h' : allOk [(W, V), (W2, V2)] = true := by simpa using h
  simp only [allOk, List.all_cons, List.all_nil, Bool.and_true, Bool.and_eq_true] at h'
  obtain ⟨a, b, c⟩ := (ok_iff W V).1 h'.1
  obtain ⟨a2, b2, c2⟩ := (ok_iff W2 V2).1 h'.2
  simp only [wide, List.foldl_cons, List.foldl_nil] at h64
  refine .inl ⟨rfl, ?_⟩
  have e : behind [(W, V), (W2, V2)] = (0 + W + W2, ((0#64 <<< W.toNat ||| V) <<< W2.toNat) ||| V2) := rfl
  rw [e]
  have e0 : (0#64 <<< W.toNat ||| V) = V := by simp
  show ok (0 + W + W2) (((0#64 <<< W.toNat ||| V) <<< W2.toNat) ||| V2) = true
  rw [e0, ok_iff]
  refine ⟨by omega, by omega, ?_⟩
  have := cat2_lt V V2 W.toNat W2.toNat c c2 (by omega)
  rw [show (0 + W + W2).toNat = W.toNat + W2.toNat from by omega]
  exact this
end Go.Proofs.Ytemolkkpigkanaa
