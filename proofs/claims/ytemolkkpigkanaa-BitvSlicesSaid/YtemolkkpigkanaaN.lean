/-
  The bits of a word that are 1, counted in parallel: whether their number is odd. No program.
-/
import Derived.Test.YtemolkkpigkanaaS
namespace Go.Proofs.Ytemolkkpigkanaa
open Go

def rep (m : Nat) : Nat → Nat
  | 0 => 0
  | n + 1 => m + 256 * rep m n

theorem and_cat (a m M : Nat) (hm : m < 256) : (a &&& (m + 256 * M)) = (a % 256 &&& m) + 256 * (a / 256 &&& M) := by
  apply Nat.eq_of_testBit_eq
  intro i
  have e1 : m + 256 * M = 2 ^ 8 * M + m := by omega
  have h2 : (a % 256 &&& m) < 2 ^ 8 := Nat.and_lt_two_pow _ hm
  have e2 : (a % 256 &&& m) + 256 * (a / 256 &&& M) = 2 ^ 8 * (a / 256 &&& M) + (a % 256 &&& m) := by omega
  rw [e1, e2, Nat.testBit_and, Nat.testBit_two_pow_mul_add _ hm, Nat.testBit_two_pow_mul_add _ h2]
  have e3 : a % 256 = a % 2 ^ 8 := rfl
  have e4 : a / 256 = a / 2 ^ 8 := rfl
  by_cases hi : i < 8
  · rw [if_pos hi, if_pos hi, Nat.testBit_and, e3, Nat.testBit_mod_two_pow]
    simp [hi]
  · rw [if_neg hi, if_neg hi, Nat.testBit_and, e4, Nat.testBit_div_two_pow]
    rw [show i - 8 + 8 = i from by omega]

def g1 (b : Nat) : Nat := (b / 2 &&& 85) + (b &&& 85)
def g2 (b : Nat) : Nat := (b / 4 &&& 51) + (b &&& 51)
def pop (b : Nat) : Nat := (g2 (g1 b) / 16 + g2 (g1 b)) % 16
def f1 (n x : Nat) : Nat := (x / 2 &&& rep 85 n) + (x &&& rep 85 n)
def f2 (n x : Nat) : Nat := (x / 4 &&& rep 51 n) + (x &&& rep 51 n)
def f3 (n x : Nat) : Nat := (x / 16 + x) &&& rep 15 n
def sumB : Nat → Nat → Nat
  | 0, _ => 0
  | n + 1, x => pop (x % 256) + 256 * sumB n (x / 256)

theorem half_and (b c : Nat) (hb : b < 256) (hc : c < 2) : ((b / 2 + 128 * c) &&& 85) = (b / 2 &&& 85) := by
  have all : ∀ b : Fin 256, ∀ c : Fin 2, ((b.val / 2 + 128 * c.val) &&& 85) = (b.val / 2 &&& 85) := by decide +kernel
  exact all ⟨b, hb⟩ ⟨c, hc⟩
theorem quart_and (b c : Nat) (hb : b < 256) (hc : c < 4) : ((b / 4 + 64 * c) &&& 51) = (b / 4 &&& 51) := by
  have all : ∀ b : Fin 256, ∀ c : Fin 4, ((b.val / 4 + 64 * c.val) &&& 51) = (b.val / 4 &&& 51) := by decide +kernel
  exact all ⟨b, hb⟩ ⟨c, hc⟩
theorem g1_lt (b : Nat) (hb : b < 256) : g1 b < 256 := by
  have all : ∀ b : Fin 256, g1 b.val < 256 := by decide +kernel
  exact all ⟨b, hb⟩
theorem g2_small (b : Nat) (hb : b < 256) : g2 (g1 b) ≤ 68 ∧ g2 (g1 b) % 16 ≤ 4 := by
  have all : ∀ b : Fin 256, g2 (g1 b.val) ≤ 68 ∧ g2 (g1 b.val) % 16 ≤ 4 := by decide +kernel
  exact all ⟨b, hb⟩
theorem pop_le (b : Nat) (hb : b < 256) : pop b ≤ 8 := by
  have all : ∀ b : Fin 256, pop b.val ≤ 8 := by decide +kernel
  exact all ⟨b, hb⟩

theorem f1_step (n x : Nat) : f1 (n + 1) x = g1 (x % 256) + 256 * f1 n (x / 256) := by
  unfold f1 g1
  rw [show rep 85 (n + 1) = 85 + 256 * rep 85 n from rfl, and_cat _ _ _ (by decide), and_cat x _ _ (by decide)]
  have e1 : x / 2 % 256 = x % 256 / 2 + 128 * (x / 256 % 2) := by omega
  have e2 : x / 2 / 256 = x / 256 / 2 := by omega
  rw [e1, half_and _ _ (by omega) (by omega), e2]
  omega
theorem f2_step (n x : Nat) : f2 (n + 1) x = g2 (x % 256) + 256 * f2 n (x / 256) := by
  unfold f2 g2
  rw [show rep 51 (n + 1) = 51 + 256 * rep 51 n from rfl, and_cat _ _ _ (by decide), and_cat x _ _ (by decide)]
  have e1 : x / 4 % 256 = x % 256 / 4 + 64 * (x / 256 % 4) := by omega
  have e2 : x / 4 / 256 = x / 256 / 4 := by omega
  rw [e1, quart_and _ _ (by omega) (by omega), e2]
  omega
theorem f21_step (n x : Nat) : f2 (n + 1) (f1 (n + 1) x) = g2 (g1 (x % 256)) + 256 * f2 n (f1 n (x / 256)) := by
  have hg := g1_lt (x % 256) (by omega)
  rw [f1_step, f2_step]
  rw [show (g1 (x % 256) + 256 * f1 n (x / 256)) % 256 = g1 (x % 256) from by omega, show (g1 (x % 256) + 256 * f1 n (x / 256)) / 256 = f1 n (x / 256) from by omega]
theorem f21_low (n x : Nat) : f2 n (f1 n x) % 16 ≤ 4 := by
  cases n with
  | zero => simp [f2, f1, rep]
  | succ n =>
    rw [f21_step]
    have := (g2_small (x % 256) (by omega)).2
    omega
theorem and15 (a : Nat) : (a &&& 15) = a % 16 := by
  have := Nat.and_two_pow_sub_one_eq_mod a 4
  simpa using this
theorem f3_all (n : Nat) : ∀ x, f3 n (f2 n (f1 n x)) = sumB n x := by
  induction n with
  | zero => intro x; simp [f3, rep, sumB]
  | succ n ih =>
    intro x
    rw [f21_step]
    have hs := g2_small (x % 256) (by omega)
    have hl := f21_low n (x / 256)
    have hi := ih (x / 256)
    unfold f3 at hi ⊢
    rw [show rep 15 (n + 1) = 15 + 256 * rep 15 n from rfl, and_cat _ _ _ (by decide), and15]
    unfold sumB pop
    generalize g2 (g1 (x % 256)) = d at *
    generalize f2 n (f1 n (x / 256)) = q at *
    have e1 : ((d + 256 * q) / 16 + (d + 256 * q)) % 256 % 16 = (d / 16 + d) % 16 := by omega
    have e2 : ((d + 256 * q) / 16 + (d + 256 * q)) / 256 = q / 16 + q := by omega
    rw [e1, e2, hi]

/-- The words that OnesCount64 goes through. -/
def cA : BitVec 64 := 6148914691236517205
def cB : BitVec 64 := 3689348814741910323
def cC : BitVec 64 := 1085102592571150095
def q1 (v : BitVec 64) : BitVec 64 := (v >>> 1 &&& cA) + (v &&& cA)
def q2 (v : BitVec 64) : BitVec 64 := (v >>> 2 &&& cB) + (v &&& cB)
def q3 (v : BitVec 64) : BitVec 64 := (v >>> 4 + v) &&& cC
def q4 (v : BitVec 64) : BitVec 64 := v + v >>> 8
def q5 (v : BitVec 64) : BitVec 64 := v + v >>> 16
def q6 (v : BitVec 64) : BitVec 64 := v + v >>> 32
def ones (v : BitVec 64) : BitVec 64 := q6 (q5 (q4 (q3 (q2 (q1 v)))))

theorem rep85 : rep 85 8 = 6148914691236517205 := by decide +kernel
theorem rep51 : rep 51 8 = 3689348814741910323 := by decide +kernel
theorem rep15 : rep 15 8 = 1085102592571150095 := by decide +kernel
theorem cA_n : cA.toNat = rep 85 8 := by decide +kernel
theorem cB_n : cB.toNat = rep 51 8 := by decide +kernel
theorem cC_n : cC.toNat = rep 15 8 := by decide +kernel

theorem q1_n (v : BitVec 64) : (q1 v).toNat = f1 8 v.toNat := by
  unfold q1 f1
  rw [BitVec.toNat_add, BitVec.toNat_and, BitVec.toNat_and, cA_n, BitVec.toNat_ushiftRight, Nat.shiftRight_eq_div_pow]
  have h1 : (v.toNat / 2 ^ 1 &&& rep 85 8) ≤ rep 85 8 := Nat.and_le_right
  have h2 : (v.toNat &&& rep 85 8) ≤ rep 85 8 := Nat.and_le_right
  rw [rep85] at *
  exact Nat.mod_eq_of_lt (by omega)
theorem q2_n (v : BitVec 64) : (q2 v).toNat = f2 8 v.toNat := by
  unfold q2 f2
  rw [BitVec.toNat_add, BitVec.toNat_and, BitVec.toNat_and, cB_n, BitVec.toNat_ushiftRight, Nat.shiftRight_eq_div_pow]
  have h1 : (v.toNat / 2 ^ 2 &&& rep 51 8) ≤ rep 51 8 := Nat.and_le_right
  have h2 : (v.toNat &&& rep 51 8) ≤ rep 51 8 := Nat.and_le_right
  rw [rep51] at *
  exact Nat.mod_eq_of_lt (by omega)
theorem q3_n (v : BitVec 64) (h : v.toNat ≤ 2 * rep 51 8) : (q3 v).toNat = f3 8 v.toNat := by
  unfold q3 f3
  rw [BitVec.toNat_and, BitVec.toNat_add, cC_n, BitVec.toNat_ushiftRight, Nat.shiftRight_eq_div_pow]
  rw [rep51] at h
  rw [Nat.mod_eq_of_lt (by omega)]

theorem sum8 (x : Nat) : ∃ a b c d e f g h : Nat, a ≤ 8 ∧ b ≤ 8 ∧ c ≤ 8 ∧ d ≤ 8 ∧ e ≤ 8 ∧ f ≤ 8 ∧ g ≤ 8 ∧ h ≤ 8 ∧
    a = pop (x % 256) ∧ b = pop (x / 256 % 256) ∧ c = pop (x / 65536 % 256) ∧ d = pop (x / 16777216 % 256) ∧ e = pop (x / 4294967296 % 256) ∧ f = pop (x / 1099511627776 % 256) ∧ g = pop (x / 281474976710656 % 256) ∧ h = pop (x / 72057594037927936 % 256) ∧
    sumB 8 x = a + 256 * (b + 256 * (c + 256 * (d + 256 * (e + 256 * (f + 256 * (g + 256 * h)))))) := by
  refine ⟨_, _, _, _, _, _, _, _, pop_le _ ?_, pop_le _ ?_, pop_le _ ?_, pop_le _ ?_, pop_le _ ?_, pop_le _ ?_, pop_le _ ?_, pop_le _ ?_, rfl, rfl, rfl, rfl, rfl, rfl, rfl, rfl, ?_⟩
  all_goals first | omega | skip
  simp only [sumB, Nat.div_div_eq_div_mul, Nat.reduceMul, Nat.mul_zero, Nat.add_zero]

theorem tot {a b c d e f g h x3 x4 x5 x6 : Nat} (ha : a ≤ 8) (hb : b ≤ 8) (hc : c ≤ 8) (hd : d ≤ 8) (he : e ≤ 8) (hf : f ≤ 8) (hg : g ≤ 8) (hh : h ≤ 8)
    (h3 : x3 = a + 256 * (b + 256 * (c + 256 * (d + 256 * (e + 256 * (f + 256 * (g + 256 * h)))))))
    (h4 : x4 = (x3 + x3 / 256) % 18446744073709551616) (h5 : x5 = (x4 + x4 / 65536) % 18446744073709551616) (h6 : x6 = (x5 + x5 / 4294967296) % 18446744073709551616) : x6 % 2 = (a + b + c + d + e + f + g + h) % 2 := by
  have k3 : x3 / 256 = b + 256 * (c + 256 * (d + 256 * (e + 256 * (f + 256 * (g + 256 * h))))) := by omega
  have e4 : x4 = (a + b) + 256 * ((b + c) + 256 * ((c + d) + 256 * ((d + e) + 256 * ((e + f) + 256 * ((f + g) + 256 * ((g + h) + 256 * h)))))) := by
    rw [h4, k3, h3, Nat.mod_eq_of_lt (by omega)]; omega
  clear h3 h4 k3
  have k4 : x4 / 65536 = (c + d) + 256 * ((d + e) + 256 * ((e + f) + 256 * ((f + g) + 256 * ((g + h) + 256 * h)))) := by omega
  have e5 : x5 = (a + b + c + d) + 256 * ((b + c + d + e) + 256 * ((c + d + e + f) + 256 * ((d + e + f + g) + 256 * ((e + f + g + h) + 256 * ((f + g + h) + 256 * ((g + h) + 256 * h)))))) := by
    rw [h5, k4, e4, Nat.mod_eq_of_lt (by omega)]; omega
  clear e4 h5 k4
  have k5 : x5 / 4294967296 = (e + f + g + h) + 256 * ((f + g + h) + 256 * ((g + h) + 256 * h)) := by omega
  have e6 : x6 = x5 + x5 / 4294967296 := by rw [h6, Nat.mod_eq_of_lt (by omega)]
  rw [e6, k5, e5]
  omega

/-- The bit number k of v, counted in Nat. -/
theorem bit_at (v : BitVec 64) (k : Nat) : (v >>> k &&& 1#64 == 1#64) = (v.toNat / 2 ^ k % 2 == 1) := by
  rw [Bool.eq_iff_iff, beq_iff_eq, beq_iff_eq, ← BitVec.toNat_inj, BitVec.toNat_and, BitVec.toNat_ushiftRight, Nat.shiftRight_eq_div_pow]
  have : (1#64).toNat = 1 := rfl
  rw [this, Nat.and_one_is_mod]

theorem pop_odd (b : Nat) (hb : b < 256) : (pop b % 2 == 1) = xor (xor (xor (xor (xor (xor (xor (b / 1 % 2 == 1) (b / 2 % 2 == 1)) (b / 4 % 2 == 1)) (b / 8 % 2 == 1)) (b / 16 % 2 == 1)) (b / 32 % 2 == 1)) (b / 64 % 2 == 1)) (b / 128 % 2 == 1) := by
  have all : ∀ b : Fin 256, (pop b.val % 2 == 1) = xor (xor (xor (xor (xor (xor (xor (b.val / 1 % 2 == 1) (b.val / 2 % 2 == 1)) (b.val / 4 % 2 == 1)) (b.val / 8 % 2 == 1)) (b.val / 16 % 2 == 1)) (b.val / 32 % 2 == 1)) (b.val / 64 % 2 == 1)) (b.val / 128 % 2 == 1) := by decide +kernel
  exact all ⟨b, hb⟩

theorem odds_byte (v : BitVec 64) (k : Nat) : odds (k + 8) v = xor (odds k v) (pop (v.toNat / 2 ^ k % 256) % 2 == 1) := by
  have hx (j : Nat) (hj : j < 8) : (v.toNat / 2 ^ k % 256) / 2 ^ j % 2 = v.toNat / 2 ^ (k + j) % 2 := by
    rw [Nat.pow_add, ← Nat.div_div_eq_div_mul]
    generalize v.toNat / 2 ^ k = q
    have h8 : j = 0 ∨ j = 1 ∨ j = 2 ∨ j = 3 ∨ j = 4 ∨ j = 5 ∨ j = 6 ∨ j = 7 := by omega
    rcases h8 with rfl | rfl | rfl | rfl | rfl | rfl | rfl | rfl <;> omega
  rw [pop_odd _ (by omega)]
  have b0 := hx 0 (by decide); have b1 := hx 1 (by decide); have b2 := hx 2 (by decide); have b3 := hx 3 (by decide)
  have b4 := hx 4 (by decide); have b5 := hx 5 (by decide); have b6 := hx 6 (by decide); have b7 := hx 7 (by decide)
  simp only [Nat.reducePow] at b0 b1 b2 b3 b4 b5 b6 b7
  rw [b0, b1, b2, b3, b4, b5, b6, b7]
  simp only [odds, bit_at, Nat.add_zero, Bool.xor_assoc]

theorem xor_odd (a b : Nat) : xor (a % 2 == 1) (b % 2 == 1) = ((a + b) % 2 == 1) := by
  have h1 : a % 2 = 0 ∨ a % 2 = 1 := by omega
  have h2 : b % 2 = 0 ∨ b % 2 = 1 := by omega
  have h3 : (a + b) % 2 = (a % 2 + b % 2) % 2 := by omega
  rcases h1 with h1 | h1 <;> rcases h2 with h2 | h2 <;> rw [h3, h1, h2] <;> rfl

theorem ones_odd (v : BitVec 64) : ((ones v).toNat % 2 == 1) = odds 64 v := by
  have hq1 := q1_n v
  have hq2 := q2_n (q1 v)
  have hle : (q2 (q1 v)).toNat ≤ 2 * rep 51 8 := by
    rw [hq2]; unfold f2
    have h1 : ((q1 v).toNat / 4 &&& rep 51 8) ≤ rep 51 8 := Nat.and_le_right
    have h2 : ((q1 v).toNat &&& rep 51 8) ≤ rep 51 8 := Nat.and_le_right
    omega
  have hq3 := q3_n _ hle
  rw [hq2, hq1, f3_all] at hq3
  obtain ⟨a, b, c, d, e, f, g, h, ha, hb, hc, hd, he, hf, hg, hh, ra, rb, rc, rd, re, rf, rg, rh, hs⟩ := sum8 v.toNat
  have h4 : (q4 (q3 (q2 (q1 v)))).toNat = ((q3 (q2 (q1 v))).toNat + (q3 (q2 (q1 v))).toNat / 256) % 18446744073709551616 := by
    unfold q4; rw [BitVec.toNat_add, BitVec.toNat_ushiftRight, Nat.shiftRight_eq_div_pow]
  have h5 : (q5 (q4 (q3 (q2 (q1 v))))).toNat = ((q4 (q3 (q2 (q1 v)))).toNat + (q4 (q3 (q2 (q1 v)))).toNat / 65536) % 18446744073709551616 := by
    unfold q5; rw [BitVec.toNat_add, BitVec.toNat_ushiftRight, Nat.shiftRight_eq_div_pow]
  have h6 : (ones v).toNat = ((q5 (q4 (q3 (q2 (q1 v))))).toNat + (q5 (q4 (q3 (q2 (q1 v))))).toNat / 4294967296) % 18446744073709551616 := by
    unfold ones q6; rw [BitVec.toNat_add, BitVec.toNat_ushiftRight, Nat.shiftRight_eq_div_pow]
  rw [tot ha hb hc hd he hf hg hh (hq3.trans hs) h4 h5 h6, ra, rb, rc, rd, re, rf, rg, rh]
  have o := odds_byte v
  have o0 := o 0; have o1 := o 8; have o2 := o 16; have o3 := o 24; have o4 := o 32; have o5 := o 40; have o6 := o 48; have o7 := o 56
  simp only [Nat.reducePow, Nat.zero_add, Nat.reduceAdd, Nat.pow_zero, Nat.div_one] at o0 o1 o2 o3 o4 o5 o6 o7
  rw [o7, o6, o5, o4, o3, o2, o1, o0]
  rw [show odds 0 v = false from rfl, Bool.false_xor]
  simp only [xor_odd]
end Go.Proofs.Ytemolkkpigkanaa
