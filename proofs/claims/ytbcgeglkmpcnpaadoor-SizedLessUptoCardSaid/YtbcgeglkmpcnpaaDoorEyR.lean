/-
  The laws of sized: what Expr tells of expressions made of sized ones. No program.
-/
import Derived.Test.YtbcgeglkmpcnpaaDoorEyG
namespace Go.Proofs.YtbcgeglkmpcnpaaDoor
open Go Go.RowKit
set_option linter.unusedVariables false
set_option linter.unusedSimpArgs false

/-- What CheckE tells of a sized expression. -/
theorem ck_szd {gl : List GT} {a : ET} (h : checkES gl a = 0) : sigsMay gl = true ∧ mayE gl a = true ∧ okB 0 1 a.sz a.dp = true ∧ isW a.wd = true ∧ Szd a := by
  have h0 : (exprS gl a a.wd).2 = 0 ∧ sameE (exprS gl a a.wd).1 a = true := by
    unfold checkES at h
    by_cases q : (exprS gl a a.wd).2 = 0
    · rw [if_pos q] at h
      refine ⟨q, ?_⟩
      cases hs : sameE (exprS gl a a.wd).1 a with
      | true => rfl
      | false => rw [hs] at h; simp at h
    · rw [if_neg q] at h; exact absurd h q
  obtain ⟨h1, h2⟩ := h0
  rw [sameE_iff] at h2
  unfold exprS at h1 h2
  by_cases c1 : sigsMay gl = true ∧ (a.wd = 0 ∨ isW a.wd = true) ∧ mayE gl a = true
  · rw [if_pos c1] at h1 h2
    by_cases c2 : okB 0 1 a.sz a.dp = true
    · rw [if_pos c2] at h1 h2
      by_cases c3 : (szE a a.wd 0).2 = 0
      · rw [if_pos c3] at h1 h2
        have h3 := same_wd h2
        simp only at h3
        rw [szE_wd] at h3
        have h4 : a.wd ≠ 0 := by rw [← h3]; exact uW_ne _ _
        exact ⟨c1.1, c1.2.2, c2, c1.2.1.resolve_left h4, h4, c3, h2⟩
      · rw [if_neg c3] at h1; exact absurd h1 c3
    · rw [if_neg c2] at h1; exact absurd h1 (by decide)
  · rw [if_neg c1] at h1; exact absurd h1 (by decide)
/-- What Expr tells of an expression that may be. -/
theorem exprS_may {gl : List GT} {x : ET} {w0 : Int} (h1 : sigsMay gl = true) (h2 : mayE gl x = true) (h3 : x.sz ≤ 60000) (h4 : x.dp ≤ 64) (h5 : w0 = 0 ∨ isW w0 = true) : exprS gl x w0 = if (szE x w0 0).2 = 0 then ((szE x w0 0).1, 0) else (zeroE, (szE x w0 0).2) := by
  unfold exprS
  rw [if_pos ⟨h1, h5, h2⟩, if_pos (by unfold okB; simp; omega)]
/-- What is told: the fault, and, of none, the width. -/
structure Tells (gl : List GT) (x : ET) (w0 F wv : Int) : Prop where
  f : (exprS gl x w0).2 = F
  w : F = 0 → (exprS gl x w0).1.wd = wv
theorem tells_of {gl : List GT} {x : ET} {w0 F : Int} (h1 : sigsMay gl = true) (h2 : mayE gl x = true) (h3 : x.sz ≤ 60000) (h4 : x.dp ≤ 64) (h5 : w0 = 0 ∨ isW w0 = true) (hF : (szE x w0 0).2 = F) : Tells gl x w0 F (uW x w0) := by
  have h6 := exprS_may h1 h2 h3 h4 h5
  rw [hF] at h6
  by_cases q : F = 0
  · rw [if_pos q] at h6
    exact ⟨by rw [h6, q], fun _ => by rw [h6]; exact szE_wd _ _ _⟩
  · rw [if_neg q] at h6
    exact ⟨by rw [h6], fun h => absurd h q⟩
theorem szL1 (x : ET) (k : Nat) (I : Nat → Bool × Int) (f : Int) : szL [x] k I f = ([(szI x (I k) f).1], (szI x (I k) f).2) := by rw [szL_cons]; simp [szL]
theorem szL2 (x y : ET) (k : Nat) (I : Nat → Bool × Int) (f : Int) : szL [x, y] k I f = ([(szI x (I k) f).1, (szI y (I (k + 1)) (szI x (I k) f).2).1], (szI y (I (k + 1)) (szI x (I k) f).2).2) := by rw [szL_cons, szL1]
theorem szI_bit (x : ET) (f : Int) : szI x (true, 1) f = szE x 1 (wantF f (ow x == 0 || ow x == 1) 91) := rfl
theorem szI_w (x : ET) (w : Int) (f : Int) : szI x (false, w) f = szE x w f := rfl
def unT (xn : Int) (g : Nat) (a : ET) : ET := .mk 4 0 0 0 0 0 xn (some ⟨g, 0, none⟩) 1 [a]
def condT (g : Nat) (a b c : ET) : ET := .mk 6 0 0 0 0 0 0 (some ⟨g, 0, none⟩) 3 [a, b, c]
theorem may_un {gl : List GT} {a : ET} (h : mayE gl a = true) (xn : Int) (hx : 1 ≤ xn ∧ xn ≤ 6) (g : Nat) : mayE gl (unT xn g a) = true := by
  rw [unT, mayE, mayEL, mayEL, h]
  have h1 : decide ((ke (4 : Int).toNat).2.2.1 ≤ xn) = true := by rw [decide_eq_true_eq]; exact hx.1
  have h2 : decide (xn ≤ (ke (4 : Int).toNat).2.2.2) = true := by rw [decide_eq_true_eq]; exact hx.2
  rw [h1, h2]; rfl
theorem may_bin {gl : List GT} {a b : ET} (h : mayE gl a = true) (h' : mayE gl b = true) (xn : Int) (hx : 11 ≤ xn ∧ xn ≤ 26) (g : Nat) : mayE gl (binT xn g a b) = true := by
  rw [binT, mayE, mayEL, mayEL, mayEL, h, h']
  have h1 : decide ((ke (5 : Int).toNat).2.2.1 ≤ xn) = true := by rw [decide_eq_true_eq]; exact hx.1
  have h2 : decide (xn ≤ (ke (5 : Int).toNat).2.2.2) = true := by rw [decide_eq_true_eq]; exact hx.2
  rw [h1, h2]; rfl
theorem may_cond {gl : List GT} {a b c : ET} (h : mayE gl a = true) (h' : mayE gl b = true) (h'' : mayE gl c = true) (g : Nat) : mayE gl (condT g a b c) = true := by
  rw [condT, mayE, mayEL, mayEL, mayEL, mayEL, h, h', h'']; rfl
theorem may_num (gl : List GT) (v : Nat) : mayE gl (numT v) = true := by rw [numT, mayE, mayEL]; rfl
theorem sz1 (op wd : Int) (v : Nat) (sg uh ul xn : Int) (xa : Option Addr) (xc : Nat) (l : List ET) : (ET.mk op wd v sg uh ul xn xa xc l).sz = 1 + ET.szL l := by rw [ET.sz]
theorem dp1 (op wd : Int) (v : Nat) (sg uh ul xn : Int) (xa : Option Addr) (xc : Nat) (l : List ET) : (ET.mk op wd v sg uh ul xn xa xc l).dp = 1 + ET.dpL l := by rw [ET.dp]
section
variable {gl : List GT} {a : ET} (h : checkES gl a = 0) (hs : a.sz ≤ 1000) (hd : a.dp ≤ 60)
include h hs hd
/-- The other way round: one bit is wanted. -/
theorem un_bit (g : Nat) : Tells gl (unT 6 g a) 0 (if a.wd = 1 then 0 else 91) 1 := by
  obtain ⟨h1, h2, h3, h4, h5⟩ := ck_szd h
  have ho := szd_ow gl a h2 h5
  have hu : uW (unT 6 g a) 0 = 1 := by unfold uW; rw [if_pos rfl, unT, ow]; simp [owF, owO, orU]
  have hF : (szE (unT 6 g a) 0 0).2 = if a.wd = 1 then 0 else 91 := by
    have hu2 := hu
    unfold unT at hu2 ⊢
    have ho1 : ow (.mk 4 0 0 0 0 0 6 (some ⟨g, 0, none⟩) 1 [a]) = 1 := by rw [ow]; simp [owF, owO]
    rw [szE_mk, hu2, ho1]
    simp only
    rw [szL1, show insF 4 6 1 (owL [a]) 0 = (true, 1) by simp [insF], szI_bit, show preF 4 6 1 1 0 0 = 0 by simp [preF, wantF], ho]
    rw [postF_ne (by decide)]
    by_cases q : a.wd = 1
    · rw [if_pos q]
      have e : wantF 0 (a.wd == 0 || a.wd == 1) 91 = 0 := by simp [wantF, q]
      rw [e]
      have := h5.2.1
      rwa [q] at this
    · rw [if_neg q]
      have e : wantF 0 (a.wd == 0 || a.wd == 1) 91 = 91 := by
        have h0 := h5.1
        simp [wantF, q, h0]
      rw [e]
      exact szE_ne a 1 (by decide)
  have := tells_of h1 (may_un h2 6 ⟨by decide, by decide⟩ g) (by rw [unT, sz1]; simp [ET.szL]; omega) (by rw [unT, dp1]; simp [ET.dpL]; omega) (Or.inl rfl) hF
  rwa [hu] at this
/-- All bits: always one. -/
theorem un_all (g : Nat) : Tells gl (unT 3 g a) 0 0 1 := by
  obtain ⟨h1, h2, h3, h4, h5⟩ := ck_szd h
  have hu : uW (unT 3 g a) 0 = 1 := by unfold uW; rw [if_pos rfl, unT, ow]; simp [owF, owO, orU]
  have hF : (szE (unT 3 g a) 0 0).2 = 0 := by
    have hu2 := hu
    unfold unT at hu2 ⊢
    have ho1 : ow (.mk 4 0 0 0 0 0 3 (some ⟨g, 0, none⟩) 1 [a]) = 1 := by rw [ow]; simp [owF, owO]
    rw [szE_mk, hu2, ho1]
    simp only
    rw [szL1, show insF 4 3 1 (owL [a]) 0 = (false, 0) by simp [insF], szI_w, show preF 4 3 1 1 0 0 = 0 by simp [preF, wantF], postF_ne (by decide), h5.at gl h2]
    exact h5.2.1
  have := tells_of h1 (may_un h2 3 ⟨by decide, by decide⟩ g) (by rw [unT, sz1]; simp [ET.szL]; omega) (by rw [unT, dp1]; simp [ET.dpL]; omega) (Or.inl rfl) hF
  rwa [hu] at this
/-- What a choice is taken by: one bit is wanted. -/
theorem cond_bit (g : Nat) : Tells gl (condT g a (numT 1) (numT 0)) 5 (if a.wd = 1 then 0 else 91) 5 := by
  obtain ⟨h1, h2, h3, h4, h5⟩ := ck_szd h
  have ho := szd_ow gl a h2 h5
  have hu : uW (condT g a (numT 1) (numT 0)) 5 = 5 := rfl
  have hF : (szE (condT g a (numT 1) (numT 0)) 5 0).2 = if a.wd = 1 then 0 else 91 := by
    have hu2 := hu
    unfold condT at hu2 ⊢
    rw [szE_mk, hu2]
    simp only
    rw [szL_cons, szL2]
    simp only
    rw [show insF 6 0 5 (owL [a, numT 1, numT 0]) 0 = (true, 1) by simp [insF], show insF 6 0 5 (owL [a, numT 1, numT 0]) (0 + 1) = (false, 5) by simp [insF], show insF 6 0 5 (owL [a, numT 1, numT 0]) (0 + 1 + 1) = (false, 5) by simp [insF]]
    rw [postF_ne (by decide), szI_bit, szI_w, szI_w, show ∀ p u v f, preF 6 0 p u v f = f from fun p u v f => by simp [preF], ho]
    by_cases q : a.wd = 1
    · rw [if_pos q]
      have e : wantF 0 (a.wd == 0 || a.wd == 1) 91 = 0 := by simp [wantF, q]
      have e2 : (szE a 1 0).2 = 0 := by have := h5.2.1; rwa [q] at this
      rw [e, e2]
      rfl
    · rw [if_neg q]
      have e : wantF 0 (a.wd == 0 || a.wd == 1) 91 = 91 := by
        have h0 := h5.1
        simp [wantF, q, h0]
      rw [e, szE_ne a 1 (by decide), szE_ne (numT 1) 5 (by decide), szE_ne (numT 0) 5 (by decide)]
  have e1 : (condT g a (numT 1) (numT 0)).sz ≤ 60000 := by rw [condT, sz1]; simp [ET.szL, numT, sz1]; omega
  have e2 : (condT g a (numT 1) (numT 0)).dp ≤ 64 := by rw [condT, dp1]; simp [ET.dpL, numT, dp1]; omega
  have := tells_of h1 (may_cond h2 (may_num gl 1) (may_num gl 0) g) e1 e2 (Or.inr (by decide)) hF
  rwa [hu] at this
end
theorem bin_meas {a b : ET} (hs : a.sz ≤ 1000) (hd : a.dp ≤ 60) (hs' : b.sz ≤ 1000) (hd' : b.dp ≤ 60) (xn : Int) (g : Nat) : (binT xn g a b).sz ≤ 60000 ∧ (binT xn g a b).dp ≤ 64 := by
  rw [binT, sz1, dp1]; simp [ET.szL, ET.dpL]; omega
section
variable {gl : List GT} {a b : ET} (h : checkES gl a = 0) (hs : a.sz ≤ 1000) (hd : a.dp ≤ 60) (h' : checkES gl b = 0) (hs' : b.sz ≤ 1000) (hd' : b.dp ≤ 60)
include h hs hd h' hs' hd'
/-- A sum: both as wide. -/
theorem bin_sum (g : Nat) : ∃ F, Tells gl (binT 14 g a b) 0 F a.wd ∧ (F = 0 ↔ a.wd = b.wd) := by
  obtain ⟨h1, h2, h3, h4, h5⟩ := ck_szd h
  obtain ⟨_, k2, k3, k4, k5⟩ := ck_szd h'
  have ho := szd_ow gl a h2 h5
  have hob := szd_ow gl b k2 k5
  have how : ow (binT 14 g a b) = a.wd := by rw [binT, ow]; simp [owF, owO, owL, ho, eith_ne h5.1]
  have hu : uW (binT 14 g a b) 0 = a.wd := by unfold uW; rw [if_pos rfl, how, orU, if_neg h5.1]
  refine ⟨(szE (binT 14 g a b) 0 0).2, ?_, ?_⟩
  · have := tells_of h1 (may_bin h2 k2 14 ⟨by decide, by decide⟩ g) (bin_meas hs hd hs' hd' 14 g).1 (bin_meas hs hd hs' hd' 14 g).2 (Or.inl rfl) rfl
    rwa [hu] at this
  · have hu2 := hu
    unfold binT at hu2 how ⊢
    rw [szE_zero hu2, how]
    constructor
    · rintro ⟨_, hp, _⟩
      have hq := hp 1 (by simp)
      rw [show insF 5 14 a.wd (owL [a, b]) 1 = (false, a.wd) by simp [insF]] at hq
      exact szd_only gl b k2 k5 a.wd h5.1 hq.2
    · intro e
      refine ⟨by simp [preF], fun j hj => ?_, fun q => absurd q (by decide)⟩
      have hj2 : j = 0 ∨ j = 1 := by simp at hj; omega
      rw [show insF 5 14 a.wd (owL [a, b]) j = (false, a.wd) by simp [insF]]
      rcases hj2 with rfl | rfl
      · exact ⟨fun q => Bool.noConfusion (show false = true from q), h5.2.1⟩
      · refine ⟨fun q => Bool.noConfusion (show false = true from q), ?_⟩
        show (szE b a.wd 0).2 = 0
        rw [e]; exact k5.2.1
/-- A comparison: both as wide; one bit. -/
theorem bin_cmp (g : Nat) : ∃ F, Tells gl (binT 21 g a b) 0 F 1 ∧ (F = 0 ↔ a.wd = b.wd) := by
  obtain ⟨h1, h2, h3, h4, h5⟩ := ck_szd h
  obtain ⟨_, k2, k3, k4, k5⟩ := ck_szd h'
  have ho := szd_ow gl a h2 h5
  have how : ow (binT 21 g a b) = 1 := by rw [binT, ow]; simp [owF, owO]
  have hu : uW (binT 21 g a b) 0 = 1 := by unfold uW; rw [if_pos rfl, how]; rfl
  refine ⟨(szE (binT 21 g a b) 0 0).2, ?_, ?_⟩
  · have := tells_of h1 (may_bin h2 k2 21 ⟨by decide, by decide⟩ g) (bin_meas hs hd hs' hd' 21 g).1 (bin_meas hs hd hs' hd' 21 g).2 (Or.inl rfl) rfl
    rwa [hu] at this
  · have hu2 := hu
    unfold binT at hu2 how ⊢
    rw [szE_zero hu2, how]
    have hi : ∀ j, insF 5 21 1 (owL [a, b]) j = (false, a.wd) := fun j => by simp [insF, owL, ho, eith_ne h5.1, orU, h5.1]
    constructor
    · rintro ⟨_, hp, _⟩
      have hq := hp 1 (by simp)
      rw [hi] at hq
      exact szd_only gl b k2 k5 a.wd h5.1 hq.2
    · intro e
      refine ⟨by simp [preF, wantF], fun j hj => ?_, fun q => absurd q (by decide)⟩
      have hj2 : j = 0 ∨ j = 1 := by simp at hj; omega
      rw [hi]
      rcases hj2 with rfl | rfl
      · exact ⟨fun q => Bool.noConfusion (show false = true from q), h5.2.1⟩
      · refine ⟨fun q => Bool.noConfusion (show false = true from q), ?_⟩
        show (szE b a.wd 0).2 = 0
        rw [e]; exact k5.2.1
/-- A shift: always, as wide as the first one. -/
theorem bin_shl (g : Nat) : Tells gl (binT 17 g a b) 0 0 a.wd := by
  obtain ⟨h1, h2, h3, h4, h5⟩ := ck_szd h
  obtain ⟨_, k2, k3, k4, k5⟩ := ck_szd h'
  have ho := szd_ow gl a h2 h5
  have how : ow (binT 17 g a b) = a.wd := by rw [binT, ow]; simp [owF, owO, owL, ho]
  have hu : uW (binT 17 g a b) 0 = a.wd := by unfold uW; rw [if_pos rfl, how, orU, if_neg h5.1]
  have hF : (szE (binT 17 g a b) 0 0).2 = 0 := by
    have hu2 := hu
    unfold binT at hu2 how ⊢
    rw [szE_zero hu2, how]
    refine ⟨by simp [preF], fun j hj => ?_, fun q => absurd q (by decide)⟩
    have hj2 : j = 0 ∨ j = 1 := by simp at hj; omega
    rcases hj2 with rfl | rfl
    · rw [show insF 5 17 a.wd (owL [a, b]) 0 = (false, a.wd) by simp [insF]]
      exact ⟨fun q => Bool.noConfusion (show false = true from q), h5.2.1⟩
    · rw [show insF 5 17 a.wd (owL [a, b]) 1 = (false, 0) by simp [insF]]
      refine ⟨fun q => Bool.noConfusion (show false = true from q), ?_⟩
      show (szE b 0 0).2 = 0
      rw [k5.at gl k2]; exact k5.2.1
  have := tells_of h1 (may_bin h2 k2 17 ⟨by decide, by decide⟩ g) (bin_meas hs hd hs' hd' 17 g).1 (bin_meas hs hd hs' hd' 17 g).2 (Or.inl rfl) hF
  rwa [hu] at this
end
end Go.Proofs.YtbcgeglkmpcnpaaDoor
