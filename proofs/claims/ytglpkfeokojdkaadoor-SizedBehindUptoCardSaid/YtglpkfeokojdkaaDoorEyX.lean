/-
  One expression behind the other; an expression made wider, or cut. No program.
-/
import Derived.Test.YtglpkfeokojdkaaDoorEyV
import Derived.Test.YtglpkfeokojdkaaDoorEyS
namespace Go.Proofs.YtglpkfeokojdkaaDoor
open Go
set_option linter.unusedVariables false
set_option linter.unusedSimpArgs false

def catT (g : Nat) (a b : ET) : ET := .mk 7 0 0 0 0 0 0 (some ⟨g, 0, none⟩) 2 [a, b]
def catW (a b : ET) : ET := .mk 7 (a.wd + b.wd) 0 0 0 0 0 none 0 [a, b]
def extT (xn w : Int) (g : Nat) (a : ET) : ET := .mk 8 w 0 0 0 0 xn (some ⟨g, 0, none⟩) 1 [a]
theorem may_cat {gl : List GT} {a b : ET} (h : mayE gl a = true) (h' : mayE gl b = true) (g : Nat) : mayE gl (catT g a b) = true := by
  rw [catT, mayE, mayEL, mayEL, mayEL, h, h']; rfl
theorem may_ext {gl : List GT} {a : ET} (h : mayE gl a = true) {xn w : Int} (hx : 31 ≤ xn ∧ xn ≤ 33) (hw : isW w = true) (g : Nat) : mayE gl (extT xn w g a) = true := by
  rw [extT, mayE, mayEL, mayEL, h]
  have h1 : decide ((ke (8 : Int).toNat).2.2.1 ≤ xn) = true := by rw [decide_eq_true_eq]; exact hx.1
  have h2 : decide (xn ≤ (ke (8 : Int).toNat).2.2.2) = true := by rw [decide_eq_true_eq]; exact hx.2
  have h3 : numFits 8 w 0 = true := by unfold numFits; simp [hw]
  rw [h1, h2, h3]; rfl
theorem cat_nrm (g g' : Nat) (a b : ET) : nrmE (catT g a b) = nrmE (catT g' a b) := rfl
theorem ext_nrm (xn w : Int) (g g' : Nat) (a : ET) : nrmE (extT xn w g a) = nrmE (extT xn w g' a) := rfl
section
variable {gl : List GT} {a b : ET} (h : checkES gl a = 0) (hs : a.sz ≤ 1000) (hd : a.dp ≤ 60)
include h hs hd
theorem cat_fits (h' : checkES gl b = 0) (hs' : b.sz ≤ 1000) (hd' : b.dp ≤ 60) : ∃ F, (∀ g, (exprS gl (catT g a b) 0).2 = F ∧ (F = 0 → nrmE (exprS gl (catT g a b) 0).1 = nrmE (catW a b))) ∧ (F = 0 ↔ a.wd + b.wd ≤ 64) := by
  obtain ⟨h1, h2, h3, h4, h5⟩ := ck_szd h
  obtain ⟨_, k2, k3, k4, k5⟩ := ck_szd h'
  have ho := szd_ow gl a h2 h5
  have hob := szd_ow gl b k2 k5
  have wa := isW_le h4
  have wb := isW_le k4
  have hsu : sumW 0 (owL [a, b]) = a.wd + b.wd := by
    simp only [owL, sumW, ho, hob]
    rw [if_neg h5.1, if_neg k5.1]; omega
  have how : ∀ g, ow (catT g a b) = a.wd + b.wd := fun g => by rw [catT, ow]; unfold owF; rw [if_neg (by decide), if_neg (by decide), if_neg (by decide), if_neg (by decide), if_pos rfl, hsu]
  have hne : a.wd + b.wd ≠ 0 := by omega
  have hu : ∀ g, uW (catT g a b) 0 = a.wd + b.wd := fun g => by unfold uW; rw [if_pos rfl, how, orU_nz hne]
  have hzz : ∀ g, (szE (catT g a b) 0 0).2 = 0 ↔ a.wd + b.wd ≤ 64 := fun g => by
    have hu2 := hu g
    have how2 := how g
    unfold catT at hu2 how2 ⊢
    rw [szE_zero hu2, how2]
    have hp0 : preF 7 0 (a.wd + b.wd) (a.wd + b.wd) 0 0 = 0 ↔ a.wd + b.wd ≤ 64 := by
      simp only [preF, show ¬ ((7:Int) = 1) by decide, show ¬ ((7:Int) = 4 ∨ (7:Int) = 5) by decide, if_false, if_true]
      rw [wantF_zero (by decide), wantF_zero (by decide)]
      simp
    constructor
    · rintro ⟨q, _, _⟩; exact hp0.1 q
    · intro q
      refine ⟨hp0.2 q, fun j hj => ?_, fun q => absurd q (by decide)⟩
      rw [show insF 7 0 (a.wd + b.wd) (owL [a, b]) j = (false, 0) by simp [insF]]
      have hj2 : j = 0 ∨ j = 1 := by simp at hj; omega
      rcases hj2 with rfl | rfl
      · refine ⟨fun q => Bool.noConfusion (show false = true from q), ?_⟩
        show (szE a 0 0).2 = 0
        rw [h5.at gl h2]; exact h5.2.1
      · refine ⟨fun q => Bool.noConfusion (show false = true from q), ?_⟩
        show (szE b 0 0).2 = 0
        rw [k5.at gl k2]; exact k5.2.1
  have hme : ∀ g, (catT g a b).sz ≤ 60000 ∧ (catT g a b).dp ≤ 64 := fun g => by
    rw [catT, sz1, dp1]; simp [ET.szL, ET.dpL]; omega
  have hex := fun g => exprS_may h1 (may_cat h2 k2 g) (hme g).1 (hme g).2 (Or.inl (rfl : (0:Int) = 0))
  have hcl : ∀ g, nrmE (szE (catT g a b) 0 0).1 = nrmE (catW a b) := fun g => by
    have hu2 := hu g
    unfold catT at hu2 ⊢
    unfold catW
    rw [szE_mk, hu2]
    simp only [nrmE]
    rw [szL_fst _ 0 _ _ 0, szL2]
    have e : ∀ j, insF 7 0 (a.wd + b.wd) (owL [a, b]) j = (false, 0) := fun j => by simp [insF]
    rw [e, e, szI_w, szI_w, h5.at gl h2]
    simp only [nrmEL]
    rw [h5.2.2, szE_fst b 0 _ 0, k5.at gl k2, k5.2.2]
  have hall : ∀ g, (exprS gl (catT g a b) 0).2 = (exprS gl (catT 0 a b) 0).2 := fun g => by
    rw [← (exprS_nrm gl (catT g a b) 0).1, ← (exprS_nrm gl (catT 0 a b) 0).1, cat_nrm g 0]
  have hF0 : ∀ g, (exprS gl (catT g a b) 0).2 = 0 ↔ (szE (catT g a b) 0 0).2 = 0 := fun g => by
    rw [hex g]
    by_cases q : (szE (catT g a b) 0 0).2 = 0
    · rw [if_pos q, q]
    · rw [if_neg q]
  refine ⟨(exprS gl (catT 0 a b) 0).2, fun g => ⟨hall g, fun q => ?_⟩, (hF0 0).trans (hzz 0)⟩
  have q2 := (hF0 g).1 ((hall g).trans q)
  rw [hex g, if_pos q2]
  exact hcl g
theorem ext_fits {xn w : Int} (hx : xn = 32 ∨ xn = 33) (hw : isW w = true) : ∃ F, (∀ g, Tells gl (extT xn w g a) 0 F w) ∧ (F = 0 ↔ if xn = 33 then w ≤ a.wd else a.wd ≤ w) := by
  obtain ⟨h1, h2, h3, h4, h5⟩ := ck_szd h
  have how : ∀ g, ow (extT xn w g a) = w := fun g => by rw [extT, ow]; unfold owF; rw [if_pos (Or.inr rfl)]
  have hu : ∀ g, uW (extT xn w g a) 0 = w := fun g => by unfold uW; rw [if_pos rfl, how, orU_nz (isW_ne hw)]
  have hzz : ∀ g, (szE (extT xn w g a) 0 0).2 = 0 ↔ if xn = 33 then w ≤ a.wd else a.wd ≤ w := fun g => by
    have hu2 := hu g
    have how2 := how g
    unfold extT at hu2 how2 ⊢
    rw [szE_zero hu2, how2]
    have hp0 : preF 8 xn w w 0 0 = 0 := by
      simp only [preF, show ¬ ((8:Int) = 1) by decide, show ¬ ((8:Int) = 4 ∨ (8:Int) = 5) by decide, show ¬ ((8:Int) = 7) by decide, if_false, or_true, if_true]
      rw [wantF_zero (by decide)]; simp
    have hf : ((szL [a] 0 (insF 8 xn w (owL [a])) 0).1.map ET.wd).getD 0 0 = a.wd := by
      have e : insF 8 xn w (owL [a]) 0 = (false, 0) := by simp [insF]
      rw [szL1, e, szI_w, h5.at gl h2]
      show (szE a a.wd 0).1.wd = a.wd
      exact same_wd h5.2.2
    rw [hf]
    have hb : extB xn a.wd w = true ↔ if xn = 33 then w ≤ a.wd else a.wd ≤ w := by
      unfold extB
      by_cases q : xn = 33
      · rw [if_pos q, if_pos q]; simp
      · rw [if_neg q, if_neg q]; simp
    rw [hb]
    constructor
    · rintro ⟨_, _, q⟩; exact q rfl
    · intro q
      refine ⟨hp0, fun j hj => ?_, fun _ => q⟩
      have hj2 : j = 0 := by simp at hj; omega
      subst hj2
      rw [show insF 8 xn w (owL [a]) 0 = (false, 0) by simp [insF]]
      refine ⟨fun q => Bool.noConfusion (show false = true from q), ?_⟩
      show (szE a 0 0).2 = 0
      rw [h5.at gl h2]; exact h5.2.1
  have hme : ∀ g, (extT xn w g a).sz ≤ 60000 ∧ (extT xn w g a).dp ≤ 64 := fun g => by
    rw [extT, sz1, dp1]; simp [ET.szL, ET.dpL]; omega
  have ht : ∀ g, Tells gl (extT xn w g a) 0 (szE (extT xn w g a) 0 0).2 w := fun g => by
    have := tells_of h1 (may_ext h2 (by omega) hw g) (hme g).1 (hme g).2 (Or.inl rfl) rfl
    rwa [hu] at this
  exact ⟨(szE (extT xn w 0 a) 0 0).2, fun g => tells_same (ht 0) (ext_nrm xn w 0 g a), hzz 0⟩
end
end Go.Proofs.YtglpkfeokojdkaaDoor
