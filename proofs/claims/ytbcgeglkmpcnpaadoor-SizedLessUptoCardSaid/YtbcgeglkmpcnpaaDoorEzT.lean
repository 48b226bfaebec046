/-
  sized: trees that are sized: they are as wide as they say, and no other width is right. No program.
-/
import Derived.Test.YtbcgeglkmpcnpaaDoorEzQ
namespace Go.Proofs.YtbcgeglkmpcnpaaDoor
open Go Go.RowKit
set_option linter.unusedVariables false
set_option linter.unusedSimpArgs false

theorem orU_ne (p : Int) : orU p ≠ 0 := by unfold orU; split <;> omega
theorem uW_ne (x : ET) (w0 : Int) : uW x w0 ≠ 0 := by
  unfold uW
  split
  · exact orU_ne _
  · assumption
theorem uW_of (x : ET) {w0 : Int} (h : w0 ≠ 0) : uW x w0 = w0 := by unfold uW; rw [if_neg h]
theorem szE_at (x : ET) (w0 f : Int) : szE x w0 f = szE x (uW x w0) f := szE_to x w0 f (uW_ne x w0)
theorem may_len {gl : List GT} {op wd : Int} {v : Nat} {sg uh ul xn : Int} {xa : Option Addr} {xc : Nat} {xl : List ET} (h : mayE gl (.mk op wd v sg uh ul xn xa xc xl) = true) : (op = 1 ∨ op = 2 → xl.length = 0) ∧ (op = 3 ∨ op = 8 → xl.length = 1) ∧ (op = 4 → xl.length = 1 ∧ 1 ≤ xn ∧ xn ≤ 6) ∧ (op = 5 → xl.length = 2 ∧ 11 ≤ xn ∧ xn ≤ 26) ∧ (op = 6 → xl.length = 3) ∧ (op = 7 → 1 ≤ xl.length) ∧ (op = 8 → 31 ≤ xn ∧ xn ≤ 33) := by
  obtain ⟨hop, f2, f3, f4, f5, f6, f7⟩ := may_facts h
  refine ⟨?_, ?_, ?_, ?_, ?_, ?_, ?_⟩
  · rintro (rfl | rfl) <;> (have h9 := f6; simp [countP, ke] at h9; simp [h9])
  · rintro (rfl | rfl) <;> (have h9 := f6; simp [countP, ke] at h9; omega)
  · rintro rfl; have h9 := f6; simp [countP, ke] at h9 f4 f5; omega
  · rintro rfl; have h9 := f6; simp [countP, ke] at h9 f4 f5; omega
  · rintro rfl; have h9 := f6; simp [countP, ke] at h9; omega
  · rintro rfl; have h9 := f6; simp [countP, ke] at h9; omega
  · rintro rfl; simp [ke] at f4 f5; omega
/-- Is a tree sized: all in it as wide as it should be? -/
def Szd (x : ET) : Prop := x.wd ≠ 0 ∧ (szE x x.wd 0).2 = 0 ∧ nrmE (szE x x.wd 0).1 = nrmE x
theorem nrmEL_getEq {l m : List ET} (h : nrmEL l = nrmEL m) (j : Nat) (h1 : j < l.length) (h2 : j < m.length) : nrmE l[j] = nrmE m[j] := by
  have e : (nrmEL l)[j]? = (nrmEL m)[j]? := by rw [h]
  rw [nrmEL_map, nrmEL_map, List.getElem?_map, List.getElem?_map] at e
  simpa [h1, h2] using e
theorem Szd.parts {op wd : Int} {v : Nat} {sg uh ul xn : Int} {xa : Option Addr} {xc : Nat} {xl : List ET} (h : Szd (.mk op wd v sg uh ul xn xa xc xl)) : preF op xn (ow (.mk op wd v sg uh ul xn xa xc xl)) wd v 0 = 0 ∧ (∀ j (h : j < xl.length), OkI xl[j] (insF op xn wd (owL xl) j) ∧ Szd xl[j] ∧ xl[j].wd = uW xl[j] (wI (insF op xn wd (owL xl) j))) ∧ (op = 8 → extB xn (((szL xl 0 (insF op xn wd (owL xl)) 0).1.map ET.wd).getD 0 0) wd = true) := by
  obtain ⟨h1, h2, h3⟩ := h
  have hw : wd ≠ 0 := h1
  have hu : uW (.mk op wd v sg uh ul xn xa xc xl) wd = wd := uW_of _ hw
  have h2' := (szE_zero hu).1 h2
  refine ⟨h2'.1, fun j hj => ?_, h2'.2.2⟩
  have hk := h2'.2.1 j hj
  have h4 : nrmEL (szL xl 0 (insF op xn wd (owL xl)) 0).1 = nrmEL xl := by
    have h5 := h3
    change nrmE (szE (.mk op wd v sg uh ul xn xa xc xl) wd 0).1 = _ at h5
    rw [szE_mk, hu] at h5
    simp only [nrmE, ET.mk.injEq, true_and] at h5
    rw [szL_fst xl 0 _ _ 0] at h5
    exact h5
  have hlen : j < (szL xl 0 (insF op xn wd (owL xl)) 0).1.length := by rw [szL_len]; exact hj
  have h5 := nrmEL_getEq h4 j hlen hj
  rw [szL_get xl 0 _ 0 j hj hlen, Nat.zero_add] at h5
  have h6 := same_wd h5
  rw [szE_wd] at h6
  refine ⟨hk, ⟨?_, ?_, ?_⟩, h6.symm⟩
  · rw [← h6]; exact uW_ne _ _
  · rw [← h6, ← szE_at]; exact hk.2
  · rw [← h6, ← szE_at]; exact h5
theorem eith_ne {a b : Int} (h : a ≠ 0) : eith a b = a := by unfold eith; rw [if_neg h]
theorem owE (op wd : Int) (v : Nat) (sg uh ul xn : Int) (xa : Option Addr) (xc : Nat) (xl : List ET) : ow (.mk op wd v sg uh ul xn xa xc xl) = owF op wd uh ul xn (owL xl) := by rw [ow]
theorem wI_w (w : Int) : wI (false, w) = w := rfl
theorem szd_ow (gl : List GT) : ∀ x : ET, mayE gl x = true → Szd x → ow x = x.wd := by
  refine ET.ind ?_
  intro op wd v sg uh ul xn xa xc xl ih hm hs
  obtain ⟨l1, l2, l4, l5, l6, l7, l8⟩ := may_len hm
  obtain ⟨hop, f2, f3, f4, f5, f6, f7⟩ := may_facts hm
  have hw : wd ≠ 0 := hs.1
  obtain ⟨hpre, hpt, hext⟩ := hs.parts
  have hp : ∀ j (h : j < xl.length), ow xl[j] = uW xl[j] (wI (insF op xn wd (owL xl) j)) := fun j hj => by
    rw [← (hpt j hj).2.2]; exact ih _ (List.getElem_mem hj) (f7 _ (List.getElem_mem hj)) (hpt j hj).2.1
  change ow _ = wd
  have hopp : op = 1 ∨ op = 2 ∨ op = 3 ∨ op = 4 ∨ op = 5 ∨ op = 6 ∨ op = 7 ∨ op = 8 := by omega
  have hfst : ∀ j (h : j < xl.length), insF op xn wd (owL xl) j = (false, wd) → (owL xl).getD j 0 = wd := fun j hj hi => by
    rw [owL_get xl j hj, hp j hj, hi, wI_w, uW_of _ hw]
  rcases hopp with rfl | rfl | rfl | rfl | rfl | rfl | rfl | rfl
  · simp [owE, owF]
  · have h9 := hpre
    simp only [preF, show ¬ ((2:Int) = 1) by decide, show ¬ ((2:Int) = 4 ∨ (2:Int) = 5) by decide, show ¬ ((2:Int) = 7) by decide, if_false, true_or, if_true] at h9
    rw [wantF_zero (by decide)] at h9
    simpa using h9.2
  · have h9 := hpre
    simp only [preF, show ¬ ((3:Int) = 1) by decide, show ¬ ((3:Int) = 4 ∨ (3:Int) = 5) by decide, show ¬ ((3:Int) = 7) by decide, if_false, true_or, or_true, if_true] at h9
    rw [wantF_zero (by decide)] at h9
    simpa using h9.2
  · obtain ⟨hl, ha, hb⟩ := l4 rfl
    rw [owE]
    by_cases h12 : xn = 1 ∨ xn = 2
    · have h9 := hfst 0 (by omega) (by simp [insF, h12]; rcases h12 with h | h <;> simp [h])
      simp only [owF, owO, show ¬ ((4:Int) = 1 ∨ (4:Int) = 8) by decide, show ¬ ((4:Int) = 2) by decide, if_false, true_or, if_true]
      rw [if_pos (by omega)]; exact h9
    · have h9 := hpre
      simp only [preF, show ¬ ((4:Int) = 1) by decide, if_false, true_or, if_true] at h9
      rw [if_neg (by omega), wantF_zero (by decide)] at h9
      have h8 : wd = 1 := by simpa using h9.2
      simp only [owF, owO, show ¬ ((4:Int) = 1 ∨ (4:Int) = 8) by decide, show ¬ ((4:Int) = 2) by decide, if_false, true_or, if_true]
      rw [if_neg (by omega), if_neg (by omega), h8]
  · obtain ⟨hl, ha, hb⟩ := l5 rfl
    rw [owE]
    by_cases h12 : xn ≤ 18
    · have hi : insF 5 xn wd (owL xl) 0 = (false, wd) := by
        simp only [insF, show ¬ ((5:Int) = 6) by decide, if_false, or_true, if_true]
        by_cases h : xn ≤ 16
        · rw [if_pos (by omega)]
        · rw [if_neg (by omega), if_pos (by omega)]
      have h9 := hfst 0 (by omega) hi
      simp only [owF, owO, show ¬ ((5:Int) = 1 ∨ (5:Int) = 8) by decide, show ¬ ((5:Int) = 2) by decide, if_false, or_true, if_true]
      by_cases h : xn ≤ 16
      · rw [if_neg (by omega), if_pos (by omega), h9, eith_ne hw]
      · rw [if_pos (by omega), h9]
    · have h9 := hpre
      simp only [preF, show ¬ ((5:Int) = 1) by decide, if_false, or_true, if_true] at h9
      rw [if_neg (by omega), wantF_zero (by decide)] at h9
      have h8 : wd = 1 := by simpa using h9.2
      simp only [owF, owO, show ¬ ((5:Int) = 1 ∨ (5:Int) = 8) by decide, show ¬ ((5:Int) = 2) by decide, if_false, or_true, if_true]
      rw [if_neg (by omega), if_neg (by omega), h8]
  · have hl := l6 rfl
    have h9 := hfst 1 (by omega) (by simp [insF])
    rw [owE]
    simp only [owF, show ¬ ((6:Int) = 1 ∨ (6:Int) = 8) by decide, show ¬ ((6:Int) = 2) by decide, show ¬ ((6:Int) = 4 ∨ (6:Int) = 5) by decide, if_false, if_true]
    rw [h9, eith_ne hw]
  · have h9 := hpre
    simp only [preF, show ¬ ((7:Int) = 1) by decide, show ¬ ((7:Int) = 4 ∨ (7:Int) = 5) by decide, if_false, if_true] at h9
    rw [wantF_zero (by decide)] at h9
    simpa using h9.2
  · simp [owE, owF]
/-- A tree that is sized is right at no other width. -/
theorem szd_only (gl : List GT) : ∀ x : ET, mayE gl x = true → Szd x → ∀ w : Int, w ≠ 0 → (szE x w 0).2 = 0 → w = x.wd := by
  refine ET.ind ?_
  intro op wd v sg uh ul xn xa xc xl ih hm hs w hw0 hz
  have how := szd_ow gl _ hm hs
  change ow _ = wd at how
  obtain ⟨l1, l2, l4, l5, l6, l7, l8⟩ := may_len hm
  obtain ⟨hop, f2, f3, f4, f5, f6, f7⟩ := may_facts hm
  have hw : wd ≠ 0 := hs.1
  obtain ⟨hpre, hpt, hext⟩ := hs.parts
  obtain ⟨zpre, zpt, zext⟩ := (szE_zero (uW_of _ hw0)).1 hz
  rw [how] at hpre zpre
  change w = wd
  have hopp : op = 1 ∨ op = 2 ∨ op = 3 ∨ op = 4 ∨ op = 5 ∨ op = 6 ∨ op = 7 ∨ op = 8 := by omega
  have hfst : ∀ j (h : j < xl.length), insF op xn wd (owL xl) j = (false, wd) → insF op xn w (owL xl) j = (false, w) → w = wd := fun j hj hi hi2 => by
    have a1 := zpt j hj
    rw [hi2] at a1
    have a2 := (hpt j hj).2.2
    rw [hi, wI_w, uW_of _ hw] at a2
    rw [← a2]
    exact ih _ (List.getElem_mem hj) (f7 _ (List.getElem_mem hj)) (hpt j hj).2.1 w hw0 a1.2
  rcases hopp with rfl | rfl | rfl | rfl | rfl | rfl | rfl | rfl
  · have h9 := zpre
    simp only [preF, if_true] at h9
    rw [wantF_zero (by decide), wantF_zero (by decide)] at h9
    have h8 := h9.1.2
    simp only [Bool.or_eq_true, beq_iff_eq] at h8
    omega
  · have h9 := zpre
    simp only [preF, show ¬ ((2:Int) = 1) by decide, show ¬ ((2:Int) = 4 ∨ (2:Int) = 5) by decide, show ¬ ((2:Int) = 7) by decide, if_false, true_or, if_true] at h9
    rw [wantF_zero (by decide)] at h9
    have h8 : wd = w := by simpa using h9.2
    exact h8.symm
  · have h9 := zpre
    simp only [preF, show ¬ ((3:Int) = 1) by decide, show ¬ ((3:Int) = 4 ∨ (3:Int) = 5) by decide, show ¬ ((3:Int) = 7) by decide, if_false, true_or, or_true, if_true] at h9
    rw [wantF_zero (by decide)] at h9
    have h8 : wd = w := by simpa using h9.2
    exact h8.symm
  · obtain ⟨hl, ha, hb⟩ := l4 rfl
    by_cases h12 : xn = 1 ∨ xn = 2
    · exact hfst 0 (by omega) (by rcases h12 with h | h <;> simp [insF, h]) (by rcases h12 with h | h <;> simp [insF, h])
    · have h9 := hpre
      have h7 := zpre
      simp only [preF, show ¬ ((4:Int) = 1) by decide, if_false, true_or, if_true] at h9 h7
      rw [if_neg (by omega), wantF_zero (by decide)] at h9 h7
      have h8 : wd = 1 := by simpa using h9.2
      have h6 : w = 1 := by simpa using h7.2
      omega
  · obtain ⟨hl, ha, hb⟩ := l5 rfl
    by_cases h12 : xn ≤ 18
    · have hi : ∀ w, insF 5 xn w (owL xl) 0 = (false, w) := fun w => by
        simp only [insF, show ¬ ((5:Int) = 6) by decide, if_false, or_true, if_true]
        by_cases h : xn ≤ 16
        · rw [if_pos (by omega)]
        · rw [if_neg (by omega), if_pos (by omega)]
      exact hfst 0 (by omega) (hi _) (hi _)
    · have h9 := hpre
      have h7 := zpre
      simp only [preF, show ¬ ((5:Int) = 1) by decide, if_false, or_true, if_true] at h9 h7
      rw [if_neg (by omega), wantF_zero (by decide)] at h9 h7
      have h8 : wd = 1 := by simpa using h9.2
      have h6 : w = 1 := by simpa using h7.2
      omega
  · have hl := l6 rfl
    exact hfst 1 (by omega) (by simp [insF]) (by simp [insF])
  · have h9 := zpre
    simp only [preF, show ¬ ((7:Int) = 1) by decide, show ¬ ((7:Int) = 4 ∨ (7:Int) = 5) by decide, if_false, if_true] at h9
    rw [wantF_zero (by decide)] at h9
    have h8 : wd = w := by simpa using h9.2
    exact h8.symm
  · have h9 := zpre
    simp only [preF, show ¬ ((8:Int) = 1) by decide, show ¬ ((8:Int) = 4 ∨ (8:Int) = 5) by decide, show ¬ ((8:Int) = 7) by decide, if_false, or_true, if_true] at h9
    rw [wantF_zero (by decide)] at h9
    have h8 : wd = w := by simpa using h9.2
    exact h8.symm
theorem Szd.at {x : ET} (gl : List GT) (hm : mayE gl x = true) (h : Szd x) : szE x 0 0 = szE x x.wd 0 := by
  rw [szE_at x 0 0]
  unfold uW
  rw [if_pos rfl, szd_ow gl x hm h]
  unfold orU
  rw [if_neg h.1]
end Go.Proofs.YtbcgeglkmpcnpaaDoor
