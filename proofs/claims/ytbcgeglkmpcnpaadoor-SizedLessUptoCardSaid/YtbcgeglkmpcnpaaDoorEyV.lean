/-
  What is sized is sized: sized again, it is the same.
-/
import Derived.Test.YtbcgeglkmpcnpaaDoorEyR
namespace Go.Proofs.YtbcgeglkmpcnpaaDoor
open Go
set_option linter.unusedVariables false
set_option linter.unusedSimpArgs false

theorem orU_z : orU 0 = 32 := by decide
theorem orU_nz {w : Int} (h : w ≠ 0) : orU w = w := by unfold orU; rw [if_neg h]
theorem isW_ne {w : Int} (h : isW w = true) : w ≠ 0 := by have := isW_le h; omega
theorem isW_of {w : Int} (h : 1 ≤ w) (h2 : w ≤ 64) : isW w = true := by unfold isW; simp [h, h2]
theorem eith_z (b : Int) : eith 0 b = b := by unfold eith; rw [if_pos rfl]
/-- What a part is sized to follows from its own width, or is a width. -/
def WOk (x : ET) (w : Int) : Prop := w = 0 ∨ w = ow x ∨ isW w = true
/-- What is told of a part. -/
def Done (gl : List GT) (x : ET) (w : Int) : Prop := isW (uW x w) = true ∧ mayE gl (szE x w 0).1 = true ∧ Szd (szE x w 0).1
theorem sumW_ne : ∀ (l : List ET) (s : Int), sumW s (owL l) ≠ 0 → ∀ x ∈ l, ow x ≠ 0
  | [], _, _, x, hx => by cases hx
  | y :: r, s, h, x, hx => by
    rw [owL, sumW] at h
    by_cases q : ow y = 0
    · rw [if_pos q] at h; exact absurd rfl h
    · rw [if_neg q] at h
      rcases List.mem_cons.1 hx with rfl | hr
      · exact q
      · exact sumW_ne r _ h x hr
theorem owL_of_get (l m : List ET) (h : l.length = m.length) (he : ∀ j (h1 : j < l.length) (h2 : j < m.length), ow l[j] = ow m[j]) : owL l = owL m := by
  rw [owL_map, owL_map]
  refine List.ext_getElem (by simp [h]) fun j h1 h2 => ?_
  simp only [List.getElem_map]
  exact he j (by simpa using h1) (by simpa using h2)
theorem nrmEL_of_get (l m : List ET) (h : l.length = m.length) (he : ∀ j (h1 : j < l.length) (h2 : j < m.length), nrmE l[j] = nrmE m[j]) : nrmEL l = nrmEL m := by
  rw [nrmEL_map, nrmEL_map]
  refine List.ext_getElem (by simp [h]) fun j h1 h2 => ?_
  simp only [List.getElem_map]
  exact he j (by simpa using h1) (by simpa using h2)
/-- The parts of a tree that is sized, each by what it is sized to. -/
theorem sized_parts {gl : List GT} {xl : List ET} {I J : Nat → Bool × Int} {F G : Int} (hD : ∀ j (h : j < xl.length), Done gl xl[j] (wI (I j))) (hI : ∀ j, j < xl.length → J j = I j) :
    (∀ j (h : j < (szL xl 0 I F).1.length), OkI (szL xl 0 I F).1[j] (J j)) ∧ nrmEL (szL (szL xl 0 I F).1 0 J G).1 = nrmEL (szL xl 0 I F).1 := by
  have hk : ∀ j (h : j < (szL xl 0 I F).1.length), (szE (szL xl 0 I F).1[j] (wI (J j)) 0).2 = 0 ∧ nrmE (szE (szL xl 0 I F).1[j] (wI (J j)) 0).1 = nrmE (szL xl 0 I F).1[j] ∧ ow (szL xl 0 I F).1[j] = uW (xl[j]'(by rw [szL_len] at h; exact h)) (wI (I j)) := fun j h => by
    have hj : j < xl.length := by rw [szL_len] at h; exact h
    obtain ⟨d1, d2, d3⟩ := hD j hj
    have e := szL_get xl 0 I F j hj h
    rw [Nat.zero_add] at e
    rw [e, hI j hj]
    generalize hw : wI (I j) = w at d1 d2 d3 ⊢
    have h1 : (szE xl[j] w 0).1.wd = uW xl[j] w := szE_wd _ _ _
    have h2 := szd_ow gl _ d2 d3
    rw [h1] at h2
    have h3 : szE (szE xl[j] w 0).1 w 0 = szE (szE xl[j] w 0).1 (szE xl[j] w 0).1.wd 0 := by
      by_cases q : w = 0
      · rw [q]; rw [q] at d2 d3; exact d3.at gl d2
      · rw [h1, uW_of _ q]
    rw [h3]
    exact ⟨d3.2.1, d3.2.2, h2⟩
  refine ⟨fun j h => ⟨fun hi => ?_, (hk j h).1⟩, ?_⟩
  · have hj : j < xl.length := by rw [szL_len] at h; exact h
    rw [(hk j h).2.2]
    rw [hI j hj] at hi
    right
    unfold wI; rw [if_pos hi, uW_of _ (by decide)]
  · refine nrmEL_of_get _ _ (by rw [szL_len]) fun j h1 h2 => ?_
    rw [szL_get _ 0 J G j h2 h1, Nat.zero_add]
    exact (hk j h2).2.1
theorem part_wd {gl : List GT} {xl : List ET} {I : Nat → Bool × Int} {F : Int} (hD : ∀ j (h : j < xl.length), Done gl xl[j] (wI (I j))) (j : Nat) (hj : j < xl.length) : (owL (szL xl 0 I F).1).getD j 0 = uW xl[j] (wI (I j)) ∧ ((szL xl 0 I F).1.map ET.wd).getD j 0 = uW xl[j] (wI (I j)) := by
  have h : j < (szL xl 0 I F).1.length := by rw [szL_len]; exact hj
  have e := szL_get xl 0 I F j hj h
  rw [Nat.zero_add] at e
  obtain ⟨d1, d2, d3⟩ := hD j hj
  have h1 : (szE xl[j] (wI (I j)) 0).1.wd = uW xl[j] (wI (I j)) := szE_wd _ _ _
  have h2 := szd_ow gl _ d2 d3
  constructor
  · rw [owL_get _ j h, e, h2, h1]
  · simp only [List.getD_eq_getElem?_getD, List.getElem?_map, List.getElem?_eq_getElem h, Option.map_some, Option.getD_some, e, h1]
theorem insF_same {op xn u : Int} {l m : List Int} (h : op = 4 ∨ op = 5 → 19 ≤ xn ∧ xn ≤ 24 → orU (eith (m.getD 0 0) (m.getD 1 0)) = orU (eith (l.getD 0 0) (l.getD 1 0))) (j : Nat) : insF op xn u m j = insF op xn u l j := by
  unfold insF
  by_cases h6 : op = 6
  · rw [if_pos h6, if_pos h6]
  rw [if_neg h6, if_neg h6]
  by_cases h4 : op = 4 ∨ op = 5
  · rw [if_pos h4, if_pos h4]
    by_cases h19 : 19 ≤ xn ∧ xn ≤ 24
    · have h9 := h h4 h19
      rw [h9]
    · rw [if_neg h19, if_neg h19]
  · rw [if_neg h4, if_neg h4]
set_option maxHeartbeats 4000000 in
/-- What is sized without a fault is sized. -/
theorem szd_done (gl : List GT) (hgs : sigsMay gl = true) : ∀ x : ET, mayE gl x = true → ∀ w : Int, WOk x w → (szE x w 0).2 = 0 → Done gl x w := by
  have hg : ∀ g ∈ gl, g.wd ≤ 64 := fun g hg => by
    have h := sigsMayF_mem gl [] hgs g hg
    unfold sigMay at h
    simp only [Bool.and_eq_true] at h
    exact (isW_le h.1).2
  refine ET.ind ?_
  intro op wd v sg uh ul xn xa xc xl ih hm w hw hz
  obtain ⟨l1, l2, l4, l5, l6, l7, l8⟩ := may_len hm
  obtain ⟨hop, f2, f3, f4, f5, f6, f7⟩ := may_facts hm
  obtain ⟨u, hu⟩ : ∃ u, uW (.mk op wd v sg uh ul xn xa xc xl) w = u := ⟨_, rfl⟩
  have hu0 : u ≠ 0 := by rw [← hu]; exact uW_ne _ _
  obtain ⟨hpre, hpt, hext⟩ := (szE_zero hu).1 hz
  have hopp : op = 1 ∨ op = 2 ∨ op = 3 ∨ op = 4 ∨ op = 5 ∨ op = 6 ∨ op = 7 ∨ op = 8 := by omega
  have ihj : ∀ j (h : j < xl.length), WOk xl[j] (wI (insF op xn u (owL xl) j)) → Done gl xl[j] (wI (insF op xn u (owL xl) j)) := fun j h hk => ih _ (List.getElem_mem h) (f7 _ (List.getElem_mem h)) _ hk (hpt j h).2
  have hat : ∀ j (h : j < xl.length), insF op xn u (owL xl) j = (false, u) → u = ow xl[j] → isW u = true := fun j h hi he => by
    have h1 := ihj j h (by rw [hi, wI_w]; exact Or.inr (Or.inl he))
    have h2 := h1.1
    rwa [hi, wI_w, uW_of _ hu0] at h2
  have huo : isW w = true ∨ u = orU (owF op wd uh ul xn (owL xl)) := by
    rcases hw with h | h | h
    · right; rw [← hu, h]; unfold uW; rw [if_pos rfl, owE]
    · by_cases q : w = 0
      · right; rw [← hu, q]; unfold uW; rw [if_pos rfl, owE]
      · right
        rw [← hu, uW_of _ q, h, owE]
        rw [owE] at h
        rw [orU_nz (by rw [← h]; exact q)]
    · exact Or.inl h
  have hU : isW u = true := by
    rcases huo with h | h
    · rw [← hu, uW_of _ (isW_ne h)]; exact h
    by_cases q0 : owF op wd uh ul xn (owL xl) = 0
    · rw [h, q0]; decide
    rw [orU_nz q0] at h
    rcases hopp with rfl | rfl | rfl | rfl | rfl | rfl | rfl | rfl
    · simp only [owF, true_or, if_true] at h q0
      rw [h]
      have h9 := f2
      simp [numFits, q0] at h9
      exact h9.1
    · simp only [owF, show ¬ ((2:Int) = 1 ∨ (2:Int) = 8) by decide, if_false, if_true] at h q0
      have h9 := f3
      simp only [bitsFitB, if_true, haveBitsB, Bool.and_eq_true, decide_eq_true_eq] at h9
      have h8 := widthOf_le hg sg
      exact isW_of (by omega) (by omega)
    · simp [owF] at h
      rw [h]; decide
    · obtain ⟨hl, ha, hb⟩ := l4 rfl
      simp only [owF, owO, show ¬ ((4:Int) = 1 ∨ (4:Int) = 8) by decide, show ¬ ((4:Int) = 2) by decide, if_false, true_or, if_true] at h q0
      by_cases h12 : xn = 1 ∨ xn = 2
      · rw [if_pos (by omega)] at h q0
        exact hat 0 (by omega) (by simp [insF, h12]; rcases h12 with h | h <;> simp [h]) (by rw [h, owL_get xl 0 (by omega)])
      · rw [if_neg (by omega), if_neg (by omega)] at h
        rw [h]; decide
    · obtain ⟨hl, ha, hb⟩ := l5 rfl
      simp only [owF, owO, show ¬ ((5:Int) = 1 ∨ (5:Int) = 8) by decide, show ¬ ((5:Int) = 2) by decide, if_false, or_true, if_true] at h q0
      by_cases h12 : xn = 17 ∨ xn = 18
      · rw [if_pos (by omega)] at h q0
        exact hat 0 (by omega) (by simp only [insF, show ¬ ((5:Int) = 6) by decide, if_false, or_true, if_true]; rw [if_neg (by omega), if_pos h12]) (by rw [h, owL_get xl 0 (by omega)])
      · rw [if_neg (by omega)] at h q0
        by_cases h16 : xn ≤ 16
        · rw [if_pos ⟨ha, h16⟩] at h q0
          have hi : ∀ j, insF 5 xn u (owL xl) j = (false, u) := fun j => by
            simp only [insF, show ¬ ((5:Int) = 6) by decide, if_false, or_true, if_true]; rw [if_pos (by omega)]
          by_cases qa : (owL xl).getD 0 0 = 0
          · rw [qa, eith_z] at h
            exact hat 1 (by omega) (hi 1) (by rw [h, owL_get xl 1 (by omega)])
          · rw [eith_ne qa] at h
            exact hat 0 (by omega) (hi 0) (by rw [h, owL_get xl 0 (by omega)])
        · rw [if_neg (by omega)] at h
          rw [h]; decide
    · have hl := l6 rfl
      simp only [owF, show ¬ ((6:Int) = 1 ∨ (6:Int) = 8) by decide, show ¬ ((6:Int) = 2) by decide, show ¬ ((6:Int) = 4 ∨ (6:Int) = 5) by decide, if_false, if_true] at h q0
      by_cases qa : (owL xl).getD 1 0 = 0
      · rw [qa, eith_z] at h
        exact hat 2 (by omega) (by simp [insF]) (by rw [h, owL_get xl 2 (by omega)])
      · rw [eith_ne qa] at h
        exact hat 1 (by omega) (by simp [insF]) (by rw [h, owL_get xl 1 (by omega)])
    · have h9 := hpre
      simp only [preF, show ¬ ((7:Int) = 1) by decide, show ¬ ((7:Int) = 4 ∨ (7:Int) = 5) by decide, if_false, if_true] at h9
      rw [wantF_zero (by decide), wantF_zero (by decide)] at h9
      have h8 := ow_bound hg _ hm
      have h7 : ow (.mk 7 wd v sg uh ul xn xa xc xl) ≤ 64 := by simpa using h9.1.2
      rw [owE] at h7 h8
      rw [h]
      exact isW_of (by omega) h7
    · simp only [owF, or_true, if_true] at h q0
      rw [h]
      have h9 := f2
      simp [numFits] at h9
      exact h9.1
  have hcmp : op = 5 → 19 ≤ xn ∧ xn ≤ 24 → isW (orU (eith ((owL xl).getD 0 0) ((owL xl).getD 1 0))) = true := fun h5 hx => by
    subst h5
    obtain ⟨hl, ha, hb⟩ := l5 rfl
    have hi : ∀ j, insF 5 xn u (owL xl) j = (false, orU (eith ((owL xl).getD 0 0) ((owL xl).getD 1 0))) := fun j => by
      simp only [insF, show ¬ ((5:Int) = 6) by decide, if_false, or_true, if_true]; rw [if_neg (by omega), if_neg (by omega), if_neg (by omega), if_pos hx]
    have hat2 : ∀ j (h : j < xl.length), orU (eith ((owL xl).getD 0 0) ((owL xl).getD 1 0)) = ow xl[j] → isW (orU (eith ((owL xl).getD 0 0) ((owL xl).getD 1 0))) = true := fun j h he => by
      have h1 := ihj j h (by rw [hi, wI_w]; exact Or.inr (Or.inl he))
      have h2 := h1.1
      rwa [hi, wI_w, uW_of _ (orU_ne _)] at h2
    by_cases qa : (owL xl).getD 0 0 = 0
    · by_cases qb : (owL xl).getD 1 0 = 0
      · rw [qa, qb]; decide
      · exact hat2 1 (by omega) (by rw [qa, eith_z, orU_nz qb, owL_get xl 1 (by omega)])
    · exact hat2 0 (by omega) (by rw [eith_ne qa, orU_nz qa, owL_get xl 0 (by omega)])
  have hD : ∀ j (h : j < xl.length), Done gl xl[j] (wI (insF op xn u (owL xl) j)) := fun j h => ihj j h (by
    unfold insF
    by_cases h6 : op = 6
    · rw [if_pos h6]; split
      · exact Or.inr (Or.inr (by decide))
      · exact Or.inr (Or.inr hU)
    rw [if_neg h6]
    by_cases h4 : op = 4 ∨ op = 5
    · rw [if_pos h4]
      split
      · exact Or.inr (Or.inr hU)
      split
      · split
        · exact Or.inr (Or.inr hU)
        · exact Or.inl rfl
      split
      · exact Or.inr (Or.inr (by decide))
      split
      · rename_i q1 q2 q3 q4
        have h5 : op = 5 := by
          rcases h4 with h | h
          · obtain ⟨hl, ha, hb⟩ := l4 h; omega
          · exact h
        exact Or.inr (Or.inr (hcmp h5 q4))
      · exact Or.inl rfl
    · rw [if_neg h4]; exact Or.inl rfl)
  obtain ⟨F, hF⟩ : ∃ F, preF op xn (ow (.mk op wd v sg uh ul xn xa xc xl)) u v 0 = F := ⟨_, rfl⟩
  have ey : (szE (.mk op wd v sg uh ul xn xa xc xl) w 0).1 = .mk op u v sg uh ul xn xa xc (szL xl 0 (insF op xn u (owL xl)) F).1 := by rw [szE_mk, hu, hF]
  have hsame : ∀ j, insF op xn u (owL (szL xl 0 (insF op xn u (owL xl)) F).1) j = insF op xn u (owL xl) j := insF_same (fun h4 hx => by
    have h5 : op = 5 := by
      rcases h4 with h | h
      · obtain ⟨hl, ha, hb⟩ := l4 h; omega
      · exact h
    subst h5
    obtain ⟨hl, ha, hb⟩ := l5 rfl
    have hi : ∀ j, insF 5 xn u (owL xl) j = (false, orU (eith ((owL xl).getD 0 0) ((owL xl).getD 1 0))) := fun j => by
      simp only [insF, show ¬ ((5:Int) = 6) by decide, if_false, or_true, if_true]; rw [if_neg (by omega), if_neg (by omega), if_neg (by omega), if_pos hx]
    rw [(part_wd hD 0 (by omega)).1, (part_wd hD 1 (by omega)).1, hi, hi, wI_w, uW_of _ (orU_ne _), uW_of _ (orU_ne _), eith_ne (orU_ne _), orU_nz (orU_ne _)])
  have hP := sized_parts (J := insF op xn u (owL (szL xl 0 (insF op xn u (owL xl)) F).1)) (F := F) (G := 0) hD (fun j _ => hsame j)
  have hlen : (szL xl 0 (insF op xn u (owL xl)) F).1.length = xl.length := szL_len ..
  have hx8 : op = 8 → extB xn (((szL (szL xl 0 (insF op xn u (owL xl)) F).1 0 (insF op xn u (owL (szL xl 0 (insF op xn u (owL xl)) F).1)) 0).1.map ET.wd).getD 0 0) u = true := fun h8 => by
    have h9 := hext h8
    have h1 : 0 < xl.length := by rw [l2 (Or.inr h8)]; decide
    rw [(part_wd hD 0 h1).2] at h9
    have h2 := hP.2
    have h3 : 0 < (szL xl 0 (insF op xn u (owL xl)) F).1.length := by omega
    have h4 : 0 < (szL (szL xl 0 (insF op xn u (owL xl)) F).1 0 (insF op xn u (owL (szL xl 0 (insF op xn u (owL xl)) F).1)) 0).1.length := by rw [szL_len]; exact h3
    have h5 := same_wd (nrmEL_getEq h2 0 h4 h3)
    have h6 := (part_wd (F := F) hD 0 h1).2
    simp only [List.getD_eq_getElem?_getD, List.getElem?_map, List.getElem?_eq_getElem h3, Option.map_some, Option.getD_some] at h6
    simp only [List.getD_eq_getElem?_getD, List.getElem?_map, List.getElem?_eq_getElem h4, Option.map_some, Option.getD_some]
    rw [h5, h6]; exact h9
  obtain ⟨L, hL⟩ : ∃ L, (szL xl 0 (insF op xn u (owL xl)) F).1 = L := ⟨_, rfl⟩
  have hmL : ∀ x ∈ L, mayE gl x = true := fun x hx => by
    obtain ⟨j, hj, rfl⟩ := List.mem_iff_getElem.1 hx
    subst hL
    have hj' : j < xl.length := by rw [hlen] at hj; exact hj
    have e := szL_get xl 0 (insF op xn u (owL xl)) F j hj' hj
    rw [Nat.zero_add] at e
    rw [e]; exact (hD j hj').2.1
  have hwL : op = 7 → owL L = owL xl := fun h7 => by
    subst h7
    have h9 := hpre
    simp only [preF, show ¬ ((7:Int) = 1) by decide, show ¬ ((7:Int) = 4 ∨ (7:Int) = 5) by decide, if_false, if_true] at h9
    rw [wantF_zero (by decide)] at h9
    have h8 : ow (.mk 7 wd v sg uh ul xn xa xc xl) = u := by simpa using h9.2
    rw [owE] at h8
    simp only [owF, show ¬ ((7:Int) = 1 ∨ (7:Int) = 8) by decide, show ¬ ((7:Int) = 2) by decide, show ¬ ((7:Int) = 4 ∨ (7:Int) = 5) by decide, show ¬ ((7:Int) = 6) by decide, if_false, if_true] at h8
    have hne := sumW_ne xl 0 (by rw [h8]; exact hu0)
    subst hL
    refine owL_of_get _ _ hlen fun j h1 h2 => ?_
    have h3 := (part_wd (F := F) hD j h2).1
    rw [owL_get _ j h1] at h3
    rw [h3]
    show uW xl[j] 0 = _
    unfold uW
    rw [if_pos rfl, orU_nz (hne _ (List.getElem_mem h2))]
  rw [hL] at ey hP hx8 hlen hsame
  unfold Done
  rw [ey, hu]
  refine ⟨hU, ?_, ⟨hu0, ?_, ?_⟩⟩
  · rw [mayE, mayEL_all]
    have h0 := hm
    rw [mayE, mayEL_all] at h0
    simp only [Bool.and_eq_true] at h0 ⊢
    refine ⟨h0.1, ?_, h0.2.2.1, h0.2.2.2.1, h0.2.2.2.2.1, by rw [hlen]; exact h0.2.2.2.2.2.1, List.all_eq_true.2 hmL⟩
    by_cases h1 : op = 1
    · subst h1
      have h9 := hpre
      simp only [preF, if_true] at h9
      rw [wantF_zero (by decide)] at h9
      unfold numFits
      rw [if_pos rfl, hU, h9.2]; simp
    · by_cases h8 : op = 8
      · have h9 := f2
        unfold numFits at h9 ⊢
        rw [if_neg h1, if_pos h8] at h9 ⊢
        simp only [Bool.and_eq_true] at h9 ⊢
        exact ⟨hU, h9.2⟩
      · have h9 := f2
        unfold numFits at h9 ⊢
        rw [if_neg h1, if_neg h8] at h9 ⊢
        exact h9
  · change (szE (.mk op u v sg uh ul xn xa xc L) u 0).2 = 0
    refine (szE_zero (uW_of _ hu0)).2 ⟨?_, hP.1, hx8⟩
    have h9 := hpre
    rw [owE] at h9 ⊢
    rcases hopp with rfl | rfl | rfl | rfl | rfl | rfl | rfl | rfl
    · simp only [preF, if_true, owF, true_or] at h9 ⊢
      rw [wantF_zero (by decide)] at h9
      rw [wantF_zero (by decide), wantF_zero (by decide)]
      exact ⟨⟨rfl, by simp⟩, h9.2⟩
    · simpa [preF, owF] using h9
    · simpa [preF, owF] using h9
    · simpa [preF] using h9
    · simpa [preF] using h9
    · simp [preF]
    · rw [hwL rfl]; simpa [preF, owF] using h9
    · simp [preF, owF, wantF]
  · change nrmE (szE (.mk op u v sg uh ul xn xa xc L) u 0).1 = _
    rw [szE_mk, uW_of _ hu0]
    simp only [nrmE]
    rw [szL_fst L 0 _ _ 0, hP.2]
/-- What Expr tells of no fault: what it is, sized; sized again to its width, or to none, it is the same, and it is sized. -/
theorem want_facts {gl : List GT} {x : ET} {w : Int} (h : (exprS gl x w).2 = 0) : ∃ y, (exprS gl x w).1 = y ∧ (w = 0 ∨ y.wd = w) ∧ isW y.wd = true ∧ y.sz = x.sz ∧ y.dp = x.dp ∧ y.bk = x.bk ∧ (exprS gl y y.wd).2 = 0 ∧ nrmE (exprS gl y y.wd).1 = nrmE y ∧ (exprS gl y 0).2 = 0 ∧ nrmE (exprS gl y 0).1 = nrmE y ∧ checkES gl y = 0 := by
  have hd : exprS gl x w = exprS gl x w := rfl
  unfold exprS at hd h
  by_cases c1 : sigsMay gl = true ∧ (w = 0 ∨ isW w = true) ∧ mayE gl x = true
  · rw [if_pos c1] at h
    by_cases c2 : okB 0 1 x.sz x.dp = true
    · rw [if_pos c2] at h
      by_cases c3 : (szE x w 0).2 = 0
      · obtain ⟨d1, d2, d3⟩ := szd_done gl c1.1 x c1.2.2 w (c1.2.1.elim Or.inl (fun q => Or.inr (Or.inr q))) c3
        have hm := szE_meas x w 0
        have e0 : exprS gl x w = ((szE x w 0).1, 0) := by unfold exprS; rw [if_pos c1, if_pos c2, if_pos c3]
        have hwd := szE_wd x w 0
        refine ⟨_, by rw [e0], ?_, by rw [hwd]; exact d1, hm.1, hm.2.1, hm.2.2.1, ?_⟩
        · by_cases q : w = 0
          · exact Or.inl q
          · right; rw [hwd, uW_of _ q]
        generalize (szE x w 0).1 = y at d2 d3 hm hwd
        have c4 : okB 0 1 y.sz y.dp = true := by rw [hm.1, hm.2.1]; exact c2
        have e1 : exprS gl y y.wd = ((szE y y.wd 0).1, 0) := by unfold exprS; rw [if_pos ⟨c1.1, Or.inr (by rw [hwd]; exact d1), d2⟩, if_pos c4, if_pos d3.2.1]
        have e2 : exprS gl y 0 = ((szE y y.wd 0).1, 0) := by unfold exprS; rw [if_pos ⟨c1.1, Or.inl rfl, d2⟩, if_pos c4, d3.at gl d2, if_pos d3.2.1]
        refine ⟨by rw [e1], by rw [e1]; exact d3.2.2, by rw [e2], by rw [e2]; exact d3.2.2, ?_⟩
        unfold checkES
        rw [e1, if_pos rfl, if_pos ((sameE_iff _ _).2 d3.2.2)]
      · rw [if_neg c3] at h; exact absurd h c3
    · rw [if_neg c2] at h; exact absurd h (by decide)
  · rw [if_neg c1] at h; exact absurd h (by decide)
theorem want_none {gl : List GT} {x : ET} {w : Int} (h : (exprS gl x w).2 ≠ 0) : (exprS gl x w).1 = zeroE := by
  unfold exprS at h ⊢
  split
  · rename_i c1
    rw [if_pos c1] at h
    split
    · rename_i c2
      rw [if_pos c2] at h
      split
      · rename_i c3; rw [if_pos c3] at h; exact absurd rfl h
      · rfl
    · rfl
  · rfl
end Go.Proofs.YtbcgeglkmpcnpaaDoor
