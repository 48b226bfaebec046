/-
  With its constants put in it is what it was.
-/
import Derived.Test.YtlbjmnakiflfpaaGreatDoorKpKsL
import Derived.Test.YtlbjmnakiflfpaaGreatDoorKpAsT
namespace Go.Proofs.YtlbjmnakiflfpaaGreatDoor
open Go Go.RowKit
set_option linter.unusedVariables false
set_option linter.unusedSimpArgs false
open Go.Sort

theorem same_nrm : ∀ x y : XT, x.nrm = y.nrm → sameX x y = true := XT.ind fun op nm n wd v a c l ih y h => by
  obtain ⟨op2, nm2, n2, wd2, v2, a2, c2, l2⟩ := y
  rw [XT.nrm, XT.nrm, XT.nrmL_map, XT.nrmL_map] at h
  injection h with h1 h2 h3 h4 h5 _ _ h6
  subst h1 h2 h3 h4 h5
  rw [sameX, sameXL_eq]
  have hl : ∀ (l l2 : List XT), (∀ x ∈ l, ∀ y : XT, x.nrm = y.nrm → sameX x y = true) → l.map XT.nrm = l2.map XT.nrm → eqList sameX l l2 = true := by
    intro l
    induction l with
    | nil => intro l2 _ h; cases l2 with
      | nil => rfl
      | cons => cases h
    | cons x r ihr =>
      intro l2 hx h
      cases l2 with
      | nil => cases h
      | cons y q =>
        rw [List.map_cons, List.map_cons] at h
        obtain ⟨h1, h2⟩ := List.cons.inj h
        show (sameX x y && eqList sameX r q) = true
        rw [hx x (by simp) y h1, ihr q (fun z hz => hx z (by simp [hz])) h2]; rfl
  rw [hl l l2 (fun x hx y hy => ih x hx y hy) h6]
  simp
theorem nrm_nrm : ∀ x : XT, x.nrm.nrm = x.nrm := XT.ind fun op nm n wd v a c l ih => by
  rw [XT.nrm, XT.nrm, XT.nrmL_map, XT.nrmL_map, List.map_map]
  congr 1
  exact List.map_congr_left (fun x hx => ih x hx)
theorem subst_nrm (l : List NT) : ∀ x : XT, substX l x.nrm = substX l x := XT.ind fun op nm n wd v a c xs ih => by
  have e : substL l (XT.nrmL xs) = substL l xs := by
    rw [XT.nrmL_map, substL_map, substL_map, List.map_map]
    exact List.map_congr_left (fun x hx => ih x hx)
  have e2 : XT.nrmL (XT.nrmL xs) = XT.nrmL xs := by
    rw [XT.nrmL_map, XT.nrmL_map, List.map_map]
    exact List.map_congr_left (fun x _ => nrm_nrm x)
  rw [XT.nrm, substX, substX, e, e2]
theorem subst_of {l : List NT} {x y : XT} (h : y.nrm = substX l x) : substX l y = substX l (substX l x) := by rw [← h, subst_nrm]
theorem subst_none : ∀ x : XT, substX [] x = x.nrm := XT.ind fun op nm n wd v a c xs ih => by
  have e : substL [] xs = XT.nrmL xs := by
    rw [XT.nrmL_map, substL_map]
    exact List.map_congr_left (fun x hx => ih x hx)
  rw [substX, XT.nrm, findN_nil, e]
  split <;> rfl
theorem subst_idem (l : List NT) : ∀ x : XT, substX l (substX l x) = substX l x := XT.ind fun op nm n wd v a c xs ih => by
  have e : substL l (substL l xs) = substL l xs := by
    rw [substL_map, substL_map, List.map_map]
    exact List.map_congr_left (fun x hx => ih x hx)
  have e2 : XT.nrmL (XT.nrmL xs) = XT.nrmL xs := by
    rw [XT.nrmL_map, XT.nrmL_map, List.map_map]
    exact List.map_congr_left (fun x _ => nrm_nrm x)
  rw [substX]
  by_cases ho : op = 2
  · rw [if_pos ho]
    cases hf : findN l nm with
    | none => simp only []; rw [substX, if_pos ho, hf, e2]
    | some k =>
      simp only []
      by_cases hk : kMay k = true
      · rw [if_pos hk, substX, if_neg (by decide), substL_map]; rfl
      · rw [if_neg hk, substX, if_pos ho, hf]; simp only []; rw [if_neg hk, e2]
  · rw [if_neg ho, substX, if_neg ho, e]
/-- What hangs on no place. -/
theorem ev_nrm (l : List NT) : ∀ x : XT, evX l x.nrm = evX l x := XT.ind fun op nm n wd v a c xs ih => by
  rw [XT.nrm, evX_mk, evX_mk, XT.nrmL_map, List.map_map]
  congr 1
  exact List.map_congr_left (fun x hx => ih x hx)
theorem may_nrm : ∀ x : XT, mayX x.nrm = mayX x := XT.ind fun op nm n wd v a c xs ih => by
  have e : mayXL (XT.nrmL xs) = mayXL xs := by
    rw [mayXL_all, mayXL_all, XT.nrmL_map, List.all_map]
    rw [Bool.eq_iff_iff, List.all_eq_true, List.all_eq_true]
    exact ⟨fun h x hx => (ih x hx).symm.trans (h x hx), fun h x hx => (ih x hx).trans (h x hx)⟩
  rw [XT.nrm, mayX, mayX, e, XT.nrmL_map, List.length_map]
theorem sumL (f : XT → Nat) (F : List XT → Nat) (h0 : F [] = 0) (h1 : ∀ x r, F (x :: r) = f x + F r) (g : XT → XT) : ∀ l : List XT, (∀ x ∈ l, f (g x) ≤ f x) → F (l.map g) ≤ F l
  | [], _ => by rw [List.map_nil]; exact Nat.le_refl _
  | x :: r, h => by
    rw [List.map_cons, h1, h1]
    have := h x (by simp)
    have := sumL f F h0 h1 g r (fun y hy => h y (by simp [hy]))
    omega
theorem maxL (f : XT → Nat) (F : List XT → Nat) (h0 : F [] = 0) (h1 : ∀ x r, F (x :: r) = max (f x) (F r)) (g : XT → XT) : ∀ l : List XT, (∀ x ∈ l, f (g x) ≤ f x) → F (l.map g) ≤ F l
  | [], _ => by rw [List.map_nil]; exact Nat.le_refl _
  | x :: r, h => by
    rw [List.map_cons, h1, h1]
    have := h x (by simp)
    have := maxL f F h0 h1 g r (fun y hy => h y (by simp [hy]))
    omega
theorem sz_nrm_le : ∀ x : XT, x.nrm.sz ≤ x.sz ∧ x.sz ≤ x.nrm.sz := XT.ind fun op nm n wd v a c xs ih => by
  rw [XT.nrm, XT.sz, XT.sz, XT.nrmL_map]
  have e : XT.szL (xs.map XT.nrm) = XT.szL xs := by
    induction xs with
    | nil => rfl
    | cons x r ihr =>
      have h := ih x (by simp)
      rw [List.map_cons, XT.szL, XT.szL, ihr (fun y hy => ih y (by simp [hy]))]
      omega
  omega
theorem dp_nrm_le : ∀ x : XT, x.nrm.dp ≤ x.dp ∧ x.dp ≤ x.nrm.dp := XT.ind fun op nm n wd v a c xs ih => by
  rw [XT.nrm, XT.dp, XT.dp, XT.nrmL_map]
  have e : XT.dpL (xs.map XT.nrm) = XT.dpL xs := by
    induction xs with
    | nil => rfl
    | cons x r ihr =>
      have h := ih x (by simp)
      rw [List.map_cons, XT.dpL, XT.dpL, ihr (fun y hy => ih y (by simp [hy]))]
      omega
  omega
theorem bk_nrm_le : ∀ x : XT, x.nrm.bk ≤ x.bk ∧ x.bk ≤ x.nrm.bk := XT.ind fun op nm n wd v a c xs ih => by
  rw [XT.nrm, XT.bk, XT.bk, XT.nrmL_map]
  have e : XT.bkL (xs.map XT.nrm) = XT.bkL xs := by
    induction xs with
    | nil => rfl
    | cons x r ihr =>
      have h := ih x (by simp)
      rw [List.map_cons, XT.bkL, XT.bkL, ihr (fun y hy => ih y (by simp [hy]))]
      omega
  omega
theorem wf_nrm : ∀ x : XT, x.nrm.Wf ↔ x.Wf := XT.ind fun op nm n wd v a c xs ih => by
  rw [XT.nrm, XT.wf_mk, XT.wf_mk, XT.nrmL_map]
  refine and_congr_right fun _ => ?_
  constructor
  · intro h x hx; exact (ih x hx).1 (h _ (List.mem_map_of_mem hx))
  · intro h y hy; obtain ⟨x, hx, rfl⟩ := List.mem_map.1 hy; exact (ih x hx).2 (h x hx)
theorem sz_sub (l : List NT) : ∀ x : XT, (substX l x).sz ≤ x.sz := XT.ind fun op nm n wd v a c xs ih => by
  have e := sumL XT.sz XT.szL rfl (fun _ _ => rfl) (substX l) xs ih
  have e2 := (sz_nrm_le (.mk op nm n wd v a c xs)).1
  rw [XT.nrm] at e2
  rw [substX]
  split
  · split
    · split
      · simp [XT.sz, XT.szL]
      · exact e2
    · exact e2
  · rw [XT.sz, XT.sz, substL_map]; omega
theorem bk_sub (l : List NT) : ∀ x : XT, (substX l x).bk ≤ x.bk := XT.ind fun op nm n wd v a c xs ih => by
  have e := sumL XT.bk XT.bkL rfl (fun _ _ => rfl) (substX l) xs ih
  have e2 := (bk_nrm_le (.mk op nm n wd v a c xs)).1
  rw [XT.nrm] at e2
  rw [substX]
  split
  · split
    · split
      · simp [XT.bk, XT.bkL]; omega
      · exact e2
    · exact e2
  · rw [XT.bk, XT.bk, substL_map]; omega
theorem dp_sub (l : List NT) : ∀ x : XT, (substX l x).dp ≤ x.dp := XT.ind fun op nm n wd v a c xs ih => by
  have e := maxL XT.dp XT.dpL rfl (fun _ _ => rfl) (substX l) xs ih
  have e2 := (dp_nrm_le (.mk op nm n wd v a c xs)).1
  rw [XT.nrm] at e2
  rw [substX]
  split
  · split
    · split
      · simp [XT.dp, XT.dpL]
      · exact e2
    · exact e2
  · rw [XT.dp, XT.dp, substL_map]; omega
theorem kmay_nat {k : Int} (h : kMay k = true) : 0 ≤ k ∧ k ≤ 2147483647 := by
  unfold kMay at h
  rw [Bool.and_eq_true, decide_eq_true_eq, decide_eq_true_eq] at h
  exact h
theorem wf_sub (l : List NT) : ∀ x : XT, x.Wf → (substX l x).Wf := XT.ind fun op nm n wd v a c xs ih h => by
  have e2 := (wf_nrm (.mk op nm n wd v a c xs)).2 h
  rw [XT.nrm] at e2
  rw [XT.wf_mk] at h
  rw [substX]
  split
  · split
    · split
      · rename_i hk
        have := kmay_nat hk
        rw [XT.wf_mk]
        exact ⟨by omega, fun x hx => by cases hx⟩
      · exact e2
    · exact e2
  · rw [XT.wf_mk, substL_map]
    refine ⟨h.1, fun y hy => ?_⟩
    obtain ⟨x, hx, rfl⟩ := List.mem_map.1 hy
    exact ih x hx (h.2 x hx)
theorem may_num (k : Nat) : mayX (.mk 1 [] 0 0 k none 0 []) = true := by rfl
theorem may_sub (l : List NT) : ∀ x : XT, mayX x = true → mayX (substX l x) = true := XT.ind fun op nm n wd v a c xs ih h => by
  have e2 := (may_nrm (.mk op nm n wd v a c xs)).trans h
  rw [XT.nrm] at e2
  have hp := (mayX_parts h).1
  rw [substX]
  split
  · split
    · split
      · exact may_num _
      · exact e2
    · exact e2
  · rw [mayX] at h ⊢
    have e : mayXL (substL l xs) = mayXL xs := by
      rw [mayXL_all, mayXL_all, substL_map, List.all_map]
      have h1 : xs.all mayX = true := List.all_eq_true.2 hp
      rw [h1]
      exact List.all_eq_true.2 (fun x hx => ih x hx (hp x hx))
    rw [e, substL_map, List.length_map]
    exact h
/-- All are constants' values. -/
def RightL (l : List NT) : Prop := ∀ c ∈ l, kMay c.v = true
theorem ev_sub (l : List NT) (hr : RightL l) : ∀ x : XT, evX [] (substX l x) = evX l x := XT.ind fun op nm n wd v a c xs ih => by
  rw [substX]
  by_cases ho : op = 2
  · rw [if_pos ho]
    subst ho
    cases hf : findN l nm with
    | none =>
      simp only []
      rw [evX_mk, evX_mk]
      simp [kNode, kNamed, hf, findN_nil]
    | some k =>
      simp only []
      obtain ⟨c, hc, _, hv⟩ := findN_mem hf
      have hk : kMay k = true := by rw [← hv]; exact hr c hc
      have h2 := kmay_nat hk
      rw [if_pos hk, evX_mk, evX_mk]
      have h3 : k.toNat ≤ 2147483647 := by omega
      simp [kNode, kNamed, hf, kNum, kConst, hk, h3, Int.toNat_of_nonneg h2.1]
  · rw [if_neg ho, evX_mk, evX_mk, substL_map, List.map_map]
    have e : xs.map (evX [] ∘ substX l) = xs.map (evX l) := List.map_congr_left (fun x hx => ih x hx)
    rw [e]
    unfold kNode
    simp [ho]
theorem cx_is (x : XT) : checkX x = 0 ↔ x.sz ≤ 65536 ∧ x.dp ≤ 64 ∧ mayX x = true := by
  unfold checkX
  cases h1 : decide (65536 < x.sz) <;> cases h2 : decide (64 < x.dp) <;> cases h3 : mayX x <;> simp at h1 h2 ⊢ <;> omega
/-- Such with its constants put in: what is asked of it. -/
theorem sub_facts {l : List NT} (hr : RightL l) {x y : XT} (hc : checkX x = 0) (hw : x.Wf) (h : y.nrm = substX l x) : checkX y = 0 ∧ y.bk ≤ x.bk ∧ y.Wf ∧ evalK [] y = evalK l x ∧ substX l y = y.nrm := by
  obtain ⟨c1, c2, c3⟩ := (cx_is x).1 hc
  have s1 := sz_nrm_le y
  have s2 := dp_nrm_le y
  have s3 := bk_nrm_le y
  rw [h] at s1 s2 s3
  have t1 := sz_sub l x
  have t2 := dp_sub l x
  have t3 := bk_sub l x
  have hm : mayX y = true := by rw [← may_nrm, h]; exact may_sub l x c3
  have hcy : checkX y = 0 := (cx_is y).2 ⟨by omega, by omega, hm⟩
  refine ⟨hcy, by omega, (wf_nrm y).1 (by rw [h]; exact wf_sub l x hw), ?_, ?_⟩
  · unfold evalK
    rw [if_pos hcy, if_pos hc, ← ev_nrm, h, ev_sub l hr]
  · rw [subst_of h, subst_idem, h]

/-- What right tells. -/
def RightPost (l : List NT) (w : World) (e : Ending) (w' : World) : Prop := (e = .returned (.bool false) ∨ (e = .returned (.bool true) ∧ RightL l)) ∧ ∃ n, w' = w.drewN n

end Go.Proofs.YtlbjmnakiflfpaaGreatDoor
