/-
  sized: what sizing a tree is: its fault, its parts; trees that are the same; trees that are sized. No program.
-/
import Derived.Test.YtbcgeglkmpcnpaaDoorEzS
import Derived.Test.YtbcgeglkmpcnpaaDoorEzM
namespace Go.Proofs.YtbcgeglkmpcnpaaDoor
open Go Go.RowKit
set_option linter.unusedVariables false
set_option linter.unusedSimpArgs false

theorem wantF_ne {f : Int} (h : f ≠ 0) (so : Bool) (e : Int) : wantF f so e = f := by unfold wantF; rw [if_neg (fun q => h q.2)]
theorem wantF_zero {f : Int} {so : Bool} {e : Int} (he : e ≠ 0) : wantF f so e = 0 ↔ f = 0 ∧ so = true := by
  unfold wantF
  cases so <;> by_cases h : f = 0 <;> simp [h, he]
theorem preF_ne {f : Int} (h : f ≠ 0) (op xn own w : Int) (v : Nat) : preF op xn own w v f = f := by
  unfold preF
  simp only [wantF_ne h]
  repeat' split
  all_goals rfl
theorem postF_neF {f : Int} (h : f ≠ 0) (op xn w : Int) (l : List ET) : postF op xn w l f = f := by
  unfold postF
  split
  · exact wantF_ne h _ _
  · rfl
theorem postF_ne {op xn w : Int} {l : List ET} {f : Int} (h : op ≠ 8) : postF op xn w l f = f := by unfold postF; rw [if_neg h]
theorem szL_ne_of : ∀ (l : List ET), (∀ x ∈ l, ∀ w0 f, (∀ f', (szE x w0 f).1 = (szE x w0 f').1) ∧ (f ≠ 0 → (szE x w0 f).2 = f)) → ∀ (k : Nat) (I : Nat → Bool × Int) (f : Int), (∀ f', (szL l k I f).1 = (szL l k I f').1) ∧ (f ≠ 0 → (szL l k I f).2 = f)
  | [], _, k, I, f => ⟨fun _ => by simp [szL], fun _ => by simp [szL]⟩
  | x :: r, hx, k, I, f => by
    have h1 := szL_ne_of r (fun y hy => hx y (by simp [hy]))
    have h0 := hx x (by simp)
    refine ⟨fun f' => ?_, fun hf => ?_⟩
    · rw [szL_cons, szL_cons]
      simp only
      rw [(h1 (k + 1) I _).1 (szI x (I k) f').2]
      congr 1
      unfold szI
      exact (h0 _ _).1 _
    · rw [szL_cons]
      simp only
      have e : (szI x (I k) f).2 = f := by
        unfold szI
        by_cases hi : (I k).1 = true
        · simp only [hi, if_pos]
          rw [wantF_ne hf]
          exact (h0 _ _).2 hf
        · simp only [if_neg hi]
          exact (h0 _ _).2 hf
      rw [e]
      exact (h1 (k + 1) I f).2 hf
theorem szE_ne_all : ∀ x : ET, ∀ w0 f, (∀ f', (szE x w0 f).1 = (szE x w0 f').1) ∧ (f ≠ 0 → (szE x w0 f).2 = f) := by
  refine ET.ind ?_
  intro op wd v sg uh ul xn xa xc xl ih w0 f
  refine ⟨fun f' => ?_, fun hf => ?_⟩
  · rw [szE, szE]
    simp only
    rw [(szL_ne_of xl ih 0 _ _).1]
  · rw [szE]
    simp only
    rw [preF_ne hf, (szL_ne_of xl ih 0 _ _).2 hf, postF_neF hf]
theorem szE_fst (x : ET) (w0 f f' : Int) : (szE x w0 f).1 = (szE x w0 f').1 := (szE_ne_all x w0 f).1 f'
theorem szE_ne (x : ET) (w0 : Int) {f : Int} (h : f ≠ 0) : (szE x w0 f).2 = f := (szE_ne_all x w0 f).2 h
theorem szL_fst (l : List ET) (k : Nat) (I : Nat → Bool × Int) (f f' : Int) : (szL l k I f).1 = (szL l k I f').1 := (szL_ne_of l (fun x _ => szE_ne_all x) k I f).1 f'
theorem szL_ne (l : List ET) (k : Nat) (I : Nat → Bool × Int) {f : Int} (h : f ≠ 0) : (szL l k I f).2 = f := (szL_ne_of l (fun x _ => szE_ne_all x) k I f).2 h
theorem szE_f0 {x : ET} {w0 f : Int} (h : (szE x w0 f).2 = 0) : f = 0 := by
  by_cases q : f = 0
  · exact q
  · rw [szE_ne x w0 q] at h; exact h
theorem szL_f0 {l : List ET} {k : Nat} {I : Nat → Bool × Int} {f : Int} (h : (szL l k I f).2 = 0) : f = 0 := by
  by_cases q : f = 0
  · exact q
  · rw [szL_ne l k I q] at h; exact h
/-- How a part is sized without a fault: the width that it is sized to. -/
def wI (i : Bool × Int) : Int := if i.1 = true then 1 else i.2
/-- Is a part sized without a fault? -/
def OkI (x : ET) (i : Bool × Int) : Prop := (i.1 = true → ow x = 0 ∨ ow x = 1) ∧ (szE x (wI i) 0).2 = 0
theorem szI_zero {x : ET} {i : Bool × Int} {f : Int} : (szI x i f).2 = 0 ↔ f = 0 ∧ OkI x i := by
  unfold szI OkI wI
  by_cases hi : i.1 = true
  · simp only [hi, if_pos, true_implies]
    constructor
    · intro h
      have h1 := szE_f0 h
      rw [wantF_zero (by decide)] at h1
      refine ⟨h1.1, by simpa using h1.2, ?_⟩
      have h2 : wantF f (ow x == 0 || ow x == 1) 91 = 0 := (wantF_zero (by decide)).2 h1
      rwa [h2] at h
    · rintro ⟨rfl, h1, h2⟩
      have h3 : wantF 0 (ow x == 0 || ow x == 1) 91 = 0 := (wantF_zero (by decide)).2 ⟨rfl, by simpa using h1⟩
      rw [h3]; exact h2
  · simp only [if_neg hi]
    constructor
    · intro h
      have h1 := szE_f0 h
      subst h1
      exact ⟨rfl, fun q => absurd q hi, h⟩
    · rintro ⟨rfl, _, h2⟩; exact h2
theorem szI_fst (x : ET) (i : Bool × Int) (f : Int) : (szI x i f).1 = (szE x (wI i) 0).1 := by
  unfold szI wI; exact szE_fst _ _ _ _
theorem szL_zero : ∀ (l : List ET) (k : Nat) (I : Nat → Bool × Int) (f : Int), (szL l k I f).2 = 0 ↔ f = 0 ∧ ∀ j (h : j < l.length), OkI l[j] (I (k + j))
  | [], k, I, f => by simp [szL]
  | x :: r, k, I, f => by
    rw [szL_cons]
    simp only
    rw [szL_zero r (k + 1) I]
    rw [szI_zero]
    constructor
    · rintro ⟨⟨rfl, h1⟩, h2⟩
      refine ⟨rfl, fun j hj => ?_⟩
      cases j with
      | zero => exact h1
      | succ j =>
        have := h2 j (by simpa using hj)
        rw [show k + (j + 1) = k + 1 + j by omega]
        simpa using this
    · rintro ⟨rfl, h⟩
      refine ⟨⟨rfl, h 0 (by simp)⟩, fun j hj => ?_⟩
      have := h (j + 1) (by simpa using hj)
      rw [show k + (j + 1) = k + 1 + j by omega] at this
      simpa using this
theorem szL_get : ∀ (l : List ET) (k : Nat) (I : Nat → Bool × Int) (f : Int) (j : Nat) (h : j < l.length) (h2 : j < (szL l k I f).1.length), (szL l k I f).1[j] = (szE l[j] (wI (I (k + j))) 0).1
  | x :: r, k, I, f, j, h, h2 => by
    have e := szL_cons x r k I f
    cases j with
    | zero =>
      simp only [e, List.getElem_cons_zero, Nat.add_zero]
      exact szI_fst _ _ _
    | succ j =>
      have h3 := szL_get r (k + 1) I (szI x (I k) f).2 j (by simpa using h) (by rw [szL_len]; simpa using h)
      simp only [e, List.getElem_cons_succ]
      rw [h3, show k + (j + 1) = k + 1 + j by omega]
/-- The width that a tree is sized to. -/
def uW (x : ET) (w0 : Int) : Int := if w0 = 0 then orU (ow x) else w0
theorem szE_mk (op wd : Int) (v : Nat) (sg uh ul xn : Int) (xa : Option Addr) (xc : Nat) (xl : List ET) (w0 f : Int) : szE (.mk op wd v sg uh ul xn xa xc xl) w0 f = (.mk op (uW (.mk op wd v sg uh ul xn xa xc xl) w0) v sg uh ul xn xa xc (szL xl 0 (insF op xn (uW (.mk op wd v sg uh ul xn xa xc xl) w0) (owL xl)) (preF op xn (ow (.mk op wd v sg uh ul xn xa xc xl)) (uW (.mk op wd v sg uh ul xn xa xc xl) w0) v f)).1, postF op xn (uW (.mk op wd v sg uh ul xn xa xc xl) w0) (szL xl 0 (insF op xn (uW (.mk op wd v sg uh ul xn xa xc xl) w0) (owL xl)) (preF op xn (ow (.mk op wd v sg uh ul xn xa xc xl)) (uW (.mk op wd v sg uh ul xn xa xc xl) w0) v f)).1 (szL xl 0 (insF op xn (uW (.mk op wd v sg uh ul xn xa xc xl) w0) (owL xl)) (preF op xn (ow (.mk op wd v sg uh ul xn xa xc xl)) (uW (.mk op wd v sg uh ul xn xa xc xl) w0) v f)).2) := by
  rw [szE, ow]; rfl
theorem szE_wd (x : ET) (w0 f : Int) : (szE x w0 f).1.wd = uW x w0 := by
  obtain ⟨op, wd, v, sg, uh, ul, xn, xa, xc, xl⟩ := x
  rw [szE_mk]; rfl
theorem szE_to (x : ET) (w0 f : Int) (h : uW x w0 ≠ 0) : szE x w0 f = szE x (uW x w0) f := by
  obtain ⟨op, wd, v, sg, uh, ul, xn, xa, xc, xl⟩ := x
  have e : uW (.mk op wd v sg uh ul xn xa xc xl) (uW (.mk op wd v sg uh ul xn xa xc xl) w0) = uW (.mk op wd v sg uh ul xn xa xc xl) w0 := by
    generalize uW (.mk op wd v sg uh ul xn xa xc xl) w0 = u at h
    unfold uW; rw [if_neg h]
  rw [szE_mk, szE_mk, e]
/-- A tree is sized without a fault: what is asked of it. -/
theorem szE_zero {op wd : Int} {v : Nat} {sg uh ul xn : Int} {xa : Option Addr} {xc : Nat} {xl : List ET} {w0 u : Int} (hu : uW (.mk op wd v sg uh ul xn xa xc xl) w0 = u) : (szE (.mk op wd v sg uh ul xn xa xc xl) w0 0).2 = 0 ↔ preF op xn (ow (.mk op wd v sg uh ul xn xa xc xl)) u v 0 = 0 ∧ (∀ j (h : j < xl.length), OkI xl[j] (insF op xn u (owL xl) j)) ∧ (op = 8 → extB xn (((szL xl 0 (insF op xn u (owL xl)) 0).1.map ET.wd).getD 0 0) u = true) := by
  rw [szE_mk, hu]
  simp only
  obtain ⟨F, hF⟩ : ∃ F, preF op xn (ow (.mk op wd v sg uh ul xn xa xc xl)) u v 0 = F := ⟨_, rfl⟩
  rw [hF]
  rw [szL_fst xl 0 (insF op xn u (owL xl)) F 0]
  obtain ⟨G, hG⟩ : ∃ G, (szL xl 0 (insF op xn u (owL xl)) F).2 = G := ⟨_, rfl⟩
  have hz := szL_zero xl 0 (insF op xn u (owL xl)) F
  rw [hG] at hz ⊢
  simp only [Nat.zero_add] at hz
  unfold postF
  by_cases h8 : op = 8
  · rw [if_pos h8, wantF_zero (by decide), hz]
    simp only [h8, true_implies, and_assoc]
  · rw [if_neg h8, hz]
    simp only [h8, false_implies, and_true]

-- trees that are the same
theorem eqE_nrm : ∀ (l m : List ET), (∀ x ∈ l, ∀ y, sameE x y = true ↔ nrmE x = nrmE y) → (eqList sameE l m = true ↔ nrmEL l = nrmEL m)
  | [], [], _ => by simp [eqList]
  | [], y :: t, _ => by simp [eqList, nrmEL]
  | x :: r, [], _ => by simp [eqList, nrmEL]
  | x :: r, y :: t, h => by
    have h1 := eqE_nrm r t (fun z hz => h z (by simp [hz]))
    have h0 := h x (by simp) y
    simp only [eqList, nrmEL, Bool.and_eq_true, List.cons.injEq, h1, h0]
theorem sameE_iff : ∀ x y : ET, sameE x y = true ↔ nrmE x = nrmE y := by
  refine ET.ind ?_
  intro op wd v sg uh ul xn xa xc xl ih y
  obtain ⟨op2, wd2, v2, sg2, uh2, ul2, xn2, xa2, xc2, xl2⟩ := y
  rw [sameE, nrmE, nrmE, sameEL_eq]
  have h := eqE_nrm xl xl2 ih
  simp only [Bool.and_eq_true, beq_iff_eq, ET.mk.injEq, true_and, h, Int.ofNat_inj]
theorem sameE_self (x : ET) : sameE x x = true := (sameE_iff x x).2 rfl
theorem nrm_wd : ∀ x : ET, (nrmE x).wd = x.wd
  | .mk _ _ _ _ _ _ _ _ _ _ => by rw [nrmE]; rfl
theorem owL_nrm_of : ∀ (l : List ET), (∀ x ∈ l, ow (nrmE x) = ow x) → owL (nrmEL l) = owL l
  | [], _ => by rw [nrmEL]
  | x :: r, h => by rw [nrmEL, owL, owL, h x (by simp), owL_nrm_of r (fun y hy => h y (by simp [hy]))]
theorem ow_nrm : ∀ x : ET, ow (nrmE x) = ow x := by
  refine ET.ind ?_
  intro op wd v sg uh ul xn xa xc xl ih
  rw [nrmE, ow, ow, owL_nrm_of xl ih]
theorem owL_nrm (l : List ET) : owL (nrmEL l) = owL l := owL_nrm_of l (fun x _ => ow_nrm x)
theorem uW_nrm (x : ET) (w0 : Int) : uW (nrmE x) w0 = uW x w0 := by unfold uW; rw [ow_nrm]
theorem same_wd {x y : ET} (h : nrmE x = nrmE y) : x.wd = y.wd := by rw [← nrm_wd x, ← nrm_wd y, h]
theorem same_ow {x y : ET} (h : nrmE x = nrmE y) : ow x = ow y := by rw [← ow_nrm x, ← ow_nrm y, h]
theorem szL_nrm_of : ∀ (l : List ET), (∀ x ∈ l, ∀ w0 f, szE (nrmE x) w0 f = (nrmE (szE x w0 f).1, (szE x w0 f).2)) → ∀ k I f, szL (nrmEL l) k I f = (nrmEL (szL l k I f).1, (szL l k I f).2)
  | [], _, k, I, f => by simp [szL, nrmEL]
  | x :: r, h, k, I, f => by
    have e : szI (nrmE x) (I k) f = (nrmE (szI x (I k) f).1, (szI x (I k) f).2) := by
      unfold szI; rw [ow_nrm]; exact h x (by simp) _ _
    rw [nrmEL, szL_cons, szL_cons, e, szL_nrm_of r (fun y hy => h y (by simp [hy]))]
    simp only [nrmEL]
theorem szE_nrm : ∀ (x : ET) (w0 f : Int), szE (nrmE x) w0 f = (nrmE (szE x w0 f).1, (szE x w0 f).2) := by
  refine ET.ind ?_
  intro op wd v sg uh ul xn xa xc xl ih w0 f
  have e1 : ow (.mk op wd v sg uh ul xn none 0 (nrmEL xl)) = ow (.mk op wd v sg uh ul xn xa xc xl) := by rw [ow, ow, owL_nrm]
  have e2 : uW (.mk op wd v sg uh ul xn none 0 (nrmEL xl)) w0 = uW (.mk op wd v sg uh ul xn xa xc xl) w0 := by unfold uW; rw [e1]
  rw [nrmE, szE_mk, szE_mk, e1, e2, owL_nrm, szL_nrm_of xl ih]
  simp only [nrmE]
  congr 1
  unfold postF
  congr 3
  rw [nrmEL_map, List.map_map]
  congr 2
  funext x
  exact nrm_wd x
theorem mayEL_nrm_of (gl : List GT) : ∀ (l : List ET), (∀ x ∈ l, mayE gl (nrmE x) = mayE gl x) → mayEL gl (nrmEL l) = mayEL gl l
  | [], _ => by rw [nrmEL]
  | x :: r, h => by rw [nrmEL, mayEL, mayEL, h x (by simp), mayEL_nrm_of gl r (fun y hy => h y (by simp [hy]))]
theorem nrmEL_length (l : List ET) : (nrmEL l).length = l.length := by rw [nrmEL_map, List.length_map]
theorem mayE_nrm (gl : List GT) : ∀ x : ET, mayE gl (nrmE x) = mayE gl x := by
  refine ET.ind ?_
  intro op wd v sg uh ul xn xa xc xl ih
  rw [nrmE, mayE, mayE, mayEL_nrm_of gl xl ih, nrmEL_length]
theorem szL_nrmL_of : ∀ (l : List ET), (∀ x ∈ l, (nrmE x).sz = x.sz ∧ (nrmE x).dp = x.dp ∧ (nrmE x).bk = x.bk) → ET.szL (nrmEL l) = ET.szL l ∧ ET.dpL (nrmEL l) = ET.dpL l ∧ ET.bkL (nrmEL l) = ET.bkL l
  | [], _ => by rw [nrmEL]; exact ⟨rfl, rfl, rfl⟩
  | x :: r, h => by
    obtain ⟨h1, h2, h3⟩ := h x (by simp)
    obtain ⟨k1, k2, k3⟩ := szL_nrmL_of r (fun y hy => h y (by simp [hy]))
    rw [nrmEL, ET.szL, ET.szL, ET.dpL, ET.dpL, ET.bkL, ET.bkL, h1, h2, h3, k1, k2, k3]
    exact ⟨rfl, rfl, rfl⟩
theorem meas_nrm : ∀ x : ET, (nrmE x).sz = x.sz ∧ (nrmE x).dp = x.dp ∧ (nrmE x).bk = x.bk := by
  refine ET.ind ?_
  intro op wd v sg uh ul xn xa xc xl ih
  obtain ⟨k1, k2, k3⟩ := szL_nrmL_of xl ih
  rw [nrmE, ET.sz, ET.sz, ET.dp, ET.dp, ET.bk, ET.bk, k1, k2, k3]
  exact ⟨rfl, rfl, rfl⟩
theorem wfL_nrm_of : ∀ (l : List ET), (∀ x ∈ l, (nrmE x).Wf ↔ x.Wf) → ((∀ x ∈ nrmEL l, x.Wf) ↔ ∀ x ∈ l, x.Wf)
  | [], _ => by rw [nrmEL]
  | x :: r, h => by
    rw [nrmEL]
    have h1 := wfL_nrm_of r (fun y hy => h y (by simp [hy]))
    have h0 := h x (by simp)
    simp only [List.mem_cons, forall_eq_or_imp, h0, h1]
theorem wf_nrm : ∀ x : ET, (nrmE x).Wf ↔ x.Wf := by
  refine ET.ind ?_
  intro op wd v sg uh ul xn xa xc xl ih
  rw [nrmE, ET.wf_mk, ET.wf_mk, wfL_nrm_of xl ih]
-- what sizing keeps: how great a tree is
theorem szL_meas_of : ∀ (l : List ET), (∀ x ∈ l, ∀ w0 f, (szE x w0 f).1.sz = x.sz ∧ (szE x w0 f).1.dp = x.dp ∧ (szE x w0 f).1.bk = x.bk ∧ (x.Wf → (szE x w0 f).1.Wf)) → ∀ k I f, ET.szL (szL l k I f).1 = ET.szL l ∧ ET.dpL (szL l k I f).1 = ET.dpL l ∧ ET.bkL (szL l k I f).1 = ET.bkL l ∧ ((∀ x ∈ l, x.Wf) → ∀ x ∈ (szL l k I f).1, x.Wf)
  | [], _, k, I, f => by simp [szL]
  | x :: r, h, k, I, f => by
    obtain ⟨h1, h2, h3, h4⟩ := h x (by simp) (if (I k).1 = true then 1 else (I k).2) (if (I k).1 = true then wantF f (ow x == 0 || ow x == 1) 91 else f)
    obtain ⟨k1, k2, k3, k4⟩ := szL_meas_of r (fun y hy => h y (by simp [hy])) (k + 1) I (szI x (I k) f).2
    rw [szL_cons]
    unfold szI at *
    simp only [ET.szL, ET.dpL, ET.bkL, h1, h2, h3, k1, k2, k3, true_and]
    intro hw y hy
    rcases List.mem_cons.1 hy with e | e
    · rw [e]; exact h4 (hw x (by simp))
    · exact k4 (fun z hz => hw z (by simp [hz])) y e
theorem szE_meas : ∀ (x : ET) (w0 f : Int), (szE x w0 f).1.sz = x.sz ∧ (szE x w0 f).1.dp = x.dp ∧ (szE x w0 f).1.bk = x.bk ∧ (x.Wf → (szE x w0 f).1.Wf) := by
  refine ET.ind ?_
  intro op wd v sg uh ul xn xa xc xl ih w0 f
  rw [szE_mk]
  simp only
  generalize uW (.mk op wd v sg uh ul xn xa xc xl) w0 = u
  generalize ow (.mk op wd v sg uh ul xn xa xc xl) = p
  obtain ⟨k1, k2, k3, k4⟩ := szL_meas_of xl ih 0 (insF op xn u (owL xl)) (preF op xn p u v f)
  rw [ET.sz, ET.sz, ET.dp, ET.dp, ET.bk, ET.bk, k1, k2, k3, ET.wf_mk, ET.wf_mk]
  exact ⟨rfl, rfl, rfl, fun h => ⟨h.1, k4 h.2⟩⟩
end Go.Proofs.YtbcgeglkmpcnpaaDoor
