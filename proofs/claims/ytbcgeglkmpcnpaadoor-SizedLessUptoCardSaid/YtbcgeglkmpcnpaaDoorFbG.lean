/-
  FaN, FaJ, FaK, FaO, FaP, in one text.
-/
import Derived.Test.YtbcgeglkmpcnpaaDoorFbA
import Derived.Test.YtbcgeglkmpcnpaaDoorEyV
import Derived.Test.YtbcgeglkmpcnpaaDoorFbC
import Derived.Test.YtbcgeglkmpcnpaaDoorFbE
import Derived.Test.YtbcgeglkmpcnpaaDoorEyE
import Derived.Test.YtbcgeglkmpcnpaaDoorEyP
import Derived.Deep.MidRow
import Derived.Test.YtbcgeglkmpcnpaaDoorEyG
import Derived.Lib.QuietBelow
import Derived.BigQuiet
import Derived.BigRegion
import Derived.ArgAppend
namespace Go.Proofs.YtbcgeglkmpcnpaaDoor
open Go Go.RowKit
set_option linter.unusedVariables false
set_option linter.unusedSimpArgs false

theorem nrmTL_length (l : List TT) : (nrmTL l).length = l.length := by rw [nrmTL_map, List.length_map]
theorem measTL_nrm : ∀ (l : List TT), (∀ x ∈ l, (nrmT x).sz = x.sz ∧ (nrmT x).dp = x.dp ∧ (nrmT x).bk = x.bk) → TT.szL (nrmTL l) = TT.szL l ∧ TT.dpL (nrmTL l) = TT.dpL l ∧ TT.bkL (nrmTL l) = TT.bkL l
  | [], _ => by rw [nrmTL]; exact ⟨rfl, rfl, rfl⟩
  | x :: r, h => by
    obtain ⟨h1, h2, h3⟩ := h x (by simp)
    obtain ⟨k1, k2, k3⟩ := measTL_nrm r (fun y hy => h y (by simp [hy]))
    rw [nrmTL, TT.szL, TT.szL, TT.dpL, TT.dpL, TT.bkL, TT.bkL, h1, h2, h3, k1, k2, k3]
    exact ⟨rfl, rfl, rfl⟩
theorem measT_nrm : ∀ x : TT, (nrmT x).sz = x.sz ∧ (nrmT x).dp = x.dp ∧ (nrmT x).bk = x.bk := by
  refine TT.ind ?_
  intro op sg uh ul xa xc xl sa sc sl ih
  obtain ⟨k1, k2, k3⟩ := measTL_nrm sl ih
  obtain ⟨e1, e2, e3⟩ := szL_nrmL_of xl (fun x _ => meas_nrm x)
  rw [nrmT, TT.sz, TT.sz, TT.dp, TT.dp, TT.bk, TT.bk, k1, k2, k3, e1, e2, e3]
  exact ⟨rfl, rfl, rfl⟩
theorem wfTL_nrm : ∀ (l : List TT), (∀ x ∈ l, (nrmT x).Wf ↔ x.Wf) → ((∀ x ∈ nrmTL l, x.Wf) ↔ ∀ x ∈ l, x.Wf)
  | [], _ => by rw [nrmTL]
  | x :: r, h => by
    rw [nrmTL]
    have h1 := wfTL_nrm r (fun y hy => h y (by simp [hy]))
    have h0 := h x (by simp)
    simp only [List.mem_cons, forall_eq_or_imp, h0, h1]
theorem wfT_nrm : ∀ x : TT, (nrmT x).Wf ↔ x.Wf := by
  refine TT.ind ?_
  intro op sg uh ul xa xc xl sa sc sl ih
  rw [nrmT, TT.wf_mk, TT.wf_mk, wfTL_nrm sl ih, wfL_nrm_of xl (fun x _ => wf_nrm x)]
theorem op_nrm : ∀ x : ET, (nrmE x).op = x.op
  | .mk _ _ _ _ _ _ _ _ _ _ => by rw [nrmE]; rfl
theorem lab_nrm (gl : List GT) (l : List ET) : (nrmEL l).all (fun x => (x.op == 1) && mayE gl x) = l.all (fun x => (x.op == 1) && mayE gl x) := by
  rw [nrmEL_map, List.all_map]
  congr 1
  funext x
  simp only [Function.comp, op_nrm, mayE_nrm]
theorem mayTL_nrm_of (gl : List GT) : ∀ (l : List TT), (∀ x ∈ l, ∀ m, mayT gl (nrmT x) m = mayT gl x m) → (∀ m, mayTL gl (nrmTL l) m = mayTL gl l m) ∧ mayAL gl (nrmTL l) = mayAL gl l
  | [], _ => by rw [nrmTL]; exact ⟨fun _ => rfl, rfl⟩
  | x :: r, h => by
    obtain ⟨h1, h2⟩ := mayTL_nrm_of gl r (fun y hy => h y (by simp [hy]))
    have h0 := h x (by simp)
    refine ⟨fun m => by rw [nrmTL, mayTL, mayTL, h0, h1], ?_⟩
    rw [nrmTL, mayAL, mayAL, h0, h2]
    cases r with
    | nil => rw [nrmTL]
    | cons y t => rw [nrmTL]; rfl
theorem mayT_nrm (gl : List GT) : ∀ x : TT, ∀ m, mayT gl (nrmT x) m = mayT gl x m := by
  refine TT.ind ?_
  intro op sg uh ul xa xc xl sa sc sl ih m
  obtain ⟨h1, h2⟩ := mayTL_nrm_of gl sl ih
  rw [nrmT, mayT, mayT]
  simp only [nrmEL_length, nrmTL_length, h1, h2, lab_nrm, mayEL_nrm_of gl xl (fun x _ => mayE_nrm gl x)]
theorem wdmap_nrm (l : List ET) : (nrmEL l).map ET.wd = l.map ET.wd := by
  rw [nrmEL_map, List.map_map]
  congr 1
  funext x
  exact nrm_wd x
theorem cmT_nrm (m : Option Int) (op : Int) (l : List ET) : cmT m op (nrmEL l) = cmT m op l := by unfold cmT; rw [wdmap_nrm]
theorem szTL_nrm_of (cl : Bool) (gl : List GT) : ∀ (l : List TT), (∀ x ∈ l, ∀ m f, szT cl gl (nrmT x) m f = (nrmT (szT cl gl x m f).1, (szT cl gl x m f).2)) → ∀ m f, szTL cl gl (nrmTL l) m f = (nrmTL (szTL cl gl l m f).1, (szTL cl gl l m f).2)
  | [], _, m, f => by rw [nrmTL, szTL_nil, nrmTL]
  | x :: r, h, m, f => by
    rw [nrmTL, szTL_cons, szTL_cons, h x (by simp), szTL_nrm_of cl gl r (fun y hy => h y (by simp [hy]))]
    simp only [nrmTL]
theorem szT_nrm (cl : Bool) (gl : List GT) : ∀ (x : TT) (m : Option Int) (f : Int), szT cl gl (nrmT x) m f = (nrmT (szT cl gl x m f).1, (szT cl gl x m f).2) := by
  refine TT.ind ?_
  intro op sg uh ul xa xc xl sa sc sl ih m f
  rw [nrmT, szT_mk, szT_mk, szL_nrm_of xl (fun x _ => szE_nrm x)]
  simp only [cmT_nrm]
  rw [szTL_nrm_of cl gl sl ih]
  simp only [nrmT]
theorem szTL_nrm (cl : Bool) (gl : List GT) (l : List TT) (m : Option Int) (f : Int) : szTL cl gl (nrmTL l) m f = (nrmTL (szTL cl gl l m f).1, (szTL cl gl l m f).2) := szTL_nrm_of cl gl l (fun x _ => szT_nrm cl gl x) m f
theorem szQ_nrm (gl : List GT) (q : QT) (f : Int) : szQ gl (nrmQ q) f = (nrmQ (szQ gl q f).1, (szQ gl q f).2) := by
  unfold szQ nrmQ
  simp only [szTL_nrm]
theorem szQL_nrm (gl : List GT) : ∀ (l : List QT) (f : Int), szQL gl (l.map nrmQ) f = ((szQL gl l f).1.map nrmQ, (szQL gl l f).2)
  | [], f => by rw [List.map_nil, szQL]; rfl
  | x :: r, f => by rw [List.map_cons, szQL, szQL, szQ_nrm, szQL_nrm gl r]; rfl
theorem szI_nrm (x : ET) (i : Bool × Int) (f : Int) : szI (nrmE x) i f = (nrmE (szI x i f).1, (szI x i f).2) := by
  unfold szI; rw [ow_nrm]; exact szE_nrm x _ _
theorem szK_nrm (q : KT) (f : Int) : szK (nrmK q) f = (nrmK (szK q f).1, (szK q f).2) := by
  unfold szK nrmK
  simp only [szI_nrm]
theorem szKL_nrm : ∀ (l : List KT) (f : Int), szKL (l.map nrmK) f = ((szKL l f).1.map nrmK, (szKL l f).2)
  | [], f => by rw [List.map_nil, szKL]; rfl
  | x :: r, f => by rw [List.map_cons, szKL, szKL, szK_nrm, szKL_nrm r]; rfl
theorem szD_nrm (d : DT) : szD (nrmD d) = (((szD d).1.1.map nrmQ, (szD d).1.2.map nrmK), (szD d).2) := by
  unfold szD nrmD
  simp only [szQL_nrm, szKL_nrm]
theorem mayD_nrm (d : DT) : mayD (nrmD d) = mayD d := by
  unfold mayD nrmD
  simp only [List.all_map]
  congr 1
  · congr 1
    funext q
    simp only [Function.comp, nrmQ]
    exact (mayTL_nrm_of d.gl q.sl (fun x _ => mayT_nrm d.gl x)).1 0
  · congr 1
    funext q
    simp only [Function.comp, nrmK, mayE_nrm]
theorem nodesQ_nrm : ∀ l : List QT, nodesQ (l.map nrmQ) = nodesQ l ∧ deepQ (l.map nrmQ) = deepQ l ∧ QT.bkL (l.map nrmQ) = QT.bkL l
  | [] => ⟨rfl, rfl, rfl⟩
  | x :: r => by
    obtain ⟨h1, h2, h3⟩ := nodesQ_nrm r
    obtain ⟨k1, k2, k3⟩ := measTL_nrm x.sl (fun y _ => measT_nrm y)
    have e : (nrmQ x).bk = x.bk := by
      obtain ⟨a, b, c, l⟩ := x
      show 1 + TT.bkL (nrmTL l) = 1 + TT.bkL l
      rw [k3]
    simp only [List.map_cons, nodesQ, deepQ, QT.bkL, h1, h2, h3, e, true_and, and_true]
    simp only [nrmQ, k1, k2, and_self]
theorem nodesK_nrm : ∀ l : List KT, nodesK (l.map nrmK) = nodesK l ∧ deepK (l.map nrmK) = deepK l ∧ KT.bkL (l.map nrmK) = KT.bkL l
  | [] => ⟨rfl, rfl, rfl⟩
  | x :: r => by
    obtain ⟨h1, h2, h3⟩ := nodesK_nrm r
    obtain ⟨k1, k2, k3⟩ := meas_nrm x.x
    have e : (nrmK x).bk = x.bk := by
      obtain ⟨a, b⟩ := x
      show 1 + a.length + (nrmE b).bk = 1 + a.length + b.bk
      rw [k3]
    simp only [List.map_cons, nodesK, deepK, KT.bkL, h1, h2, h3, e, true_and, and_true]
    simp only [nrmK, k1, k2, and_self]
theorem measD_nrm (d : DT) : measN (nrmD d) = measN d ∧ measD (nrmD d) = measD d ∧ (nrmD d).bk = d.bk := by
  obtain ⟨h1, h2, h3⟩ := nodesQ_nrm d.ql
  obtain ⟨k1, k2, k3⟩ := nodesK_nrm d.kl
  unfold measN measD DT.bk nrmD
  simp only [h1, h2, h3, k1, k2, k3, and_self]
theorem wfD_nrm (d : DT) : (nrmD d).Wf ↔ d.Wf := by
  unfold DT.Wf nrmD
  simp only [QT.wfL_iff, KT.wfL_iff, List.mem_map, forall_exists_index, and_imp, forall_apply_eq_imp_iff₂]
  refine and_congr_right fun _ => and_congr ?_ ?_
  · refine forall_congr' fun q => forall_congr' fun _ => ?_
    obtain ⟨a, b, c, l⟩ := q
    show TT.WfL (nrmTL l) ↔ TT.WfL l
    rw [TT.wfL_iff, TT.wfL_iff]
    exact wfTL_nrm l (fun x _ => wfT_nrm x)
  · refine forall_congr' fun q => forall_congr' fun _ => ?_
    obtain ⟨a, b⟩ := q
    exact wf_nrm b
theorem boundD_nrm (d : DT) : boundD (nrmD d) = boundD d := by
  unfold boundD
  rw [(measD_nrm d).1, (measD_nrm d).2.1]
  simp only [nrmD, List.length_map]
  try rfl
theorem sizeF_nrm (d : DT) : sizeF (nrmD d) = sizeF d := by
  unfold sizeF
  rw [boundD_nrm, mayD_nrm, szD_nrm]
  rfl
theorem nrmEL_nrm_of : ∀ l : List ET, (∀ x ∈ l, nrmE (nrmE x) = nrmE x) → nrmEL (nrmEL l) = nrmEL l
  | [], _ => by rw [nrmEL, nrmEL]
  | x :: r, h => by rw [nrmEL, nrmEL, h x (by simp), nrmEL_nrm_of r (fun y hy => h y (by simp [hy]))]
theorem nrmE_nrm' : ∀ x : ET, nrmE (nrmE x) = nrmE x := by
  refine ET.ind ?_
  intro op wd v sg uh ul xn xa xc xl ih
  rw [nrmE, nrmE, nrmEL_nrm_of xl ih]
theorem nrmTL_nrm_of : ∀ l : List TT, (∀ x ∈ l, nrmT (nrmT x) = nrmT x) → nrmTL (nrmTL l) = nrmTL l
  | [], _ => by rw [nrmTL, nrmTL]
  | x :: r, h => by rw [nrmTL, nrmTL, h x (by simp), nrmTL_nrm_of r (fun y hy => h y (by simp [hy]))]
theorem nrmT_nrm : ∀ x : TT, nrmT (nrmT x) = nrmT x := by
  refine TT.ind ?_
  intro op sg uh ul xa xc xl sa sc sl ih
  rw [nrmT, nrmT, nrmTL_nrm_of sl ih, nrmEL_nrm_of xl (fun x _ => nrmE_nrm' x)]
theorem nrmQ_nrm (q : QT) : nrmQ (nrmQ q) = nrmQ q := by
  obtain ⟨a, b, c, l⟩ := q
  have h : ∀ l : List TT, nrmTL (nrmTL l) = nrmTL l := fun l => by
    rw [nrmTL_map, nrmTL_map, List.map_map]
    congr 1
    funext x
    exact nrmT_nrm x
  unfold nrmQ
  simp only [h]
theorem nrmK_nrm (q : KT) : nrmK (nrmK q) = nrmK q := by
  unfold nrmK
  simp only [nrmE_nrm']
theorem sizeR_nrm (d : DT) : sizeR (nrmD d) = sizeR d := by
  unfold sizeR
  rw [sizeF_nrm, szD_nrm]
  have e1 : (nrmQ ∘ nrmQ) = nrmQ := by funext q; exact nrmQ_nrm q
  have e2 : (nrmK ∘ nrmK) = nrmK := by funext q; exact nrmK_nrm q
  simp only [List.map_map, e1, e2]
  rfl
theorem nrmD_nrm (d : DT) : nrmD (nrmD d) = nrmD d := by
  unfold nrmD
  have e1 : (nrmQ ∘ nrmQ) = nrmQ := by funext q; exact nrmQ_nrm q
  have e2 : (nrmK ∘ nrmK) = nrmK := by funext q; exact nrmK_nrm q
  simp only [List.map_map, e1, e2]
theorem sizeR_self (d : DT) : nrmD (sizeR d) = sizeR d := by
  unfold sizeR
  split
  · unfold nrmD
    have e1 : (nrmQ ∘ nrmQ) = nrmQ := by funext q; exact nrmQ_nrm q
    have e2 : (nrmK ∘ nrmK) = nrmK := by funext q; exact nrmK_nrm q
    simp only [List.map_map, e1, e2]
  · rfl
-- the fault of statements
theorem preT_ne {f : Int} (h : f ≠ 0) (cl : Bool) (gl : List GT) (m : Option Int) (op sg : Int) : preT cl gl m op sg f = f := by
  unfold preT
  cases m with
  | some w => rfl
  | none => simp only []; split
            · exact wantF_ne h _ _
            · rfl
theorem szTL_ne_of (cl : Bool) (gl : List GT) : ∀ (l : List TT), (∀ x ∈ l, ∀ m f, (∀ f', (szT cl gl x m f).1 = (szT cl gl x m f').1) ∧ (f ≠ 0 → (szT cl gl x m f).2 = f)) → ∀ (m : Option Int) (f : Int), (∀ f', (szTL cl gl l m f).1 = (szTL cl gl l m f').1) ∧ (f ≠ 0 → (szTL cl gl l m f).2 = f)
  | [], _, m, f => ⟨fun _ => by rw [szTL_nil, szTL_nil], fun _ => by rw [szTL_nil]⟩
  | x :: r, hx, m, f => by
    have h1 := szTL_ne_of cl gl r (fun y hy => hx y (by simp [hy]))
    have h0 := hx x (by simp)
    refine ⟨fun f' => ?_, fun hf => ?_⟩
    · rw [szTL_cons, szTL_cons]
      simp only
      rw [(h1 m _).1 (szT cl gl x m f').2, (h0 m f).1 f']
    · rw [szTL_cons]
      simp only
      rw [(h0 m f).2 hf]
      exact (h1 m f).2 hf
theorem szT_ne_all (cl : Bool) (gl : List GT) : ∀ x : TT, ∀ m f, (∀ f', (szT cl gl x m f).1 = (szT cl gl x m f').1) ∧ (f ≠ 0 → (szT cl gl x m f).2 = f) := by
  refine TT.ind ?_
  intro op sg uh ul xa xc xl sa sc sl ih m f
  refine ⟨fun f' => ?_, fun hf => ?_⟩
  · rw [szT_mk, szT_mk]
    simp only
    rw [szL_fst xl 0 _ _ (preT cl gl m op sg f'), (szTL_ne_of cl gl sl ih _ _).1]
  · rw [szT_mk]
    simp only
    rw [preT_ne hf, szL_ne xl 0 _ hf, (szTL_ne_of cl gl sl ih _ _).2 hf]
theorem szT_fst (cl : Bool) (gl : List GT) (x : TT) (m : Option Int) (f f' : Int) : (szT cl gl x m f).1 = (szT cl gl x m f').1 := (szT_ne_all cl gl x m f).1 f'
theorem szT_ne (cl : Bool) (gl : List GT) (x : TT) (m : Option Int) {f : Int} (h : f ≠ 0) : (szT cl gl x m f).2 = f := (szT_ne_all cl gl x m f).2 h
theorem szTL_fst (cl : Bool) (gl : List GT) (l : List TT) (m : Option Int) (f f' : Int) : (szTL cl gl l m f).1 = (szTL cl gl l m f').1 := (szTL_ne_of cl gl l (fun x _ => szT_ne_all cl gl x) m f).1 f'
theorem szTL_ne (cl : Bool) (gl : List GT) (l : List TT) (m : Option Int) {f : Int} (h : f ≠ 0) : (szTL cl gl l m f).2 = f := (szTL_ne_of cl gl l (fun x _ => szT_ne_all cl gl x) m f).2 h
theorem szT_f0 {cl : Bool} {gl : List GT} {x : TT} {m : Option Int} {f : Int} (h : (szT cl gl x m f).2 = 0) : f = 0 := by
  by_cases q : f = 0
  · exact q
  · rw [szT_ne cl gl x m q] at h; exact h
theorem szTL_map (cl : Bool) (gl : List GT) (m : Option Int) : ∀ (l : List TT) (f : Int), (szTL cl gl l m f).1 = l.map (fun x => (szT cl gl x m 0).1)
  | [], f => by rw [szTL_nil]; rfl
  | x :: r, f => by rw [szTL_cons, List.map_cons, szTL_map cl gl m r, szT_fst cl gl x m f 0]
theorem szTL_zero (cl : Bool) (gl : List GT) (m : Option Int) : ∀ (l : List TT) (f : Int), (szTL cl gl l m f).2 = 0 ↔ f = 0 ∧ ∀ x ∈ l, (szT cl gl x m 0).2 = 0
  | [], f => by rw [szTL_nil]; simp
  | x :: r, f => by
    rw [szTL_cons]
    simp only
    rw [szTL_zero cl gl m r]
    constructor
    · rintro ⟨h1, h2⟩
      have h0 := szT_f0 h1
      subst h0
      refine ⟨rfl, fun y hy => ?_⟩
      rcases List.mem_cons.1 hy with rfl | hr
      · exact h1
      · exact h2 y hr
    · rintro ⟨rfl, h⟩
      exact ⟨h x (by simp), fun y hy => h y (by simp [hy])⟩
theorem szT_zero {cl : Bool} {gl : List GT} {op sg uh ul : Int} {xa : Option Addr} {xc : Nat} {xl : List ET} {sa : Option Addr} {sc : Nat} {sl : List TT} {m : Option Int} : (szT cl gl (.mk op sg uh ul xa xc xl sa sc sl) m 0).2 = 0 ↔ preT cl gl m op sg 0 = 0 ∧ (∀ x ∈ xl, OkI x (insT m op uh ul)) ∧ ∀ y ∈ sl, (szT cl gl y (cmT m op (szL xl 0 (fun _ => insT m op uh ul) 0).1) 0).2 = 0 := by
  rw [szT_mk]
  simp only
  rw [szTL_zero, szL_zero, szL_fst xl 0 _ (preT cl gl m op sg 0) 0, and_assoc]
  refine and_congr_right fun _ => and_congr_left fun _ => ?_
  constructor
  · intro h x hx
    obtain ⟨j, hj, rfl⟩ := List.mem_iff_getElem.1 hx
    exact h j hj
  · intro h j hj
    exact h _ (List.getElem_mem hj)
theorem szQL_zero (gl : List GT) : ∀ (l : List QT) (f : Int), (szQL gl l f).2 = 0 ↔ f = 0 ∧ ∀ q ∈ l, ∀ x ∈ q.sl, (szT q.ck gl x none 0).2 = 0
  | [], f => by rw [szQL]; simp
  | q :: r, f => by
    rw [szQL]
    simp only
    rw [szQL_zero gl r]
    have e : (szQ gl q f).2 = 0 ↔ f = 0 ∧ ∀ x ∈ q.sl, (szT q.ck gl x none 0).2 = 0 := szTL_zero q.ck gl none q.sl f
    rw [e]
    simp only [List.mem_cons, forall_eq_or_imp, and_assoc]
theorem szKL_zero : ∀ (l : List KT) (f : Int), (szKL l f).2 = 0 ↔ f = 0 ∧ ∀ k ∈ l, OkI k.x (true, 1)
  | [], f => by rw [szKL]; simp
  | q :: r, f => by
    rw [szKL]
    simp only
    rw [szKL_zero r]
    have e : (szK q f).2 = 0 ↔ f = 0 ∧ OkI q.x (true, 1) := szI_zero
    rw [e]
    simp only [List.mem_cons, forall_eq_or_imp, and_assoc]
theorem szQL_map (gl : List GT) : ∀ (l : List QT) (f : Int), (szQL gl l f).1 = l.map (fun q => (szQ gl q 0).1)
  | [], f => by rw [szQL]; rfl
  | q :: r, f => by
    rw [szQL, List.map_cons, szQL_map gl r]
    have e : (szQ gl q f).1 = (szQ gl q 0).1 := by unfold szQ; simp only [szTL_map]
    rw [e]
theorem szKL_map : ∀ (l : List KT) (f : Int), (szKL l f).1 = l.map (fun q => (szK q 0).1)
  | [], f => by rw [szKL]; rfl
  | q :: r, f => by
    rw [szKL, List.map_cons, szKL_map r]
    have e : (szK q f).1 = (szK q 0).1 := by unfold szK; simp only [szI_fst]
    rw [e]
theorem szD_zero (d : DT) : (szD d).2 = 0 ↔ sigF 0 d.gl = 0 ∧ (∀ q ∈ d.ql, ∀ x ∈ q.sl, (szT q.ck d.gl x none 0).2 = 0) ∧ ∀ k ∈ d.kl, OkI k.x (true, 1) := by
  unfold szD
  simp only
  rw [szKL_zero, szQL_zero, and_assoc]
-- what is sized is sized once
theorem szL_once {gl : List GT} (hgs : sigsMay gl = true) {xl : List ET} {i : Bool × Int} (hm : ∀ x ∈ xl, mayE gl x = true) (hw : ∀ x ∈ xl, WOk x (wI i)) (h0 : ∀ x ∈ xl, OkI x i) (F G : Int) :
    (∀ y ∈ (szL xl 0 (fun _ => i) F).1, OkI y i ∧ mayE gl y = true) ∧ nrmEL (szL (szL xl 0 (fun _ => i) F).1 0 (fun _ => i) G).1 = nrmEL (szL xl 0 (fun _ => i) F).1 := by
  have hD : ∀ j (h : j < xl.length), Done gl xl[j] (wI ((fun _ => i) j)) := fun j h => szd_done gl hgs _ (hm _ (List.getElem_mem h)) _ (hw _ (List.getElem_mem h)) (h0 _ (List.getElem_mem h)).2
  have h := sized_parts (I := fun _ => i) (J := fun _ => i) (F := F) (G := G) hD (fun _ _ => rfl)
  refine ⟨fun y hy => ?_, h.2⟩
  obtain ⟨j, hj, rfl⟩ := List.mem_iff_getElem.1 hy
  refine ⟨h.1 j hj, ?_⟩
  have hj' : j < xl.length := by rw [szL_len] at hj; exact hj
  rw [szL_get xl 0 _ F j hj' hj]
  exact (hD j hj').2.1
theorem op_szE (x : ET) (w f : Int) : (szE x w f).1.op = x.op := by
  obtain ⟨op, wd, v, sg, uh, ul, xn, xa, xc, xl⟩ := x
  rw [szE_mk]; rfl
/-- A statement, sized, is sized once. -/
def Once (cl : Bool) (gl : List GT) (x : TT) (m : Option Int) : Prop := (szT cl gl (szT cl gl x m 0).1 m 0).2 = 0 ∧ nrmT (szT cl gl (szT cl gl x m 0).1 m 0).1 = nrmT (szT cl gl x m 0).1
theorem onceL {cl : Bool} {gl : List GT} {m : Option Int} {l : List TT} (h : ∀ x ∈ l, Once cl gl x m) (f : Int) : (∀ y ∈ (szTL cl gl l m f).1, (szT cl gl y m 0).2 = 0) ∧ ∀ g, nrmTL (szTL cl gl (szTL cl gl l m f).1 m g).1 = nrmTL (szTL cl gl l m f).1 := by
  rw [szTL_map]
  refine ⟨fun y hy => ?_, fun g => ?_⟩
  · obtain ⟨x, hx, rfl⟩ := List.mem_map.1 hy
    exact (h x hx).1
  · rw [szTL_map, nrmTL_map, nrmTL_map, List.map_map, List.map_map, List.map_map]
    refine List.map_congr_left fun x hx => ?_
    exact (h x hx).2
theorem once_all (cl : Bool) (gl : List GT) (hgs : sigsMay gl = true) : ∀ x : TT, (∀ m, m < 2 → mayT gl x m = true → (szT cl gl x none 0).2 = 0 → Once cl gl x none ∧ mayT gl (szT cl gl x none 0).1 m = true) ∧ (∀ m w, 2 ≤ m → mayT gl x m = true → isW w = true → (szT cl gl x (some w) 0).2 = 0 → Once cl gl x (some w) ∧ mayT gl (szT cl gl x (some w) 0).1 m = true) := by
  have hwd : ∀ g ∈ gl, g.wd ≤ 64 := sigsMay_wd hgs
  refine TT.ind ?_
  intro op sg uh ul xa xc xl sa sc sl ih
  -- what follows of the parts
  have key : ∀ (m : Option Int), (∀ x ∈ xl, mayE gl x = true) → (∀ x ∈ xl, WOk x (wI (insT m op uh ul))) → (szT cl gl (.mk op sg uh ul xa xc xl sa sc sl) m 0).2 = 0 → (∀ (cm : Option Int), cm = cmT m op (szL xl 0 (fun _ => insT m op uh ul) 0).1 → (∀ y ∈ sl, (szT cl gl y cm 0).2 = 0) → ∀ y ∈ sl, Once cl gl y cm) → Once cl gl (.mk op sg uh ul xa xc xl sa sc sl) m := fun m hm hw hz hsl => by
    obtain ⟨z1, z2, z3⟩ := szT_zero.1 hz
    have hE := szL_once hgs hm hw z2 (preT cl gl m op sg 0) 0
    have hL := hsl _ rfl z3
    have e0 : (szL xl 0 (fun _ => insT m op uh ul) (preT cl gl m op sg 0)).1 = (szL xl 0 (fun _ => insT m op uh ul) 0).1 := szL_fst _ _ _ _ _
    rw [e0] at hE
    have hc : cmT m op (szL (szL xl 0 (fun _ => insT m op uh ul) 0).1 0 (fun _ => insT m op uh ul) 0).1 = cmT m op (szL xl 0 (fun _ => insT m op uh ul) 0).1 := by
      rw [← cmT_nrm, hE.2, cmT_nrm]
    have hO := onceL hL 0
    have e1 : (szT cl gl (.mk op sg uh ul xa xc xl sa sc sl) m 0).1 = .mk op sg uh ul xa xc (szL xl 0 (fun _ => insT m op uh ul) 0).1 sa sc (szTL cl gl sl (cmT m op (szL xl 0 (fun _ => insT m op uh ul) 0).1) 0).1 := by
      rw [szT_mk]
      simp only
      rw [e0, szTL_fst cl gl sl _ _ 0]
    unfold Once
    rw [e1]
    refine ⟨szT_zero.2 ⟨z1, fun y hy => (hE.1 y hy).1, ?_⟩, ?_⟩
    · rw [hc]; exact hO.1
    · rw [szT_mk]
      simp only [nrmT]
      rw [szL_fst _ 0 _ (preT cl gl m op sg 0) 0, hE.2, hc, szTL_fst cl gl _ _ _ 0, hO.2 0]
  have e1m : ∀ m : Option Int, (szT cl gl (.mk op sg uh ul xa xc xl sa sc sl) m 0).1 = .mk op sg uh ul xa xc (szL xl 0 (fun _ => insT m op uh ul) 0).1 sa sc (szTL cl gl sl (cmT m op (szL xl 0 (fun _ => insT m op uh ul) 0).1) 0).1 := fun m => by
    rw [szT_mk]
    simp only
    rw [szL_fst xl 0 _ (preT cl gl m op sg 0) 0, szTL_fst cl gl sl _ _ 0]
  have hmapL : ∀ (cm : Option Int), (szTL cl gl sl cm 0).1 = sl.map (fun x => (szT cl gl x cm 0).1) := fun cm => szTL_map cl gl cm sl 0
  -- a block
  have hblk : ∀ m, m < 2 → mayT gl (.mk op sg uh ul xa xc xl sa sc sl) m = true → op = 5 → (szT cl gl (.mk op sg uh ul xa xc xl sa sc sl) none 0).2 = 0 → Once cl gl (.mk op sg uh ul xa xc xl sa sc sl) none ∧ mayT gl (szT cl gl (.mk op sg uh ul xa xc xl sa sc sl) none 0).1 m = true := fun m hm2 h h5 hz => by
    subst h5
    have hz0 := hz
    obtain ⟨z1, z2, z3⟩ := szT_zero.1 hz
    have h' := h
    rw [mayT, if_neg (by omega), if_neg (by omega), if_neg (by omega), if_pos (by omega)] at h'
    simp only [Bool.and_eq_true, beq_iff_eq, mayTL_all, List.all_eq_true] at h'
    obtain ⟨_, hn, hx, hs⟩ := h'
    have hx0 : xl = [] := List.length_eq_zero_iff.1 hx
    subst hx0
    have hcm : cmT none 5 (szL [] 0 (fun _ => insT none 5 uh ul) 0).1 = none := by simp [cmT]
    rw [hcm] at z3
    refine ⟨key none (fun x hx => by cases hx) (fun x hx => by cases hx) hz0 (fun cm hc hy y hyy => ?_), ?_⟩
    · rw [hcm] at hc; subst hc
      exact ((ih y hyy).1 0 (by omega) (hs y hyy) (hy y hyy)).1
    · rw [e1m, mayT, if_neg (by omega), if_neg (by omega), if_neg (by omega), if_pos (by omega), hcm, hmapL]
      simp only [Bool.and_eq_true, beq_iff_eq, mayTL_all, List.all_eq_true, szL_len]
      refine ⟨by first | trivial | rfl, hn, by first | trivial | rfl, fun y hy => ?_⟩
      obtain ⟨x, hx, rfl⟩ := List.mem_map.1 hy
      exact ((ih x hx).1 0 (by omega) (hs x hx) (z3 x hx)).2
  refine ⟨fun m hm2 h hz => ?_, fun m w hm2 h hw hz => ?_⟩
  · by_cases t1 : m = 0 ∧ op = 1
    · obtain ⟨rfl, rfl⟩ := t1
      have hz0 := hz
      rw [may_assign] at h
      simp only [Bool.and_eq_true, beq_iff_eq, mayEL_all, List.all_eq_true] at h
      obtain ⟨hb, hx, hm, hs⟩ := h
      have hs0 : sl = [] := List.length_eq_zero_iff.1 (by omega)
      subst hs0
      have hbf := haveBits_facts hb
      have hwl := widthOf_le hwd sg
      have hE := szL_once hgs hm (i := insT none 1 uh ul) (fun x _ => Or.inr (Or.inr (by simp only [insT, if_true, wI]; exact isW_of (by simp; omega) (by simp; omega)))) (szT_zero.1 hz).2.1 0 0
      refine ⟨key none hm (fun x _ => Or.inr (Or.inr (by simp only [insT, if_true, wI]; exact isW_of (by simp; omega) (by simp; omega)))) hz0 (fun cm hc hy y hyy => by cases hyy), ?_⟩
      rw [e1m, may_assign, szTL_nil]
      simp only [Bool.and_eq_true, beq_iff_eq, mayEL_all, List.all_eq_true, szL_len]
      exact ⟨hb, hx, fun y hy => (hE.1 y hy).2, rfl⟩
    by_cases t2 : m = 0 ∧ op = 2
    · obtain ⟨rfl, rfl⟩ := t2
      have hz0 := hz
      rw [may_if] at h
      simp only [Bool.and_eq_true, beq_iff_eq, mayEL_all, mayTL_all, List.all_eq_true] at h
      obtain ⟨hn, hx, hm, hl, hs⟩ := h
      have hcm : cmT none 2 (szL xl 0 (fun _ => insT none 2 uh ul) 0).1 = none := by simp [cmT]
      have z3 := (szT_zero.1 hz).2.2
      rw [hcm] at z3
      have hE := szL_once hgs hm (i := insT none 2 uh ul) (fun x _ => Or.inr (Or.inr (by simp [insT, wI]; decide))) (szT_zero.1 hz).2.1 0 0
      refine ⟨key none hm (fun x _ => Or.inr (Or.inr (by simp [insT, wI]; decide))) hz0 (fun cm hc hy y hyy => ?_), ?_⟩
      · rw [hcm] at hc; subst hc
        exact ((ih y hyy).1 1 (by omega) (hs y hyy) (hy y hyy)).1
      · rw [e1m, may_if, hcm, hmapL]
        simp only [Bool.and_eq_true, beq_iff_eq, mayEL_all, mayTL_all, List.all_eq_true, szL_len, List.length_map]
        refine ⟨hn, hx, fun y hy => (hE.1 y hy).2, hl, fun y hy => ?_⟩
        obtain ⟨x, hx, rfl⟩ := List.mem_map.1 hy
        exact ((ih x hx).1 1 (by omega) (hs x hx) (z3 x hx)).2
    by_cases t3 : m = 0 ∧ op = 3
    · obtain ⟨rfl, rfl⟩ := t3
      have hz0 := hz
      rw [may_case] at h
      simp only [Bool.and_eq_true, beq_iff_eq, mayEL_all, List.all_eq_true, decide_eq_true_eq, mayAL_get] at h
      obtain ⟨hn, hx, hm, hs, hl0⟩ := h
      have hI : insT none 3 uh ul = (false, 0) := by simp [insT]
      have z2 := (szT_zero.1 hz).2.1
      have hE := szL_once hgs hm (i := insT none 3 uh ul) (fun x _ => Or.inl (by rw [hI]; rfl)) z2 0 0
      obtain ⟨x0, rfl⟩ : ∃ x0, xl = [x0] := by
        match xl, hx with
        | [a], _ => exact ⟨a, rfl⟩
        | [], h => simp at h
        | a :: b :: r, h => simp at h; omega
      have hcm : cmT none 3 (szL [x0] 0 (fun _ => insT none 3 uh ul) 0).1 = some (uW x0 0) := by
        rw [hI, szL_cons, szL]
        simp only [cmT, if_true, List.map_cons, List.getD_cons_zero, szI_fst]
        rw [szE_wd]
        rfl
      have hdn := szd_done gl hgs x0 (hm x0 (by simp)) 0 (Or.inl rfl) (by have := (z2 x0 (by simp)).2; rw [hI] at this; exact this)
      have z3 := (szT_zero.1 hz).2.2
      rw [hcm] at z3
      have harm : ∀ y ∈ sl, (szT cl gl y (some (uW x0 0)) 0).2 = 0 → ∀ k, (2 ≤ k ∧ mayT gl y k = true) → Once cl gl y (some (uW x0 0)) ∧ mayT gl (szT cl gl y (some (uW x0 0)) 0).1 k = true := fun y hy hz k hk => (ih y hy).2 k _ hk.1 hk.2 hdn.1 hz
      refine ⟨key none hm (fun x _ => Or.inl (by rw [hI]; rfl)) hz0 (fun cm hc hy y hyy => ?_), ?_⟩
      · rw [hcm] at hc; subst hc
        obtain ⟨k, hk, rfl⟩ := List.mem_iff_getElem.1 hyy
        exact (harm _ hyy (hy _ hyy) _ ⟨by split <;> omega, hs k hk⟩).1
      · rw [e1m, may_case, hcm, hmapL]
        simp only [Bool.and_eq_true, beq_iff_eq, mayEL_all, List.all_eq_true, decide_eq_true_eq, mayAL_get, szL_len, List.length_map]
        refine ⟨hn, by first | trivial | rfl, fun y hy => (hE.1 y hy).2, fun k hk => ?_, hl0⟩
        have hk' : k < sl.length := hk
        rw [List.getElem_map]
        exact (harm _ (List.getElem_mem hk') (z3 _ (List.getElem_mem hk')) _ ⟨by split <;> omega, hs k hk'⟩).2
    · have h' := h
      rw [mayT, if_neg t1, if_neg t2, if_neg t3, if_pos hm2] at h'
      simp only [Bool.and_eq_true, beq_iff_eq] at h'
      exact hblk m hm2 h h'.1 hz
  · have hz0 := hz
    have h' := h
    rw [mayT, if_neg (by omega), if_neg (by omega), if_neg (by omega), if_neg (by omega)] at h'
    simp only [Bool.and_eq_true, beq_iff_eq, mayTL_all, List.all_eq_true] at h'
    obtain ⟨h4, hn, hlast, hlab, hs⟩ := h'
    have hcm : cmT (some w) op (szL xl 0 (fun _ => insT (some w) op uh ul) 0).1 = none := rfl
    have z3 := (szT_zero.1 hz).2.2
    rw [hcm] at z3
    have hm : ∀ x ∈ xl, mayE gl x = true := fun x hx => (hlab x hx).2
    have hWk : ∀ x ∈ xl, WOk x (wI (insT (some w) op uh ul)) := fun x _ => Or.inr (Or.inr hw)
    have hE := szL_once hgs hm hWk (szT_zero.1 hz).2.1 0 0
    refine ⟨key (some w) hm hWk hz0 (fun cm hc hy y hyy => ?_), ?_⟩
    · rw [hcm] at hc; subst hc
      exact ((ih y hyy).1 0 (by omega) (hs y hyy) (hy y hyy)).1
    · rw [e1m, mayT, if_neg (by omega), if_neg (by omega), if_neg (by omega), if_neg (by omega), hcm, hmapL]
      simp only [Bool.and_eq_true, beq_iff_eq, mayTL_all, List.all_eq_true, szL_len]
      refine ⟨h4, hn, hlast, fun y hy => ⟨?_, (hE.1 y hy).2⟩, fun y hy => ?_⟩
      · obtain ⟨j, hj, rfl⟩ := List.mem_iff_getElem.1 hy
        have hj' : j < xl.length := by rw [szL_len] at hj; exact hj
        rw [szL_get xl 0 _ 0 j hj' hj, op_szE]
        exact (hlab _ (List.getElem_mem hj')).1
      · obtain ⟨x, hx, rfl⟩ := List.mem_map.1 hy
        exact ((ih x hx).1 0 (by omega) (hs x hx) (z3 x hx)).2
theorem measT_sz (cl : Bool) (gl : List GT) : ∀ (x : TT) (m : Option Int) (f : Int), (szT cl gl x m f).1.sz = x.sz ∧ (szT cl gl x m f).1.dp = x.dp ∧ (szT cl gl x m f).1.bk = x.bk ∧ (x.Wf → (szT cl gl x m f).1.Wf) := by
  have hL : ∀ (l : List TT), (∀ x ∈ l, ∀ m f, (szT cl gl x m f).1.sz = x.sz ∧ (szT cl gl x m f).1.dp = x.dp ∧ (szT cl gl x m f).1.bk = x.bk ∧ (x.Wf → (szT cl gl x m f).1.Wf)) → ∀ m f, TT.szL (szTL cl gl l m f).1 = TT.szL l ∧ TT.dpL (szTL cl gl l m f).1 = TT.dpL l ∧ TT.bkL (szTL cl gl l m f).1 = TT.bkL l ∧ ((∀ x ∈ l, x.Wf) → ∀ x ∈ (szTL cl gl l m f).1, x.Wf) := by
    intro l
    induction l with
    | nil => intro _ m f; rw [szTL_nil]; exact ⟨rfl, rfl, rfl, fun h => h⟩
    | cons x r ihr =>
      intro h m f
      obtain ⟨h1, h2, h3, h4⟩ := h x (by simp) m f
      obtain ⟨k1, k2, k3, k4⟩ := ihr (fun y hy => h y (by simp [hy])) m (szT cl gl x m f).2
      rw [szTL_cons]
      simp only [TT.szL, TT.dpL, TT.bkL, h1, h2, h3, k1, k2, k3, true_and]
      intro hw y hy
      rcases List.mem_cons.1 hy with e | e
      · rw [e]; exact h4 (hw x (by simp))
      · exact k4 (fun z hz => hw z (by simp [hz])) y e
  refine TT.ind ?_
  intro op sg uh ul xa xc xl sa sc sl ih m f
  rw [szT_mk]
  simp only
  obtain ⟨k1, k2, k3, k4⟩ := hL sl ih (cmT m op (szL xl 0 (fun _ => insT m op uh ul) (preT cl gl m op sg f)).1) (szL xl 0 (fun _ => insT m op uh ul) (preT cl gl m op sg f)).2
  obtain ⟨e1, e2, e3, e4⟩ := szL_meas_of xl (fun x _ => szE_meas x) 0 (fun _ => insT m op uh ul) (preT cl gl m op sg f)
  rw [TT.sz, TT.sz, TT.dp, TT.dp, TT.bk, TT.bk, k1, k2, k3, e1, e2, e3, TT.wf_mk, TT.wf_mk]
  exact ⟨rfl, rfl, rfl, fun h => ⟨e4 h.1, k4 h.2⟩⟩
end Go.Proofs.YtbcgeglkmpcnpaaDoor
namespace Go.Proofs.YtbcgeglkmpcnpaaDoor
open Go Go.RowKit
set_option linter.unusedVariables false
set_option linter.unusedSimpArgs false
open Go.Sort

/-- What Size leaves. -/
def SizeP (d : DT) (w : World) : Ending → World → Prop := fun e w' => ∃ y : DT, e = .returned (.tuple #[y.val, .int .i64 (sizeF d)]) ∧ nrmD y = sizeR d ∧ y.In w'.heap.size w' ∧ Below w.heap.size w w'
theorem zeroD_in (n : Nat) (W : World) : zeroD.In n W := ⟨by unfold InRow; trivial, by unfold InRow; trivial, by unfold InRow; trivial⟩
theorem zeroD_val : zeroD.val = .agg #[.slice none 0 0, .slice none 0 0, .slice none 0 0] := rfl
theorem sizeR_ne {d : DT} (h : sizeF d ≠ 0) : sizeR d = nrmD zeroD := by unfold sizeR; rw [if_neg h]; rfl
theorem GsIn.off {n B : Nat} {W W' : World} {gl : List GT} {a : Option Addr} (h : GsIn n W gl a) (hf : ∀ p, a = some p → B < p.block) (ho : ∀ k, k ≠ B → W'.heap[k]? = W.heap[k]?) : GsIn n W' gl a := h.other (B := B) (fun p hp => by have := hf p hp; omega) ho
set_option maxHeartbeats 8000000 in
set_option maxRecDepth 100000 in
theorem size_of_design (D : DT) (hbk : D.bk ≤ 4500000) (hwf : D.Wf) (hnm : ∀ g ∈ D.gl, g.nm.length ≤ 12000000) (n0 : Nat) (w : World) (hn0 : n0 ≤ w.heap.size) (hz : EnvZ w) (hin : D.In n0 w) : Calls Tryd.prog 14 #[D.val] w (SizeP D w) := by
  have cb := fun (W : World) (h : Below w.heap.size w W) => bounds_any D hbk n0 W (Nat.le_trans hn0 h.size) (DT.In.keep (Below.keptTo h hn0) D hin)
  have cc := fun (W : World) (h : Below w.heap.size w W) => copyFlat_any D hbk n0 W (Nat.le_trans hn0 h.size) (DT.In.keep (Below.keptTo h hn0) D hin)
  have cm := fun (W : World) (h : Below w.heap.size w W) => mayBeSignals_any n0 D.gl (by have h1 := GT.bkL_len D.gl; obtain ⟨ga, gc, gl, qa, qc, ql, ka, kc, kl⟩ := D; simp only [DT.bk] at hbk; simp only at h1 ⊢; omega) hnm D.ga D.gc W (Nat.le_trans hn0 h.size) (DT.In.keep (Below.keptTo h hn0) D hin).1
  have cs := fun (W : World) (h : Below w.heap.size w W) => shapesD_any D.ga D.gc D.gl D.qa D.qc D.ql D.ka D.kc D.kl (by unfold DT.bk at hbk; omega) (by unfold DT.bk at hbk; omega) hwf.2.1 hwf.2.2 n0 W (Nat.le_trans hn0 h.size) (hz.keep h) (DT.In.keep (Below.keptTo h hn0) D hin).1 (DT.In.keep (Below.keptTo h hn0) D hin).2.1 (DT.In.keep (Below.keptTo h hn0) D hin).2.2
  have hmd : (D.ql.all (fun q => mayTL D.gl q.sl 0) && D.kl.all (fun k => mayE D.gl k.x)) = mayD D := rfl
  simp only [hmd] at cs
  have cz := fun (f : DT) (hf : nrmD f = nrmD D) (hs : sigsMay D.gl = true) (hmay : mayD D = true) (g m0 m1 hi : Nat) (W : World) (hS : SzC g m0 m1 hi f W) (hss : SzAt g 0 W) => sizerD_any f (by rw [← (measD_nrm f).2.2, hf, (measD_nrm D).2.2]; exact hbk) ((wfD_nrm f).1 (by rw [hf]; exact (wfD_nrm D).2 hwf)) (by have e : (nrmD f).gl = (nrmD D).gl := congrArg DT.gl hf; have e2 : f.gl = D.gl := e; rw [e2]; exact sigsMay_wd hs) (by rw [← mayD_nrm, hf, mayD_nrm]; exact hmay) g m0 m1 hi 0 W hS hss
  have HB := Lib.hid cb
  have HM := Lib.hid cm
  have HC := Lib.hid cc
  have HZ := Lib.hid cz
  have HSH := Lib.hid cs
  clear cb cm cc cz cs hmd hin hn0 hz hwf hnm hbk
  obtain ⟨b1, hb1⟩ : ∃ b, boundD D = b := ⟨_, rfl⟩
  obtain ⟨b2, hb2⟩ : ∃ b, sigsMay D.gl = b := ⟨_, rfl⟩
  obtain ⟨b3, hb3⟩ : ∃ b, mayD D = b := ⟨_, rfl⟩
  have HF : Hid (sizeF D = if b1 = true then (if b2 = true ∧ b3 = true then (szD D).2 else 1) else 2) := Lib.hid (by rw [sizeF, hb1, hb2, hb3])
  rw [hb1] at HB
  rw [hb2] at HM
  rw [hb3] at HSH
  have HBB := Lib.hid (And.intro hb2 hb3)
  clear hb1 hb2 hb3
  obtain ⟨ga, gc, gl, qa, qc, ql, ka, kc, kl⟩ := D
  obtain ⟨D, hD⟩ : ∃ D, (⟨ga, gc, gl, qa, qc, ql, ka, kc, kl⟩ : DT) = D := ⟨_, rfl⟩
  have HD := Lib.hid hD
  simp only [hD] at HF HBB HZ ⊢
  simp only at HM HSH
  have hdv : D.val = .agg #[.slice ga gl.length gc, .slice qa ql.length qc, .slice ka kl.length kc] := by rw [← hD]; rfl
  rw [hD] at HB HC
  rw [hdv] at HB HC ⊢
  have hgl : D.gl = gl ∧ D.ql = ql ∧ D.kl = kl := by rw [← hD]; exact ⟨rfl, rfl, rfl⟩
  have HGL := Lib.hid hgl
  clear hD hdv hgl
  obtain ⟨gx, hgx⟩ : ∃ gx, w.heap.size = gx := ⟨_, rfl⟩
  obtain ⟨wa, hwa⟩ : ∃ wa, w.alloc (.cells #[.slice ga gl.length gc, .slice qa ql.length qc, .slice ka kl.length kc] 26) = wa := ⟨_, rfl⟩
  have hba : Below w.heap.size w wa := by rw [← hwa]; exact (Below.refl _ _).alloc (Nat.le_refl _) _
  have hsa : wa.heap.size = gx + 1 := by rw [← hwa, World.size_alloc, hgx]
  have BX : wa.heap[gx]? = some (.cells #[.slice ga gl.length gc, .slice qa ql.length qc, .slice ka kl.length kc] 26 (0, 0)) := by rw [← hwa, ← hgx]; exact World.alloc_heap_new w _
  obtain ⟨w1, hw1⟩ : ∃ w1, wa.alloc (.cells #[.slice none 0 0, .slice none 0 0, .slice none 0 0] 26 (0, 0)) = w1 := ⟨_, rfl⟩
  have hb1 : Below wa.heap.size wa w1 := by rw [← hw1]; exact (Below.refl _ _).alloc (Nat.le_refl _) _
  have hbw : Below w.heap.size w w1 := hba.trans (hb1.mono hba.size)
  have BR : RowD w1 (gx + 1) (.slice none 0 0) (.slice none 0 0) (.slice none 0 0) := by unfold RowD; rw [← hw1, ← hsa]; exact World.alloc_heap_new wa _
  have HW := Lib.hid (And.intro hbw (And.intro (block_kept BX hb1) BR))
  have HG := Lib.hid hgx
  obtain ⟨z0, z1, z2⟩ := ope3 HW.out.2.1
  clear hba BX hb1 hbw BR
  have c0K := Lib.hid (HB.out w1 HW.out.1)
  go_enter Tryd.func14, Tryd.ntmps14
  go_upto_region 1 with (fail)
  (try rw [hwa])
  (try rw [hgx])
  (try rw [hw1])
  (try rw [hsa])
  clear hwa hw1 hsa hgx
  go_wp2_with fail
  refine c0K.out.mono ?_
  clear c0K z0 z1 z2
  rintro e W2 ⟨rfl, hb⟩
  have HW2 := Lib.hid (And.intro (HW.out.1.trans (hb.mono HW.out.1.size)) (And.intro (block_kept HW.out.2.1 hb) (block_kept (show w1.heap[gx + 1]? = _ from HW.out.2.2) hb)))
  clear hb
  cases b1 with
  | false =>
    have hrr : RowD W2 (gx + 1) (.slice none 0 0) (.slice none 0 0) (.slice none 0 0) := HW2.out.2.2
    have hbv := HW2.out.1
    obtain ⟨z0, z1, z2⟩ := ope3 (show W2.heap[gx + 1]? = _ from hrr)
    obtain ⟨p0, p1, p2⟩ := thaw3 (show W2.heap[gx + 1]? = _ from hrr)
    have hrz := RowD.put hrr (.slice none 0 0) (.slice none 0 0) (.slice none 0 0)
    have hbz := below_put3 hbv (show w.heap.size ≤ gx + 1 by have := HG.out; omega) (.slice none 0 0) (.slice none 0 0) (.slice none 0 0)
    obtain ⟨wz, hwz⟩ : ∃ wz, (((W2.setCell ⟨gx + 1, 0, none⟩ (.slice none 0 0)).setCell ⟨gx + 1, 1, none⟩ (.slice none 0 0)).setCell ⟨gx + 1, 2, none⟩ (.slice none 0 0)) = wz := ⟨_, rfl⟩
    rw [hwz] at hrz hbz
    obtain ⟨t0, t1, t2⟩ := ope3 (show wz.heap[gx + 1]? = _ from hrz)
    have HP : Hid (SizeP D w (.returned (.tuple #[.agg #[.slice none 0 0, .slice none 0 0, .slice none 0 0], .int .i64 2])) wz) := Lib.hid (by
      have h9 : sizeF D = 2 := by rw [HF.out]; rfl
      exact ⟨zeroD, by rw [h9]; rfl, (sizeR_ne (by rw [h9]; decide)).symm, zeroD_in _ _, hbz⟩
    )
    clear hrr hbv hrz hbz
    go_wp2
    (try rw [hwz])
    have hu := Tryd.underlying26
    refine bodyPost_ret (v := .tuple #[.agg #[.slice none 0 0, .slice none 0 0, .slice none 0 0], .int .i64 2]) (by simp [results, Tryd.results14, go_sem, hu, t0, t1, t2]) rfl HP.out
  | true =>
    obtain ⟨z0, z1, z2⟩ := ope3 HW2.out.2.1
    have c1K := Lib.hid (HM.out W2 HW2.out.1)
    go_wp2_with fail
    refine c1K.out.mono ?_
    clear c1K z0 z1 z2
    rintro e W3 ⟨rfl, hb⟩
    have HW3 := Lib.hid (And.intro (HW2.out.1.trans (hb.mono HW2.out.1.size)) (And.intro (block_kept HW2.out.2.1 hb) (block_kept HW2.out.2.2 hb)))
    clear hb
    cases b2 with
    | false =>
      have hrr : RowD W3 (gx + 1) (.slice none 0 0) (.slice none 0 0) (.slice none 0 0) := HW3.out.2.2
      have hbv := HW3.out.1
      obtain ⟨z0, z1, z2⟩ := ope3 (show W3.heap[gx + 1]? = _ from hrr)
      obtain ⟨p0, p1, p2⟩ := thaw3 (show W3.heap[gx + 1]? = _ from hrr)
      have hrz := RowD.put hrr (.slice none 0 0) (.slice none 0 0) (.slice none 0 0)
      have hbz := below_put3 hbv (show w.heap.size ≤ gx + 1 by have := HG.out; omega) (.slice none 0 0) (.slice none 0 0) (.slice none 0 0)
      obtain ⟨wz, hwz⟩ : ∃ wz, (((W3.setCell ⟨gx + 1, 0, none⟩ (.slice none 0 0)).setCell ⟨gx + 1, 1, none⟩ (.slice none 0 0)).setCell ⟨gx + 1, 2, none⟩ (.slice none 0 0)) = wz := ⟨_, rfl⟩
      rw [hwz] at hrz hbz
      obtain ⟨t0, t1, t2⟩ := ope3 (show wz.heap[gx + 1]? = _ from hrz)
      have HP : Hid (SizeP D w (.returned (.tuple #[.agg #[.slice none 0 0, .slice none 0 0, .slice none 0 0], .int .i64 1])) wz) := Lib.hid (by
        have h9 : sizeF D = 1 := by rw [HF.out]; simp
        exact ⟨zeroD, by rw [h9]; rfl, (sizeR_ne (by rw [h9]; decide)).symm, zeroD_in _ _, hbz⟩
      )
      clear hrr hbv hrz hbz
      go_wp2
      (try rw [hwz])
      have hu := Tryd.underlying26
      refine bodyPost_ret (v := .tuple #[.agg #[.slice none 0 0, .slice none 0 0, .slice none 0 0], .int .i64 1]) (by simp [results, Tryd.results14, go_sem, hu, t0, t1, t2]) rfl HP.out
    | true =>
      obtain ⟨z0, z1, z2⟩ := ope3 HW3.out.2.1
      have c2K := Lib.hid (HSH.out W3 HW3.out.1)
      go_wp2_with fail
      refine c2K.out.mono ?_
      clear c2K z0 z1 z2
      rintro e W4 ⟨rfl, hb⟩
      have HW4 := Lib.hid (And.intro (HW3.out.1.trans (hb.mono HW3.out.1.size)) (And.intro (block_kept HW3.out.2.1 hb) (block_kept HW3.out.2.2 hb)))
      clear hb
      cases b3 with
      | false =>
        have hrr : RowD W4 (gx + 1) (.slice none 0 0) (.slice none 0 0) (.slice none 0 0) := HW4.out.2.2
        have hbv := HW4.out.1
        obtain ⟨z0, z1, z2⟩ := ope3 (show W4.heap[gx + 1]? = _ from hrr)
        obtain ⟨p0, p1, p2⟩ := thaw3 (show W4.heap[gx + 1]? = _ from hrr)
        have hrz := RowD.put hrr (.slice none 0 0) (.slice none 0 0) (.slice none 0 0)
        have hbz := below_put3 hbv (show w.heap.size ≤ gx + 1 by have := HG.out; omega) (.slice none 0 0) (.slice none 0 0) (.slice none 0 0)
        obtain ⟨wz, hwz⟩ : ∃ wz, (((W4.setCell ⟨gx + 1, 0, none⟩ (.slice none 0 0)).setCell ⟨gx + 1, 1, none⟩ (.slice none 0 0)).setCell ⟨gx + 1, 2, none⟩ (.slice none 0 0)) = wz := ⟨_, rfl⟩
        rw [hwz] at hrz hbz
        obtain ⟨t0, t1, t2⟩ := ope3 (show wz.heap[gx + 1]? = _ from hrz)
        have HP : Hid (SizeP D w (.returned (.tuple #[.agg #[.slice none 0 0, .slice none 0 0, .slice none 0 0], .int .i64 1])) wz) := Lib.hid (by
          have h9 : sizeF D = 1 := by rw [HF.out]; simp
          exact ⟨zeroD, by rw [h9]; rfl, (sizeR_ne (by rw [h9]; decide)).symm, zeroD_in _ _, hbz⟩
        )
        clear hrr hbv hrz hbz
        go_wp2
        (try rw [hwz])
        have hu := Tryd.underlying26
        refine bodyPost_ret (v := .tuple #[.agg #[.slice none 0 0, .slice none 0 0, .slice none 0 0], .int .i64 1]) (by simp [results, Tryd.results14, go_sem, hu, t0, t1, t2]) rfl HP.out
      | true =>
        obtain ⟨z0, z1, z2⟩ := ope3 HW4.out.2.1
        have c3K := Lib.hid (HC.out W4 HW4.out.1)
        go_wp2_with fail
        refine c3K.out.mono ?_
        clear c3K z0 z1 z2
        rintro e V1 ⟨f, m0, m1, rfl, hfg, hfq, hfk, h1m, h01, h1h, hgs, hfr, hrq, hrk, hb9⟩
        have HNF : Hid (nrmD f = nrmD D) := Lib.hid (by unfold nrmD; rw [hfq, hfk, hfg])
        have HFR : Hid (∀ p, f.ga = some p → gx + 1 < p.block) := Lib.hid (fun p hp => by have h8 := hfr p hp; have h9 := (Array.getElem?_eq_some_iff.1 HW4.out.2.2).1; omega)
        have hgm : gx + 2 ≤ m0 := by have h9 := (Array.getElem?_eq_some_iff.1 HW4.out.2.2).1; omega
        clear hfr hfg hfq hfk
        obtain ⟨hi, hhi⟩ : ∃ hi, V1.heap.size = hi := ⟨_, rfl⟩
        have hbw := HW4.out.1.trans (hb9.mono HW4.out.1.size)
        have hrr := block_kept HW4.out.2.2 hb9
        obtain ⟨V2, hV2⟩ : ∃ V2, V1.alloc (.cells #[.int .i64 0] 61 (0, 0)) = V2 := ⟨_, rfl⟩
        have hs2 : V2.heap.size = hi + 1 := by rw [← hV2, World.size_alloc, hhi]
        have hb2 : Below V1.heap.size V1 V2 := by rw [← hV2]; exact (Below.refl _ _).alloc (Nat.le_refl _) _
        have hz2 : SzAt hi 0 V2 := by unfold SzAt; rw [← hV2, ← hhi]; exact World.alloc_heap_new V1 _
        obtain ⟨V3, hV3⟩ : ∃ V3, V2.alloc (.cells #[.slice none 0 0, .slice none 0 0, .slice none 0 0] 26 (0, 0)) = V3 := ⟨_, rfl⟩
        have hs3 : V3.heap.size = hi + 2 := by rw [← hV3, World.size_alloc, hs2]
        have hb3 : Below V2.heap.size V2 V3 := by rw [← hV3]; exact (Below.refl _ _).alloc (Nat.le_refl _) _
        have hz3 : SzAt hi 0 V3 := block_kept hz2 hb3
        have hr3 : RowD V3 (hi + 1) (.slice none 0 0) (.slice none 0 0) (.slice none 0 0) := by unfold RowD; rw [← hV3, ← hs2]; exact World.alloc_heap_new V2 _
        obtain ⟨V4, hV4⟩ : ∃ V4, V3.setCell ⟨hi, 0, none⟩ (.int .i64 0) = V4 := ⟨_, rfl⟩
        have hz4 : SzAt hi 0 V4 := by rw [← hV4]; exact hz3.set 0
        have ho4 : ∀ k, k ≠ hi → V4.heap[k]? = V3.heap[k]? := fun k hk => by rw [← hV4]; exact Below.heap_setCell V3 ⟨hi, 0, none⟩ _ k hk
        have hr4 : RowD V4 (hi + 1) (.slice none 0 0) (.slice none 0 0) (.slice none 0 0) := (ho4 (hi + 1) (by omega)).trans hr3
        obtain ⟨fga, fgc, fgl, fqa, fqc, fql, fka, fkc, fkl⟩ := f
        simp only at hgs hrq hrk HFR
        have hr5 := hr4.put (.slice fga fgl.length fgc) (.slice fqa fql.length fqc) (.slice fka fkl.length fkc)
        have ho5 := fun k hk => put3_other V4 (hi + 1) (.slice fga fgl.length fgc) (.slice fqa fql.length fqc) (.slice fka fkl.length fkc) k hk
        obtain ⟨V5, hV5⟩ : ∃ V5, (((V4.setCell ⟨hi + 1, 0, none⟩ (.slice fga fgl.length fgc)).setCell ⟨hi + 1, 1, none⟩ (.slice fqa fql.length fqc)).setCell ⟨hi + 1, 2, none⟩ (.slice fka fkl.length fkc)) = V5 := ⟨_, rfl⟩
        have hs5 : V5.heap.size = hi + 2 := by rw [← hV5]; simp only [World.size_setCell]; rw [← hV4, World.size_setCell, hs3]
        rw [hV5] at hr5
        simp only [hV5] at ho5
        have hz5 : SzAt hi 0 V5 := hz4.keep (ho5 hi (by omega))
        have hb5 : Below V1.heap.size V1 V5 := by
          have a1 := hb2.trans (hb3.mono hb2.size)
          have a2 : Below V1.heap.size V1 V4 := by rw [← hV4]; exact a1.setCell (p := ⟨hi, 0, none⟩) (show V1.heap.size ≤ hi by omega) _
          have a3 := below_put3 a2 (show V1.heap.size ≤ hi + 1 by omega) (.slice fga fgl.length fgc) (.slice fqa fql.length fqc) (.slice fka fkl.length fkc)
          rw [hV5] at a3
          exact a3
        rw [hhi] at h1h hrk
        have hS5 : SzC hi m0 m1 hi ⟨fga, fgc, fgl, fqa, fqc, fql, fka, fkc, fkl⟩ V5 := ⟨h01, h1h, Nat.le_refl _, GsIn.keep (Below.keptTo hb5 (by omega)) hgs, hrq.keep (fun x _ => QT.Own.keep x) (fun q _ hq => hb5.block q (by omega)), hrk.keep (fun x _ => KT.Own.keep x) (fun q _ hq => hb5.block q (by omega))⟩
        have c4 := HZ.out ⟨fga, fgc, fgl, fqa, fqc, fql, fka, fkc, fkl⟩ HNF.out HBB.out.1 HBB.out.2 hi m0 m1 hi V5 hS5 hz5
        have c4K := Lib.hid c4
        have HW5 := Lib.hid (And.intro (hbw.trans (hb5.mono hbw.size)) (And.intro (show V5.heap[gx + 1]? = _ from block_kept hrr hb5) (And.intro hr5 (And.intro hS5 (And.intro hs5 (And.intro hgm h1m))))))
        obtain ⟨u0, u1, u2⟩ := ope3 (show V4.heap[hi + 1]? = _ from hr4)
        obtain ⟨q0, q1, q2⟩ := thaw3 (show V4.heap[hi + 1]? = _ from hr4)
        have v0 := hz3.cell
        have v1 := hz3.frozen
        obtain ⟨x0, x1, x2⟩ := ope3 (show V5.heap[hi + 1]? = _ from hr5)
        clear hgs hrq hrk hb9 hbw hrr hgm hb2 hz2 hs3 hb3 hz3 hr3 hz4 ho4 hr4 hr5 ho5 hs5 hz5 hb5 hS5 c4 h1m h01 h1h
        simp only [DT.val, DT.cells] at c4K ⊢
        go_upto_region 6 with (fail)
        (try rw [hV2])
        (try rw [hhi])
        (try rw [hV3])
        (try rw [hs2])
        (try rw [hV4])
        (try rw [hV5])
        clear hV2 hV3 hV4 hV5 u0 u1 u2 q0 q1 q2 v0 v1 hs2
        go_wp2_with fail
        refine c4K.out.mono ?_
        clear c4K x0 x1 x2
        rintro e V6 ⟨rfl, k6, r6, t6, s6⟩
        obtain ⟨FA, hFA⟩ : ∃ FA, (szD D).2 = FA := ⟨_, rfl⟩
        have hsd : szD ⟨fga, fgc, fgl, fqa, fqc, fql, fka, fkc, fkl⟩ = (((szQL fgl fql (sigF 0 fgl)).1, (szKL fkl (szQL fgl fql (sigF 0 fgl)).2).1), (szKL fkl (szQL fgl fql (sigF 0 fgl)).2).2) := rfl
        have hnz : (szD ⟨fga, fgc, fgl, fqa, fqc, fql, fka, fkc, fkl⟩).2 = FA := by
          have h1 := szD_nrm ⟨fga, fgc, fgl, fqa, fqc, fql, fka, fkc, fkl⟩
          rw [HNF.out, szD_nrm] at h1
          rw [← hFA]
          exact (congrArg Prod.snd h1).symm
        have hnr : (szQL fgl fql (sigF 0 fgl)).1.map nrmQ = (szD D).1.1.map nrmQ ∧ (szKL fkl (szQL fgl fql (sigF 0 fgl)).2).1.map nrmK = (szD D).1.2.map nrmK := by
          have h1 := szD_nrm ⟨fga, fgc, fgl, fqa, fqc, fql, fka, fkc, fkl⟩
          rw [HNF.out, szD_nrm] at h1
          have h2 := congrArg Prod.fst h1
          exact ⟨(congrArg Prod.fst h2).symm, (congrArg Prod.snd h2).symm⟩
        simp only at r6 t6 s6
        have s6' : SzAt hi FA V6 := by rw [← hnz, hsd]; exact s6
        have f0 := s6'.cell
        have hs6 := k6.size
        have hb6 : Below w.heap.size w V6 := HW5.out.1.trans (k6.toBelow (n := w.heap.size) (by have := HW5.out.1.size; omega) (fun q hq => by unfold Chp; have := HW5.out.2.2.2.2.2.1; have := HG.out; have := HW5.out.2.2.2.1.hg; have := HW5.out.2.2.2.1.h01; have := HW5.out.2.2.2.1.h1h; omega))
        have hrr : RowD V6 (gx + 1) (.slice none 0 0) (.slice none 0 0) (.slice none 0 0) := (k6.block (gx + 1) (by have := HW5.out.2.2.2.2.2.1; have := HW5.out.2.2.2.2.1; have := HW5.out.2.2.2.1.h01; have := HW5.out.2.2.2.1.h1h; omega) (by unfold Chp; have := HW5.out.2.2.2.2.2.1; have := HW5.out.2.2.2.1.h01; have := HW5.out.2.2.2.1.h1h; omega)).trans HW5.out.2.1
        have hd6 : RowD V6 (hi + 1) (.slice fga fgl.length fgc) (.slice fqa fql.length fqc) (.slice fka fkl.length fkc) := (k6.block (hi + 1) (by have := HW5.out.2.2.2.2.1; omega) (by unfold Chp; omega)).trans HW5.out.2.2.1
        have hg6 : GsIn m0 V6 fgl fga := GsIn.keep (Below.keptTo (k6.toBelow (n := m0) (by have := HW5.out.2.2.2.2.1; have := HW5.out.2.2.2.1.h01; have := HW5.out.2.2.2.1.h1h; omega) (fun q hq => by unfold Chp; have := HW5.out.2.2.2.1.h01; have := HW5.out.2.2.2.1.h1h; omega)) (Nat.le_refl _)) HW5.out.2.2.2.1.gs
        have HX6 := Lib.hid (And.intro hb6 (And.intro hrr (And.intro hd6 (And.intro hg6 (And.intro r6 (And.intro t6 (And.intro hnr (And.intro hs6 s6'))))))))
        clear k6 r6 t6 s6 s6' hb6 hrr hd6 hg6 hnz hnr hsd hs6
        have HFA := Lib.hid hFA
        clear hFA
        by_cases hq : FA = 0
        · subst hq
          obtain ⟨x0, x1, x2⟩ := ope3 (show V6.heap[hi + 1]? = _ from HX6.out.2.2.1)
          obtain ⟨y0, y1, y2⟩ := ope3 (show V6.heap[gx + 1]? = _ from HX6.out.2.1)
          obtain ⟨p0, p1, p2⟩ := thaw3 (show V6.heap[gx + 1]? = _ from HX6.out.2.1)
          have hr7 := HX6.out.2.1.put (.slice fga fgl.length fgc) (.slice fqa fql.length fqc) (.slice fka fkl.length fkc)
          have ho7 := fun k hk => put3_other V6 (gx + 1) (.slice fga fgl.length fgc) (.slice fqa fql.length fqc) (.slice fka fkl.length fkc) k hk
          have hb7 := below_put3 HX6.out.1 (show w.heap.size ≤ gx + 1 by have := HG.out; omega) (.slice fga fgl.length fgc) (.slice fqa fql.length fqc) (.slice fka fkl.length fkc)
          obtain ⟨wz, hwz⟩ : ∃ wz, (((V6.setCell ⟨gx + 1, 0, none⟩ (.slice fga fgl.length fgc)).setCell ⟨gx + 1, 1, none⟩ (.slice fqa fql.length fqc)).setCell ⟨gx + 1, 2, none⟩ (.slice fka fkl.length fkc)) = wz := ⟨_, rfl⟩
          have hsz : wz.heap.size = V6.heap.size := by rw [← hwz]; simp only [World.size_setCell]
          rw [hwz] at hr7 hb7
          simp only [hwz] at ho7
          obtain ⟨t0, t1, t2⟩ := ope3 (show wz.heap[gx + 1]? = _ from hr7)
          have HP : Hid (SizeP D w (.returned (.tuple #[.agg #[.slice fga fgl.length fgc, .slice fqa fql.length fqc, .slice fka fkl.length fkc], .int .i64 0])) wz) := Lib.hid (by
            obtain ⟨_, _, _, hg6, r6, t6, hnr, hs6, _⟩ := HX6.out
            obtain ⟨h01, h1h, _, _, _, _⟩ := HW5.out.2.2.2.1
            have hgm := HW5.out.2.2.2.2.2.1
            have hs5 := HW5.out.2.2.2.2.1
            have h9 : sizeF D = 0 := by rw [HF.out, HFA.out]; simp
            have hq7 := r6.keep (own' := QT.Own wz) (fun x _ => QT.Own.keep x) (fun q h1 h2 => ho7 q (by omega))
            have hk7 := t6.keep (own' := KT.Own wz) (fun x _ => KT.Own.keep x) (fun q h1 h2 => ho7 q (by omega))
            refine ⟨⟨fga, fgc, fgl, fqa, fqc, (szQL fgl fql (sigF 0 fgl)).1, fka, fkc, (szKL fkl (szQL fgl fql (sigF 0 fgl)).2).1⟩, ?_, ?_, ⟨?_, ?_, ?_⟩, hb7⟩
            · rw [h9]; simp only [DT.val, DT.cells, szQL_len, szKL_len]
            · unfold sizeR
              rw [if_pos h9]
              have e1 := congrArg DT.gl HNF.out
              have e : fgl = D.gl := e1
              unfold nrmD
              simp only
              rw [hnr.1, hnr.2, e]
            · exact InRow.less (by omega) (fun _ _ h => h) (GsIn.off hg6 HFR.out ho7)
            · exact InRow.less (by omega) (fun x _ => QT.In.less (by omega) x) (hq7.inn QT.cells_len (by decide) (inn := fun n x => QT.In n wz x) (fun x n m hnm h => QT.In.less hnm x h) (fun x _ lo hi h => QT.Own.inn x lo hi h))
            · exact InRow.less (by omega) (fun x _ => KT.In.less (by omega) x) (hk7.inn KT.cells_len (by decide) (inn := fun n x => KT.In n wz x) (fun x n m hnm h => KT.In.less hnm x h) (fun x _ lo hi h => KT.Own.inn x lo hi h)))
          clear HX6 hr7 ho7 hb7 hsz
          go_wp2
          (try rw [hwz])
          have hu := Tryd.underlying26
          refine bodyPost_ret (v := .tuple #[.agg #[.slice fga fgl.length fgc, .slice fqa fql.length fqc, .slice fka fkl.length fkc], .int .i64 0]) (by simp [results, Tryd.results14, go_sem, hu, t0, t1, t2]) rfl HP.out
        · have e0 : (FA == 0) = false := by rw [beq_eq_false_iff_ne]; exact hq
          have e1 : (FA != 0) = true := by rw [bne, e0]; rfl
          have hrr := HX6.out.2.1
          have hbv := HX6.out.1
          obtain ⟨z0, z1, z2⟩ := ope3 (show V6.heap[gx + 1]? = _ from hrr)
          obtain ⟨p0, p1, p2⟩ := thaw3 (show V6.heap[gx + 1]? = _ from hrr)
          have hrz := RowD.put hrr (.slice none 0 0) (.slice none 0 0) (.slice none 0 0)
          have ho7 := fun k hk => put3_other V6 (gx + 1) (.slice none 0 0) (.slice none 0 0) (.slice none 0 0) k hk
          have hbz := below_put3 hbv (show w.heap.size ≤ gx + 1 by have := HG.out; omega) (.slice none 0 0) (.slice none 0 0) (.slice none 0 0)
          obtain ⟨wz, hwz⟩ : ∃ wz, (((V6.setCell ⟨gx + 1, 0, none⟩ (.slice none 0 0)).setCell ⟨gx + 1, 1, none⟩ (.slice none 0 0)).setCell ⟨gx + 1, 2, none⟩ (.slice none 0 0)) = wz := ⟨_, rfl⟩
          rw [hwz] at hrz hbz
          simp only [hwz] at ho7
          obtain ⟨t0, t1, t2⟩ := ope3 (show wz.heap[gx + 1]? = _ from hrz)
          have f1 : wz.cell? ⟨hi, 0, none⟩ = some (.int .i64 FA) := (HX6.out.2.2.2.2.2.2.2.2.keep (ho7 hi (by have := HW5.out.2.2.2.2.2.1; have := HW5.out.2.2.2.1.h01; have := HW5.out.2.2.2.1.h1h; omega))).cell
          have HP : Hid (SizeP D w (.returned (.tuple #[.agg #[.slice none 0 0, .slice none 0 0, .slice none 0 0], .int .i64 FA])) wz.drew) := Lib.hid (by
            have h9 : sizeF D = FA := by rw [HF.out, HFA.out]; simp
            exact ⟨zeroD, by rw [h9]; rfl, (sizeR_ne (by rw [h9]; exact hq)).symm, zeroD_in _ _, ⟨hbz.os, hbz.tape, hbz.output, hbz.size, hbz.block⟩⟩)
          clear hrr hbv hrz hbz hq ho7
          go_upto_region 8 with (fail)
          go_region
          all_goals go_wp2
          (try rw [hwz])
          have hu := Tryd.underlying26
          refine bodyPost_ret (v := .tuple #[.agg #[.slice none 0 0, .slice none 0 0, .slice none 0 0], .int .i64 FA]) (by simp [results, Tryd.results14, go_sem, hu, t0, t1, t2]) rfl HP.out
end Go.Proofs.YtbcgeglkmpcnpaaDoor
namespace Go.Proofs.YtbcgeglkmpcnpaaDoor
open Go Go.RowKit
set_option linter.unusedVariables false
set_option linter.unusedSimpArgs false
open Go.Sort

theorem szTL_meas (cl : Bool) (gl : List GT) : ∀ (l : List TT) (m : Option Int) (f : Int), TT.szL (szTL cl gl l m f).1 = TT.szL l ∧ TT.dpL (szTL cl gl l m f).1 = TT.dpL l ∧ TT.bkL (szTL cl gl l m f).1 = TT.bkL l ∧ ((∀ x ∈ l, x.Wf) → ∀ x ∈ (szTL cl gl l m f).1, x.Wf)
  | [], m, f => by rw [szTL_nil]; exact ⟨rfl, rfl, rfl, fun h => h⟩
  | x :: r, m, f => by
    obtain ⟨h1, h2, h3, h4⟩ := measT_sz cl gl x m f
    obtain ⟨k1, k2, k3, k4⟩ := szTL_meas cl gl r m (szT cl gl x m f).2
    rw [szTL_cons]
    simp only [TT.szL, TT.dpL, TT.bkL, h1, h2, h3, k1, k2, k3, true_and]
    intro hw y hy
    rcases List.mem_cons.1 hy with e | e
    · rw [e]; exact h4 (hw x (by simp))
    · exact k4 (fun z hz => hw z (by simp [hz])) y e
theorem szQL_meas (gl : List GT) : ∀ (l : List QT) (f : Int), nodesQ (szQL gl l f).1 = nodesQ l ∧ deepQ (szQL gl l f).1 = deepQ l ∧ QT.bkL (szQL gl l f).1 = QT.bkL l ∧ (QT.WfL l → QT.WfL (szQL gl l f).1)
  | [], f => by rw [szQL]; exact ⟨rfl, rfl, rfl, fun h => h⟩
  | q :: r, f => by
    obtain ⟨k1, k2, k3, k4⟩ := szQL_meas gl r (szQ gl q f).2
    obtain ⟨h1, h2, h3, h4⟩ := szTL_meas q.ck gl q.sl none f
    have e : (szQ gl q f).1.bk = q.bk := by rw [QT.bk_eq, QT.bk_eq]; simp only [szQ]; rw [h3]
    rw [szQL]
    refine ⟨?_, ?_, ?_, fun hw => ?_⟩
    · simp only [nodesQ, k1]; simp only [szQ, h1]
    · simp only [deepQ, k2]; simp only [szQ, h2]
    · simp only [QT.bkL, k3, e]
    · rw [QT.wfL_iff] at hw ⊢
      intro y hy
      rcases List.mem_cons.1 hy with rfl | hr
      · rw [QT.wf_iff]
        exact h4 ((QT.wf_iff q).1 (hw q (by simp)))
      · exact ((QT.wfL_iff _).1 (k4 ((QT.wfL_iff _).2 (fun z hz => hw z (by simp [hz]))))) y hr
theorem szKL_meas : ∀ (l : List KT) (f : Int), nodesK (szKL l f).1 = nodesK l ∧ deepK (szKL l f).1 = deepK l ∧ KT.bkL (szKL l f).1 = KT.bkL l ∧ (KT.WfL l → KT.WfL (szKL l f).1)
  | [], f => by rw [szKL]; exact ⟨rfl, rfl, rfl, fun h => h⟩
  | q :: r, f => by
    obtain ⟨k1, k2, k3, k4⟩ := szKL_meas r (szK q f).2
    have hi : ∀ f, (szI q.x (true, 1) f).1.sz = q.x.sz ∧ (szI q.x (true, 1) f).1.dp = q.x.dp ∧ (szI q.x (true, 1) f).1.bk = q.x.bk ∧ (q.x.Wf → (szI q.x (true, 1) f).1.Wf) := fun f => by unfold szI; exact szE_meas q.x _ _
    obtain ⟨h1, h2, h3, h4⟩ := hi f
    have e : (szK q f).1.bk = q.bk := by rw [KT.bk_eq, KT.bk_eq]; simp only [szK]; rw [h3]
    rw [szKL]
    refine ⟨?_, ?_, ?_, fun hw => ?_⟩
    · simp only [nodesK, k1]; simp only [szK, h1]
    · simp only [deepK, k2]; simp only [szK, h2]
    · simp only [KT.bkL, k3, e]
    · rw [KT.wfL_iff] at hw ⊢
      intro y hy
      rcases List.mem_cons.1 hy with rfl | hr
      · rw [KT.wf_iff]
        exact h4 ((KT.wf_iff q).1 (hw q (by simp)))
      · exact ((KT.wfL_iff _).1 (k4 ((KT.wfL_iff _).2 (fun z hz => hw z (by simp [hz]))))) y hr
/-- A design sized, with places of no matter. -/
def szDT (d : DT) : DT := ⟨none, 0, d.gl, none, 0, (szD d).1.1, none, 0, (szD d).1.2⟩
theorem sizeR_szDT {d : DT} (h : sizeF d = 0) : sizeR d = nrmD (szDT d) := by
  unfold sizeR; rw [if_pos h]; rfl
theorem szDT_fit (d : DT) (hw : d.Wf) : measN (szDT d) = measN d ∧ measD (szDT d) = measD d ∧ (szDT d).bk = d.bk ∧ (szDT d).Wf := by
  obtain ⟨h1, h2, h3, h4⟩ := szQL_meas d.gl d.ql (sigF 0 d.gl)
  obtain ⟨k1, k2, k3, k4⟩ := szKL_meas d.kl (szQL d.gl d.ql (sigF 0 d.gl)).2
  refine ⟨?_, ?_, ?_, hw.1, h4 hw.2.1, k4 hw.2.2⟩
  · unfold measN szDT szD; simp only [h1, k1]
  · unfold measD szDT szD; simp only [h2, k2]
  · unfold DT.bk szDT szD; simp only [h3, k3]
theorem zeroD_wf : zeroD.Wf := ⟨fun g hg => (by cases hg), trivial, trivial⟩
theorem sizeR_fit (d : DT) (hw : d.Wf) : (sizeR d).bk ≤ d.bk ∧ (sizeR d).Wf ∧ ∀ g ∈ (sizeR d).gl, g ∈ d.gl := by
  by_cases h : sizeF d = 0
  · obtain ⟨_, _, h3, h4⟩ := szDT_fit d hw
    rw [sizeR_szDT h]
    refine ⟨by rw [(measD_nrm _).2.2, h3]; exact Nat.le_refl _, (wfD_nrm _).2 h4, fun g hg => hg⟩
  · rw [sizeR_ne h]
    refine ⟨?_, (wfD_nrm _).2 zeroD_wf, fun g hg => by cases hg⟩
    rw [(measD_nrm _).2.2]
    have : zeroD.bk = 1 := rfl
    rw [this]
    unfold DT.bk; omega
theorem onceK {gl : List GT} (hgs : sigsMay gl = true) {x : ET} (hm : mayE gl x = true) (h0 : OkI x (true, 1)) : OkI (szI x (true, 1) 0).1 (true, 1) ∧ mayE gl (szI x (true, 1) 0).1 = true ∧ nrmE (szI (szI x (true, 1) 0).1 (true, 1) 0).1 = nrmE (szI x (true, 1) 0).1 := by
  have hE := szL_once hgs (xl := [x]) (i := (true, 1)) (fun y hy => by rw [List.mem_singleton.1 hy]; exact hm) (fun y _ => Or.inr (Or.inr (by decide))) (fun y hy => by rw [List.mem_singleton.1 hy]; exact h0) 0 0
  rw [szL_cons, szL] at hE
  simp only at hE
  obtain ⟨h1, h2⟩ := hE
  have h3 := h1 (szI x (true, 1) 0).1 (by simp)
  refine ⟨h3.1, h3.2, ?_⟩
  rw [szL_cons, szL] at h2
  simp only [nrmEL, List.cons.injEq, and_true] at h2
  exact h2
/-- What is sized is sized once. -/
theorem size_once {d : DT} (hw : d.Wf) (h : sizeF d = 0) : sizeF (sizeR d) = 0 ∧ sizeR (sizeR d) = sizeR d := by
  have hR := sizeR_szDT h
  have h' := h
  unfold sizeF at h'
  by_cases c1 : boundD d = true
  · rw [if_pos c1] at h'
    by_cases c2 : sigsMay d.gl = true ∧ mayD d = true
    · rw [if_pos c2] at h'
      obtain ⟨z1, z2, z3⟩ := (szD_zero d).1 h'
      have hm := c2.2
      unfold mayD at hm
      simp only [Bool.and_eq_true, List.all_eq_true] at hm
      have hq : ∀ q ∈ d.ql, ∀ x ∈ q.sl, Once q.ck d.gl x none ∧ mayT d.gl (szT q.ck d.gl x none 0).1 0 = true := fun q hq x hx => by
        have h9 := hm.1 q hq
        rw [mayTL_all, List.all_eq_true] at h9
        exact (once_all q.ck d.gl c2.1 x).1 0 (by omega) (h9 x hx) (z2 q hq x hx)
      have hk : ∀ k ∈ d.kl, _ := fun k hk => onceK c2.1 (hm.2 k hk) (z3 k hk)
      have eq : (szD d).1.1 = d.ql.map (fun q => (szQ d.gl q 0).1) := by unfold szD; simp only [szQL_map]
      have ek : (szD d).1.2 = d.kl.map (fun q => (szK q 0).1) := by unfold szD; simp only [szKL_map]
      obtain ⟨f1, f2, f3, f4⟩ := szDT_fit d hw
      have hb : boundD (szDT d) = true := by
        have c1' := c1
        unfold boundD at c1' ⊢
        rw [f1, f2]
        have l1 : (szDT d).ql.length = d.ql.length := by show (szD d).1.1.length = _; rw [eq, List.length_map]
        rw [l1]
        exact c1'
      have hmay : mayD (szDT d) = true := by
        unfold mayD
        simp only [Bool.and_eq_true, List.all_eq_true]
        refine ⟨fun q hq2 => ?_, fun k hk2 => ?_⟩
        · have hq3 : q ∈ d.ql.map (fun q => (szQ d.gl q 0).1) := by rw [← eq]; exact hq2
          obtain ⟨q0, hq0, rfl⟩ := List.mem_map.1 hq3
          rw [mayTL_all, List.all_eq_true]
          intro x hx
          have hx2 : x ∈ q0.sl.map (fun x => (szT q0.ck d.gl x none 0).1) := by rw [← szTL_map q0.ck d.gl none q0.sl 0]; exact hx
          obtain ⟨x0, hx0, rfl⟩ := List.mem_map.1 hx2
          exact (hq q0 hq0 x0 hx0).2
        · have hk3 : k ∈ d.kl.map (fun q => (szK q 0).1) := by rw [← ek]; exact hk2
          obtain ⟨k0, hk0, rfl⟩ := List.mem_map.1 hk3
          exact (hk k0 hk0).2.1
      have hz : (szD (szDT d)).2 = 0 := by
        rw [szD_zero]
        refine ⟨z1, fun q hq2 x hx => ?_, fun k hk2 => ?_⟩
        · have hq3 : q ∈ d.ql.map (fun q => (szQ d.gl q 0).1) := by rw [← eq]; exact hq2
          obtain ⟨q0, hq0, rfl⟩ := List.mem_map.1 hq3
          have hx2 : x ∈ q0.sl.map (fun x => (szT q0.ck d.gl x none 0).1) := by rw [← szTL_map q0.ck d.gl none q0.sl 0]; exact hx
          obtain ⟨x0, hx0, rfl⟩ := List.mem_map.1 hx2
          exact (hq q0 hq0 x0 hx0).1.1
        · have hk3 : k ∈ d.kl.map (fun q => (szK q 0).1) := by rw [← ek]; exact hk2
          obtain ⟨k0, hk0, rfl⟩ := List.mem_map.1 hk3
          exact (hk k0 hk0).1
      have hF : sizeF (szDT d) = 0 := by
        unfold sizeF
        have c3 : sigsMay (szDT d).gl = true ∧ mayD (szDT d) = true := ⟨c2.1, hmay⟩
        rw [if_pos hb, if_pos c3, hz]
      have e1 : (szD (szDT d)).1.1.map nrmQ = (szD d).1.1.map nrmQ := by
        have e0 : (szD (szDT d)).1.1 = (szD d).1.1.map (fun q => (szQ d.gl q 0).1) := by
          show (szQL d.gl (szD d).1.1 (sigF 0 d.gl)).1 = _
          rw [szQL_map]
        rw [e0, eq, List.map_map, List.map_map, List.map_map]
        refine List.map_congr_left fun q hq0 => ?_
        simp only [Function.comp, nrmQ, szQ]
        have h9 := (onceL (fun x hx => (hq q hq0 x hx).1) 0).2 0
        rw [h9]
      have e2 : (szD (szDT d)).1.2.map nrmK = (szD d).1.2.map nrmK := by
        have e0 : (szD (szDT d)).1.2 = (szD d).1.2.map (fun q => (szK q 0).1) := by
          show (szKL (szD d).1.2 _).1 = _
          rw [szKL_map]
        rw [e0, ek, List.map_map, List.map_map, List.map_map]
        refine List.map_congr_left fun k hk0 => ?_
        simp only [Function.comp, nrmK, szK]
        rw [(hk k hk0).2.2]
      rw [hR, sizeF_nrm, sizeR_nrm]
      refine ⟨hF, ?_⟩
      unfold sizeR
      rw [if_pos hF, e1, e2]
      rfl
    · rw [if_neg c2] at h'; exact absurd h' (by decide)
  · rw [if_neg c1] at h'; exact absurd h' (by decide)
/-- What Check tells. -/
def checkF (d : DT) : Int := if sizeF d = 0 then (if sameD (sizeR d) d = true then 0 else 90) else sizeF d
theorem sameD_left {x y d : DT} (h : nrmD x = nrmD y) : sameD x d = sameD y d := by
  rw [Bool.eq_iff_iff, sameD_iff, sameD_iff, h]
theorem sameD_right {x y d : DT} (h : nrmD x = nrmD y) : sameD d x = sameD d y := by
  rw [Bool.eq_iff_iff, sameD_iff, sameD_iff, h]
/-- What is told of a design: how great it is, and its names. -/
theorem fit_of {y d : DT} (hn : nrmD y = sizeR d) (hw : d.Wf) : y.bk ≤ d.bk ∧ y.Wf ∧ ∀ g ∈ y.gl, g ∈ d.gl := by
  obtain ⟨h1, h2, h3⟩ := sizeR_fit d hw
  rw [← hn] at h1 h2 h3
  rw [(measD_nrm y).2.2] at h1
  exact ⟨h1, (wfD_nrm y).1 h2, h3⟩
set_option maxHeartbeats 8000000 in
set_option maxRecDepth 100000 in
theorem check_of_design (D : DT) (hbk : D.bk ≤ 4500000) (hwf : D.Wf) (hnm : ∀ g ∈ D.gl, g.nm.length ≤ 12000000) (n0 : Nat) (w : World) (hn0 : n0 ≤ w.heap.size) (hz : EnvZ w) (hin : D.In n0 w) : Calls Tryd.prog 15 #[D.val] w fun e w' => e = .returned (.int .i64 (checkF D)) ∧ Below w.heap.size w w' := by
  have cz := fun (W : World) (h : Below w.heap.size w W) => size_of_design D hbk hwf hnm n0 W (Nat.le_trans hn0 h.size) (hz.keep h) (DT.In.keep (Below.keptTo h hn0) D hin)
  have cs := fun (y : DT) (hn : nrmD y = sizeR D) (W : World) (h1 : Below w.heap.size w W) (h2 : y.In W.heap.size W) => same_any y D (Nat.le_trans (fit_of hn hwf).1 hbk) hbk W.heap.size W (Nat.le_refl _) h2 (DT.In.less (Nat.le_trans hn0 h1.size) D (DT.In.keep (Below.keptTo h1 hn0) D hin))
  obtain ⟨F, hF⟩ : ∃ F, sizeF D = F := ⟨_, rfl⟩
  obtain ⟨S, hS⟩ : ∃ S, sameD (sizeR D) D = S := ⟨_, rfl⟩
  have hs2 : ∀ y : DT, nrmD y = sizeR D → sameD y D = S := fun y hy => by rw [← hS]; exact sameD_left (by rw [hy, sizeR_self])
  have HCF : Hid (checkF D = if F = 0 then (if S = true then 0 else 90) else F) := Lib.hid (by unfold checkF; rw [hF, hS])
  have HP0 : Hid (∀ W e w', SizeP D W e w' → ∃ y : DT, e = .returned (.tuple #[y.val, .int .i64 F]) ∧ nrmD y = sizeR D ∧ y.In w'.heap.size w' ∧ Below W.heap.size W w') := Lib.hid (fun W e w' h => by unfold SizeP at h; rw [hF] at h; exact h)
  have HS := Lib.hid cs
  have HS2 := Lib.hid hs2
  have HZ := Lib.hid cz
  generalize checkF D = CF at HCF ⊢
  clear cz cs hs2 hF hS hin hz hn0 hbk hwf hnm
  obtain ⟨SR, hSR⟩ : ∃ SR, sizeR D = SR := ⟨_, rfl⟩
  rw [hSR] at HS HP0 HS2
  clear hSR
  obtain ⟨ga, gc, gl, qa, qc, ql, ka, kc, kl⟩ := D
  have HSD := Lib.hid (fun (y : DT) h => HS2.out y h)
  obtain ⟨D, hD⟩ : ∃ D, (⟨ga, gc, gl, qa, qc, ql, ka, kc, kl⟩ : DT) = D := ⟨_, rfl⟩
  have hdv : D.val = .agg #[.slice ga gl.length gc, .slice qa ql.length qc, .slice ka kl.length kc] := by rw [← hD]; rfl
  simp only [hD] at HZ HP0 HS HS2 HSD ⊢
  rw [hdv] at HZ ⊢
  simp only [hdv] at HS
  clear hD hdv
  obtain ⟨gx, hgx⟩ : ∃ gx, w.heap.size = gx := ⟨_, rfl⟩
  obtain ⟨wa, hwa⟩ : ∃ wa, w.alloc (.cells #[.slice ga gl.length gc, .slice qa ql.length qc, .slice ka kl.length kc] 26) = wa := ⟨_, rfl⟩
  have hba : Below w.heap.size w wa := by rw [← hwa]; exact (Below.refl _ _).alloc (Nat.le_refl _) _
  have BX : wa.heap[gx]? = some (.cells #[.slice ga gl.length gc, .slice qa ql.length qc, .slice ka kl.length kc] 26 (0, 0)) := by rw [← hwa, ← hgx]; exact World.alloc_heap_new w _
  have HW := Lib.hid (And.intro hba BX)
  obtain ⟨z0, z1, z2⟩ := ope3 BX
  have c0K := Lib.hid (HZ.out wa hba)
  clear hba BX
  go_enter Tryd.func15, Tryd.ntmps15
  go_upto_region 1 with (fail)
  (try rw [hwa])
  (try rw [hgx])
  clear hwa hgx
  go_wp2_with fail
  refine c0K.out.mono ?_
  clear c0K z0 z1 z2
  rintro e V1 hpost
  obtain ⟨y, rfl, hyn, hyi, hb1⟩ := HP0.out _ _ _ hpost
  clear hpost
  have cy := fun (W : World) h1 h2 => HS.out y hyn W h1 h2
  rw [HS2.out y hyn] at cy
  have HY := Lib.hid cy
  clear cy
  obtain ⟨b, hb⟩ : ∃ b, V1.heap.size = b := ⟨_, rfl⟩
  obtain ⟨V2, hV2⟩ : ∃ V2, V1.alloc (.cells #[.slice none 0 0, .slice none 0 0, .slice none 0 0] 26 (0, 0)) = V2 := ⟨_, rfl⟩
  have hb2 : Below V1.heap.size V1 V2 := by rw [← hV2]; exact (Below.refl _ _).alloc (Nat.le_refl _) _
  have hr2 : RowD V2 b (.slice none 0 0) (.slice none 0 0) (.slice none 0 0) := by unfold RowD; rw [← hV2, ← hb]; exact World.alloc_heap_new V1 _
  obtain ⟨ga2, gc2, gl2, qa2, qc2, ql2, ka2, kc2, kl2⟩ := y
  simp only [DT.val, DT.cells] at HY ⊢
  have hr3 := hr2.put (.slice ga2 gl2.length gc2) (.slice qa2 ql2.length qc2) (.slice ka2 kl2.length kc2)
  have hb3 := below_put3 hb2 (show V1.heap.size ≤ b by omega) (.slice ga2 gl2.length gc2) (.slice qa2 ql2.length qc2) (.slice ka2 kl2.length kc2)
  obtain ⟨V3, hV3⟩ : ∃ V3, (((V2.setCell ⟨b, 0, none⟩ (.slice ga2 gl2.length gc2)).setCell ⟨b, 1, none⟩ (.slice qa2 ql2.length qc2)).setCell ⟨b, 2, none⟩ (.slice ka2 kl2.length kc2)) = V3 := ⟨_, rfl⟩
  rw [hV3] at hr3 hb3
  have hbw : Below w.heap.size w V3 := (HW.out.1.trans (hb1.mono HW.out.1.size)).trans (hb3.mono (by have := hb1.size; have := HW.out.1.size; omega))
  have BX3 := block_kept (block_kept HW.out.2 hb1) hb3
  have hgi : DT.In V3.heap.size V3 ⟨ga2, gc2, gl2, qa2, qc2, ql2, ka2, kc2, kl2⟩ := DT.In.less hb3.size _ (DT.In.keep (Below.keptTo hb3 (Nat.le_refl _)) _ hyi)
  have c1K := Lib.hid (HY.out V3 hbw hgi)
  have HBW := Lib.hid hbw
  obtain ⟨y0, y1, y2⟩ := ope3 (show V2.heap[b]? = _ from hr2)
  obtain ⟨p0, p1, p2⟩ := thaw3 (show V2.heap[b]? = _ from hr2)
  obtain ⟨t0, t1, t2⟩ := ope3 (show V3.heap[b]? = _ from hr3)
  obtain ⟨x0, x1, x2⟩ := ope3 BX3
  clear hyi hb1 hb2 hr2 hr3 hb3 hbw BX3 hgi hyn
  by_cases hq : F = 0
  · subst hq
    go_upto_region 2 with (fail)
    (try rw [hb])
    (try rw [hV2])
    (try rw [hV3])
    clear y0 y1 y2 p0 p1 p2 hV2 hV3 hb
    go_wp2_with fail
    refine c1K.out.mono ?_
    clear c1K t0 t1 t2 x0 x1 x2
    rintro e V4 ⟨rfl, hb4⟩
    have HB4 := Lib.hid (HBW.out.trans (hb4.mono HBW.out.size))
    clear hb4
    cases S
    · have HE : Hid (CF = 90) := Lib.hid (by rw [HCF.out]; simp)
      go_wp2_with fail
      refine (unchanged_any false V4).mono ?_
      rintro e V5 ⟨rfl, rfl⟩
      go_wp2
      go_ret
      exact ⟨by rw [HE.out]; rfl, HB4.out⟩
    · have HE : Hid (CF = 0) := Lib.hid (by rw [HCF.out]; simp)
      go_wp2_with fail
      refine (unchanged_any true V4).mono ?_
      rintro e V5 ⟨rfl, rfl⟩
      go_wp2
      go_ret
      exact ⟨by rw [HE.out]; rfl, HB4.out⟩
  · have e0 : (F == 0) = false := by rw [beq_eq_false_iff_ne]; exact hq
    have e1 : (F != 0) = true := by rw [bne, e0]; rfl
    have HE : Hid (CF = F) := Lib.hid (by rw [HCF.out, if_neg hq])
    clear hq
    go_upto_region 2 with (fail)
    (try rw [hb])
    (try rw [hV2])
    (try rw [hV3])
    clear y0 y1 y2 p0 p1 p2 hV2 hV3 hb
    go_wp2
    go_ret
    exact ⟨by rw [HE.out]; rfl, HBW.out⟩
end Go.Proofs.YtbcgeglkmpcnpaaDoor
namespace Go.Proofs.YtbcgeglkmpcnpaaDoor
open Go Go.ChangeShapes Go.WideShapes Go.ChangeAt Go.RowKit Go.Joins Go.Sort Go.Deep
set_option linter.unusedVariables false
set_option linter.unusedSimpArgs false

theorem checkF_zero {d : DT} : checkF d = 0 ↔ boundD d = true ∧ sigsMay d.gl = true ∧ mayD d = true ∧ (szD d).2 = 0 ∧ (∀ q ∈ d.ql, nrmQ (szQ d.gl q 0).1 = nrmQ q) ∧ ∀ k ∈ d.kl, nrmK (szK k 0).1 = nrmK k := by
  have hmap : ∀ {α : Type} (f g : α → α) (l : List α), l.map f = l.map g ↔ ∀ x ∈ l, f x = g x := fun f g l => by
    induction l with
    | nil => simp
    | cons x r ih => simp [ih]
  have hsm : sizeF d = 0 → (sameD (sizeR d) d = true ↔ (∀ q ∈ d.ql, nrmQ (szQ d.gl q 0).1 = nrmQ q) ∧ ∀ k ∈ d.kl, nrmK (szK k 0).1 = nrmK k) := fun h => by
    rw [sameD_iff, sizeR_self]
    unfold sizeR
    rw [if_pos h]
    unfold nrmD
    simp only [DT.mk.injEq, true_and]
    have eq : (szD d).1.1 = d.ql.map (fun q => (szQ d.gl q 0).1) := by unfold szD; simp only [szQL_map]
    have ek : (szD d).1.2 = d.kl.map (fun q => (szK q 0).1) := by unfold szD; simp only [szKL_map]
    rw [eq, ek, List.map_map, List.map_map, hmap, hmap]
    simp only [Function.comp]
  unfold checkF
  constructor
  · intro h
    by_cases h0 : sizeF d = 0
    · rw [if_pos h0] at h
      by_cases h1 : sameD (sizeR d) d = true
      · have h2 := (hsm h0).1 h1
        unfold sizeF at h0
        by_cases c1 : boundD d = true
        · rw [if_pos c1] at h0
          by_cases c2 : sigsMay d.gl = true ∧ mayD d = true
          · rw [if_pos c2] at h0; exact ⟨c1, c2.1, c2.2, h0, h2⟩
          · rw [if_neg c2] at h0; exact absurd h0 (by decide)
        · rw [if_neg c1] at h0; exact absurd h0 (by decide)
      · rw [if_neg h1] at h; exact absurd h (by decide)
    · rw [if_neg h0] at h; exact absurd h h0
  · rintro ⟨c1, c2, c3, h0, h2⟩
    have h3 : sizeF d = 0 := by unfold sizeF; rw [if_pos c1, if_pos ⟨c2, c3⟩, h0]
    rw [if_pos h3, if_pos ((hsm h3).2 h2)]
theorem nodesQ_take' (l : List QT) (k : Nat) : nodesQ (l.take k) ≤ nodesQ l ∧ deepQ (l.take k) ≤ deepQ l := by
  have h1 := nodesQ_app (l.take k) (l.drop k)
  have h2 := deepQ_app (l.take k) (l.drop k)
  rw [List.take_append_drop] at h1 h2
  omega
theorem nodesK_drop' (l : List KT) (k : Nat) : nodesK (l.drop k) ≤ nodesK l ∧ deepK (l.drop k) ≤ deepK l := by
  have h1 := nodesK_app (l.take k) (l.drop k)
  have h2 := deepK_app (l.take k) (l.drop k)
  rw [List.take_append_drop] at h1 h2
  omega
/-- Less of it is sized, too. -/
theorem less_ok {d : DT} (h : checkF d = 0) (i k : Nat) (ga qa ka : Option Addr) (gc qc kc : Nat) : checkF ⟨ga, gc, d.gl, qa, qc, d.ql.take i, ka, kc, d.kl.drop k⟩ = 0 := by
  rw [checkF_zero] at h ⊢
  obtain ⟨h1, h2, h3, h4, h5, h6⟩ := h
  have hq : ∀ q ∈ d.ql.take i, q ∈ d.ql := fun q hq => List.mem_of_mem_take hq
  have hk : ∀ q ∈ d.kl.drop k, q ∈ d.kl := fun q hq => List.mem_of_mem_drop hq
  refine ⟨?_, h2, ?_, ?_, fun q hh => h5 q (hq q hh), fun q hh => h6 q (hk q hh)⟩
  · unfold boundD measN measD at h1 ⊢
    have a1 := nodesQ_take' d.ql i
    have a2 := nodesK_drop' d.kl k
    simp only [Bool.and_eq_true, decide_eq_true_eq, okB, List.length_take] at h1 ⊢
    obtain ⟨b1, b2, b3, b4, b5⟩ := h1
    refine ⟨b1, by omega, b3, by omega, by omega⟩
  · unfold mayD at h3 ⊢
    simp only [Bool.and_eq_true, List.all_eq_true] at h3 ⊢
    exact ⟨fun q hh => h3.1 q (hq q hh), fun q hh => h3.2 q (hk q hh)⟩
  · rw [szD_zero] at h4 ⊢
    exact ⟨h4.1, fun q hh => h4.2.1 q (hq q hh), fun q hh => h4.2.2 q (hk q hh)⟩
theorem szQL_ne (gl : List GT) : ∀ (l : List QT) {f : Int}, f ≠ 0 → (szQL gl l f).2 = f
  | [], f, h => by rw [szQL]
  | q :: r, f, h => by
    rw [szQL]
    simp only
    have e : (szQ gl q f).2 = f := szTL_ne q.ck gl q.sl none h
    rw [e]
    exact szQL_ne gl r h
theorem szKL_ne : ∀ (l : List KT) {f : Int}, f ≠ 0 → (szKL l f).2 = f
  | [], f, h => by rw [szKL]
  | q :: r, f, h => by
    rw [szKL]
    simp only
    have e : (szK q f).2 = f := by
      simp only [szK]
      unfold szI
      rw [if_pos rfl]
      simp only [if_true]
      rw [wantF_ne h]; exact szE_ne _ _ h
    rw [e]
    exact szKL_ne r h
/-- With its first process the other way round it is not. -/
theorem flip_bad {d : DT} (h : checkF d = 0) {q : QT} {qr : List QT} (hq : d.ql = q :: qr) {sg uh ul : Int} {xa : Option Addr} {xc : Nat} {xl : List ET} {sa : Option Addr} {sc : Nat} {sl : List TT} {r : List TT} (ht : q.sl = .mk 1 sg uh ul xa xc xl sa sc sl :: r) (qa' : Option Addr) (qc' : Nat) : checkF ⟨d.ga, d.gc, d.gl, qa', qc', ⟨!q.ck, q.sa, q.sc, q.sl⟩ :: qr, d.ka, d.kc, d.kl⟩ = 85 := by
  rw [checkF_zero] at h
  obtain ⟨h1, h2, h3, h4, h5, h6⟩ := h
  rw [szD_zero] at h4
  obtain ⟨z1, z2, z3⟩ := h4
  have hz := z2 q (by rw [hq]; simp) (.mk 1 sg uh ul xa xc xl sa sc sl) (by rw [ht]; simp)
  have hp := (szT_zero.1 hz).1
  have hd : drivesB q.ck (kindOf d.gl sg) = true := by
    simp only [preT, if_true] at hp
    exact ((wantF_zero (by decide)).1 hp).2
  have hd2 : drivesB (!q.ck) (kindOf d.gl sg) = false := by
    generalize kindOf d.gl sg = kd at hd ⊢
    unfold drivesB at hd ⊢
    cases hc : q.ck
    · rw [hc] at hd
      simp at hd ⊢
      omega
    · rw [hc] at hd
      simp at hd ⊢
      omega
  have hF : (szD ⟨d.ga, d.gc, d.gl, qa', qc', ⟨!q.ck, q.sa, q.sc, q.sl⟩ :: qr, d.ka, d.kc, d.kl⟩).2 = 85 := by
    unfold szD
    simp only
    rw [z1, szQL]
    simp only
    have e : (szQ d.gl ⟨!q.ck, q.sa, q.sc, q.sl⟩ 0).2 = 85 := by
      simp only [szQ]
      rw [ht, szTL_cons]
      simp only
      have e2 : (szT (!q.ck) d.gl (.mk 1 sg uh ul xa xc xl sa sc sl) none 0).2 = 85 := by
        rw [szT_mk]
        simp only
        have e3 : preT (!q.ck) d.gl none 1 sg 0 = 85 := by
          simp only [preT, if_true, hd2]
          rfl
        rw [e3, szL_ne xl 0 _ (by decide), szTL_ne _ _ _ _ (by decide)]
      rw [e2, szTL_ne _ _ _ _ (by decide)]
    rw [e, szQL_ne d.gl qr (by decide), szKL_ne _ (by decide)]
  have hS : sizeF ⟨d.ga, d.gc, d.gl, qa', qc', ⟨!q.ck, q.sa, q.sc, q.sl⟩ :: qr, d.ka, d.kc, d.kl⟩ = 85 := by
    unfold sizeF
    have c1 : boundD ⟨d.ga, d.gc, d.gl, qa', qc', ⟨!q.ck, q.sa, q.sc, q.sl⟩ :: qr, d.ka, d.kc, d.kl⟩ = true := by
      unfold boundD measN measD at h1 ⊢
      rw [hq] at h1
      exact h1
    have c2 : mayD ⟨d.ga, d.gc, d.gl, qa', qc', ⟨!q.ck, q.sa, q.sc, q.sl⟩ :: qr, d.ka, d.kc, d.kl⟩ = true := by
      unfold mayD at h3 ⊢
      rw [hq] at h3
      exact h3
    rw [if_pos c1, if_pos ⟨h2, c2⟩, hF]
  unfold checkF
  rw [if_neg (by rw [hS]; decide), hS]
/-- A number's lowest sixteen bits. -/
theorem low16 (x : Int) : ∃ n : Nat, n < 65536 ∧ bits BinOp.and IntKind.i64 x 65535 = (n : Int) := by
  have h : ((BitVec.ofInt 64 x &&& BitVec.ofInt 64 65535).toNat) ≤ 65535 := by
    rw [BitVec.toNat_and]
    exact Nat.le_trans Nat.and_le_right (by decide)
  refine ⟨(BitVec.ofInt 64 x &&& BitVec.ofInt 64 65535).toNat, by omega, ?_⟩
  show IntKind.i64.wrap _ = _
  rw [show IntKind.i64.bits = 64 from rfl] at *
  generalize (BitVec.ofInt 64 x &&& BitVec.ofInt 64 65535).toNat = n at *
  simp only [IntKind.wrap, IntKind.bits, IntKind.signed]
  simp
  omega
theorem less_fit {d : DT} (hw : d.Wf) (i k : Nat) (qa ka : Option Addr) (qc kc : Nat) : (⟨d.ga, d.gc, d.gl, qa, qc, d.ql.take i, ka, kc, d.kl.drop k⟩ : DT).bk ≤ d.bk ∧ (⟨d.ga, d.gc, d.gl, qa, qc, d.ql.take i, ka, kc, d.kl.drop k⟩ : DT).Wf := by
  obtain ⟨h1, h2, h3⟩ := hw
  refine ⟨?_, h1, ?_, ?_⟩
  · have a1 := QT.bkL_app (d.ql.take i) (d.ql.drop i)
    have a2 := KT.bkL_app (d.kl.take k) (d.kl.drop k)
    rw [List.take_append_drop] at a1 a2
    unfold DT.bk
    simp only
    omega
  · rw [QT.wfL_iff] at h2 ⊢
    exact fun x hx => h2 x (List.mem_of_mem_take hx)
  · rw [KT.wfL_iff] at h3 ⊢
    exact fun x hx => h3 x (List.mem_of_mem_drop hx)
section
variable {H : Type} {enc : TypeId × Value → H}
set_option maxRecDepth 100000 in
theorem dt_data2 {W : World} : ∀ (fuel : Nat) (cs : List Value) (z : DataW H × List MemPlace), DataW.trod enc Tryd.prog W 0 (fun _ => true) true fuel 26 cs = some z → ∃ t : DT, cs = t.cells ∧ t.In W.heap.size W ∧ t.Wf ∧ t.bk ≤ Rows.uptoBulk z.1 ∧ t.ql.length ≤ t.qc ∧ (t.qa = none → t.qc = 0) ∧ t.kl.length ≤ t.kc ∧ (t.ka = none → t.kc = 0) := by
  intro fuel
  induction fuel using Nat.strongRecOn with
  | ind fuel ih =>
  intro cs z h
  obtain ⟨xs, n, hfu, rfl, hl, hlen, hf⟩ := DataW.trod_struct Tryd.underlying26 h
  have hl5 : cs.length = 3 := hl.trans (by kernel_rfl)
  match cs, hl5 with
  | [c0, c1, c2], _ =>
    have e0 : DataW.trod enc Tryd.prog W 0 (fun _ => true) true n 22 (([c0, c1, c2].drop 0).take (Tryd.prog.cellsOf 22)) = xs[0]? := hf 0 _ rfl
    have e1 : DataW.trod enc Tryd.prog W 0 (fun _ => true) true n 23 (([c0, c1, c2].drop 1).take (Tryd.prog.cellsOf 23)) = xs[1]? := hf 1 _ rfl
    have e2 : DataW.trod enc Tryd.prog W 0 (fun _ => true) true n 24 (([c0, c1, c2].drop 2).take (Tryd.prog.cellsOf 24)) = xs[2]? := hf 2 _ rfl
    have k0 : Tryd.prog.cellsOf 22 = 1 := by kernel_rfl
    have k1 : Tryd.prog.cellsOf 23 = 1 := by kernel_rfl
    have k2 : Tryd.prog.cellsOf 24 = 1 := by kernel_rfl
    simp only [k0, k1, k2] at e0 e1 e2
    simp only [List.drop_zero, List.drop_succ_cons, List.take_succ_cons, List.take_zero, List.take_nil] at e0 e1 e2
    match xs, hlen with
    | [x0, x1, x2], _ =>
      obtain ⟨ga, gc, gl, a0, i0, g0, b0, m0, n0⟩ := row_open (k := 4) (cells := GT.cells) (inn := GT.In W.heap.size W) (wf := GT.Wf) (bk := GT.bk) Tryd.underlying22 (by kernel_rfl) (by omega) (fun t => by obtain ⟨a, b, c, d⟩ := t; rfl) (fun m cs z hm hz => gt_data m cs z hz) e0
      rw [← GT.bkL_sum] at b0
      obtain ⟨qa, qc, ql, a1, i1, g1, b1, m1, n1⟩ := row_open (k := 2) (cells := QT.cells) (inn := QT.In W.heap.size W) (wf := QT.Wf) (bk := QT.bk) Tryd.underlying23 (by kernel_rfl) (by omega) (fun t => by obtain ⟨ck, sa, sc, sl⟩ := t; rfl) (fun m cs z hm hz => qt_data m cs z hz) e1
      rw [← QT.bkL_sum] at b1
      obtain ⟨ka, kc, kl, a2, i2, g2, b2, m2, n2⟩ := row_open (k := 9) (cells := KT.cells) (inn := KT.In W.heap.size W) (wf := KT.Wf) (bk := KT.bk) Tryd.underlying24 (by kernel_rfl) (by omega) (fun t => by obtain ⟨bn, x⟩ := t; cases x; rfl) (fun m cs z hm hz => kt_data m cs z hz) e2
      rw [← KT.bkL_sum] at b2
      refine ⟨⟨ga, gc, gl, qa, qc, ql, ka, kc, kl⟩, ?_, ?_, ?_, ?_, m1, n1, m2, n2⟩
      · show _ = [_, _, _]
        rw [a0, a1, a2]
      · exact ⟨i0, i1, i2⟩
      · exact ⟨g0, QT.wfL_of _ g1, KT.wfL_of _ g2⟩
      · simp only [DT.bk, Rows.uptoBulk, Rows.uptoBulkAll, List.map_cons, List.map_nil]
        omega
set_option maxRecDepth 100000 in
theorem dt_of2 {W : World} {base : Nat} {v : Value} {d : DataW H} {p : List MemPlace} (hv : Value.okWide Tryd.prog W .any base 26 v) (h : DataW.Trod enc Tryd.prog W 0 (fun _ => true) true 26 v d p) : ∃ t : DT, v = t.val ∧ t.In W.heap.size W ∧ t.Wf ∧ t.bk ≤ Rows.uptoBulk d ∧ t.ql.length ≤ t.qc ∧ (t.qa = none → t.qc = 0) ∧ t.kl.length ≤ t.kc ∧ (t.ka = none → t.kc = 0) := by
  obtain ⟨cs, rfl, hsz⟩ := okWide_struct Tryd.underlying26 hv
  obtain ⟨fuel, hf⟩ := h
  obtain ⟨t, h1, h2, h3, h4⟩ := dt_data2 fuel _ _ hf
  refine ⟨t, ?_, h2, h3, h4⟩
  simp only [Value.cells] at h1
  rw [DT.val, ← h1]
end
end Go.Proofs.YtbcgeglkmpcnpaaDoor
namespace Go.Proofs.YtbcgeglkmpcnpaaDoor
open Go Go.RowKit
set_option linter.unusedVariables false
set_option linter.unusedSimpArgs false
open Go.Sort

theorem hk1 {n g1 : Nat} {o1 : Obj} {w V V' : World} (h : Below n w V ∧ V.heap[g1]? = some o1) (hb : Below V.heap.size V V') (hn : n ≤ V.heap.size) : Below n w V' ∧ V'.heap[g1]? = some o1 := ⟨h.1.trans (hb.mono hn), block_kept h.2 hb⟩
theorem InRow.take {α : Type} {k : Nat} {cells : α → List Value} {inn : α → Prop} {n : Nat} {W : World} : ∀ {l : List α} {a : Option Addr}, InRow k cells inn n W l a → ∀ i, InRow k cells inn n W (l.take i) a
  | [], _, _, i => by rw [List.take_nil]; unfold InRow; trivial
  | x :: r, a, h, 0 => by rw [List.take_zero]; unfold InRow; trivial
  | x :: r, a, h, i + 1 => by
    rw [List.take_succ_cons]
    unfold InRow at h ⊢
    exact ⟨h.1, h.2.1, h.2.2.take i⟩
theorem InRow.drop {α : Type} {k : Nat} {cells : α → List Value} {inn : α → Prop} {n : Nat} {W : World} : ∀ {l : List α} {a : Option Addr}, InRow k cells inn n W l a → ∀ i, InRow k cells inn n W (l.drop i) (a.map fun p => p.add (i * k))
  | [], _, _, i => by rw [List.drop_nil]; unfold InRow; trivial
  | x :: r, a, h, 0 => by
    rw [List.drop_zero]
    have h0 := h
    unfold InRow at h
    obtain ⟨⟨b, o, rfl, hb, hr⟩, _, _⟩ := h
    have e : Option.map (fun p : Addr => p.add (0 * k)) (some (⟨b, o, none⟩ : Addr)) = some ⟨b, o, none⟩ := by rw [Option.map_some, Nat.zero_mul, add_plain']; rfl
    rw [e]
    exact h0
  | x :: r, a, h, i + 1 => by
    rw [List.drop_succ_cons]
    unfold InRow at h
    obtain ⟨⟨b, o, rfl, hb, hr⟩, _, h3⟩ := h
    have h4 := h3.drop i
    rw [Option.map_some, add_plain', Option.map_some, add_plain'] at h4
    rw [Option.map_some, add_plain', Nat.succ_mul, Nat.add_comm (i * k) k, ← Nat.add_assoc]
    exact h4
theorem inrow_all {α : Type} {k : Nat} {cells : α → List Value} {inn : α → Prop} {n : Nat} {W : World} : ∀ {l : List α} {a : Option Addr}, InRow k cells inn n W l a → ∀ x ∈ l, inn x
  | [], _, _, x, hx => by cases hx
  | y :: r, a, h, x, hx => by
    unfold InRow at h
    rcases List.mem_cons.1 hx with e | e
    · rw [e]; exact h.2.1
    · exact inrow_all h.2.2 x e
theorem inrow_flat {α : Type} {k : Nat} {cells : α → List Value} {inn : α → Prop} {n : Nat} {W : World} (hk : ∀ x, (cells x).length = k) {b : Nat} : ∀ {l : List α} {o : Nat}, InRow k cells inn n W l (some ⟨b, o, none⟩) → ∀ j u, (l.flatMap cells)[j]? = some u → W.cell? ⟨b, o + j, none⟩ = some u
  | [], o, _, j, u, hu => by simp at hu
  | x :: r, o, h, j, u, hu => by
    unfold InRow at h
    obtain ⟨⟨b2, o2, he, hb, hr⟩, _, h3⟩ := h
    simp only [Option.some.injEq, Addr.mk.injEq, and_true] at he
    obtain ⟨rfl, rfl⟩ := he
    rw [List.flatMap_cons] at hu
    by_cases hj : j < k
    · rw [List.getElem?_append_left (by rw [hk]; exact hj)] at hu
      exact hr j u hu
    · rw [List.getElem?_append_right (by rw [hk]; omega), hk] at hu
      rw [Option.map_some, add_plain'] at h3
      have h9 := inrow_flat hk h3 (j - k) u hu
      rw [show o + j = o + k + (j - k) by omega]
      exact h9
theorem infoQ : (Tryd.prog.info? 46).map (fun i => (i.zero, i.size, i.bytes)) = some (some (.agg #[.bool false, .slice none 0 0]), 2, 32) := by kernel_rfl
theorem put3_at1 {w : World} {g : Nat} {v0 v1 v2 : Value} {t : TypeId} (h : w.heap[g]? = some (.cells #[v0, v1, v2] t (0, 0))) (u : Value) : (w.setCell ⟨g, 1, none⟩ u).drew.heap[g]? = some (.cells #[v0, u, v2] t (0, 0)) := by
  show (w.setCell ⟨g, 1, none⟩ u).heap[g]? = _
  simp [World.setCell, Array.getElem?_modify, h]
theorem put3_at2 {w : World} {g : Nat} {v0 v1 v2 : Value} {t : TypeId} (h : w.heap[g]? = some (.cells #[v0, v1, v2] t (0, 0))) (u : Value) : (w.setCell ⟨g, 2, none⟩ u).drew.heap[g]? = some (.cells #[v0, v1, u] t (0, 0)) := by
  show (w.setCell ⟨g, 2, none⟩ u).heap[g]? = _
  simp [World.setCell, Array.getElem?_modify, h]
set_option maxHeartbeats 16000000 in
set_option maxRecDepth 100000 in
theorem less_law (D : DT) (hdk : D.bk ≤ 1100000) (hwf : D.Wf) (hqc : D.ql.length ≤ D.qc) (hqa : D.qa = none → D.qc = 0) (hkc : D.kl.length ≤ D.kc) (hka : D.ka = none → D.kc = 0) (x1 x2 : Int) (n0 : Nat) (w : World) (hn0 : n0 ≤ w.heap.size) (hz : EnvZ w) (hd : D.In n0 w) : Calls Tryd.prog 5 #[D.val, .int .i64 x1, .int .i64 x2] w fun e w' => e = .returned (.bool true) ∧ Below w.heap.size w w' := by
  have hnm : ∀ g ∈ D.gl, g.nm.length ≤ 12000000 := fun g hg => by
    have h1 : g.bk ≤ GT.bkL D.gl := GT.bkL_mem hg
    have h2 : D.bk = 1 + GT.bkL D.gl + QT.bkL D.ql + KT.bkL D.kl := rfl
    unfold GT.bk at h1; omega
  have hin := fun (W : World) (h : Below w.heap.size w W) => DT.In.less (Nat.le_trans hn0 h.size) D (DT.In.keep (Below.keptTo h hn0) D hd)
  have HDI := Lib.hid hin
  have FL := Lib.hid (fun (W : World) (h : Below w.heap.size w W) => live_any W (hz.keep h))
  have F1 := Lib.hid (fun (W : World) (h : Below w.heap.size w W) => small_any D (by omega) W.heap.size W (Nat.le_refl _) (hin W h))
  have HCD := Lib.hid (fun (W : World) (h : Below w.heap.size w W) => check_of_design D (by omega) hwf hnm W.heap.size W (Nat.le_refl _) (hz.keep h) (hin W h))
  have HCY := Lib.hid (fun (y : DT) (hk : y.bk ≤ 1100000) (hw : y.Wf) (hg : y.gl = D.gl) (W : World) (h : Below w.heap.size w W) (hi : y.In W.heap.size W) => check_of_design y (by omega) hw (fun g hh => hnm g (by rw [hg] at hh; exact hh)) W.heap.size W (Nat.le_refl _) (hz.keep h) hi)
  obtain ⟨CF, hCF⟩ : ∃ F, checkF D = F := ⟨_, rfl⟩
  rw [hCF] at HCD
  have HCF := Lib.hid hCF
  have HDK := Lib.hid hdk
  have HWF := Lib.hid hwf
  obtain ⟨B1, hB1⟩ : ∃ x, smallD D = x := ⟨_, rfl⟩
  rw [hB1] at F1
  clear hB1 hdk hwf hin hnm hz hd hn0 hCF
  obtain ⟨ga, gc, gl, qa, qc, ql, ka, kc, kl⟩ := D
  obtain ⟨D, hD⟩ : ∃ D, (⟨ga, gc, gl, qa, qc, ql, ka, kc, kl⟩ : DT) = D := ⟨_, rfl⟩
  have hdv : D.val = .agg #[.slice ga gl.length gc, .slice qa ql.length qc, .slice ka kl.length kc] := by rw [← hD]; rfl
  have HD := Lib.hid hD
  simp only at hqc hqa hkc hka
  simp only [hD] at F1 HCD HCY HCF HDK HWF HDI ⊢
  rw [hdv] at F1 HCD ⊢
  clear hD hdv
  obtain ⟨gx, hgx⟩ : ∃ gx, w.heap.size = gx := ⟨_, rfl⟩
  obtain ⟨w1, hw1⟩ : ∃ w1, w.alloc (.cells #[.slice ga gl.length gc, .slice qa ql.length qc, .slice ka kl.length kc] 26) = w1 := ⟨_, rfl⟩
  have hba : Below w.heap.size w w1 := by rw [← hw1]; exact (Below.refl _ _).alloc (Nat.le_refl _) _
  have BX : w1.heap[gx]? = some (.cells #[.slice ga gl.length gc, .slice qa ql.length qc, .slice ka kl.length kc] 26 (0, 0)) := by rw [← hw1, ← hgx]; exact World.alloc_heap_new w _
  have HS0 := Lib.hid (And.intro hba BX)
  clear hba BX
  have cK := Lib.hid (FL.out w1 HS0.out.1)
  obtain ⟨x0, x1', x2'⟩ := ope3 HS0.out.2
  go_enter Tryd.func5, Tryd.ntmps5
  go_upto_region 1 with (fail)
  (try rw [hw1])
  (try rw [hgx])
  clear hw1 hgx
  go_wp2_with fail
  refine cK.out.mono ?_
  clear cK x0 x1' x2'
  rintro e w2 ⟨rfl, hb⟩
  have HS1 := Lib.hid (hk1 HS0.out hb HS0.out.1.size)
  clear hb
  have cK := Lib.hid (F1.out w2 HS1.out.1)
  obtain ⟨x0, x1', x2'⟩ := ope3 HS1.out.2
  go_wp2_with fail
  refine cK.out.mono ?_
  clear cK x0 x1' x2'
  rintro e w3 ⟨rfl, hb⟩
  have HS2 := Lib.hid (hk1 HS1.out hb HS1.out.1.size)
  clear hb
  cases B1 with
  | false =>
    go_wp2
    go_ret
    exact ⟨rfl, HS2.out.1⟩
  | true =>
    have cK := Lib.hid (HCD.out w3 HS2.out.1)
    obtain ⟨x0, x1', x2'⟩ := ope3 HS2.out.2
    go_wp2_with fail
    refine cK.out.mono ?_
    clear cK x0 x1' x2'
    rintro e w4 ⟨rfl, hb⟩
    have HS3 := Lib.hid (hk1 HS2.out hb HS2.out.1.size)
    clear hb HS0 HS1 HS2 FL F1 HCD
    by_cases hq : CF = 0
    · subst hq
      obtain ⟨gy, hgy⟩ : ∃ gy, w4.heap.size = gy := ⟨_, rfl⟩
      obtain ⟨w5, hw5⟩ : ∃ w5, w4.alloc (.cells #[.slice ga gl.length gc, .slice qa ql.length qc, .slice ka kl.length kc] 26) = w5 := ⟨_, rfl⟩
      have hb5 : Below w4.heap.size w4 w5 := by rw [← hw5]; exact (Below.refl _ _).alloc (Nat.le_refl _) _
      have hl5 : gy < w5.heap.size := by rw [← hw5, ← hgy]; simp
      have BY : w5.heap[gy]? = some (.cells #[.slice ga gl.length gc, .slice qa ql.length qc, .slice ka kl.length kc] 26 (0, 0)) := by rw [← hw5, ← hgy]; exact World.alloc_heap_new w4 _
      have hs5 := hk1 HS3.out hb5 HS3.out.1.size
      have hgyw : w.heap.size ≤ gy := by have := HS3.out.1.size; omega
      have hxy : gx ≠ gy := by have := (Array.getElem?_eq_some_iff.1 HS3.out.2).1; omega
      obtain ⟨N1, hN1, eN1⟩ := low16 x1
      obtain ⟨N2, hN2, eN2⟩ := low16 x2
      obtain ⟨x0, x1', x2'⟩ := ope3 HS3.out.2
      go_upto_region 5 with (fail)
      (try rw [hgy])
      (try rw [hw5])
      clear hw5 hgy x0 x1' x2'
      obtain ⟨x0, x1', x2'⟩ := ope3 hs5.2
      obtain ⟨y0, y1, y2⟩ := ope3 BY
      obtain ⟨p0, p1, p2⟩ := thaw3 BY
      have hql : ql.length < 1100000 := by
        have h1 := QT.bkL_len ql
        have h2 : D.bk = 1 + GT.bkL D.gl + QT.bkL D.ql + KT.bkL D.kl := rfl
        have h3 := HDK.out
        rw [← HD.out] at h2 h3
        simp only at h2
        omega
      obtain ⟨I1, hI1⟩ : ∃ i, N1 % (ql.length + 1) = i := ⟨_, rfl⟩
      obtain ⟨I2, hI2⟩ : ∃ i, N2 % (kl.length + 1) = i := ⟨_, rfl⟩
      have hi1 : I1 ≤ ql.length := by rw [← hI1]; exact Nat.le_of_lt_succ (Nat.mod_lt _ (Nat.succ_pos _))
      have hi2 : I2 ≤ kl.length := by rw [← hI2]; exact Nat.le_of_lt_succ (Nat.mod_lt _ (Nat.succ_pos _))
      have ei1 : (N1 : Int) % ((ql.length : Int) + 1) = (I1 : Int) := by rw [← hI1]; simp
      have ei2 : (N2 : Int) % ((kl.length : Int) + 1) = (I2 : Int) := by rw [← hI2]; simp
      have ej1 : I1 ≤ qc := by omega
      have hkl : kl.length < 1100000 := by
        have h1 := KT.bkL_len kl
        have h2 : D.bk = 1 + GT.bkL D.gl + QT.bkL D.ql + KT.bkL D.kl := rfl
        have h3 := HDK.out
        rw [← HD.out] at h2 h3
        simp only at h2
        omega
      clear hI1 hI2
      go_region
      obtain ⟨w6, hw6⟩ : ∃ W, (w5.setCell ⟨gy, 1, none⟩ (.slice qa I1 qc)).drew = W := ⟨_, rfl⟩
      have hb6 : Below w.heap.size w w6 := by rw [← hw6]; exact (Below.setCell hs5.1 (p := ⟨gy, 1, none⟩) hgyw _).drew
      have hgxy : gx ≠ gy := hxy
      have BX6 : w6.heap[gx]? = some (.cells #[.slice ga gl.length gc, .slice qa ql.length qc, .slice ka kl.length kc] 26 (0, 0)) := by rw [← hw6]; exact (Below.heap_setCell _ _ _ gx hgxy).trans hs5.2
      have BY6 : w6.heap[gy]? = some (.cells #[.slice ga gl.length gc, .slice qa I1 qc, .slice ka kl.length kc] 26 (0, 0)) := by rw [← hw6]; exact put3_at1 BY _
      clear x0 x1' x2' y0 y1 y2 p0 p1 p2 hs5 BY hb5 hl5 ei1 eN1 hN1
      obtain ⟨x0, x1', x2'⟩ := ope3 BX6
      obtain ⟨y0, y1, y2⟩ := ope3 BY6
      obtain ⟨p0, p1, p2⟩ := thaw3 BY6
      go_upto_region 6 with (fail)
      (try rw [hw6])
      clear hw6
      go_region
      obtain ⟨KA, hKA⟩ : ∃ KA, (if kc = I2 then ka else Option.map (fun x : Addr => x.add (I2 * 9)) ka) = KA := ⟨_, rfl⟩
      rw [hKA]
      obtain ⟨w7, hw7⟩ : ∃ W, (w6.setCell ⟨gy, 2, none⟩ (.slice KA (kl.length - I2) (kc - I2))).drew = W := ⟨_, rfl⟩
      have hb7 : Below w.heap.size w w7 := by rw [← hw7]; exact (Below.setCell hb6 (p := ⟨gy, 2, none⟩) hgyw _).drew
      have BY7 : w7.heap[gy]? = some (.cells #[.slice ga gl.length gc, .slice qa I1 qc, .slice KA (kl.length - I2) (kc - I2)] 26 (0, 0)) := by rw [← hw7]; exact put3_at2 BY6 _
      have hY : ∃ Y : DT, Y = ⟨ga, gc, gl, qa, qc, ql.take I1, KA, kc - I2, kl.drop I2⟩ := ⟨_, rfl⟩
      obtain ⟨Y, hY⟩ := hY
      have hfit : Y.bk ≤ 1100000 ∧ Y.Wf ∧ checkF Y = 0 := by
        have hD := HD.out
        have h1 := less_fit (d := D) HWF.out I1 I2 qa KA qc (kc - I2)
        have h2 := less_ok (d := D) HCF.out I1 I2 ga qa KA gc qc (kc - I2)
        rw [← hD] at h1 h2
        have h3 := HDK.out
        rw [← hD] at h3
        rw [hY]
        exact ⟨Nat.le_trans h1.1 h3, h1.2, h2⟩
      have hyv : Y.val = .agg #[.slice ga gl.length gc, .slice qa I1 qc, .slice KA (kl.length - I2) (kc - I2)] := by
        rw [hY]
        simp only [DT.val, DT.cells, List.length_take, List.length_drop, Nat.min_eq_left hi1]
      have hyi : ∀ W, Below w.heap.size w W → Y.In W.heap.size W := fun W h => by
        have h9 := HDI.out W h
        rw [← HD.out] at h9
        obtain ⟨a1, a2, a3⟩ := h9
        rw [hY]
        refine ⟨a1, a2.take I1, ?_⟩
        show InRow 9 KT.cells (KT.In W.heap.size W) W.heap.size W (kl.drop I2) KA
        by_cases hc : kc = I2
        · rw [show kl.drop I2 = [] from List.drop_eq_nil_of_le (by omega)]
          trivial
        · rw [← hKA, if_neg hc]
          exact a3.drop I2
      have HYI := Lib.hid hyi
      have cK := Lib.hid (HCY.out Y hfit.1 hfit.2.1 (by rw [hY]) w7 hb7 (hyi w7 hb7))
      rw [hyv, hfit.2.2] at cK
      have HFT := Lib.hid hfit
      have HYV := Lib.hid hyv
      have HYC : Hid (Y.ga = ga ∧ Y.gc = gc ∧ Y.gl = gl ∧ Y.ka = KA ∧ Y.kc = kc - I2 ∧ Y.kl.length = kl.length - I2) := Lib.hid (by rw [hY]; exact ⟨rfl, rfl, rfl, rfl, rfl, List.length_drop⟩)
      have HS7 := Lib.hid (And.intro hb7 BY7)
      have HKL := Lib.hid (And.intro hY (And.intro hi1 hi2))
      clear x0 x1' x2' y0 y1 y2 p0 p1 p2 BX6 BY6 hb6 ei2 eN2 hN2 hfit hyv hyi hb7 BY7 hKA hY HS3 HWF HDI HCF hqc hqa hkc hka ej1 hql hkl hi1 hi2 hxy hgxy HDK
      obtain ⟨y0, y1, y2⟩ := ope3 HS7.out.2
      go_upto_region 7 with (fail)
      (try rw [hw7])
      clear hw7
      go_wp2_with fail
      refine cK.out.mono ?_
      clear cK y0 y1 y2
      rintro e w8 ⟨rfl, hb⟩
      have HS8 := Lib.hid (hk1 HS7.out hb HS7.out.1.size)
      clear hb HS7
      have hyi8 := HYI.out w8 HS8.out.1
      have HL := HKL.out
      obtain ⟨hY, hi1, hi2⟩ := HL
      have hLn : (ql.take I1).length = I1 := by rw [List.length_take]; omega
      have hYq : Y.ql = ql.take I1 ∧ Y.qa = qa := by rw [hY]; exact ⟨rfl, rfl⟩
      have hrow : InRow 2 QT.cells (QT.In w8.heap.size w8) w8.heap.size w8 (ql.take I1) qa := by
        have h9 := hyi8.2.1
        rw [hYq.1, hYq.2] at h9; exact h9
      obtain ⟨L, hL⟩ : ∃ L, ql.take I1 = L := ⟨_, rfl⟩
      rw [hL] at hrow hLn
      have hYL : Y.ql = L := by rw [hYq.1, hL]
      have HYL := Lib.hid hYL
      have HYA := Lib.hid hYq.2
      clear hyi8 hYq hL hYL hi1 hi2 hY HKL
      obtain ⟨y0, y1, y2⟩ := ope3 HS8.out.2
      cases L with
      | nil =>
        have hI0 : I1 = 0 := by simpa using hLn.symm
        subst hI0
        go_wp2
        go_ret
        exact ⟨rfl, HS8.out.1⟩
      | cons q qr =>
        obtain ⟨m, hm⟩ : ∃ m, I1 = m + 1 := ⟨qr.length, by rw [← hLn]; rfl⟩
        subst hm
        obtain ⟨ck, sa, sc, sl⟩ := q
        have em1 : ¬ ((m : Int) + 1 = 0) := by omega
        have em2 : ((m : Int) + 1 == 0) = false := beq_eq_false_iff_ne.2 em1
        unfold InRow at hrow
        obtain ⟨⟨qb, qo, rfl, hqb, hqr⟩, hqi, hqR⟩ := hrow
        have q0 : w8.cell? ⟨qb, qo, none⟩ = some (.bool ck) := hqr 0 _ rfl
        have q1 : w8.cell? ⟨qb, qo + 1, none⟩ = some (.slice sa sl.length sc) := hqr 1 _ rfl
        cases sl with
        | nil =>
          go_wp2
          go_ret
          exact ⟨rfl, HS8.out.1⟩
        | cons t tr =>
          cases t with
          | mk op sg uh ul xa xc xl sa2 sc2 sl2 =>
          have hqi' : InRow 6 TT.cells (TT.In w8.heap.size w8) w8.heap.size w8 (.mk op sg uh ul xa xc xl sa2 sc2 sl2 :: tr) sa := hqi
          unfold InRow at hqi'
          obtain ⟨⟨tb, to_, rfl, htb, htr⟩, hti, htR⟩ := hqi'
          have t0 : w8.cell? ⟨tb, to_, none⟩ = some (.int .i64 op) := htr 0 _ rfl
          have en1 : ¬ ((tr.length : Int) + 1 = 0) := by omega
          have en2 : ((tr.length : Int) + 1 == 0) = false := beq_eq_false_iff_ne.2 en1
          by_cases hop : op = 1
          · subst hop
            go_upto_region 11 with (fail)
            clear em1 em2 en1 en2
            obtain ⟨gz, hgz⟩ : ∃ gz, w8.heap.size = gz := ⟨_, rfl⟩
            obtain ⟨w9, hw9⟩ : ∃ W, w8.alloc (.cells #[.slice ga gl.length gc, .slice (some ⟨qb, qo, none⟩) (m + 1) qc, .slice KA (kl.length - I2) (kc - I2)] 26) = W := ⟨_, rfl⟩
            have hb9 : Below w8.heap.size w8 w9 := by rw [← hw9]; exact (Below.refl _ _).alloc (Nat.le_refl _) _
            have BZ : w9.heap[gz]? = some (.cells #[.slice ga gl.length gc, .slice (some ⟨qb, qo, none⟩) (m + 1) qc, .slice KA (kl.length - I2) (kc - I2)] 26 (0, 0)) := by rw [← hw9, ← hgz]; exact World.alloc_heap_new w8 _
            have hs9 := hk1 HS8.out hb9 HS8.out.1.size
            clear q0 q1 t0
            go_upto_region 12 with (fail)
            (try rw [hgz])
            (try rw [hw9])
            clear hw9 y0 y1 y2
            obtain ⟨y0, y1, y2⟩ := ope3 hs9.2
            obtain ⟨z0, z1, z2⟩ := ope3 BZ
            obtain ⟨p0, p1, p2⟩ := thaw3 BZ
            obtain ⟨wA, hwA⟩ : ∃ W, w9.alloc (.cells #[] 46) = W := ⟨_, rfl⟩
            have hbA : Below w9.heap.size w9 wA := by rw [← hwA]; exact (Below.refl _ _).alloc (Nat.le_refl _) _
            have hsA : Below w.heap.size w wA := hs9.1.trans (hbA.mono hs9.1.size)
            have y1A := alloc_cell y1 (.cells #[] 46)
            have HYL2 := HYL.out
            have hil : InRow 2 QT.cells (QT.In wA.heap.size wA) wA.heap.size wA Y.ql Y.qa := (HYI.out wA hsA).2.1
            rw [HYL.out, HYA.out] at hil
            have hnews := inrow_flat (fun t => by obtain ⟨c1, c2, c3, c4⟩ := t; rfl) hil
            have hnl : ((⟨ck, some ⟨tb, to_, none⟩, sc, .mk 1 sg uh ul xa xc xl sa2 sc2 sl2 :: tr⟩ :: qr : List QT).flatMap QT.cells).length = (m + 1) * 2 := by rw [flat_len2 (fun t => by obtain ⟨c1, c2, c3, c4⟩ := t; rfl), hLn]
            have hone : ∀ u ∈ ((⟨ck, some ⟨tb, to_, none⟩, sc, .mk 1 sg uh ul xa xc xl sa2 sc2 sl2 :: tr⟩ :: qr : List QT).flatMap QT.cells), u.oneCell' = true := by
              intro u hu
              obtain ⟨⟨c1, c2, c3, c4⟩, _, hu2⟩ := List.mem_flatMap.1 hu
              simp only [QT.cells, List.mem_cons, List.not_mem_nil, or_false] at hu2
              rcases hu2 with rfl | rfl <;> rfl
            have hmm : m + 1 ≤ 1100000 := by
              have h1 := QT.bkL_len Y.ql
              have h2 : Y.bk = 1 + GT.bkL Y.gl + QT.bkL Y.ql + KT.bkL Y.kl := rfl
              have h3 := HFT.out.1
              rw [HYL.out, hLn] at h1
              rw [HYL.out] at h2
              omega
            obtain ⟨i0, hi, hiz⟩ := Option.map_eq_some_iff.1 infoQ
            simp only [Prod.mk.injEq] at hiz
            obtain ⟨hz0, hz1, hz2⟩ := hiz
            obtain ⟨gA, hgA⟩ : ∃ g, w9.heap.size = g := ⟨_, rfl⟩
            rw [hwA] at y1A
            clear y0 y1 y2 z0 z1 z2 p0 p1 p2
            go_wp2_with (at_builtin; go_loud ((try rw [hwA]); refine wpList_append_grows _ rfl _ _ 23 rfl 46 i0 (.agg #[.bool false, .slice none 0 0]) 2 32 Tryd.underlying23 hi hz0 hz1 hz2 rfl (by decide) (some ⟨gA, 0, none⟩) 0 0 [] rfl (fun h => by cases h) rfl (fun _ _ j u hu => by simp at hu) ⟨qb, qo, none⟩ (m + 1) qc _ rfl hnl (fun j u hu => by rw [add_plain']; exact hnews j u hu) hone (by omega) (by unfold maxLen; omega) (by omega) ?_))
            intro v' wB hown hgr
            obtain ⟨hol, hor⟩ := hown
            (try rw [List.nil_append] at hol)
            (try rw [List.nil_append] at hor)
            rcases hor with ⟨_, hb0⟩ | ⟨g, cap, cur, rfl, hgb, hgB, hcp, hcm, hcs, hct⟩
            · exact absurd hb0 (by omega)
            have hbB : Below wA.heap.size wA wB := (Below.refl _ _).grown hgr (Nat.le_refl _) (fun k h => by cases h)
            have hsB : Below w.heap.size w wB := hsA.trans (hbB.mono hsA.size)
            have BZB := block_kept (block_kept BZ hbA) hbB
            have BYB := block_kept (block_kept hs9.2 hbA) hbB
            have hgzl : gz < wA.heap.size := (Array.getElem?_eq_some_iff.1 (block_kept BZ hbA)).1
            have hgyl : gy < w8.heap.size := (Array.getElem?_eq_some_iff.1 HS8.out.2).1
            have hgzw : w.heap.size ≤ gz := by have := HS8.out.1.size; omega
            have hzy : gy ≠ gz := by omega
            have hgz' : g ≠ gz := by omega
            have hgw : w.heap.size ≤ g := by have := hsA.size; omega
            obtain ⟨post, hpost⟩ : ∃ post, cur.toList.drop ((m + 1) * 2) = post := ⟨_, rfl⟩
            have hct2 : cur.toList.take ((m + 1) * 2) = ((⟨ck, some ⟨tb, to_, none⟩, sc, .mk 1 sg uh ul xa xc xl sa2 sc2 sl2 :: tr⟩ : QT) :: qr).flatMap QT.cells := by rw [List.flatMap_cons]; exact hct
            have hcur : cur.toList = ((⟨ck, some ⟨tb, to_, none⟩, sc, .mk 1 sg uh ul xa xc xl sa2 sc2 sl2 :: tr⟩ : QT) :: qr).flatMap QT.cells ++ post := by rw [← hct2, ← hpost, List.take_append_drop]
            have hcur2 : cur = (((⟨ck, some ⟨tb, to_, none⟩, sc, .mk 1 sg uh ul xa xc xl sa2 sc2 sl2 :: tr⟩ : QT) :: qr).flatMap QT.cells ++ post).toArray := by rw [← hcur]
            have RB : RowT 46 wB g (((⟨ck, some ⟨tb, to_, none⟩, sc, .mk 1 sg uh ul xa xc xl sa2 sc2 sl2 :: tr⟩ : QT) :: qr).flatMap QT.cells ++ post) := by unfold RowT; rw [hgB, hcur2]
            obtain ⟨wC, hwC⟩ : ∃ W, wB.setCell ⟨gz, 1, none⟩ (.slice (some ⟨g, 0, none⟩) (m + 1) cap) = W := ⟨_, rfl⟩
            have hsC : Below w.heap.size w wC := by rw [← hwC]; exact Below.setCell hsB (p := ⟨gz, 1, none⟩) hgzw _
            have BZC : wC.heap[gz]? = some (.cells #[.slice ga gl.length gc, .slice (some ⟨g, 0, none⟩) (m + 1) cap, .slice KA (kl.length - I2) (kc - I2)] 26 (0, 0)) := by rw [← hwC]; exact put3_at1 BZB _
            have BYC := (show wC.heap[gy]? = wB.heap[gy]? by rw [← hwC]; exact Below.heap_setCell _ _ _ gy hzy).trans BYB
            have RC : RowT 46 wC g (((⟨ck, some ⟨tb, to_, none⟩, sc, .mk 1 sg uh ul xa xc xl sa2 sc2 sl2 :: tr⟩ : QT) :: qr).flatMap QT.cells ++ post) := RB.keep (by rw [← hwC]; exact Below.heap_setCell _ _ _ g hgz')
            have HMM := Lib.hid (And.intro hmm hLn)
            have HGW := Lib.hid (And.intro hgw hgz')
            obtain ⟨z0, z1, z2⟩ := ope3 BZB
            obtain ⟨p0, p1, p2⟩ := thaw3 BZB
            (try rw [Nat.zero_add])
            clear hct2 hsA hbA hbB hs9 BZ hil hnews hnl hone hmm hi hz0 hz1 hz2 hgA hol hgb hgB hcp hcm hcs hct hcur hcur2 hpost BZB RB hgr hsB y1A hb9 hqi hqr hqR hti htr htR hqb htb HYL2 hgw hgz' BYB hLn hgyl hgzl HYV HS8
            go_upto_region 13 with (fail)
            (try rw [hwC])
            clear hwC z0 z1 z2 p0 p1 p2
            obtain ⟨z0, z1, z2⟩ := ope3 BZC
            obtain ⟨y0, y1, y2⟩ := ope3 BYC
            have hil : InRow 2 QT.cells (QT.In wC.heap.size wC) wC.heap.size wC Y.ql Y.qa := (HYI.out wC hsC).2.1
            rw [HYL.out, HYA.out] at hil
            unfold InRow at hil
            obtain ⟨⟨qb', qo', he, hqb, hqr⟩, hqi, hqR⟩ := hil
            simp only [Option.some.injEq, Addr.mk.injEq, and_true] at he
            obtain ⟨rfl, rfl⟩ := he
            have q0 : wC.cell? ⟨qb, qo, none⟩ = some (.bool ck) := hqr 0 _ rfl
            have q1 : wC.cell? ⟨qb, qo + 1, none⟩ = some (.slice (some ⟨tb, to_, none⟩) (tr.length + 1) sc) := hqr 1 _ rfl
            have RC2 : RowT 46 wC g ([] ++ ([.bool ck, .slice (some ⟨tb, to_, none⟩) (tr.length + 1) sc] ++ (qr.flatMap QT.cells ++ post))) := RC
            obtain ⟨g0, g1⟩ := RC2.cells2 0 rfl
            obtain ⟨f0, f1⟩ := RC2.thaw2 0
            have RD := RC2.put2 0 rfl (.bool (!ck)) (.slice (some ⟨tb, to_, none⟩) (tr.length + 1) sc)
            have hD := below_putO2 hsC HGW.out.1 0 (.bool (!ck)) (.slice (some ⟨tb, to_, none⟩) (tr.length + 1) sc)
            have BZD := (putO2 wC g 0 (.bool (!ck)) (.slice (some ⟨tb, to_, none⟩) (tr.length + 1) sc) gz (Ne.symm HGW.out.2)).trans BZC
            rw [Nat.zero_add] at g1 f1 RD hD BZD
            have HRD := Lib.hid RD
            have HHD := Lib.hid hD
            have HBZ := Lib.hid BZD
            clear RC RC2 RD hD BZD BZC BYC hqr hqi hqR hqb hsC
            go_region
            obtain ⟨wE, hwE⟩ : ∃ W, ((wC.setCell ⟨g, 0, none⟩ (.bool (!ck))).setCell ⟨g, 1, none⟩ (.slice (some ⟨tb, to_, none⟩) (tr.length + 1) sc)).drew = W := ⟨_, rfl⟩
            have hsE : Below w.heap.size w wE := by rw [← hwE]; exact HHD.out.drew
            have RE : RowT 46 wE g ([] ++ (((⟨!ck, some ⟨tb, to_, none⟩, sc, .mk 1 sg uh ul xa xc xl sa2 sc2 sl2 :: tr⟩ : QT) :: qr).flatMap QT.cells ++ post)) := HRD.out.keep (by rw [← hwE]; rfl)
            have BZE : wE.heap[gz]? = some (.cells #[.slice ga gl.length gc, .slice (some ⟨g, 0, none⟩) (m + 1) cap, .slice KA (kl.length - I2) (kc - I2)] 26 (0, 0)) := by rw [← hwE]; exact HBZ.out
            have hyE := HYI.out wE hsE
            obtain ⟨a1, a2, a3⟩ := hyE
            rw [HYL.out] at a2
            have hall := inrow_all a2
            have hlt : g < wE.heap.size := RE.lt
            have hq2 : ∀ x ∈ ((⟨!ck, some ⟨tb, to_, none⟩, sc, .mk 1 sg uh ul xa xc xl sa2 sc2 sl2 :: tr⟩ : QT) :: qr), QT.In wE.heap.size wE x := fun x hx => by
              rcases List.mem_cons.1 hx with e | e
              · have h9 := hall (⟨ck, some ⟨tb, to_, none⟩, sc, .mk 1 sg uh ul xa xc xl sa2 sc2 sl2 :: tr⟩ : QT) (by simp)
                rw [e]
                exact h9
              · exact hall x (List.mem_cons_of_mem _ e)
            obtain ⟨E, hE⟩ : ∃ E : DT, E = ⟨Y.ga, Y.gc, Y.gl, some ⟨g, 0, none⟩, cap, (⟨!ck, some ⟨tb, to_, none⟩, sc, .mk 1 sg uh ul xa xc xl sa2 sc2 sl2 :: tr⟩ : QT) :: qr, Y.ka, Y.kc, Y.kl⟩ := ⟨_, rfl⟩
            obtain ⟨s1, s2, s3, s4, s5, s6⟩ := HYC.out
            have hev : E.val = .agg #[.slice ga gl.length gc, .slice (some ⟨g, 0, none⟩) (m + 1) cap, .slice KA (kl.length - I2) (kc - I2)] := by
              have hl := HMM.out.2
              rw [List.length_cons] at hl
              rw [hE]
              simp only [DT.val, DT.cells, s1, s2, s3, s4, s5, s6, List.length_cons, hl]
            have hei : E.In wE.heap.size wE := by
              rw [hE]
              exact ⟨a1, rowT_in hlt QT.cells (fun t => by obtain ⟨c1, c2, c3, c4⟩ := t; rfl) (by decide) ((⟨!ck, some ⟨tb, to_, none⟩, sc, .mk 1 sg uh ul xa xc xl sa2 sc2 sl2 :: tr⟩ : QT) :: qr) [] post 0 rfl RE hq2, a3⟩
            have hec : checkF E = 85 := by rw [hE]; exact flip_bad HFT.out.2.2 HYL.out rfl _ _
            have hek : E.bk ≤ 1100000 := by
              have h1 := HFT.out.1
              have h2 : Y.bk = 1 + GT.bkL Y.gl + QT.bkL Y.ql + KT.bkL Y.kl := rfl
              have h3 : E.bk = 1 + GT.bkL E.gl + QT.bkL E.ql + KT.bkL E.kl := rfl
              rw [HYL.out] at h2
              rw [hE] at h3
              have h4 : QT.bkL ((⟨!ck, some ⟨tb, to_, none⟩, sc, .mk 1 sg uh ul xa xc xl sa2 sc2 sl2 :: tr⟩ : QT) :: qr) = QT.bkL (⟨ck, some ⟨tb, to_, none⟩, sc, .mk 1 sg uh ul xa xc xl sa2 sc2 sl2 :: tr⟩ :: qr) := rfl
              rw [hE]
              simp only at h3 ⊢
              omega
            have hew : E.Wf := by
              have h1 := HFT.out.2.1
              rw [hE]
              have h2 : QT.WfL Y.ql := h1.2.1
              rw [HYL.out] at h2
              exact ⟨h1.1, h2, h1.2.2⟩
            have cK := Lib.hid (HCY.out E hek hew (by rw [hE]; exact s3) wE hsE hei)
            rw [hev, hec] at cK
            obtain ⟨z0, z1, z2⟩ := ope3 BZE
            have HSE := Lib.hid hsE
            clear hev hei hec hek hew hE s1 s2 s3 s4 s5 s6 a1 a2 a3 hall hlt hq2 RE BZE hsE HHD HRD HBZ HGW HMM g0 g1 f0 f1 q0 q1 y0 y1 y2 HCY HYI HYL HYC HYA HFT
            go_upto_region 14 with (fail)
            (try rw [hwE])
            clear hwE
            go_wp2_with fail
            refine cK.out.mono ?_
            clear cK z0 z1 z2
            rintro e wF ⟨rfl, hb⟩
            have HBF := Lib.hid (HSE.out.trans (hb.mono HSE.out.size))
            clear hb
            go_wp2
            go_ret
            exact ⟨rfl, HBF.out⟩
          · have e0 : (op != 1) = true := by rw [bne, beq_eq_false_iff_ne.2 hop]; rfl
            go_wp2
            go_ret
            exact ⟨rfl, HS8.out.1⟩
    · have e0 : (CF != 0) = true := by rw [bne, beq_eq_false_iff_ne.2 hq]; rfl
      go_wp2
      go_ret
      exact ⟨rfl, HS3.out.1⟩
end Go.Proofs.YtbcgeglkmpcnpaaDoor
