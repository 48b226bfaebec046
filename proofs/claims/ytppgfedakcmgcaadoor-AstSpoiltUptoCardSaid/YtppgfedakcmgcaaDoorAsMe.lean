/-
  Trees that are the same: where they lie does not count. No program.
-/
import Derived.Test.YtppgfedakcmgcaaDoorAsLa
import Derived.Test.YtppgfedakcmgcaaDoorAsRf
namespace Go.Proofs.YtppgfedakcmgcaaDoor
open Go Go.RowKit
set_option linter.unusedVariables false
set_option linter.unusedSimpArgs false
theorem eqList_iff {α β : Type} (p : α → α → Bool) (g : α → β) : ∀ (l m : List α), (∀ x ∈ l, ∀ y ∈ m, (p x y = true ↔ g x = g y)) → (eqList p l m = true ↔ l.map g = m.map g)
  | [], [], _ => by simp [eqList]
  | [], y :: q, _ => by simp [eqList]
  | x :: r, [], _ => by simp [eqList]
  | x :: r, y :: q, h => by
    rw [eqList, Bool.and_eq_true, h x (by simp) y (by simp), eqList_iff p g r q (fun a ha b hb => h a (by simp [ha]) b (by simp [hb]))]
    simp
mutual
def XT.nrm : XT → XT | .mk op nm n wd v _ _ l => .mk op nm n wd v none 0 (XT.nrmL l)
def XT.nrmL : List XT → List XT | [] => [] | x :: r => XT.nrm x :: XT.nrmL r
end
theorem XT.nrmL_map : ∀ l, XT.nrmL l = l.map XT.nrm
  | [] => rfl
  | x :: r => by rw [XT.nrmL, XT.nrmL_map r]; rfl
mutual
def ST.nrm : ST → ST | .mk op nm _ _ xl _ _ sl => .mk op nm none 0 (xl.map XT.nrm) none 0 (ST.nrmL sl)
def ST.nrmL : List ST → List ST | [] => [] | x :: r => ST.nrm x :: ST.nrmL r
end
theorem ST.nrmL_map : ∀ l, ST.nrmL l = l.map ST.nrm
  | [] => rfl
  | x :: r => by rw [ST.nrmL, ST.nrmL_map r]; rfl
def BT.nrm (b : BT) : BT := ⟨b.nm, b.x.nrm⟩
def PT.nrm (b : PT) : PT := ⟨b.nm, b.out, b.x.nrm⟩
mutual
def IT.nrm : IT → IT | .mk op nm nf _ _ xl _ _ sl _ _ ll _ _ el _ _ pl _ _ bl => .mk op nm nf none 0 (xl.map XT.nrm) none 0 (sl.map ST.nrm) none 0 (IT.nrmL ll) none 0 (IT.nrmL el) none 0 (pl.map BT.nrm) none 0 (bl.map BT.nrm)
def IT.nrmL : List IT → List IT | [] => [] | x :: r => IT.nrm x :: IT.nrmL r
end
theorem IT.nrmL_map : ∀ l, IT.nrmL l = l.map IT.nrm
  | [] => rfl
  | x :: r => by rw [IT.nrmL, IT.nrmL_map r]; rfl
def MT.nrm : MT → MT | ⟨nm, _, _, pl, _, _, tl, _, _, il⟩ => ⟨nm, none, 0, pl.map BT.nrm, none, 0, tl.map PT.nrm, none, 0, il.map IT.nrm⟩
theorem sameX_iff : ∀ x y : XT, sameX x y = true ↔ x.nrm = y.nrm := XT.ind fun op nm n wd v a c l ih y => by
  obtain ⟨op2, nm2, n2, wd2, v2, a2, c2, l2⟩ := y
  rw [sameX, XT.nrm, XT.nrm, sameXL_eq, XT.nrmL_map, XT.nrmL_map]
  simp only [Bool.and_eq_true, beq_iff_eq, XT.mk.injEq, true_and]
  rw [eqList_iff sameX XT.nrm l l2 (fun x hx y _ => ih x hx y)]
  simp only [show ∀ a b : Nat, ((a : Int) = (b : Int)) = (a = b) from fun a b => propext ⟨fun h => by omega, fun h => by omega⟩]
theorem sameXs_iff (l m : List XT) : eqList sameX l m = true ↔ l.map XT.nrm = m.map XT.nrm := eqList_iff sameX XT.nrm l m (fun x _ y _ => sameX_iff x y)
theorem sameS_iff : ∀ x y : ST, sameS x y = true ↔ x.nrm = y.nrm := ST.ind fun op nm xa xc xl sa sc sl ih y => by
  obtain ⟨op2, nm2, xa2, xc2, xl2, sa2, sc2, sl2⟩ := y
  rw [sameS, ST.nrm, ST.nrm, sameSL_eq, ST.nrmL_map, ST.nrmL_map]
  simp only [Bool.and_eq_true, beq_iff_eq, ST.mk.injEq, true_and]
  rw [sameXs_iff, eqList_iff sameS ST.nrm sl sl2 (fun x hx y _ => ih x hx y)]
theorem sameSs_iff (l m : List ST) : eqList sameS l m = true ↔ l.map ST.nrm = m.map ST.nrm := eqList_iff sameS ST.nrm l m (fun x _ y _ => sameS_iff x y)
theorem sameB_iff (x y : BT) : sameB x y = true ↔ x.nrm = y.nrm := by
  obtain ⟨bn, x⟩ := x
  obtain ⟨bn2, x2⟩ := y
  simp only [sameB, BT.nrm, Bool.and_eq_true, beq_iff_eq, BT.mk.injEq, sameX_iff]
theorem sameBs_iff (l m : List BT) : eqList sameB l m = true ↔ l.map BT.nrm = m.map BT.nrm := eqList_iff sameB BT.nrm l m (fun x _ y _ => sameB_iff x y)
theorem sameP_iff (x y : PT) : sameP x y = true ↔ x.nrm = y.nrm := by
  obtain ⟨bn, po, x⟩ := x
  obtain ⟨bn2, po2, x2⟩ := y
  simp only [sameP, PT.nrm, Bool.and_eq_true, beq_iff_eq, PT.mk.injEq, sameX_iff]
theorem samePs_iff (l m : List PT) : eqList sameP l m = true ↔ l.map PT.nrm = m.map PT.nrm := eqList_iff sameP PT.nrm l m (fun x _ y _ => sameP_iff x y)
theorem sameI_iff : ∀ x y : IT, sameI x y = true ↔ x.nrm = y.nrm := IT.ind fun op nm nf xa xc xl sa sc sl la lc ll ea ec el pa pc pl ba bc bl ih0 ih1 y => by
  obtain ⟨op2, nm2, nf2, xa2, xc2, xl2, sa2, sc2, sl2, la2, lc2, ll2, ea2, ec2, el2, pa2, pc2, pl2, ba2, bc2, bl2⟩ := y
  rw [sameI, IT.nrm, IT.nrm, sameIL_eq, sameIL_eq, IT.nrmL_map, IT.nrmL_map, IT.nrmL_map, IT.nrmL_map]
  simp only [Bool.and_eq_true, beq_iff_eq, IT.mk.injEq, true_and]
  rw [sameXs_iff, sameSs_iff, sameBs_iff, sameBs_iff, eqList_iff sameI IT.nrm ll ll2 (fun x hx y _ => ih0 x hx y), eqList_iff sameI IT.nrm el el2 (fun x hx y _ => ih1 x hx y)]
theorem sameIs_iff (l m : List IT) : eqList sameI l m = true ↔ l.map IT.nrm = m.map IT.nrm := eqList_iff sameI IT.nrm l m (fun x _ y _ => sameI_iff x y)
theorem sameM_iff (x y : MT) : sameM x y = true ↔ x.nrm = y.nrm := by
  obtain ⟨nm, pa, pc, pl, ta, tc, tl, ia, ic, il⟩ := x
  obtain ⟨nm2, pa2, pc2, pl2, ta2, tc2, tl2, ia2, ic2, il2⟩ := y
  simp only [sameM, MT.nrm, Bool.and_eq_true, beq_iff_eq, MT.mk.injEq, true_and, sameBs_iff, samePs_iff, sameIs_iff]
theorem sameF_iff (x y : FT) : sameF x y = true ↔ x.ml.map MT.nrm = y.ml.map MT.nrm := eqList_iff sameM MT.nrm x.ml y.ml (fun x _ y _ => sameM_iff x y)
/-! ### What does not hang on where a tree lies -/
theorem all_nrm {α : Type} (p : α → Bool) (g : α → α) (l : List α) (h : ∀ x ∈ l, p (g x) = p x) : (l.map g).all p = l.all p := by
  induction l with
  | nil => rfl
  | cons x r ih => simp only [List.map_cons, List.all_cons]; rw [h x (by simp), ih (fun y hy => h y (by simp [hy]))]
theorem XT.op_nrm (x : XT) : x.nrm.op = x.op := by cases x; rw [XT.nrm]; rfl
theorem ST.op_nrm (x : ST) : x.nrm.op = x.op := by cases x; rw [ST.nrm]; rfl
theorem ST.xl_nrm (x : ST) : x.nrm.xl = x.xl.map XT.nrm := by cases x; rw [ST.nrm]; rfl
theorem XT.szL_nrm : ∀ (l : List XT), (∀ x ∈ l, x.nrm.sz = x.sz) → XT.szL (l.map XT.nrm) = XT.szL l
  | [], _ => rfl
  | x :: r, h => by rw [List.map_cons, XT.szL, XT.szL, h x (by simp), XT.szL_nrm r (fun y hy => h y (by simp [hy]))]
theorem ST.szL_nrm : ∀ (l : List ST), (∀ x ∈ l, x.nrm.sz = x.sz) → ST.szL (l.map ST.nrm) = ST.szL l
  | [], _ => rfl
  | x :: r, h => by rw [List.map_cons, ST.szL, ST.szL, h x (by simp), ST.szL_nrm r (fun y hy => h y (by simp [hy]))]
theorem BT.szL_nrm : ∀ (l : List BT), (∀ x ∈ l, x.nrm.sz = x.sz) → BT.szL (l.map BT.nrm) = BT.szL l
  | [], _ => rfl
  | x :: r, h => by rw [List.map_cons, BT.szL, BT.szL, h x (by simp), BT.szL_nrm r (fun y hy => h y (by simp [hy]))]
theorem PT.szL_nrm : ∀ (l : List PT), (∀ x ∈ l, x.nrm.sz = x.sz) → PT.szL (l.map PT.nrm) = PT.szL l
  | [], _ => rfl
  | x :: r, h => by rw [List.map_cons, PT.szL, PT.szL, h x (by simp), PT.szL_nrm r (fun y hy => h y (by simp [hy]))]
theorem IT.szL_nrm : ∀ (l : List IT), (∀ x ∈ l, x.nrm.sz = x.sz) → IT.szL (l.map IT.nrm) = IT.szL l
  | [], _ => rfl
  | x :: r, h => by rw [List.map_cons, IT.szL, IT.szL, h x (by simp), IT.szL_nrm r (fun y hy => h y (by simp [hy]))]
theorem MT.szL_nrm : ∀ (l : List MT), (∀ x ∈ l, x.nrm.sz = x.sz) → MT.szL (l.map MT.nrm) = MT.szL l
  | [], _ => rfl
  | x :: r, h => by rw [List.map_cons, MT.szL, MT.szL, h x (by simp), MT.szL_nrm r (fun y hy => h y (by simp [hy]))]
theorem XT.sz_nrm : ∀ x : XT, x.nrm.sz = x.sz := XT.ind fun op nm n wd v a c l ih => by
  rw [XT.nrm, XT.sz, XT.sz, XT.nrmL_map, XT.szL_nrm l ih]
theorem ST.sz_nrm : ∀ x : ST, x.nrm.sz = x.sz := ST.ind fun op nm xa xc xl sa sc sl ih => by
  rw [ST.nrm, ST.sz, ST.sz, ST.nrmL_map, ST.szL_nrm sl ih, XT.szL_nrm xl (fun x _ => x.sz_nrm)]
theorem BT.sz_nrm (x : BT) : x.nrm.sz = x.sz := by simp only [BT.sz, BT.nrm, XT.sz_nrm]
theorem PT.sz_nrm (x : PT) : x.nrm.sz = x.sz := by simp only [PT.sz, PT.nrm, XT.sz_nrm]
theorem IT.sz_nrm : ∀ x : IT, x.nrm.sz = x.sz := IT.ind fun op nm nf xa xc xl sa sc sl la lc ll ea ec el pa pc pl ba bc bl ih0 ih1 => by
  rw [IT.nrm, IT.sz, IT.sz, IT.nrmL_map, IT.nrmL_map, IT.szL_nrm ll ih0, IT.szL_nrm el ih1, XT.szL_nrm xl (fun x _ => x.sz_nrm), ST.szL_nrm sl (fun x _ => x.sz_nrm), BT.szL_nrm pl (fun x _ => x.sz_nrm), BT.szL_nrm bl (fun x _ => x.sz_nrm)]
theorem MT.sz_nrm (x : MT) : x.nrm.sz = x.sz := by
  obtain ⟨nm, pa, pc, pl, ta, tc, tl, ia, ic, il⟩ := x
  simp only [MT.nrm, MT.sz]
  rw [BT.szL_nrm pl (fun x _ => x.sz_nrm), PT.szL_nrm tl (fun x _ => x.sz_nrm), IT.szL_nrm il (fun x _ => x.sz_nrm)]
theorem XT.dpL_nrm : ∀ (l : List XT), (∀ x ∈ l, x.nrm.dp = x.dp) → XT.dpL (l.map XT.nrm) = XT.dpL l
  | [], _ => rfl
  | x :: r, h => by rw [List.map_cons, XT.dpL, XT.dpL, h x (by simp), XT.dpL_nrm r (fun y hy => h y (by simp [hy]))]
theorem ST.dpL_nrm : ∀ (l : List ST), (∀ x ∈ l, x.nrm.dp = x.dp) → ST.dpL (l.map ST.nrm) = ST.dpL l
  | [], _ => rfl
  | x :: r, h => by rw [List.map_cons, ST.dpL, ST.dpL, h x (by simp), ST.dpL_nrm r (fun y hy => h y (by simp [hy]))]
theorem BT.dpL_nrm : ∀ (l : List BT), (∀ x ∈ l, x.nrm.dp = x.dp) → BT.dpL (l.map BT.nrm) = BT.dpL l
  | [], _ => rfl
  | x :: r, h => by rw [List.map_cons, BT.dpL, BT.dpL, h x (by simp), BT.dpL_nrm r (fun y hy => h y (by simp [hy]))]
theorem PT.dpL_nrm : ∀ (l : List PT), (∀ x ∈ l, x.nrm.dp = x.dp) → PT.dpL (l.map PT.nrm) = PT.dpL l
  | [], _ => rfl
  | x :: r, h => by rw [List.map_cons, PT.dpL, PT.dpL, h x (by simp), PT.dpL_nrm r (fun y hy => h y (by simp [hy]))]
theorem IT.dpL_nrm : ∀ (l : List IT), (∀ x ∈ l, x.nrm.dp = x.dp) → IT.dpL (l.map IT.nrm) = IT.dpL l
  | [], _ => rfl
  | x :: r, h => by rw [List.map_cons, IT.dpL, IT.dpL, h x (by simp), IT.dpL_nrm r (fun y hy => h y (by simp [hy]))]
theorem MT.dpL_nrm : ∀ (l : List MT), (∀ x ∈ l, x.nrm.dp = x.dp) → MT.dpL (l.map MT.nrm) = MT.dpL l
  | [], _ => rfl
  | x :: r, h => by rw [List.map_cons, MT.dpL, MT.dpL, h x (by simp), MT.dpL_nrm r (fun y hy => h y (by simp [hy]))]
theorem XT.dp_nrm : ∀ x : XT, x.nrm.dp = x.dp := XT.ind fun op nm n wd v a c l ih => by
  rw [XT.nrm, XT.dp, XT.dp, XT.nrmL_map, XT.dpL_nrm l ih]
theorem ST.dp_nrm : ∀ x : ST, x.nrm.dp = x.dp := ST.ind fun op nm xa xc xl sa sc sl ih => by
  rw [ST.nrm, ST.dp, ST.dp, ST.nrmL_map, ST.dpL_nrm sl ih, XT.dpL_nrm xl (fun x _ => x.dp_nrm)]
theorem BT.dp_nrm (x : BT) : x.nrm.dp = x.dp := by simp only [BT.dp, BT.nrm, XT.dp_nrm]
theorem PT.dp_nrm (x : PT) : x.nrm.dp = x.dp := by simp only [PT.dp, PT.nrm, XT.dp_nrm]
theorem IT.dp_nrm : ∀ x : IT, x.nrm.dp = x.dp := IT.ind fun op nm nf xa xc xl sa sc sl la lc ll ea ec el pa pc pl ba bc bl ih0 ih1 => by
  rw [IT.nrm, IT.dp, IT.dp, IT.nrmL_map, IT.nrmL_map, IT.dpL_nrm ll ih0, IT.dpL_nrm el ih1, XT.dpL_nrm xl (fun x _ => x.dp_nrm), ST.dpL_nrm sl (fun x _ => x.dp_nrm), BT.dpL_nrm pl (fun x _ => x.dp_nrm), BT.dpL_nrm bl (fun x _ => x.dp_nrm)]
theorem MT.dp_nrm (x : MT) : x.nrm.dp = x.dp := by
  obtain ⟨nm, pa, pc, pl, ta, tc, tl, ia, ic, il⟩ := x
  simp only [MT.nrm, MT.dp]
  rw [BT.dpL_nrm pl (fun x _ => x.dp_nrm), PT.dpL_nrm tl (fun x _ => x.dp_nrm), IT.dpL_nrm il (fun x _ => x.dp_nrm)]
theorem mayX_nrm : ∀ x : XT, mayX x.nrm = mayX x := XT.ind fun op nm n wd v a c l ih => by
  rw [XT.nrm, mayX, mayX, XT.nrmL_map, mayXL_all, mayXL_all, all_nrm mayX XT.nrm l ih, List.length_map]
theorem mayXs_nrm (l : List XT) : (l.map XT.nrm).all mayX = l.all mayX := all_nrm mayX XT.nrm l (fun x _ => mayX_nrm x)
theorem headB_nrm (t : Bool) (l : List XT) : headB t (l.map XT.nrm) = headB t l := by
  cases l with
  | nil => rfl
  | cons x r => simp only [headB, List.map_cons, XT.op_nrm]
theorem kindsK_nrm (o : Nat) : ∀ (f : Nat) (l : List ST), kindsK o f (l.map ST.nrm) = kindsK o f l
  | _, [] => rfl
  | f, x :: r => by rw [List.map_cons, kindsK, kindsK, ST.op_nrm, kindsK_nrm o o r]
theorem labelsK_nrm : ∀ l : List ST, labelsK (l.map ST.nrm) = labelsK l
  | [] => rfl
  | x :: r => by rw [List.map_cons, labelsK, labelsK, labelsK_nrm r, ST.xl_nrm]; cases r <;> cases x.xl <;> rfl
theorem mayS_nrm : ∀ x : ST, mayS x.nrm = mayS x := ST.ind fun op nm xa xc xl sa sc sl ih => by
  rw [ST.nrm, mayS, mayS, ST.nrmL_map, maySL_all, maySL_all, all_nrm mayS ST.nrm sl ih, mayXs_nrm, headB_nrm, kindsK_nrm, labelsK_nrm, List.length_map, List.length_map]
theorem standS_nrm (x : ST) : standS x.nrm = standS x := by unfold standS; rw [ST.op_nrm, mayS_nrm]
theorem mayB_nrm (x : BT) : mayB' x.nrm = mayB' x := by unfold mayB'; simp only [BT.nrm, mayX_nrm]
theorem mayP_nrm (x : PT) : mayP x.nrm = mayP x := by unfold mayP; simp only [PT.nrm, mayX_nrm]
theorem mayI_nrm : ∀ x : IT, mayI x.nrm = mayI x := IT.ind fun op nm nf xa xc xl sa sc sl la lc ll ea ec el pa pc pl ba bc bl ih0 ih1 => by
  rw [IT.nrm, mayI, mayI, IT.nrmL_map, IT.nrmL_map, mayIL_all, mayIL_all, mayIL_all, mayIL_all, all_nrm mayI IT.nrm ll ih0, all_nrm mayI IT.nrm el ih1, mayXs_nrm, headB_nrm, all_nrm standS ST.nrm sl (fun x _ => standS_nrm x), all_nrm mayB' BT.nrm pl (fun x _ => mayB_nrm x), all_nrm mayB' BT.nrm bl (fun x _ => mayB_nrm x), List.length_map, List.length_map, List.length_map, List.length_map, List.length_map, List.length_map]
theorem mayM_nrm (x : MT) : mayM x.nrm = mayM x := by
  obtain ⟨nm, pa, pc, pl, ta, tc, tl, ia, ic, il⟩ := x
  simp only [MT.nrm, mayM]
  rw [all_nrm mayB' BT.nrm pl (fun x _ => mayB_nrm x), all_nrm mayP PT.nrm tl (fun x _ => mayP_nrm x), all_nrm mayI IT.nrm il (fun x _ => mayI_nrm x)]
theorem same_facts (f g : FT) (h : sameF f g = true) : checkF f = checkF g ∧ f.sz = g.sz ∧ f.dp = g.dp := by
  rw [sameF_iff] at h
  have h1 : f.sz = g.sz := by
    show MT.szL f.ml = MT.szL g.ml
    rw [← MT.szL_nrm f.ml (fun x _ => x.sz_nrm), ← MT.szL_nrm g.ml (fun x _ => x.sz_nrm), h]
  have h2 : f.dp = g.dp := by
    show MT.dpL f.ml = MT.dpL g.ml
    rw [← MT.dpL_nrm f.ml (fun x _ => x.dp_nrm), ← MT.dpL_nrm g.ml (fun x _ => x.dp_nrm), h]
  have h3 : f.ml.all mayM = g.ml.all mayM := by rw [← all_nrm mayM MT.nrm f.ml (fun x _ => mayM_nrm x), ← all_nrm mayM MT.nrm g.ml (fun x _ => mayM_nrm x), h]
  have h4 : f.ml.length = g.ml.length := by rw [← List.length_map (f := MT.nrm), h, List.length_map]
  exact ⟨by unfold checkF; rw [h1, h2, h3, h4], h1, h2⟩
theorem sameF_refl (f : FT) : sameF f f = true := (sameF_iff f f).2 rfl
theorem sameF_symm (f g : FT) : sameF g f = sameF f g := by rw [Bool.eq_iff_iff, sameF_iff, sameF_iff]; exact eq_comm
theorem sameF_trans (f g h : FT) (e : sameF f g = true) : sameF g h = sameF f h := by rw [Bool.eq_iff_iff, sameF_iff, sameF_iff, (sameF_iff f g).1 e]
end Go.Proofs.YtppgfedakcmgcaaDoor
