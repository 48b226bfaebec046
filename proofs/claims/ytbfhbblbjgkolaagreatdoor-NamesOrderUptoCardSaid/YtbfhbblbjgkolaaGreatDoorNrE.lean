/-
  names: Find, whatever is found: a copy that is the same tree.
-/
import Derived.Test.YtbfhbblbjgkolaaGreatDoorNaG
import Derived.Test.YtbfhbblbjgkolaaGreatDoorNrZ
namespace Go.Proofs.YtbfhbblbjgkolaaGreatDoor
open Go Go.RowKit
set_option linter.unusedVariables false
set_option linter.unusedSimpArgs false
open Go.Sort

/-- What a module's copy is. -/
def RVm (m : MT) (base : Nat) (V : World) (v : Value) : Prop := ∃ y : MT, v = y.val ∧ y.nrm = m.nrm ∧ y.In V.heap.size (frm V base)
theorem RVm.next (m : MT) (base base' : Nat) (V V' : World) (v : Value) (h : RVm m base V v) (hb : base' ≤ base) (hs : V.heap.size ≤ V'.heap.size) (hk : ∀ i, base ≤ i → i < V.heap.size → V'.heap[i]? = V.heap[i]?) : RVm m base' V' v := by
  obtain ⟨y, h1, h2, h3⟩ := h
  exact ⟨y, h1, h2, MT.In.less hs _ (MT.In.keep (frm_next hb hk) _ h3)⟩
theorem MT.nm_nrm {x y : MT} (h : y.nrm = x.nrm) : y.nm = x.nm := by
  obtain ⟨nm, pa, pc, pl, ta, tc, tl, ia, ic, il⟩ := x
  obtain ⟨nm2, pa2, pc2, pl2, ta2, tc2, tl2, ia2, ic2, il2⟩ := y
  simp only [MT.nrm, MT.mk.injEq] at h
  exact h.1
theorem instL_nrm : ∀ l : List IT, (∀ x ∈ l, instI x.nrm = instI x) → instL (l.map IT.nrm) = instL l
  | [], _ => rfl
  | x :: r, h => by rw [List.map_cons, instL, instL, h x (by simp), instL_nrm r (fun y hy => h y (by simp [hy]))]
theorem instI_nrm : ∀ x : IT, instI x.nrm = instI x := IT.ind fun op nm nf xa xc xl sa sc sl la lc ll ea ec el pa pc pl ba bc bl ih0 ih1 => by
  rw [IT.nrm, instI, instI, IT.nrmL_map, IT.nrmL_map, instL_nrm ll ih0, instL_nrm el ih1]
theorem usesM_nrm {x y : MT} (h : y.nrm = x.nrm) : usesM y = usesM x := by
  have k : ∀ z : MT, usesM z.nrm = usesM z := fun z => by
    obtain ⟨nm, pa, pc, pl, ta, tc, tl, ia, ic, il⟩ := z
    show addN [] (instL (il.map IT.nrm)) = addN [] (instL il)
    rw [instL_nrm il (fun x _ => instI_nrm x)]
  rw [← k y, h, k x]
theorem bkX_nrm : ∀ x : XT, x.nrm.bk = x.bk := XT.ind fun op nm n wd v a c l ih => by
  have k : ∀ l : List XT, (∀ x ∈ l, x.nrm.bk = x.bk) → XT.bkL (l.map XT.nrm) = XT.bkL l := by
    intro l
    induction l with
    | nil => intro _; rfl
    | cons x r ih2 => intro h; rw [List.map_cons, XT.bkL, XT.bkL, h x (by simp), ih2 (fun y hy => h y (by simp [hy]))]
  rw [XT.nrm, XT.bk, XT.bk, XT.nrmL_map, k l ih]
theorem bkXL_nrm : ∀ l : List XT, XT.bkL (l.map XT.nrm) = XT.bkL l
  | [] => rfl
  | x :: r => by rw [List.map_cons, XT.bkL, XT.bkL, bkX_nrm x, bkXL_nrm r]
theorem bkS_nrm : ∀ x : ST, x.nrm.bk = x.bk := ST.ind fun op nm xa xc xl sa sc sl ih => by
  have k : ∀ l : List ST, (∀ x ∈ l, x.nrm.bk = x.bk) → ST.bkL (l.map ST.nrm) = ST.bkL l := by
    intro l
    induction l with
    | nil => intro _; rfl
    | cons x r ih2 => intro h; rw [List.map_cons, ST.bkL, ST.bkL, h x (by simp), ih2 (fun y hy => h y (by simp [hy]))]
  rw [ST.nrm, ST.bk, ST.bk, ST.nrmL_map, k sl ih, bkXL_nrm]
theorem bkSL_nrm : ∀ l : List ST, ST.bkL (l.map ST.nrm) = ST.bkL l
  | [] => rfl
  | x :: r => by rw [List.map_cons, ST.bkL, ST.bkL, bkS_nrm x, bkSL_nrm r]
theorem bkBL_nrm : ∀ l : List BT, BT.bkL (l.map BT.nrm) = BT.bkL l
  | [] => rfl
  | x :: r => by rw [List.map_cons, BT.bkL, BT.bkL, bkBL_nrm r]; simp only [BT.bk, BT.nrm, bkX_nrm]
theorem bkPL_nrm : ∀ l : List PT, PT.bkL (l.map PT.nrm) = PT.bkL l
  | [] => rfl
  | x :: r => by rw [List.map_cons, PT.bkL, PT.bkL, bkPL_nrm r]; simp only [PT.bk, PT.nrm, bkX_nrm]
theorem bkI_nrm : ∀ x : IT, x.nrm.bk = x.bk := IT.ind fun op nm nf xa xc xl sa sc sl la lc ll ea ec el pa pc pl ba bc bl ih0 ih1 => by
  have k : ∀ l : List IT, (∀ x ∈ l, x.nrm.bk = x.bk) → IT.bkL (l.map IT.nrm) = IT.bkL l := by
    intro l
    induction l with
    | nil => intro _; rfl
    | cons x r ih2 => intro h; rw [List.map_cons, IT.bkL, IT.bkL, h x (by simp), ih2 (fun y hy => h y (by simp [hy]))]
  rw [IT.nrm, IT.bk, IT.bk, IT.nrmL_map, IT.nrmL_map, k ll ih0, k el ih1, bkXL_nrm, bkSL_nrm, bkBL_nrm, bkBL_nrm]
theorem bkIL_nrm : ∀ l : List IT, IT.bkL (l.map IT.nrm) = IT.bkL l
  | [] => rfl
  | x :: r => by rw [List.map_cons, IT.bkL, IT.bkL, bkI_nrm x, bkIL_nrm r]
theorem MT.bk_nrm {x y : MT} (h : y.nrm = x.nrm) : y.bk = x.bk := by
  have k : ∀ z : MT, z.nrm.bk = z.bk := fun z => by
    obtain ⟨nm, pa, pc, pl, ta, tc, tl, ia, ic, il⟩ := z
    simp only [MT.nrm, MT.bk]
    rw [bkBL_nrm, bkPL_nrm, bkIL_nrm]
  rw [← k y, h, k x]
/-- Find, of any file. -/
theorem namesFind_all (W : World) (n0 : Nat) (f : FT) (s : Bytes) (hs : s.length ≤ 4000000) (hn0 : n0 ≤ W.heap.size) (hin : f.In n0 W) (hbk : f.bk ≤ 1500000) :
    Calls Tryz.prog 18 #[f.val, .string (bs s)] W fun e W' => Below W.heap.size W W' ∧ ((f.ml.find? (fun m => m.nm == s) = none ∧ e = .returned (.tuple #[.agg #[.string ⟨#[]⟩, .slice none 0 0, .slice none 0 0, .slice none 0 0], .bool false])) ∨
      ∃ m y, f.ml.find? (fun m => m.nm == s) = some m ∧ e = .returned (.tuple #[MT.val y, .bool true]) ∧ y.nrm = m.nrm ∧ y.In W'.heap.size (frm W' W.heap.size)) := by
  have hbl : 1 + MT.bkL f.ml ≤ 1500000 := hbk
  have hll := MT.bkL_len f.ml
  refine (namesFind_any RVm RVm.next W n0 f s hs hn0 hin (by omega) (fun m hm _ V hV hi => (copiedM_any m (by have := MT.bkL_mem hm; omega) n0 V (by omega) hi).mono ?_)).mono ?_
  · rintro e V' ⟨y, rfl, h1, h2, h3⟩
    refine ⟨_, rfl, ?_, ⟨y, rfl, h1, h2⟩, h3⟩
    have h4 := MT.nm_nrm h1
    obtain ⟨nm, pa, pc, pl, ta, tc, tl, ia, ic, il⟩ := y
    exact ⟨pa, pl.length, pc, ta, tl.length, tc, ia, il.length, ic, by rw [← h4]; rfl⟩
  · rintro e W' ⟨h1, h2 | ⟨m, v, h2, h3, _, y, rfl, h5, h6⟩⟩
    · exact ⟨h1, .inl h2⟩
    · exact ⟨h1, .inr ⟨m, y, h2, h3, h5, MT.In.keep (frm_next (by omega) (fun _ _ _ => rfl)) _ h6⟩⟩
end Go.Proofs.YtbfhbblbjgkolaaGreatDoor
