/-
  NlM, NfA, in one text.
-/
import Derived.Test.YtbfhbblbjgkolaaGreatDoorNaG
import Derived.Test.YtbfhbblbjgkolaaGreatDoorNrZ
import Derived.Deep.RegionLaw
import Derived.RegionTactic
import Derived.BigRegion
import Derived.BigQuiet
import Derived.Deep.QuietTactic
import Derived.Deep.DeepCutAuto
import Derived.Test.YtbfhbblbjgkolaaGreatDoorNtM
import Derived.Test.YtbfhbblbjgkolaaGreatDoorRsY
import Derived.Test.YtbfhbblbjgkolaaGreatDoorAsOp
namespace Go.Proofs.YtbfhbblbjgkolaaGreatDoor
open Go Go.RowKit
set_option linter.unusedVariables false
set_option linter.unusedSimpArgs false
open Go.Sort

/-- What a module's copy is. -/
def RVm (m : MT) (base : Nat) (V : World) (v : Value) : Prop := ∃ y : MT, v = y.val ∧ y.nrm = m.nrm ∧ y.In V.heap.size (frm V base)
theorem RVm.next (m : MT) (base base' : Nat) (V V' : World) (v : Value) (h : RVm m base V v) (hb : base' ≤ base) (hs : V.heap.size ≤ V'.heap.size) (hk : ∀ i, base ≤ i → i < V.heap.size → V'.heap[i]? = V.heap[i]?) : RVm m base' V' v := by
  obtain ⟨y, h1, h2, h3⟩ := h
  exact ⟨y, h1, h2, MT.In.less hs _ (MT.In.keep (frm_next hb hk) _ h3)⟩
theorem MT.nm_nrm {x y : MT} (h : y.nrm = x.nrm) : y.nm = x.nm := by
  obtain ⟨nm, pa, pc, pl, ta, tc, tl, ia, ic, il⟩ := x
  obtain ⟨nm2, pa2, pc2, pl2, ta2, tc2, tl2, ia2, ic2, il2⟩ := y
  simp only [MT.nrm, MT.mk.injEq] at h
  exact h.1
theorem instL_nrm : ∀ l : List IT, (∀ x ∈ l, instI x.nrm = instI x) → instL (l.map IT.nrm) = instL l
  | [], _ => rfl
  | x :: r, h => by rw [List.map_cons, instL, instL, h x (by simp), instL_nrm r (fun y hy => h y (by simp [hy]))]
theorem instI_nrm : ∀ x : IT, instI x.nrm = instI x := IT.ind fun op nm nf xa xc xl sa sc sl la lc ll ea ec el pa pc pl ba bc bl ih0 ih1 => by
  rw [IT.nrm, instI, instI, IT.nrmL_map, IT.nrmL_map, instL_nrm ll ih0, instL_nrm el ih1]
theorem usesM_nrm {x y : MT} (h : y.nrm = x.nrm) : usesM y = usesM x := by
  have k : ∀ z : MT, usesM z.nrm = usesM z := fun z => by
    obtain ⟨nm, pa, pc, pl, ta, tc, tl, ia, ic, il⟩ := z
    show addN [] (instL (il.map IT.nrm)) = addN [] (instL il)
    rw [instL_nrm il (fun x _ => instI_nrm x)]
  rw [← k y, h, k x]
theorem bkX_nrm : ∀ x : XT, x.nrm.bk = x.bk := XT.ind fun op nm n wd v a c l ih => by
  have k : ∀ l : List XT, (∀ x ∈ l, x.nrm.bk = x.bk) → XT.bkL (l.map XT.nrm) = XT.bkL l := by
    intro l
    induction l with
    | nil => intro _; rfl
    | cons x r ih2 => intro h; rw [List.map_cons, XT.bkL, XT.bkL, h x (by simp), ih2 (fun y hy => h y (by simp [hy]))]
  rw [XT.nrm, XT.bk, XT.bk, XT.nrmL_map, k l ih]
theorem bkXL_nrm : ∀ l : List XT, XT.bkL (l.map XT.nrm) = XT.bkL l
  | [] => rfl
  | x :: r => by rw [List.map_cons, XT.bkL, XT.bkL, bkX_nrm x, bkXL_nrm r]
theorem bkS_nrm : ∀ x : ST, x.nrm.bk = x.bk := ST.ind fun op nm xa xc xl sa sc sl ih => by
  have k : ∀ l : List ST, (∀ x ∈ l, x.nrm.bk = x.bk) → ST.bkL (l.map ST.nrm) = ST.bkL l := by
    intro l
    induction l with
    | nil => intro _; rfl
    | cons x r ih2 => intro h; rw [List.map_cons, ST.bkL, ST.bkL, h x (by simp), ih2 (fun y hy => h y (by simp [hy]))]
  rw [ST.nrm, ST.bk, ST.bk, ST.nrmL_map, k sl ih, bkXL_nrm]
theorem bkSL_nrm : ∀ l : List ST, ST.bkL (l.map ST.nrm) = ST.bkL l
  | [] => rfl
  | x :: r => by rw [List.map_cons, ST.bkL, ST.bkL, bkS_nrm x, bkSL_nrm r]
theorem bkBL_nrm : ∀ l : List BT, BT.bkL (l.map BT.nrm) = BT.bkL l
  | [] => rfl
  | x :: r => by rw [List.map_cons, BT.bkL, BT.bkL, bkBL_nrm r]; simp only [BT.bk, BT.nrm, bkX_nrm]
theorem bkPL_nrm : ∀ l : List PT, PT.bkL (l.map PT.nrm) = PT.bkL l
  | [] => rfl
  | x :: r => by rw [List.map_cons, PT.bkL, PT.bkL, bkPL_nrm r]; simp only [PT.bk, PT.nrm, bkX_nrm]
theorem bkI_nrm : ∀ x : IT, x.nrm.bk = x.bk := IT.ind fun op nm nf xa xc xl sa sc sl la lc ll ea ec el pa pc pl ba bc bl ih0 ih1 => by
  have k : ∀ l : List IT, (∀ x ∈ l, x.nrm.bk = x.bk) → IT.bkL (l.map IT.nrm) = IT.bkL l := by
    intro l
    induction l with
    | nil => intro _; rfl
    | cons x r ih2 => intro h; rw [List.map_cons, IT.bkL, IT.bkL, h x (by simp), ih2 (fun y hy => h y (by simp [hy]))]
  rw [IT.nrm, IT.bk, IT.bk, IT.nrmL_map, IT.nrmL_map, k ll ih0, k el ih1, bkXL_nrm, bkSL_nrm, bkBL_nrm, bkBL_nrm]
theorem bkIL_nrm : ∀ l : List IT, IT.bkL (l.map IT.nrm) = IT.bkL l
  | [] => rfl
  | x :: r => by rw [List.map_cons, IT.bkL, IT.bkL, bkI_nrm x, bkIL_nrm r]
theorem MT.bk_nrm {x y : MT} (h : y.nrm = x.nrm) : y.bk = x.bk := by
  have k : ∀ z : MT, z.nrm.bk = z.bk := fun z => by
    obtain ⟨nm, pa, pc, pl, ta, tc, tl, ia, ic, il⟩ := z
    simp only [MT.nrm, MT.bk]
    rw [bkBL_nrm, bkPL_nrm, bkIL_nrm]
  rw [← k y, h, k x]
/-- Find, of any file. -/
theorem namesFind_all (W : World) (n0 : Nat) (f : FT) (s : Bytes) (hs : s.length ≤ 4000000) (hn0 : n0 ≤ W.heap.size) (hin : f.In n0 W) (hbk : f.bk ≤ 1500000) :
    Calls Tryz.prog 18 #[f.val, .string (bs s)] W fun e W' => Below W.heap.size W W' ∧ ((f.ml.find? (fun m => m.nm == s) = none ∧ e = .returned (.tuple #[.agg #[.string ⟨#[]⟩, .slice none 0 0, .slice none 0 0, .slice none 0 0], .bool false])) ∨
      ∃ m y, f.ml.find? (fun m => m.nm == s) = some m ∧ e = .returned (.tuple #[MT.val y, .bool true]) ∧ y.nrm = m.nrm ∧ y.In W'.heap.size (frm W' W.heap.size)) := by
  have hbl : 1 + MT.bkL f.ml ≤ 1500000 := hbk
  have hll := MT.bkL_len f.ml
  refine (namesFind_any RVm RVm.next W n0 f s hs hn0 hin (by omega) (fun m hm _ V hV hi => (copiedM_any m (by have := MT.bkL_mem hm; omega) n0 V (by omega) hi).mono ?_)).mono ?_
  · rintro e V' ⟨y, rfl, h1, h2, h3⟩
    refine ⟨_, rfl, ?_, ⟨y, rfl, h1, h2⟩, h3⟩
    have h4 := MT.nm_nrm h1
    obtain ⟨nm, pa, pc, pl, ta, tc, tl, ia, ic, il⟩ := y
    exact ⟨pa, pl.length, pc, ta, tl.length, tc, ia, il.length, ic, by rw [← h4]; rfl⟩
  · rintro e W' ⟨h1, h2 | ⟨m, v, h2, h3, _, y, rfl, h5, h6⟩⟩
    · exact ⟨h1, .inl h2⟩
    · exact ⟨h1, .inr ⟨m, y, h2, h3, h5, MT.In.keep (frm_next (by omega) (fun _ _ _ => rfl)) _ h6⟩⟩
end Go.Proofs.YtbfhbblbjgkolaaGreatDoor
namespace Go.Proofs.YtbfhbblbjgkolaaGreatDoor
open Go Go.RowKit
set_option linter.unusedVariables false
set_option linter.unusedSimpArgs false
open Go.Sort

/-- What is kept of the file while a law runs. -/
structure Wo2 (W V : World) (n0 g : Nat) (f : FT) : Prop where
  env : EnvA V
  low : Below W.heap.size W V
  hn : n0 ≤ V.heap.size
  fin : FT.In n0 V f
  box : V.heap[g]? = some (.cells #[.slice f.ma f.ml.length f.mc] 24 (0, 0))
theorem Wo2.keep {W V V' : World} {n0 g : Nat} {f : FT} (h : Wo2 W V n0 g f) (hb : Below V.heap.size V V') : Wo2 W V' n0 g f :=
  ⟨h.env.keep hb, h.low.trans (hb.mono h.low.size), Nat.le_trans h.hn hb.size, FT.In.keep (Below.keptTo hb h.hn) _ h.fin, block_kept h.box hb⟩
theorem lies_keep8 {n0 : Nat} {W W' : World} {a : Option Addr} {l : List Bytes} (h : LiesS W a l) (hb : Below n0 W W') (hn : n0 = W.heap.size := by rfl) : LiesS W' a l := by
  subst hn
  rcases h with h | ⟨b, o, h1, h2⟩
  · exact .inl h
  · refine .inr ⟨b, o, h1, fun i hi => ?_⟩
    have h3 := h2 i hi
    have hlt := cell_lt h3
    simp only [World.cell?] at h3 ⊢
    rw [hb.block b hlt]
    exact h3
theorem lies_srow7 {lo : Nat} {W : World} {a : Option Addr} {c n : Nat} {l : List Bytes} (h : SRow lo W (.slice a n c) l) : n = l.length ∧ LiesS W a l := by
  obtain ⟨a', c', e1, e2⟩ := h
  injection e1 with e1 e3 e4
  subst e1
  exact ⟨e3, e2.imp id (fun ⟨b, o, x1, x2, x3, x4⟩ => ⟨b, o, x1, x4⟩)⟩
theorem box4 {w : World} {g : Nat} {v0 v1 v2 v3 : Value} {t : TypeId} (h : w.heap[g]? = some (.cells #[v0, v1, v2, v3] t (0, 0))) : (w.cell? ⟨g, 0, none⟩ = some v0 ∧ w.cell? ⟨g, 1, none⟩ = some v1 ∧ w.cell? ⟨g, 2, none⟩ = some v2 ∧ w.cell? ⟨g, 3, none⟩ = some v3) ∧ w.frozen? ⟨g, 0, none⟩ = false ∧ w.frozen? ⟨g, 1, none⟩ = false ∧ w.frozen? ⟨g, 2, none⟩ = false ∧ w.frozen? ⟨g, 3, none⟩ = false := by
  simp [World.cell?, World.frozen?, h]
end Go.Proofs.YtbfhbblbjgkolaaGreatDoor
namespace Go.Proofs.YtbfhbblbjgkolaaGreatDoor
open Go Go.RowKit
set_option linter.unusedVariables false
set_option linter.unusedSimpArgs false
open Go.Sort

end Go.Proofs.YtbfhbblbjgkolaaGreatDoor
namespace Go.Proofs.YtbfhbblbjgkolaaGreatDoor
open Go Go.RowKit
set_option linter.unusedVariables false
set_option linter.unusedSimpArgs false
open Go.Sort

end Go.Proofs.YtbfhbblbjgkolaaGreatDoor
namespace Go.Proofs.YtbfhbblbjgkolaaGreatDoor
open Go Go.RowKit
set_option linter.unusedVariables false
set_option linter.unusedSimpArgs false
open Go.Sort

theorem eqList_iff {α β : Type} (p : α → α → Bool) (g : α → β) : ∀ (l m : List α), (∀ x ∈ l, ∀ y ∈ m, (p x y = true ↔ g x = g y)) → (eqList p l m = true ↔ l.map g = m.map g)
  | [], [], _ => by simp [eqList]
  | [], y :: q, _ => by simp [eqList]
  | x :: r, [], _ => by simp [eqList]
  | x :: r, y :: q, h => by
    rw [eqList, Bool.and_eq_true, h x (by simp) y (by simp), eqList_iff p g r q (fun a ha b hb => h a (by simp [ha]) b (by simp [hb]))]
    simp
theorem sameX_iff : ∀ x y : XT, sameX x y = true ↔ x.nrm = y.nrm := XT.ind fun op nm n wd v a c l ih y => by
  obtain ⟨op2, nm2, n2, wd2, v2, a2, c2, l2⟩ := y
  rw [sameX, XT.nrm, XT.nrm, sameXL_eq, XT.nrmL_map, XT.nrmL_map]
  simp only [Bool.and_eq_true, beq_iff_eq, XT.mk.injEq, true_and]
  rw [eqList_iff sameX XT.nrm l l2 (fun x hx y _ => ih x hx y)]
  simp only [show ∀ a b : Nat, ((a : Int) = (b : Int)) = (a = b) from fun a b => propext ⟨fun h => by omega, fun h => by omega⟩]
theorem sameXs_iff (l m : List XT) : eqList sameX l m = true ↔ l.map XT.nrm = m.map XT.nrm := eqList_iff sameX XT.nrm l m (fun x _ y _ => sameX_iff x y)
theorem sameS_iff : ∀ x y : ST, sameS x y = true ↔ x.nrm = y.nrm := ST.ind fun op nm xa xc xl sa sc sl ih y => by
  obtain ⟨op2, nm2, xa2, xc2, xl2, sa2, sc2, sl2⟩ := y
  rw [sameS, ST.nrm, ST.nrm, sameSL_eq, ST.nrmL_map, ST.nrmL_map]
  simp only [Bool.and_eq_true, beq_iff_eq, ST.mk.injEq, true_and]
  rw [sameXs_iff, eqList_iff sameS ST.nrm sl sl2 (fun x hx y _ => ih x hx y)]
theorem sameSs_iff (l m : List ST) : eqList sameS l m = true ↔ l.map ST.nrm = m.map ST.nrm := eqList_iff sameS ST.nrm l m (fun x _ y _ => sameS_iff x y)
theorem sameB_iff (x y : BT) : sameB x y = true ↔ x.nrm = y.nrm := by
  obtain ⟨bn, x⟩ := x
  obtain ⟨bn2, x2⟩ := y
  simp only [sameB, BT.nrm, Bool.and_eq_true, beq_iff_eq, BT.mk.injEq, sameX_iff]
theorem sameBs_iff (l m : List BT) : eqList sameB l m = true ↔ l.map BT.nrm = m.map BT.nrm := eqList_iff sameB BT.nrm l m (fun x _ y _ => sameB_iff x y)
theorem sameP_iff (x y : PT) : sameP x y = true ↔ x.nrm = y.nrm := by
  obtain ⟨bn, po, x⟩ := x
  obtain ⟨bn2, po2, x2⟩ := y
  simp only [sameP, PT.nrm, Bool.and_eq_true, beq_iff_eq, PT.mk.injEq, sameX_iff]
theorem samePs_iff (l m : List PT) : eqList sameP l m = true ↔ l.map PT.nrm = m.map PT.nrm := eqList_iff sameP PT.nrm l m (fun x _ y _ => sameP_iff x y)
theorem sameI_iff : ∀ x y : IT, sameI x y = true ↔ x.nrm = y.nrm := IT.ind fun op nm nf xa xc xl sa sc sl la lc ll ea ec el pa pc pl ba bc bl ih0 ih1 y => by
  obtain ⟨op2, nm2, nf2, xa2, xc2, xl2, sa2, sc2, sl2, la2, lc2, ll2, ea2, ec2, el2, pa2, pc2, pl2, ba2, bc2, bl2⟩ := y
  rw [sameI, IT.nrm, IT.nrm, sameIL_eq, sameIL_eq, IT.nrmL_map, IT.nrmL_map, IT.nrmL_map, IT.nrmL_map]
  simp only [Bool.and_eq_true, beq_iff_eq, IT.mk.injEq, true_and]
  rw [sameXs_iff, sameSs_iff, sameBs_iff, sameBs_iff, eqList_iff sameI IT.nrm ll ll2 (fun x hx y _ => ih0 x hx y), eqList_iff sameI IT.nrm el el2 (fun x hx y _ => ih1 x hx y)]
theorem sameIs_iff (l m : List IT) : eqList sameI l m = true ↔ l.map IT.nrm = m.map IT.nrm := eqList_iff sameI IT.nrm l m (fun x _ y _ => sameI_iff x y)
theorem sameM_iff (x y : MT) : sameM x y = true ↔ x.nrm = y.nrm := by
  obtain ⟨nm, pa, pc, pl, ta, tc, tl, ia, ic, il⟩ := x
  obtain ⟨nm2, pa2, pc2, pl2, ta2, tc2, tl2, ia2, ic2, il2⟩ := y
  simp only [sameM, MT.nrm, Bool.and_eq_true, beq_iff_eq, MT.mk.injEq, true_and, sameBs_iff, samePs_iff, sameIs_iff]
theorem sameF_iff (x y : FT) : sameF x y = true ↔ x.ml.map MT.nrm = y.ml.map MT.nrm := eqList_iff sameM MT.nrm x.ml y.ml (fun x _ y _ => sameM_iff x y)
section
open Go.ChangeShapes Go.WideShapes Go.ChangeAt Go.Joins Go.Deep
variable {H : Type} {enc : TypeId × Value → H}
set_option maxRecDepth 3000000 in
theorem mt_of {W : World} {base : Nat} {v : Value} {d : DataW H} {p : List MemPlace} (hv : Value.okWide Tryz.prog W .any base 33 v) (h : DataW.Trod enc Tryz.prog W 0 (fun _ => true) true 33 v d p) : ∃ t : MT, v = t.val ∧ t.In W.heap.size W ∧ t.Wf ∧ t.bk ≤ Rows.uptoBulk d := by
  obtain ⟨cs, rfl, hsz⟩ := okWide_struct Tryz.underlying33 hv
  obtain ⟨fuel, hf⟩ := h
  obtain ⟨t, h1, h2, h3, h4⟩ := mt_data fuel _ _ hf
  refine ⟨t, ?_, h2, h3, h4⟩
  simp only [Value.cells] at h1
  rw [MT.val, ← h1]
end
/-- What is kept while the law runs. -/
structure Wo9 (W V : World) (n0 g : Nat) (f : FT) (m : MT) : Prop where
  o : Wo2 W V n0 g f
  mi : m.In n0 V
  mb : V.heap[g + 1]? = some (.cells m.cells.toArray 33 (0, 0))
theorem Wo9.keep {W V V' : World} {n0 g : Nat} {f : FT} {m : MT} (h : Wo9 W V n0 g f m) (hb : Below V.heap.size V V') : Wo9 W V' n0 g f m :=
  ⟨h.o.keep hb, MT.In.keep (Below.keptTo hb h.o.hn) _ h.mi, (hb.block (g + 1) (Array.getElem?_eq_some_iff.1 h.mb).1).trans h.mb⟩
theorem one_row7 {V V' : World} {x : MT} {n b : Nat} (hx : x.In n V') (hb : b < n) (hm : V'.heap[b]? = some (.cells x.cells.toArray 33 (0, 0))) (c : Nat) : FT.In n V' ⟨some ⟨b, 0, none⟩, c, [x]⟩ := by
  refine ⟨⟨b, 0, rfl, hb, fun j v hv => ?_⟩, hx, trivial⟩
  simp only [World.cell?, hm]
  simpa using hv
theorem one_bk7 (a : Option Addr) (c : Nat) (x : MT) (h : x.bk ≤ 1400000) : FT.bk ⟨a, c, [x]⟩ ≤ 1500000 := by
  show 1 + MT.bkL [x] ≤ _
  simp only [MT.bkL]; omega
set_option maxHeartbeats 16000000 in
set_option maxRecDepth 100000 in
theorem finds_any (W : World) (n0 : Nat) (f : FT) (s : Bytes) (m : MT) (hs : s.length ≤ 4000000) (hn0 : n0 ≤ W.heap.size) (he : EnvA W) (hin : f.In n0 W) (hbk : f.bk ≤ 1400000) (hmi : m.In n0 W) (hmb : m.bk ≤ 1400000) :
    Calls Tryz.prog 4 #[f.val, .string (bs s), m.val] W fun e W' => e = .returned (.bool true) ∧ Below W.heap.size W W' := by
  obtain ⟨ma, mc, ml⟩ := f
  have hbl : MT.bkL ml ≤ 1400000 := by have : 1 + MT.bkL ml ≤ 1400000 := hbk; omega
  have hll := MT.bkL_len ml
  have hsz : FT.sz ⟨ma, mc, ml⟩ ≤ 1500000 := by have := MT.szL_bk ml; show MT.szL ml ≤ _; omega
  have hmz : m.sz ≤ 1500000 := by have := MT.szL_bk [m]; simp only [MT.szL, MT.bkL] at this; omega
  obtain ⟨g, hg⟩ : ∃ g, W.heap.size = g := ⟨_, rfl⟩
  obtain ⟨W1, hW1⟩ : ∃ W1, (W.alloc (.cells #[.slice ma ml.length mc] 24)).alloc (.cells m.cells.toArray 33) = W1 := ⟨_, rfl⟩
  have hB1 : Below W.heap.size W W1 := by rw [← hW1]; exact ((Below.refl _ _).alloc (Nat.le_refl _) _).alloc (by simp) _
  have hwo : Wo9 W W1 n0 g ⟨ma, mc, ml⟩ m := ⟨⟨he.keep hB1, hB1, Nat.le_trans hn0 hB1.size, FT.In.keep (Below.keptTo hB1 hn0) _ hin, by rw [← hW1, ← hg]; exact block_alloc (World.alloc_heap_new W _) _⟩, MT.In.keep (Below.keptTo hB1 hn0) _ hmi, by
    rw [← hW1, ← hg]
    have h9 := World.alloc_heap_new (W.alloc (.cells #[.slice ma ml.length mc] 24)) (.cells m.cells.toArray 33)
    rwa [World.size_alloc] at h9⟩
  have HO := Lib.hid hwo
  have HS := Lib.hid (And.intro hsz (And.intro hmz (And.intro hbk hmb)))
  have HGW := Lib.hid hg
  obtain ⟨FD, hFD⟩ : ∃ r, (ml.find? (fun x => x.nm == s)).getD (⟨[], none, 0, [], none, 0, [], none, 0, []⟩ : MT) = r := ⟨_, rfl⟩
  obtain ⟨ok, hok⟩ : ∃ b, (ml.find? (fun x => x.nm == s)).isSome = b := ⟨_, rfl⟩
  have hfd : ∀ V, n0 ≤ V.heap.size → FT.In n0 V ⟨ma, mc, ml⟩ → FD.In n0 V ∧ FD.bk ≤ 1400000 := fun V h1 h2 => by
    cases hc : ml.find? (fun x => x.nm == s) with
    | none => rw [hc] at hFD; rw [← hFD]; exact ⟨⟨trivial, trivial, trivial⟩, by simp [MT.bk, BT.bkL, PT.bkL, IT.bkL]⟩
    | some x =>
      rw [hc] at hFD
      have hx := List.mem_of_find?_eq_some hc
      rw [← hFD]
      exact ⟨InRow.all h2 x hx, by have : x.bk ≤ MT.bkL ml := MT.bkL_mem hx; show x.bk ≤ _; omega⟩
  have qf : ∀ V, n0 ≤ V.heap.size → FT.In n0 V ⟨ma, mc, ml⟩ → Calls Tryz.prog 18 #[.agg #[.slice ma ml.length mc], .string (bs s)] V fun e V' => Below V.heap.size V V' ∧ ∃ y : MT, e = .returned (.tuple #[.agg #[.string (bs y.nm), .slice y.pa y.pl.length y.pc, .slice y.ta y.tl.length y.tc, .slice y.ia y.il.length y.ic], .bool ok]) ∧ y.nrm = FD.nrm ∧ y.In V'.heap.size V' ∧ y.bk ≤ 1400000 := fun V h1 h2 => by
    refine (namesFind_all V n0 ⟨ma, mc, ml⟩ s hs h1 h2 (by omega)).mono ?_
    rintro e V' ⟨hb, ⟨h3, rfl⟩ | ⟨x, y, h3, rfl, h4, h5⟩⟩
    · rw [h3] at hFD hok
      rw [← hFD, ← hok]
      exact ⟨hb, (⟨[], none, 0, [], none, 0, [], none, 0, []⟩ : MT), rfl, rfl, ⟨trivial, trivial, trivial⟩, by simp [MT.bk, BT.bkL, PT.bkL, IT.bkL]⟩
    · rw [h3] at hFD hok
      rw [← hFD, ← hok]
      have hx := List.mem_of_find?_eq_some h3
      refine ⟨hb, y, by cases y; rfl, h4, ?_, ?_⟩
      · exact MT.In.keep (frm_kept V'.heap.size V' V.heap.size) _ h5
      · rw [MT.bk_nrm h4]; have : x.bk ≤ MT.bkL ml := MT.bkL_mem hx; show x.bk ≤ _; omega
  have qr : ∀ V, n0 ≤ V.heap.size → FT.In n0 V ⟨ma, mc, ml⟩ → Calls Tryz.prog 19 #[.agg #[.slice ma ml.length mc], .string (bs s)] V fun e V' => Below V.heap.size V V' ∧ e = .returned (.tuple #[.agg #[.string (bs FD.nm), .slice FD.pa FD.pl.length FD.pc, .slice FD.ta FD.tl.length FD.tc, .slice FD.ia FD.il.length FD.ic], .bool ok]) := fun V h1 h2 => by
    refine (refFind_any V n0 ⟨ma, mc, ml⟩ s hs h1 h2 (by show ml.length ≤ _; omega)).mono ?_
    rintro e V' ⟨hb, ⟨h3, rfl⟩ | ⟨x, hx, h3, rfl⟩⟩
    · rw [h3] at hFD hok
      rw [← hFD, ← hok]
      exact ⟨hb, rfl⟩
    · rw [h3] at hFD hok
      rw [← hFD, ← hok]
      exact ⟨hb, by cases x; rfl⟩
  have HQ := Lib.hid (And.intro qf (And.intro qr hfd))
  simp only [FT.val, FT.cells]
  clear he hin hB1 hwo hsz hmz hbk hmb hmi qf qr hfd hFD hok
  obtain ⟨mn, pa, pc, pl, ta, tc, tl, ia, ic, il⟩ := m
  simp only [MT.val, MT.cells] at hW1 ⊢
  go_enter Tryz.func4, Tryz.ntmps4
  go_wp2_with fail
  (try rw [hW1])
  refine (live7_any _ HO.out.o.env).mono ?_
  rintro e V1 ⟨rfl, hb⟩
  replace HO := Lib.hid (HO.out.keep hb)
  clear hW1 hb
  have y0 := (cell_of_box_1 HO.out.o.box).1
  have q2 := few7_any ⟨ma, mc, ml⟩ HS.out.1 n0 V1 HO.out.o.hn HO.out.o.fin
  obtain ⟨fw, hfw⟩ : ∃ b, (decide (FT.sz ⟨ma, mc, ml⟩ ≤ 2000) && decide (FT.dp ⟨ma, mc, ml⟩ ≤ 100)) = b := ⟨_, rfl⟩
  rw [hfw] at q2
  simp only [FT.val, FT.cells] at q2
  clear hfw
  go_wp2_with fail
  refine q2.mono ?_
  rintro e V2 ⟨rfl, hb⟩
  replace HO := Lib.hid (HO.out.keep hb)
  clear hb y0 q2
  have y0 := (cell_of_box_1 HO.out.o.box).1
  cases fw with
  | false =>
    go_wp2
    go_ret
    exact ⟨rfl, HO.out.o.low⟩
  | true =>
    obtain ⟨⟨c0, c1, c2, c3⟩, -⟩ := box4 HO.out.mb
    obtain ⟨z, hz⟩ : ∃ z, V2.heap.size = z := ⟨_, rfl⟩
    obtain ⟨V3, hV3⟩ : ∃ V3, V2.alloc (.cells #[.string (bs mn), .slice pa pl.length pc, .slice ta tl.length tc, .slice ia il.length ic] 33) = V3 := ⟨_, rfl⟩
    have hb3 : Below V2.heap.size V2 V3 := by rw [← hV3]; exact (Below.refl _ _).alloc (Nat.le_refl _) _
    have hz3 : V3.heap.size = z + 1 := by rw [← hV3, ← hz]; simp
    have hm3 : V3.heap[z]? = some (.cells #[.string (bs mn), .slice pa pl.length pc, .slice ta tl.length tc, .slice ia il.length ic] 33 (0, 0)) := by rw [← hV3, ← hz]; exact World.alloc_heap_new V2 _
    replace HO := Lib.hid (HO.out.keep hb3)
    have q3 := few7_any ⟨some ⟨z, 0, none⟩, 1, [⟨mn, pa, pc, pl, ta, tc, tl, ia, ic, il⟩]⟩ (by have := HS.out.2.1; show MT.szL [_] ≤ _; simp only [MT.szL]; omega) (z + 1) V3 (by omega) (one_row7 (V := V2) (MT.In.less (by have := HO.out.o.hn; omega) _ HO.out.mi) (by omega) hm3 1)
    obtain ⟨fw, hfw⟩ : ∃ b, (decide (FT.sz ⟨some ⟨z, 0, none⟩, 1, [⟨mn, pa, pc, pl, ta, tc, tl, ia, ic, il⟩]⟩ ≤ 2000) && decide (FT.dp ⟨some ⟨z, 0, none⟩, 1, [⟨mn, pa, pc, pl, ta, tc, tl, ia, ic, il⟩]⟩ ≤ 100)) = b := ⟨_, rfl⟩
    rw [hfw] at q3
    simp only [FT.val, FT.cells, List.length_singleton] at q3
    clear hfw hm3 hb3 hz3
    go_wp2_with fail
    (try rw [hV3])
    (try rw [hz])
    refine q3.mono ?_
    clear q3
    rintro e V4 ⟨rfl, hb⟩
    replace HO := Lib.hid (HO.out.keep hb)
    clear hb y0 c0 c1 c2 c3 hV3 hz
    have y0 := (cell_of_box_1 HO.out.o.box).1
    cases fw with
    | false =>
      go_wp2
      go_ret
      exact ⟨rfl, HO.out.o.low⟩
    | true =>
      by_cases hlong : 100 < s.length
      · have d1 : decide (100 < s.length) = true := by simpa using hlong
        have d2 : decide ((100 : Int) < (s.length : Int)) = true := by rw [decide_eq_true_eq]; omega
        go_wp2
        go_ret
        exact ⟨rfl, HO.out.o.low⟩
      · have d1 : decide (100 < s.length) = false := by simpa using hlong
        have d2 : decide ((100 : Int) < (s.length : Int)) = false := by rw [decide_eq_false_iff_not]; omega
        have q4 := HQ.out.1 V4 HO.out.o.hn HO.out.o.fin
        go_wp2_with fail
        refine q4.mono ?_
        clear q4
        rintro e V5 ⟨hb5, y, rfl, hyn, hyi, hyb⟩
        obtain ⟨V6, hV6⟩ : ∃ V6, V5.alloc (.cells #[.string (bs y.nm), .slice y.pa y.pl.length y.pc, .slice y.ta y.tl.length y.tc, .slice y.ia y.il.length y.ic] 33) = V6 := ⟨_, rfl⟩
        obtain ⟨p, hp⟩ : ∃ p, V5.heap.size = p := ⟨_, rfl⟩
        have hb56 : Below V5.heap.size V5 V6 := by rw [← hV6]; exact (Below.refl _ _).alloc (Nat.le_refl _) _
        have hb6 : Below V4.heap.size V4 V6 := hb5.trans (hb56.mono hb5.size)
        have hp6 : V6.heap[p]? = some (.cells y.cells.toArray 33 (0, 0)) := by rw [← hV6, ← hp]; cases y; exact World.alloc_heap_new V5 _
        have hyi6 : y.In V6.heap.size V6 := MT.In.less hb56.size _ (MT.In.keep (Below.keptTo hb56 (Nat.le_refl _)) _ hyi)
        have HY := Lib.hid (And.intro hyn (And.intro hyb (And.intro hp6 hyi6)))
        replace HO := Lib.hid (HO.out.keep hb6)
        clear hb5 hb56 hb6 hp6 hyi6 hyn hyi hyb y0
        have y0 := (cell_of_box_1 HO.out.o.box).1
        have q5 := HQ.out.2.1 V6 HO.out.o.hn HO.out.o.fin
        go_wp2_with fail
        (try rw [hV6])
        (try rw [hp])
        refine q5.mono ?_
        clear q5 hV6 hp
        rintro e V7 ⟨hb7, rfl⟩
        obtain ⟨V8, hV8⟩ : ∃ V8, V7.alloc (.cells #[.string (bs FD.nm), .slice FD.pa FD.pl.length FD.pc, .slice FD.ta FD.tl.length FD.tc, .slice FD.ia FD.il.length FD.ic] 33) = V8 := ⟨_, rfl⟩
        obtain ⟨q, hq⟩ : ∃ q, V7.heap.size = q := ⟨_, rfl⟩
        have hb78 : Below V7.heap.size V7 V8 := by rw [← hV8]; exact (Below.refl _ _).alloc (Nat.le_refl _) _
        have hb8 : Below V6.heap.size V6 V8 := hb7.trans (hb78.mono hb7.size)
        have hq8 : V8.heap[q]? = some (.cells FD.cells.toArray 33 (0, 0)) := by rw [← hV8, ← hq]; cases FD; exact World.alloc_heap_new V7 _
        replace HO := Lib.hid (HO.out.keep hb8)
        have hyb8 : V8.heap[p]? = some (.cells y.cells.toArray 33 (0, 0)) := (hb8.block p (Array.getElem?_eq_some_iff.1 HY.out.2.2.1).1).trans HY.out.2.2.1
        have hyi8 : y.In V8.heap.size V8 := MT.In.less hb8.size _ (MT.In.keep (Below.keptTo hb8 (Nat.le_refl _)) _ HY.out.2.2.2)
        have hFi := HQ.out.2.2 V8 HO.out.o.hn HO.out.o.fin
        -- the two files of one module
        obtain ⟨V9, hV9⟩ : ∃ V9, V8.alloc (.cells #[.string (bs y.nm), .slice y.pa y.pl.length y.pc, .slice y.ta y.tl.length y.tc, .slice y.ia y.il.length y.ic] 33) = V9 := ⟨_, rfl⟩
        obtain ⟨V10, hV10⟩ : ∃ V10, V9.alloc (.cells #[.string (bs FD.nm), .slice FD.pa FD.pl.length FD.pc, .slice FD.ta FD.tl.length FD.tc, .slice FD.ia FD.il.length FD.ic] 33) = V10 := ⟨_, rfl⟩
        obtain ⟨r, hr⟩ : ∃ r, V8.heap.size = r := ⟨_, rfl⟩
        have hr9 : V9.heap.size = r + 1 := by rw [← hV9, ← hr]; simp
        have hb89 : Below V8.heap.size V8 V9 := by rw [← hV9]; exact (Below.refl _ _).alloc (Nat.le_refl _) _
        have hb910 : Below V9.heap.size V9 V10 := by rw [← hV10]; exact (Below.refl _ _).alloc (Nat.le_refl _) _
        have hb10 : Below V8.heap.size V8 V10 := hb89.trans (hb910.mono hb89.size)
        have hz10 : V10.heap.size = r + 2 := by rw [← hV10]; simp [hr9]
        have B0 : V10.heap[r]? = some (.cells y.cells.toArray 33 (0, 0)) := by rw [← hV10, ← hV9, ← hr]; cases y; exact block_alloc (World.alloc_heap_new V8 _) _
        have B1 : V10.heap[r + 1]? = some (.cells FD.cells.toArray 33 (0, 0)) := by rw [← hV10, ← hr9]; cases FD; exact World.alloc_heap_new V9 _
        have iy : FT.In (r + 2) V10 ⟨some ⟨r, 0, none⟩, 1, [y]⟩ := one_row7 (V := V10) (MT.In.less (by omega) _ (MT.In.keep (Below.keptTo hb10 (Nat.le_refl _)) _ hyi8)) (by omega) B0 1
        have iF : FT.In (r + 2) V10 ⟨some ⟨r + 1, 0, none⟩, 1, [FD]⟩ := one_row7 (V := V10) (MT.In.less (by have := HO.out.o.hn; omega) _ (MT.In.keep (Below.keptTo hb10 HO.out.o.hn) _ hFi.1)) (by omega) B1 1
        have q6 := refsame_any ⟨some ⟨r, 0, none⟩, 1, [y]⟩ ⟨some ⟨r + 1, 0, none⟩, 1, [FD]⟩ (one_bk7 _ _ _ HY.out.2.1) (one_bk7 _ _ _ hFi.2) (r + 2) V10 (by omega) iy iF
        rw [show sameF ⟨some ⟨r, 0, none⟩, 1, [y]⟩ ⟨some ⟨r + 1, 0, none⟩, 1, [FD]⟩ = true from (sameF_iff _ _).2 (by simp [HY.out.1])] at q6
        simp only [FT.val, FT.cells, List.length_singleton] at q6
        have HO8 := HO
        replace HO := Lib.hid (HO8.out.keep hb10)
        have hyc : y.cells.toArray = #[.string (bs y.nm), .slice y.pa y.pl.length y.pc, .slice y.ta y.tl.length y.tc, .slice y.ia y.il.length y.ic] := by cases y; rfl
        have hFc : FD.cells.toArray = #[.string (bs FD.nm), .slice FD.pa FD.pl.length FD.pc, .slice FD.ta FD.tl.length FD.tc, .slice FD.ia FD.il.length FD.ic] := by cases FD; rfl
        rw [hyc] at hyb8
        rw [hFc] at hq8
        obtain ⟨⟨u0, u1, u2, u3⟩, -⟩ := box4 hyb8
        obtain ⟨⟨t0, t1, t2, t3⟩, -⟩ := box4 hq8
        have HEQ := Lib.hid (And.intro hV8 (And.intro hV9 (And.intro hV10 (And.intro hq (And.intro hr hr9)))))
        clear hb7 hb78 hb8 hq8 hyb8 hyi8 hFi hb89 hb910 hb10 B0 B1 iy iF hyc hFc hV9 hV10 hr hr9 hz10 HY y0 HO8
        obtain ⟨ynm, ypa, ypc, ypl, yta, ytc, ytl, yia, yic, yil⟩ := y
        obtain ⟨fnm, fpa, fpc, fpl, fta, ftc, ftl, fia, fic, fil⟩ := FD
        simp only at u0 u1 u2 u3 t0 t1 t2 t3 hV8 ⊢
        have t0A := fun O => alloc_cell t0 O
        have t1A := fun O => alloc_cell t1 O
        have t2A := fun O => alloc_cell t2 O
        have t3A := fun O => alloc_cell t3 O
        go_wp2_with fail
        (try rw [HEQ.out.2.1])
        (try rw [HEQ.out.2.2.1])
        (try rw [HEQ.out.2.2.2.2.1])
        (try rw [HEQ.out.2.2.2.2.2])
        refine q6.mono ?_
        clear q6
        rintro e V11 ⟨rfl, hb11⟩
        replace HO := Lib.hid (HO.out.keep hb11)
        clear hb11 u0 u1 u2 u3 t0 t1 t2 t3 t0A t1A t2A t3A
        (try clear hV8)
        obtain ⟨⟨c0, c1, c2, c3⟩, -⟩ := box4 HO.out.mb
        have hU0 := (usesM_len (⟨mn, pa, pc, pl, ta, tc, tl, ia, ic, il⟩ : MT)).1
        have qU := fun (V : World) (hv : Below V11.heap.size V11 V) => uses_any V n0 ⟨mn, pa, pc, pl, ta, tc, tl, ia, ic, il⟩ (Nat.le_trans HO.out.o.hn hv.size) (HO.out.keep hv).mi (by have := HS.out.2.2.2; omega)
        have qV := fun (V : World) (hv : Below V11.heap.size V11 V) => refUses_any ⟨mn, pa, pc, pl, ta, tc, tl, ia, ic, il⟩ (by have h1 := szM_il7 (⟨mn, pa, pc, pl, ta, tc, tl, ia, ic, il⟩ : MT); have h2 := HS.out.2.1; omega) n0 V (Nat.le_trans HO.out.o.hn hv.size) (HO.out.keep hv).mi
        obtain ⟨U, hU⟩ : ∃ U, usesM (⟨mn, pa, pc, pl, ta, tc, tl, ia, ic, il⟩ : MT) = U := ⟨_, rfl⟩
        rw [hU] at hU0
        simp only [hU, MT.val, MT.cells] at qU qV
        have hUl : U.length ≤ 1099511627776 := by have := HS.out.2.2.2; omega
        have HU := Lib.hid (And.intro qU qV)
        have HLOW := Lib.hid HO.out.o.low
        clear qU qV hU0 hU
        go_wp2_with fail
        go_region_with (first | (go_at_call 22; refine (HU.out.1 _ (by first | exact HBv.out | exact (Below.refl _ _).drew)).mono ?_; rintro e wu ⟨v, rfl, hov, hbe, -⟩; obtain ⟨ua, uc, rfl, huc⟩ := own_shape7 hov; have HLu := Lib.hid (lies_srow7 (srow_of hov)).2; have HBu : Hid (Below V11.heap.size V11 wu) := Lib.hid (by first | exact HBv.out.trans (hbe.mono HBv.out.size) | exact (Below.refl _ _).drew.trans hbe); have HSu := Lib.hid hbe; have a0 := keep_cell HBu.out c0; have a1 := keep_cell HBu.out c1; have a2 := keep_cell HBu.out c2; have a3 := keep_cell HBu.out c3; clear hov hbe huc) | (go_at_call 23; refine (HU.out.2 _ (by first | exact HBu.out | exact (Below.refl _ _).drew)).mono ?_; rintro e wv ⟨v, rfl, ⟨ra, rc, rfl, -, hrl⟩, hbe⟩; have HLv := Lib.hid hrl; have HBv : Hid (Below V11.heap.size V11 wv) := Lib.hid (by first | exact HBu.out.trans (hbe.mono HBu.out.size) | exact (Below.refl _ _).drew.trans hbe); have HSv := Lib.hid hbe; have b0 := keep_cell HBv.out c0; have b1 := keep_cell HBv.out c1; have b2 := keep_cell HBv.out c2; have b3 := keep_cell HBv.out c3; clear hrl hbe) | (go_at_call 21; refine (textsS_any _ _ _ _ U U hUl hUl _ (by first | exact HLu.out | exact lies_keep8 HLu.out HSv.out) (by first | exact HLv.out | exact lies_keep8 HLv.out HSu.out)).mono ?_; rintro e wt ⟨rfl, nt, rfl⟩))
        all_goals (go_wp2_with fail; go_ret; first | exact ⟨by simp, HLOW.out.trans ((below_drewN HBv.out _).mono HLOW.out.size)⟩ | exact ⟨by simp, HLOW.out.trans ((below_drewN HBu.out _).mono HLOW.out.size)⟩ | exact ⟨rfl, HLOW.out.trans ((below_drewN HBv.out _).mono HLOW.out.size)⟩ | exact ⟨rfl, HLOW.out.trans ((below_drewN HBu.out _).mono HLOW.out.size)⟩)
end Go.Proofs.YtbfhbblbjgkolaaGreatDoor
