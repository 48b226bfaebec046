/-
  NrE, NlB, NlOx, NlC, in one text.
-/
import Derived.Test.YtbfhbblbjgkolaaGreatDoorNaG
import Derived.Test.YtbfhbblbjgkolaaGreatDoorNrZ
import Derived.Deep.RegionLaw
import Derived.RegionTactic
import Derived.BigRegion
import Derived.BigQuiet
import Derived.Deep.QuietTactic
import Derived.Deep.DeepCutAuto
import Derived.Test.YtbfhbblbjgkolaaGreatDoorNtA
namespace Go.Proofs.YtbfhbblbjgkolaaGreatDoor
open Go Go.RowKit
set_option linter.unusedVariables false
set_option linter.unusedSimpArgs false
open Go.Sort

/-- What a module's copy is. -/
def RVm (m : MT) (base : Nat) (V : World) (v : Value) : Prop := ∃ y : MT, v = y.val ∧ y.nrm = m.nrm ∧ y.In V.heap.size (frm V base)
theorem RVm.next (m : MT) (base base' : Nat) (V V' : World) (v : Value) (h : RVm m base V v) (hb : base' ≤ base) (hs : V.heap.size ≤ V'.heap.size) (hk : ∀ i, base ≤ i → i < V.heap.size → V'.heap[i]? = V.heap[i]?) : RVm m base' V' v := by
  obtain ⟨y, h1, h2, h3⟩ := h
  exact ⟨y, h1, h2, MT.In.less hs _ (MT.In.keep (frm_next hb hk) _ h3)⟩
theorem MT.nm_nrm {x y : MT} (h : y.nrm = x.nrm) : y.nm = x.nm := by
  obtain ⟨nm, pa, pc, pl, ta, tc, tl, ia, ic, il⟩ := x
  obtain ⟨nm2, pa2, pc2, pl2, ta2, tc2, tl2, ia2, ic2, il2⟩ := y
  simp only [MT.nrm, MT.mk.injEq] at h
  exact h.1
theorem instL_nrm : ∀ l : List IT, (∀ x ∈ l, instI x.nrm = instI x) → instL (l.map IT.nrm) = instL l
  | [], _ => rfl
  | x :: r, h => by rw [List.map_cons, instL, instL, h x (by simp), instL_nrm r (fun y hy => h y (by simp [hy]))]
theorem instI_nrm : ∀ x : IT, instI x.nrm = instI x := IT.ind fun op nm nf xa xc xl sa sc sl la lc ll ea ec el pa pc pl ba bc bl ih0 ih1 => by
  rw [IT.nrm, instI, instI, IT.nrmL_map, IT.nrmL_map, instL_nrm ll ih0, instL_nrm el ih1]
theorem usesM_nrm {x y : MT} (h : y.nrm = x.nrm) : usesM y = usesM x := by
  have k : ∀ z : MT, usesM z.nrm = usesM z := fun z => by
    obtain ⟨nm, pa, pc, pl, ta, tc, tl, ia, ic, il⟩ := z
    show addN [] (instL (il.map IT.nrm)) = addN [] (instL il)
    rw [instL_nrm il (fun x _ => instI_nrm x)]
  rw [← k y, h, k x]
theorem bkX_nrm : ∀ x : XT, x.nrm.bk = x.bk := XT.ind fun op nm n wd v a c l ih => by
  have k : ∀ l : List XT, (∀ x ∈ l, x.nrm.bk = x.bk) → XT.bkL (l.map XT.nrm) = XT.bkL l := by
    intro l
    induction l with
    | nil => intro _; rfl
    | cons x r ih2 => intro h; rw [List.map_cons, XT.bkL, XT.bkL, h x (by simp), ih2 (fun y hy => h y (by simp [hy]))]
  rw [XT.nrm, XT.bk, XT.bk, XT.nrmL_map, k l ih]
theorem bkXL_nrm : ∀ l : List XT, XT.bkL (l.map XT.nrm) = XT.bkL l
  | [] => rfl
  | x :: r => by rw [List.map_cons, XT.bkL, XT.bkL, bkX_nrm x, bkXL_nrm r]
theorem bkS_nrm : ∀ x : ST, x.nrm.bk = x.bk := ST.ind fun op nm xa xc xl sa sc sl ih => by
  have k : ∀ l : List ST, (∀ x ∈ l, x.nrm.bk = x.bk) → ST.bkL (l.map ST.nrm) = ST.bkL l := by
    intro l
    induction l with
    | nil => intro _; rfl
    | cons x r ih2 => intro h; rw [List.map_cons, ST.bkL, ST.bkL, h x (by simp), ih2 (fun y hy => h y (by simp [hy]))]
  rw [ST.nrm, ST.bk, ST.bk, ST.nrmL_map, k sl ih, bkXL_nrm]
theorem bkSL_nrm : ∀ l : List ST, ST.bkL (l.map ST.nrm) = ST.bkL l
  | [] => rfl
  | x :: r => by rw [List.map_cons, ST.bkL, ST.bkL, bkS_nrm x, bkSL_nrm r]
theorem bkBL_nrm : ∀ l : List BT, BT.bkL (l.map BT.nrm) = BT.bkL l
  | [] => rfl
  | x :: r => by rw [List.map_cons, BT.bkL, BT.bkL, bkBL_nrm r]; simp only [BT.bk, BT.nrm, bkX_nrm]
theorem bkPL_nrm : ∀ l : List PT, PT.bkL (l.map PT.nrm) = PT.bkL l
  | [] => rfl
  | x :: r => by rw [List.map_cons, PT.bkL, PT.bkL, bkPL_nrm r]; simp only [PT.bk, PT.nrm, bkX_nrm]
theorem bkI_nrm : ∀ x : IT, x.nrm.bk = x.bk := IT.ind fun op nm nf xa xc xl sa sc sl la lc ll ea ec el pa pc pl ba bc bl ih0 ih1 => by
  have k : ∀ l : List IT, (∀ x ∈ l, x.nrm.bk = x.bk) → IT.bkL (l.map IT.nrm) = IT.bkL l := by
    intro l
    induction l with
    | nil => intro _; rfl
    | cons x r ih2 => intro h; rw [List.map_cons, IT.bkL, IT.bkL, h x (by simp), ih2 (fun y hy => h y (by simp [hy]))]
  rw [IT.nrm, IT.bk, IT.bk, IT.nrmL_map, IT.nrmL_map, k ll ih0, k el ih1, bkXL_nrm, bkSL_nrm, bkBL_nrm, bkBL_nrm]
theorem bkIL_nrm : ∀ l : List IT, IT.bkL (l.map IT.nrm) = IT.bkL l
  | [] => rfl
  | x :: r => by rw [List.map_cons, IT.bkL, IT.bkL, bkI_nrm x, bkIL_nrm r]
theorem MT.bk_nrm {x y : MT} (h : y.nrm = x.nrm) : y.bk = x.bk := by
  have k : ∀ z : MT, z.nrm.bk = z.bk := fun z => by
    obtain ⟨nm, pa, pc, pl, ta, tc, tl, ia, ic, il⟩ := z
    simp only [MT.nrm, MT.bk]
    rw [bkBL_nrm, bkPL_nrm, bkIL_nrm]
  rw [← k y, h, k x]
/-- Find, of any file. -/
theorem namesFind_all (W : World) (n0 : Nat) (f : FT) (s : Bytes) (hs : s.length ≤ 4000000) (hn0 : n0 ≤ W.heap.size) (hin : f.In n0 W) (hbk : f.bk ≤ 1500000) :
    Calls Tryz.prog 18 #[f.val, .string (bs s)] W fun e W' => Below W.heap.size W W' ∧ ((f.ml.find? (fun m => m.nm == s) = none ∧ e = .returned (.tuple #[.agg #[.string ⟨#[]⟩, .slice none 0 0, .slice none 0 0, .slice none 0 0], .bool false])) ∨
      ∃ m y, f.ml.find? (fun m => m.nm == s) = some m ∧ e = .returned (.tuple #[MT.val y, .bool true]) ∧ y.nrm = m.nrm ∧ y.In W'.heap.size (frm W' W.heap.size)) := by
  have hbl : 1 + MT.bkL f.ml ≤ 1500000 := hbk
  have hll := MT.bkL_len f.ml
  refine (namesFind_any RVm RVm.next W n0 f s hs hn0 hin (by omega) (fun m hm _ V hV hi => (copiedM_any m (by have := MT.bkL_mem hm; omega) n0 V (by omega) hi).mono ?_)).mono ?_
  · rintro e V' ⟨y, rfl, h1, h2, h3⟩
    refine ⟨_, rfl, ?_, ⟨y, rfl, h1, h2⟩, h3⟩
    have h4 := MT.nm_nrm h1
    obtain ⟨nm, pa, pc, pl, ta, tc, tl, ia, ic, il⟩ := y
    exact ⟨pa, pl.length, pc, ta, tl.length, tc, ia, il.length, ic, by rw [← h4]; rfl⟩
  · rintro e W' ⟨h1, h2 | ⟨m, v, h2, h3, _, y, rfl, h5, h6⟩⟩
    · exact ⟨h1, .inl h2⟩
    · exact ⟨h1, .inr ⟨m, y, h2, h3, h5, MT.In.keep (frm_next (by omega) (fun _ _ _ => rfl)) _ h6⟩⟩
end Go.Proofs.YtbfhbblbjgkolaaGreatDoor
namespace Go.Proofs.YtbfhbblbjgkolaaGreatDoor
open Go Go.RowKit
set_option linter.unusedVariables false
set_option linter.unusedSimpArgs false
open Go.Sort

/-- What is kept of the file while a law runs. -/
structure Wo2 (W V : World) (n0 g : Nat) (f : FT) : Prop where
  env : EnvA V
  low : Below W.heap.size W V
  hn : n0 ≤ V.heap.size
  fin : FT.In n0 V f
  box : V.heap[g]? = some (.cells #[.slice f.ma f.ml.length f.mc] 24 (0, 0))
theorem Wo2.keep {W V V' : World} {n0 g : Nat} {f : FT} (h : Wo2 W V n0 g f) (hb : Below V.heap.size V V') : Wo2 W V' n0 g f :=
  ⟨h.env.keep hb, h.low.trans (hb.mono h.low.size), Nat.le_trans h.hn hb.size, FT.In.keep (Below.keptTo hb h.hn) _ h.fin, block_kept h.box hb⟩
theorem checkP_zero {f : FT} (h0 : checkP f = 0) : checkF f = 0 ∧ twiceB [] f.ml = false ∧ hasAllB f.ml = true ∧ ∃ out, ordN f.ml f.ml.length [] = some out := by
  have hF : checkF f = 0 := by
    unfold checkP at h0
    by_cases e : checkF f = 0
    · exact e
    · rw [if_pos e] at h0; exact absurd h0 e
  have hN : checkN f.ml = 0 := by
    unfold checkP at h0
    rwa [if_neg (by rw [hF]; simp)] at h0
  unfold checkN at hN
  have hT : twiceB [] f.ml = false := by
    cases e : twiceB [] f.ml
    · rfl
    · rw [e, if_pos rfl] at hN; exact absurd hN (by decide)
  rw [hT, if_neg (by decide)] at hN
  have hA : hasAllB f.ml = true := by
    cases e : hasAllB f.ml
    · rw [e, if_pos rfl] at hN; exact absurd hN (by decide)
    · rfl
  rw [hA, if_neg (by decide)] at hN
  refine ⟨hF, hT, hA, ?_⟩
  cases e : ordN f.ml f.ml.length []
  · rw [e, if_pos (by rfl)] at hN; exact absurd hN (by decide)
  · exact ⟨_, rfl⟩
theorem lies_take7 {w : World} {a : Option Addr} {l : List Bytes} (h : LiesS w a l) (k : Nat) : LiesS w a (l.take k) := by
  rcases h with h | ⟨b, o, h1, h2⟩
  · exact .inl (by rw [h]; simp)
  · refine .inr ⟨b, o, h1, fun i hi => ?_⟩
    rw [List.length_take] at hi
    rw [List.getElem_take]
    exact h2 i (by omega)
theorem lies_drewN7 {w : World} {a : Option Addr} {l : List Bytes} (n : Nat) (h : LiesS w a l) : LiesS (w.drewN n) a l := by unfold LiesS at h ⊢; exact h
theorem lies_keep8 {n0 : Nat} {W W' : World} {a : Option Addr} {l : List Bytes} (h : LiesS W a l) (hb : Below n0 W W') (hn : n0 = W.heap.size := by rfl) : LiesS W' a l := by
  subst hn
  rcases h with h | ⟨b, o, h1, h2⟩
  · exact .inl h
  · refine .inr ⟨b, o, h1, fun i hi => ?_⟩
    have h3 := h2 i hi
    have hlt := cell_lt h3
    simp only [World.cell?] at h3 ⊢
    rw [hb.block b hlt]
    exact h3
theorem own_cap7 {w : World} {B e c n : Nat} {a : Option Addr} {xs : List Value} (h : w.ownsRow B e 1 (.slice a n c) n xs) : n ≤ c := by
  rcases h.2 with ⟨h1, h2⟩ | ⟨g, cap, cur, h1, hg, hh, h3, h4, h5, h6⟩
  · simp only [Value.slice.injEq] at h1; omega
  · simp only [Value.slice.injEq] at h1; omega
theorem lies_srow7 {lo : Nat} {W : World} {a : Option Addr} {c n : Nat} {l : List Bytes} (h : SRow lo W (.slice a n c) l) : n = l.length ∧ LiesS W a l := by
  obtain ⟨a', c', e1, e2⟩ := h
  injection e1 with e1 e3 e4
  subst e1
  exact ⟨e3, e2.imp id (fun ⟨b, o, x1, x2, x3, x4⟩ => ⟨b, o, x1, x4⟩)⟩
theorem box4 {w : World} {g : Nat} {v0 v1 v2 v3 : Value} {t : TypeId} (h : w.heap[g]? = some (.cells #[v0, v1, v2, v3] t (0, 0))) : (w.cell? ⟨g, 0, none⟩ = some v0 ∧ w.cell? ⟨g, 1, none⟩ = some v1 ∧ w.cell? ⟨g, 2, none⟩ = some v2 ∧ w.cell? ⟨g, 3, none⟩ = some v3) ∧ w.frozen? ⟨g, 0, none⟩ = false ∧ w.frozen? ⟨g, 1, none⟩ = false ∧ w.frozen? ⟨g, 2, none⟩ = false ∧ w.frozen? ⟨g, 3, none⟩ = false := by
  simp [World.cell?, World.frozen?, h]
/-- What is found, put into a variable that was made ahead of it. -/
theorem found_put {w V : World} {y : MT} {z : Nat} (hz : w.heap.size = z) (hb : Below (w.alloc (.cells #[.string ⟨#[]⟩, .slice none 0 0, .slice none 0 0, .slice none 0 0] 33)).heap.size (w.alloc (.cells #[.string ⟨#[]⟩, .slice none 0 0, .slice none 0 0, .slice none 0 0] 33)) V) (hy : y.In V.heap.size (frm V (w.alloc (.cells #[.string ⟨#[]⟩, .slice none 0 0, .slice none 0 0, .slice none 0 0] 33)).heap.size)) :
    (putC V z 0 y.cells).heap[z]? = some (.cells y.cells.toArray 33 (0, 0)) ∧ y.In (putC V z 0 y.cells).heap.size (putC V z 0 y.cells) ∧ Below w.heap.size w (putC V z 0 y.cells) := by
  have hs := hb.size
  rw [World.size_alloc] at hs
  have hbz : V.heap[z]? = some (.cells #[.string ⟨#[]⟩, .slice none 0 0, .slice none 0 0, .slice none 0 0] 33 (0, 0)) := by
    rw [← hz]
    exact (hb.block w.heap.size (by rw [World.size_alloc]; omega)).trans (World.alloc_heap_new w _)
  refine ⟨?_, ?_, ?_⟩
  · obtain ⟨nm, pa, pc, pl, ta, tc, tl, ia, ic, il⟩ := y
    simp only [MT.cells, putC]
    simp [World.setCell, Array.getElem?_modify, hbz]
  · rw [putC_size]
    refine MT.In.keep (fun b o v hbl hv => ?_) _ hy
    obtain ⟨h1, h2⟩ := frm_cell.1 hv
    rw [World.size_alloc] at h1
    have h3 := putC_other z b (by omega) y.cells V 0
    simp only [World.cell?, h3] at h2 ⊢
    exact h2
  · exact (((Below.refl _ _).alloc (Nat.le_refl _) _).trans (hb.mono (by rw [World.size_alloc]; omega))).trans (putC_below (by omega) _ _ _)
/-- What is found, in a variable made behind it. -/
theorem found_new {w V : World} {y : MT} (hb : Below w.heap.size w V) (hy : y.In V.heap.size (frm V w.heap.size)) :
    (V.alloc (.cells y.cells.toArray 33)).heap[V.heap.size]? = some (.cells y.cells.toArray 33 (0, 0)) ∧ y.In (V.alloc (.cells y.cells.toArray 33)).heap.size (V.alloc (.cells y.cells.toArray 33)) ∧ Below w.heap.size w (V.alloc (.cells y.cells.toArray 33)) := by
  have hs := hb.size
  refine ⟨World.alloc_heap_new V _, ?_, hb.alloc hs _⟩
  have h1 := MT.In.keep (frm_kept V.heap.size V w.heap.size) _ hy
  have hb2 : Below V.heap.size V (V.alloc (.cells y.cells.toArray 33)) := (Below.refl _ _).alloc (Nat.le_refl _) _
  exact MT.In.less hb2.size _ (MT.In.keep (Below.keptTo hb2 (Nat.le_refl _)) _ h1)
end Go.Proofs.YtbfhbblbjgkolaaGreatDoor
namespace Go.Proofs.YtbfhbblbjgkolaaGreatDoor
open Go Go.RowKit
set_option linter.unusedVariables false
set_option linter.unusedSimpArgs false
open Go.Sort

/-- What stands in an order, read off. -/
theorem order_at {ml : List MT} {out : List Bytes} (hT : twiceB [] ml = false) (ho : ordN ml ml.length [] = some out) (k : Nat) (hk : k < out.length) : ∃ m ∈ ml, ml.find? (fun x => x.nm == out[k]) = some m ∧ (out.take k).contains out[k] = false ∧ ∀ u ∈ usesM m, (out.take k).contains u = true := by
  have hok := (ordN_ok ml ml.length [] out (OrdOk.nil _) ho).1
  obtain ⟨m, hm, hn, hu⟩ := hok.behind k hk
  refine ⟨m, hm, ?_, nodup_take out k hk hok.nodup, fun u hu2 => List.contains_iff_mem.2 (hu u hu2)⟩
  rw [← hn]
  exact find_nm (twice_nodup ml [] hT).1 hm
/-- A module found lies in a variable. -/
def FndAt (w wx : World) (gm : Nat) (U : List Bytes) : Prop := ∃ y : MT, wx.heap[gm]? = some (.cells y.cells.toArray 33 (0, 0)) ∧ y.In wx.heap.size wx ∧ usesM y = U ∧ y.bk ≤ 1500000 ∧ Below w.heap.size w wx
end Go.Proofs.YtbfhbblbjgkolaaGreatDoor
namespace Go.Proofs.YtbfhbblbjgkolaaGreatDoor
open Go Go.RowKit
set_option linter.unusedVariables false
set_option linter.unusedSimpArgs false
open Go.Sort

theorem order_all {ml : List MT} {out : List Bytes} (hT : twiceB [] ml = false) (ho : ordN ml ml.length [] = some out) {m : MT} (hm : m ∈ ml) : m.nm ∈ out := by
  have hok := (ordN_ok ml ml.length [] out (OrdOk.nil _) ho).1
  have hlen : out.length = ml.length := by simpa using (ordN_ok ml ml.length [] out (OrdOk.nil _) ho).2
  by_cases hc : m.nm ∈ out
  · exact hc
  · exfalso
    have h1 := nodup_sub_len (m.nm :: out) (ml.map (·.nm)) (List.nodup_cons.2 ⟨hc, hok.nodup⟩) (fun n hn => by
      rcases List.mem_cons.1 hn with e | e
      · rw [e]; exact List.mem_map.2 ⟨m, hm, rfl⟩
      · obtain ⟨x, hx, hn2⟩ := hok.sub n e
        exact List.mem_map.2 ⟨x, hx, hn2⟩)
    rw [List.length_cons, List.length_map] at h1
    omega
theorem nodup_inj7 {l : List Bytes} (hn : l.Nodup) {i j : Nat} (hi : i < l.length) (hj : j < l.length) (e : l[i] = l[j]) : i = j := by
  have h := List.pairwise_iff_getElem.1 hn
  rcases Nat.lt_trichotomy i j with h1 | h1 | h1
  · exact absurd e (h i j hi hj h1)
  · exact h1
  · exact absurd e.symm (h j i hj hi h1)
theorem idx_take_lt {l : List Bytes} (hn : l.Nodup) {i j : Nat} (hi : i < l.length) (h : l[i] ∈ l.take j) : i < j := by
  obtain ⟨k, hk, e⟩ := List.mem_iff_getElem.1 h
  rw [List.length_take] at hk
  rw [List.getElem_take] at e
  have := nodup_inj7 hn (by omega) hi e
  omega
/-- What is below a module, read off. -/
structure BelOk (ml : List MT) (out B : List Bytes) (top : Bytes) : Prop where
  at_ : ∀ k (h : k < B.length), ∃ m ∈ ml, ml.find? (fun x => x.nm == B[k]) = some m ∧ usesM m = usN ml B[k] ∧ ∀ u ∈ usesM m, (B.take k).contains u = true
  nodup : B.Nodup
  sub : List.Sublist B out
  last : ∃ h : B.length - 1 < B.length, B[B.length - 1] = top
  used : ∀ k (h : k < B.length - 1), (B.flatMap (usN ml)).contains (B[k]'(by omega)) = true
theorem bel_ok {f : FT} {top : Bytes} (h0 : checkP f = 0) (hb : belE f top = 0) : BelOk f.ml (ordF f) (belL f top) top := by
  obtain ⟨-, hT, -, out, ho⟩ := checkP_zero h0
  obtain ⟨w1, w2, -, -⟩ := without_ok f top h0 hb none 0
  obtain ⟨-, hT2, -, out2, ho2⟩ := checkP_zero w1
  have hof : ordF f = out := by unfold ordF; rw [if_neg (by rw [h0]; simp), ho]; rfl
  have hd := (twice_nodup f.ml [] hT).1
  have hok := (ordN_ok f.ml f.ml.length [] out (OrdOk.nil _) ho).1
  have hct : out.contains top = true := by
    unfold belE at hb
    rw [if_neg (by rw [h0]; simp), hof] at hb
    cases e : out.contains top
    · rw [e, if_neg (by decide)] at hb; exact absurd hb (by decide)
    · rfl
  have hB : belL f top = belowP (usN f.ml) out top := by unfold belL; rw [if_neg (by rw [h0]; simp), hof, if_pos hct]
  obtain ⟨B, hBB⟩ : ∃ B, belL f top = B := ⟨_, rfl⟩
  rw [hBB] at w2 hT2 ho2 hB w1
  rw [hBB, hof]
  have hB2 : out2 = B := by
    rw [← w2]; unfold ordF; rw [if_neg (by rw [w1]; simp)]
    show out2 = (ordN (partM B f.ml) (partM B f.ml).length []).getD []
    rw [show ordN (partM B f.ml) (partM B f.ml).length [] = some out2 from ho2]; rfl
  subst hB2
  have hpm : ∀ m, m ∈ partM out2 f.ml → m ∈ f.ml := fun m hm => (List.mem_filter.1 hm).1
  have hok2 := (ordN_ok _ _ [] out2 (OrdOk.nil _) ho2).1
  have hat : ∀ k (h : k < out2.length), ∃ m ∈ f.ml, f.ml.find? (fun x => x.nm == out2[k]) = some m ∧ usesM m = usN f.ml out2[k] ∧ ∀ u ∈ usesM m, (out2.take k).contains u = true := fun k hk => by
    obtain ⟨m, hm, hn, hu⟩ := hok2.behind k hk
    refine ⟨m, hpm m hm, ?_, ?_, fun u hu2 => List.contains_iff_mem.2 (hu u hu2)⟩
    · rw [← hn]; exact find_nm hd (hpm m hm)
    · rw [← hn]; exact (usN_of hd (hpm m hm)).symm
  obtain ⟨F, hF⟩ : ∃ F, wantR (usN f.ml) [top] out.reverse = F := ⟨_, rfl⟩
  have hmF : ∀ n, n ∈ out2 ↔ n ∈ out ∧ n ∈ F := fun n => by
    rw [hB]; unfold belowP; rw [hF, List.mem_filter, List.contains_iff_mem]
  have htop : top ∈ out2 := (hmF top).2 ⟨List.contains_iff_mem.1 hct, by rw [← hF]; exact wantR_keeps _ _ _ _ (by simp)⟩
  have hpos : 0 < out2.length := List.length_pos_of_mem htop
  have hlast : ∃ h : out2.length - 1 < out2.length, out2[out2.length - 1] = top := by
    refine ⟨by omega, ?_⟩
    obtain ⟨i, hi, hit⟩ := List.mem_iff_getElem.1 htop
    have hQ : ∀ x ∈ F, x ∈ out2.take (i + 1) := by
      rw [← hF]
      refine want_inv (usN f.ml) (fun x => x ∈ out2.take (i + 1)) out.reverse [top] (fun x hx => ?_) (fun n hn hq u hu => ?_)
      · rw [List.mem_singleton.1 hx, ← hit]
        exact List.mem_take_iff_getElem.2 ⟨i, by omega, rfl⟩
      · obtain ⟨j, hj, e⟩ := List.mem_iff_getElem.1 hq
        rw [List.length_take] at hj
        rw [List.getElem_take] at e
        obtain ⟨m, _, _, h3, h4⟩ := hat j (by omega)
        rw [← e, ← h3] at hu
        have h5 := List.contains_iff_mem.1 (h4 u hu)
        have : out2.take j = (out2.take (i + 1)).take j := by rw [List.take_take, Nat.min_eq_left (by omega)]
        rw [this] at h5
        exact List.mem_of_mem_take h5
    have h6 := hQ _ ((hmF _).1 (List.getElem_mem (show out2.length - 1 < out2.length by omega))).2
    have h7 := idx_take_lt hok2.nodup (by omega) h6
    have : out2.length - 1 = i := by omega
    simp only [this, hit]
  refine ⟨hat, hok2.nodup, ?_, hlast, fun k hk => ?_⟩
  · rw [hB]; exact List.filter_sublist
  · have hkB : out2[k]'(by omega) ∈ F := ((hmF _).1 (List.getElem_mem (show k < out2.length by omega))).2
    rw [← hF] at hkB
    rcases want_used _ _ _ _ hkB with h1 | ⟨n, hn, h1, h2⟩
    · exfalso
      have h2 := List.mem_singleton.1 h1
      obtain ⟨hl, he⟩ := hlast
      have := nodup_inj7 hok2.nodup (by omega) hl (h2.trans he.symm)
      omega
    · refine List.contains_iff_mem.2 (List.mem_flatMap.2 ⟨n, ?_, h2⟩)
      rw [hF] at h1
      exact (hmF n).2 ⟨by simpa using hn, h1⟩
theorem sub_step {x y : Bytes} {l m : List Bytes} (h : List.Sublist (x :: l) (y :: m)) (hne : y ≠ x) : List.Sublist (x :: l) m := by
  cases h with
  | cons _ h => exact h
  | cons_cons _ h => exact absurd rfl hne
end Go.Proofs.YtbfhbblbjgkolaaGreatDoor
