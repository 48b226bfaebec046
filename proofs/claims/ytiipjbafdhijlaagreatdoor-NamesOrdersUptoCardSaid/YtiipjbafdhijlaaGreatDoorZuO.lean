/-
  NuO, in one text.
-/
import Derived.Test.YtiipjbafdhijlaaGreatDoorZuM
import Derived.Deep.RegionLaw
import Derived.RegionTactic
import Derived.BigRegion
import Derived.Deep.DeepCutAuto
namespace Go.Proofs.YtiipjbafdhijlaaGreatDoor
open Go Go.RowKit
set_option linter.unusedVariables false
set_option linter.unusedSimpArgs false
open Go.Sort
theorem ord_some9 {f : FT} (h : checkP f = 0) : twiceB [] f.ml = false ∧ ∃ out, ordN f.ml f.ml.length [] = some out ∧ ordF f = out := by
 have h1 : checkN f.ml = 0 := by
  unfold checkP at h
  by_cases e : checkF f ≠ 0
  ·rw [if_pos e] at h; exact absurd h e
  ·rwa [if_neg e] at h
 unfold checkN at h1
 cases e1 : twiceB [] f.ml with
 | true => rw [e1, if_pos rfl] at h1; exact absurd h1 (by decide)
 | false =>
  rw [e1, if_neg (by decide)] at h1
  cases e2 : hasAllB f.ml with
  | false => rw [e2, if_pos rfl] at h1; exact absurd h1 (by decide)
  | true =>
   rw [e2, if_neg (by decide)] at h1
   cases e3 : ordN f.ml f.ml.length [] with
   | none => rw [e3] at h1; simp at h1
   | some out => exact ⟨rfl, out, rfl, by unfold ordF; rw [if_neg (by simp [h]), e3]; rfl⟩
theorem ord_is9 {f : FT} (h : checkP f = 0) : ordR f.ml f.ml.length [] = ordF f := by
 obtain ⟨-, out, h1, h2⟩ := ord_some9 h
 rw [h2]; exact (ordR_is f.ml _ _).1 out h1
theorem ord_ok9 {f : FT} (h : checkP f = 0) : OrdOk f.ml (ordF f) := by
 obtain ⟨-, out, h1, h2⟩ := ord_some9 h
 rw [h2]; exact (ordN_ok _ _ _ _ (OrdOk.nil _) h1).1
theorem ord_all9 {f : FT} (h : checkP f = 0) {m : MT} (hm : m ∈ f.ml) : m.nm ∈ ordF f := by
 obtain ⟨-, out, ho, h2⟩ := ord_some9 h
 rw [h2]
 have hok := (ordN_ok f.ml f.ml.length [] out (OrdOk.nil _) ho).1
 have hlen : out.length = f.ml.length := by simpa using (ordN_ok f.ml f.ml.length [] out (OrdOk.nil _) ho).2
 by_cases hc : m.nm ∈ out
 ·exact hc
 ·exfalso
  have h1 := nodup_sub_len (m.nm :: out) (f.ml.map (·.nm)) (List.nodup_cons.2 ⟨hc, hok.nodup⟩) (fun n hn => by
   rcases List.mem_cons.1 hn with e | e
   ·rw [e]; exact List.mem_map.2 ⟨m, hm, rfl⟩
   ·obtain ⟨x, hx, hn2⟩ := hok.sub n e
    exact List.mem_map.2 ⟨x, hx, hn2⟩)
  rw [List.length_cons, List.length_map] at h1
  omega
theorem find_in9 {f : FT} (h : checkP f = 0) (top : Bytes) : (f.ml.find? (fun m => m.nm == top)).isSome = (ordF f).contains top := by
 rw [Bool.eq_iff_iff, List.contains_iff_mem]
 constructor
 ·intro h1
  obtain ⟨m, hm⟩ := Option.isSome_iff_exists.1 h1
  have h2 := List.find?_some hm
  rw [beq_iff_eq] at h2
  rw [← h2]
  exact ord_all9 h (List.mem_of_find?_eq_some hm)
 ·intro h1
  obtain ⟨m, hm, e⟩ := (ord_ok9 h).sub top h1
  rw [List.find?_isSome]
  exact ⟨m, hm, by rw [beq_iff_eq]; exact e⟩
/-- The answer of Order: the document's. -/
def OrdR (f : FT) (W : World) (e : Ending) (W' : World) : Prop := ∃ a c, e = .returned (.tuple #[.slice a (ordF f).length c, .int .i64 (checkP f)]) ∧ (a = none → c = 0) ∧ LiesS W' a (ordF f) ∧ Below W.heap.size W W'
set_option maxHeartbeats 4000000 in
set_option maxRecDepth 100000 in
theorem refOrder_any (W : World) (n0 : Nat) (f : FT) (hn0 : n0 ≤ W.heap.size) (he : EnvA W) (hwf : f.Wf) (hin : f.In n0 W) (hbk : f.bk ≤ 4500000) (hsz : f.sz ≤ 2000) :
  Calls Tryz.prog 13 #[f.val] W (OrdR f W) := by
 have hll : f.ml.length ≤ 4500000 := by
  have h1 := MT.bkL_len f.ml
  have h2 : 1 + MT.bkL f.ml ≤ 4500000 := hbk
  omega
 have hil : ∀ m ∈ f.ml, IT.szL m.il ≤ 6000000 := fun m hm => by
  have h1 := MT.szL_mem hm
  have h2 : MT.szL f.ml ≤ 2000 := hsz
  have h3 := (toldM_sz m).2
  omega
 have q2 : ∀ V, Below W.heap.size W V → checkP f = 0 → Calls Tryz.prog 36 #[f.val] V (RowR (ordF f) V) := fun V hV h0 => by
  rw [← ord_is9 h0]; exact reforder_any f (by omega) hil n0 V (by have := hV.size; omega) (FT.In.keep (Below.keptTo hV hn0) _ hin)
 have hnil : checkP f ≠ 0 → ordF f = [] := fun h => by unfold ordF; rw [if_pos h]
 have q1 := fun V (hV : Below W.heap.size W V) => refCheck9 V n0 f (by have := hV.size; omega) (he.keep hV) hwf (FT.In.keep (Below.keptTo hV hn0) _ hin) hbk hsz
 unfold OrdR
 obtain ⟨CP, hCP⟩ : ∃ C, checkP f = C := ⟨_, rfl⟩
 obtain ⟨L, hL⟩ : ∃ L, ordF f = L := ⟨_, rfl⟩
 simp only [hCP, hL] at q1 q2 hnil ⊢
 clear hCP hL hin hwf he hbk hsz hil hll
 obtain ⟨ma, mc, ml⟩ := f
 simp only [FT.val, FT.cells] at q1 q2 ⊢
 obtain ⟨gx, hgx⟩ : ∃ gx, W.heap.size = gx := ⟨_, rfl⟩
 obtain ⟨W1, hW1⟩ : ∃ W1, W.alloc (.cells #[.slice ma ml.length mc] 24) = W1 := ⟨_, rfl⟩
 have hb0 : Below W.heap.size W W1 := by rw [← hW1]; exact (Below.refl _ _).alloc (Nat.le_refl _) _
 have BX : W1.heap[gx]? = some (.cells #[.slice ma ml.length mc] 24 (0, 0)) := by rw [← hW1, ← hgx]; exact World.alloc_heap_new W _
 have y0 : W1.cell? ⟨gx, 0, none⟩ = some (.slice ma ml.length mc) := by simp [World.cell?, BX]
 have q := q1 W1 hb0
 have HB := Lib.hid hb0
 have HN := Lib.hid hnil
 have HQ2 := Lib.hid q2
 clear hb0 BX q1 q2 hnil
 go_enter Tryz.func13, Tryz.ntmps13
 go_wp2_with fail
 (try rw [hW1])
 clear hW1
 refine q.mono ?_
 clear q
 rintro e w1 ⟨rfl, hb1⟩
 replace HB := Lib.hid (HB.out.trans (hb1.mono HB.out.size))
 replace y0 := keep_cell hb1 y0
 clear hb1
 by_cases hc : CP ≠ 0
 ·have e1 : (CP != 0) = true := by simpa using hc
  have hn := HN.out hc
  subst hn
  go_wp2
  go_ret2
  first
   | exact ⟨none, 0, rfl, fun _ => rfl, .inl rfl, HB.out⟩
   | exact ⟨none, 0, rfl, fun _ => rfl, .inl rfl, by have h9 := HB.out; rw [hgx] at h9; exact h9⟩
 ·replace hc : CP = 0 := Decidable.byContradiction hc
  subst hc
  have q := HQ2.out w1 HB.out rfl
  go_wp2_with fail
  refine q.mono ?_
  clear q
  rintro e w2 ⟨a, c, rfl, hlc, hac, hl, hb2⟩
  replace HB := Lib.hid (HB.out.trans (hb2.mono HB.out.size))
  have HL := Lib.hid (And.intro hac hl)
  clear hb2 y0 hl
  go_wp2
  go_ret2
  first
   | exact ⟨a, c, rfl, HL.out.1, HL.out.2, HB.out⟩
   | exact ⟨a, c, rfl, HL.out.1, HL.out.2, by have h9 := HB.out; rw [hgx] at h9; exact h9⟩
/-- The answer of Below: the document's. -/
def BelR (f : FT) (top : Bytes) (W : World) (e : Ending) (W' : World) : Prop := ∃ a c, e = .returned (.tuple #[.slice a (belL f top).length c, .int .i64 (belE f top)]) ∧ LiesS W' a (belL f top) ∧ Below W.heap.size W W'
theorem box4n {w : World} {g : Nat} {v0 v1 v2 v3 : Value} {t : TypeId} (h : w.heap[g]? = some (.cells #[v0, v1, v2, v3] t (0, 0))) : (w.cell? ⟨g, 0, none⟩ = some v0 ∧ w.cell? ⟨g, 1, none⟩ = some v1 ∧ w.cell? ⟨g, 2, none⟩ = some v2 ∧ w.cell? ⟨g, 3, none⟩ = some v3) ∧ w.frozen? ⟨g, 0, none⟩ = false ∧ w.frozen? ⟨g, 1, none⟩ = false ∧ w.frozen? ⟨g, 2, none⟩ = false ∧ w.frozen? ⟨g, 3, none⟩ = false := by
 refine ⟨⟨?_, ?_, ?_, ?_⟩, ?_, ?_, ?_, ?_⟩ <;> simp [World.cell?, World.frozen?, h]
theorem own_one9 (w : World) (s : Bytes) : (w.alloc (.cells #[.string (bs s)] 9)).ownsRow w.heap.size 9 1 (.slice (some ⟨w.heap.size, 0, none⟩) 1 1) 1 [.string (bs s)] := ⟨rfl, .inr ⟨w.heap.size, 1, #[.string (bs s)], rfl, Nat.le_refl _, World.alloc_heap_new w _, Nat.le_refl _, by decide, rfl, rfl⟩⟩
/-- A module in a variable of its own. -/
def ModAt (W0 V : World) (g : Nat) (y : MT) : Prop := V.heap[g]? = some (.cells y.cells.toArray 39 (0, 0)) ∧ Below W0.heap.size W0 V
theorem mod_new9 {w V : World} {y : MT} (hb : Below w.heap.size w V) : ModAt w (V.alloc (.cells y.cells.toArray 39)) V.heap.size y := ⟨World.alloc_heap_new V _, hb.alloc hb.size _⟩
def putM (V : World) (z : Nat) (v0 v1 v2 v3 : Value) : World := (((V.setCell ⟨z, 0, none⟩ v0).setCell ⟨z, 1, none⟩ v1).setCell ⟨z, 2, none⟩ v2).setCell ⟨z, 3, none⟩ v3
theorem mod_put9 {w V : World} {v0 v1 v2 v3 : Value} (hb : Below (w.alloc (.cells #[.string ⟨#[]⟩, .slice none 0 0, .slice none 0 0, .slice none 0 0] 39)).heap.size (w.alloc (.cells #[.string ⟨#[]⟩, .slice none 0 0, .slice none 0 0, .slice none 0 0] 39)) V) : (putM V w.heap.size v0 v1 v2 v3).heap[w.heap.size]? = some (.cells #[v0, v1, v2, v3] 39 (0, 0)) ∧ Below w.heap.size w (putM V w.heap.size v0 v1 v2 v3) := by
 have hs := hb.size
 rw [World.size_alloc] at hs
 have hbz : V.heap[w.heap.size]? = some (.cells #[.string ⟨#[]⟩, .slice none 0 0, .slice none 0 0, .slice none 0 0] 39 (0, 0)) := (hb.block w.heap.size (by rw [World.size_alloc]; omega)).trans (World.alloc_heap_new w _)
 have hbw : Below w.heap.size w V := ((Below.refl _ _).alloc (Nat.le_refl _) _).trans (hb.mono (by rw [World.size_alloc]; omega))
 unfold putM
 refine ⟨by simp [World.setCell, Array.getElem?_modify, hbz], ?_⟩
 exact (((hbw.setCell (p := ⟨w.heap.size, 0, none⟩) (Nat.le_refl _) _).setCell (p := ⟨w.heap.size, 1, none⟩) (Nat.le_refl _) _).setCell (p := ⟨w.heap.size, 2, none⟩) (Nat.le_refl _) _).setCell (p := ⟨w.heap.size, 3, none⟩) (Nat.le_refl _) _
/-- What has been gone through of the order, from its end. -/
structure BackR (W V : World) (us : Bytes → List Bytes) (L R : List Bytes) (k : Nat) (IN OUT : List Bytes) (ia oa : Option Addr) : Prop where
 le : k ≤ L.length
 is : belowR us IN OUT (L.take k).reverse = R
 lin : LiesS V ia IN
 lout : LiesS V oa OUT
 nin : IN.length ≤ 1 + (L.length - k) * 2000
 nout : OUT.length ≤ L.length - k
 low : Below W.heap.size W V
theorem back_step9 {us : Bytes → List Bytes} {L IN OUT : List Bytes} {k : Nat} (h : k < L.length) : belowR us IN OUT (L.take (k + 1)).reverse = if IN.contains L[k] = true then belowR us (addN IN (us L[k])) (L[k] :: OUT) (L.take k).reverse else belowR us IN OUT (L.take k).reverse := by
 rw [List.take_succ_eq_append_getElem h, List.reverse_append, List.reverse_singleton, List.singleton_append, belowR]
set_option maxHeartbeats 16000000 in
set_option maxRecDepth 100000 in
theorem refBelow_any (W : World) (n0 : Nat) (f : FT) (top : Bytes) (htop : top.length ≤ 12000000) (hn0 : n0 ≤ W.heap.size) (he : EnvA W) (hwf : f.Wf) (hin : f.In n0 W) (hbk : f.bk ≤ 4500000) (hsz : f.sz ≤ 2000) :
  Calls Tryz.prog 15 #[f.val, .string (bs top)] W (BelR f top W) := by
 have hll : f.ml.length ≤ 4500000 := by
  have h1 := MT.bkL_len f.ml
  have h2 : 1 + MT.bkL f.ml ≤ 4500000 := hbk
  omega
 have hm2 : ∀ m ∈ f.ml, IT.szL m.il ≤ 2000 ∧ m.bk ≤ 4500000 := fun m hm => by
  have h1 := MT.szL_mem hm
  have h2 : MT.szL f.ml ≤ 2000 := hsz
  have h3 := (toldM_sz m).2
  have h4 := MT.bkL_mem hm
  have h5 : 1 + MT.bkL f.ml ≤ 4500000 := hbk
  omega
 have q1 := fun V (hV : Below W.heap.size W V) => refOrder_any V n0 f (by have := hV.size; omega) (he.keep hV) hwf (FT.In.keep (Below.keptTo hV hn0) _ hin) hbk hsz
 have qF := fun V (hV : Below W.heap.size W V) (s : Bytes) (hs : s.length ≤ 12000000) => refFind_any V n0 f s hs (by have := hV.size; omega) (FT.In.keep (Below.keptTo hV hn0) _ hin) (by omega)
 have hmin : ∀ m ∈ f.ml, ∀ V, Below W.heap.size W V → m.In n0 V := fun m hm V hV => by
  have h9 := FT.In.keep (Below.keptTo hV hn0) _ hin
  exact InRow.all h9 m hm
 have hE : belE f top = if checkP f ≠ 0 then checkP f else if (ordF f).contains top = true then 0 else 71 := rfl
 have hBL : belL f top = if checkP f ≠ 0 then [] else if (ordF f).contains top = true then belowP (usN f.ml) (ordF f) top else [] := rfl
 have hfd : checkP f = 0 → (f.ml.find? (fun m => m.nm == top)).isSome = (ordF f).contains top := fun h => find_in9 h top
 have hofn : checkP f = 0 → ∀ s ∈ ordF f, s.length ≤ 12000000 ∧ ∃ m ∈ f.ml, f.ml.find? (fun m => m.nm == s) = some m := fun h s hs => by
  have h9 := find_in9 h s
  rw [List.contains_iff_mem.2 hs] at h9
  obtain ⟨m, hm⟩ := Option.isSome_iff_exists.1 h9
  have hmm := List.mem_of_find?_eq_some hm
  have h2 := List.find?_some hm
  rw [beq_iff_eq] at h2
  refine ⟨?_, m, hmm, hm⟩
  rw [← h2]
  have h5 := (hm2 m hmm).2
  clear h2 hm hmm h9
  obtain ⟨nm, pa, pc, pl, ta, tc, tl, ia, ic, il⟩ := m
  simp only [MT.bk] at h5
  show nm.length ≤ 12000000
  omega
 have hbr : checkP f = 0 → belowR (usN f.ml) [top] [] (ordF f).reverse = belowP (usN f.ml) (ordF f) top := fun h => by
  have hnd : (f.ml.map (·.nm)).Nodup := (twice_nodup _ _ (ord_some9 h).1).1
  exact below_ref _ _ _ (back_of hnd (ord_ok9 h))
 have hol : checkP f = 0 → (ordF f).length ≤ 2000 := fun h => by
  have h1 := (ord_ok9 h).len
  have h2 := MT.szL_len f.ml
  have h3 : MT.szL f.ml ≤ 2000 := hsz
  omega
 unfold BelR
 obtain ⟨CP, hCP⟩ : ∃ C, checkP f = C := ⟨_, rfl⟩
 obtain ⟨L, hL⟩ : ∃ L, ordF f = L := ⟨_, rfl⟩
 obtain ⟨BE, hBE⟩ : ∃ x, belE f top = x := ⟨_, rfl⟩
 obtain ⟨BL, hBLx⟩ : ∃ x, belL f top = x := ⟨_, rfl⟩
 unfold OrdR at q1
 simp only [hCP, hL, hBE, hBLx] at q1 hE hBL hfd hofn hbr hol ⊢
 clear hCP hL hBE hBLx hin hwf he hbk hsz
 obtain ⟨ma, mc, ml⟩ := f
 simp only [FT.val, FT.cells] at q1 qF hfd hofn hbr hm2 hmin hBL hll ⊢
 obtain ⟨gx, hgx⟩ : ∃ gx, W.heap.size = gx := ⟨_, rfl⟩
 obtain ⟨W1, hW1⟩ : ∃ W1, W.alloc (.cells #[.slice ma ml.length mc] 24) = W1 := ⟨_, rfl⟩
 have hb0 : Below W.heap.size W W1 := by rw [← hW1]; exact (Below.refl _ _).alloc (Nat.le_refl _) _
 have BX : W1.heap[gx]? = some (.cells #[.slice ma ml.length mc] 24 (0, 0)) := by rw [← hW1, ← hgx]; exact World.alloc_heap_new W _
 have y0 : W1.cell? ⟨gx, 0, none⟩ = some (.slice ma ml.length mc) := by simp [World.cell?, BX]
 have q := q1 W1 hb0
 have HB := Lib.hid hb0
 have HA := Lib.hid (And.intro hE (And.intro hBL (And.intro hfd (And.intro hofn (And.intro hbr hol)))))
 have HQF := Lib.hid qF
 have HM := Lib.hid (And.intro hm2 (And.intro hmin hll))
 clear hb0 BX q1 qF hE hBL hfd hofn hbr hol hm2 hmin
 go_enter Tryz.func15, Tryz.ntmps15
 go_wp2_with fail
 (try rw [hW1])
 clear hW1
 refine q.mono ?_
 clear q
 rintro e w1 ⟨la, lc, rfl, hac, hl, hb1⟩
 replace HB := Lib.hid (HB.out.trans (hb1.mono HB.out.size))
 replace y0 := keep_cell hb1 y0
 have HL := Lib.hid (And.intro hac hl)
 clear hb1 hl hac
 by_cases hc : CP ≠ 0
 ·have e1 : (CP != 0) = true := by simpa using hc
  go_wp2
  go_ret2
  refine ⟨none, 0, ?_, ?_, ?_⟩
  ·rw [HA.out.1, HA.out.2.1, if_pos hc, if_pos hc]; rfl
  ·rw [HA.out.2.1, if_pos hc]; exact .inl rfl
  ·first | exact HB.out | (have h9 := HB.out; rw [hgx] at h9; exact h9)
 ·replace hc : CP = 0 := Decidable.byContradiction hc
  subst hc
  obtain ⟨hE, hBL, hfd, hofn, hbr, hol⟩ := HA.out
  rw [if_neg (by simp)] at hE hBL
  replace hfd := hfd rfl
  replace hofn := hofn rfl
  replace hbr := hbr rfl
  replace hol := hol rfl
  rw [← hfd] at hE hBL
  clear hfd HA
  have q := HQF.out w1 HB.out top htop
  go_upto_region 4 with (fail)
  go_cut [9] from 26 to 32 (fun p wx => p = .bool (ml.find? (fun m => m.nm == top)).isSome ∧ Below w1.heap.size w1 wx)
  case first =>
   go_wp2_with fail
   refine q.mono ?_
   rintro e w2 ⟨hb2, ⟨h1, rfl⟩ | ⟨m, hm, h1, rfl⟩⟩
   ·have HB2 := Lib.hid hb2
    have hz2 := hb2.size
    have HF1 := Lib.hid h1
    clear hb2 h1 q
    go_wp2
    go_meet
    refine ⟨by rw [HF1.out]; rfl, ?_⟩
    have hb2 := HB2.out
    (repeat (first | exact Below.refl _ _ | assumption | (refine Below.setCell ?_ (by first | (simp; done) | (simp; omega) | omega) _) | (refine Below.alloc ?_ (by first | (simp; done) | (simp; omega) | omega) _) | (refine below_drewN ?_ _) | (refine Below.drew ?_)))
   ·have HB2 := Lib.hid hb2
    have hz2 := hb2.size
    have HF1 := Lib.hid h1
    obtain ⟨mn, pa, pc, pl, ta, tc, tl, ia, ic, il⟩ := m
    simp only [MT.val, MT.cells]
    clear hb2 h1 q
    go_wp2
    go_meet
    refine ⟨by rw [HF1.out]; rfl, ?_⟩
    have hb2 := HB2.out
    (repeat (first | exact Below.refl _ _ | assumption | (refine Below.setCell ?_ (by first | (simp; done) | (simp; omega) | omega) _) | (refine Below.alloc ?_ (by first | (simp; done) | (simp; omega) | omega) _) | (refine below_drewN ?_ _) | (refine Below.drew ?_)))
  case rest =>
   obtain ⟨rfl, hb2⟩ := hcut
   generalize wc = w2 at *
   replace HB := Lib.hid (HB.out.trans (hb2.mono HB.out.size))
   replace y0 := keep_cell hb2 y0
   replace HL := Lib.hid (And.intro HL.out.1 (lies_keep7 HL.out.2 hb2))
   clear hb2 q
   cases hfs : (ml.find? (fun m => m.nm == top)).isSome with
   | false =>
    rw [hfs, if_neg (by decide)] at hE hBL
    go_wp2
    go_ret2
    refine ⟨none, 0, ?_, ?_, ?_⟩
    ·rw [hE, hBL]; rfl
    ·rw [hBL]; exact .inl rfl
    ·first | exact HB.out | (have h9 := HB.out; rw [hgx] at h9; exact h9)
   | true =>
    rw [hfs, if_pos rfl] at hE hBL
    rw [← hbr] at hBL
    have HE := Lib.hid (And.intro hE hBL)
    have HOF := Lib.hid hofn
    clear hE hBL hbr hofn hfs
    obtain ⟨R, hR⟩ : ∃ R, belowR (usN ml) [top] [] L.reverse = R := ⟨_, rfl⟩
    have HR := Lib.hid hR
    clear hR
    have hlw := HL.out.2
    have y0A := fun O => alloc_cell y0 O
    obtain ⟨w3, hw3⟩ : ∃ w3, w2.alloc (.cells #[.string (bs top)] 9) = w3 := ⟨_, rfl⟩
    obtain ⟨gt, hgt⟩ : ∃ gt, w2.heap.size = gt := ⟨_, rfl⟩
    have hb3 : Below w2.heap.size w2 w3 := by rw [← hw3]; exact (Below.refl _ _).alloc (Nat.le_refl _) _
    have hl3 : LiesS w3 (some ⟨gt, 0, none⟩) [top] := by rw [← hw3, ← hgt]; exact lies_new7 _ _ _
    have HLW := Lib.hid (And.intro HL.out.1 (lies_keep7 hlw hb3))
    replace HB := Lib.hid (HB.out.trans (hb3.mono HB.out.size))
    have hst : BackR w3 w3 (usN ml) L R L.length [top] [] (some ⟨gt, 0, none⟩) none := ⟨Nat.le_refl _, by rw [List.take_length]; exact HR.out, hl3, .inl rfl, by simp, by simp, Below.refl _ _⟩
    have HST := Lib.hid hst
    replace y0 := keep_cell hb3 y0
    clear hst hl3 hb3 hlw y0A
    go_wp2_with fail
    (try rw [hw3])
    (try rw [hgt])
    clear hw3 hgt HL
    go_loopg [10, 11, 12] (L.length + 1) (fun gh v1 v2 v3 wr => ∃ (k : Nat) (IN OUT : List Bytes) (ia oa : Option Addr) (ic oc : Nat), v1 = .slice ia IN.length ic ∧ v2 = .slice oa OUT.length oc ∧ v3 = .int .i64 ((k : Int) - 1) ∧ k + 1 = gh ∧ (ia = none → ic = 0) ∧ (oa = none → oc = 0) ∧ BackR w3 wr (usN ml) L R k IN OUT ia oa)
    case atStart => exact ⟨L.length, [top], [], some ⟨gt, 0, none⟩, none, 1, 0, rfl, rfl, rfl, rfl, by (intro h; cases h), fun _ => rfl, HST.out⟩
    case round =>
     obtain ⟨k, IN, OUT, ia, oa, ic, oc, rfl, rfl, rfl, hkg, hic, hoc, hbk⟩ := hrel
     have HK := Lib.hid hbk
     have hkL := hbk.le
     have y0 := keep_cell hbk.low y0
     have hlw := lies_keep7 HLW.out.2 hbk.low
     cases k with
     | zero =>
      have d2 : decide ((0 : Int) ≤ ((0 : Nat) : Int) - 1) = false := by decide
      have d3 : decide ((0 : Int) ≤ -1) = false := by decide
      go_wp2
      go_ret2
      obtain ⟨h1, h2⟩ := HE.out
      have h3 := HK.out.is
      simp only [List.take_zero, List.reverse_nil, belowR] at h3
      rw [h1, h2, HR.out, ← h3]
      exact ⟨oa, oc, rfl, HK.out.lout, by
       have h9 := HB.out.trans (HK.out.low.mono HB.out.size)
       first | exact h9 | (rw [hgx] at h9; exact h9)⟩
     | succ k =>
      have hlt : k < L.length := by omega
      have e0 : (((k + 1 : Nat) : Int) - 1) = (k : Int) := by omega
      simp only [e0]
      have d2 : decide ((0 : Int) ≤ (k : Int)) = true := by rw [decide_eq_true_eq]; omega
      have x1 : (k : Int) < (L.length : Int) := by omega
      have x2 : (0 : Int) ≤ (k : Int) := by omega
      have hstep := HK.out.is
      rw [back_step9 hlt] at hstep
      have hsm : L[k] ∈ L := List.getElem_mem hlt
      obtain ⟨hsl, m, hmm, hfi⟩ := HOF.out _ hsm
      have hlw2 := hlw
      obtain ⟨b, o, rfl, hcl⟩ := hlw2.resolve_left (by intro h; rw [h] at hlt; cases hlt)
      have r0 : wr.cell? ⟨b, o + k, none⟩ = some (.string (bs L[k])) := hcl k hlt
      have husn : usN ml L[k] = usesM m := by unfold usN; rw [hfi]
      obtain ⟨s, hs⟩ : ∃ s, L[k] = s := ⟨_, rfl⟩
      rw [hs] at hstep hsl hfi r0 husn
      rw [husn] at hstep
      have hul := usesM_len9 m
      have hmz := (HM.out.1 m hmm).1
      obtain ⟨U, hU⟩ : ∃ U, usesM m = U := ⟨_, rfl⟩
      rw [hU] at hstep hul
      have qa := amongS_any ia ic IN s (by have := hbk.nin; omega) wr hbk.lin
      obtain ⟨KK, hKK⟩ : ∃ x, IN.contains s = x := ⟨_, rfl⟩
      rw [hKK] at qa hstep
      have HS := Lib.hid hstep
      have HU := Lib.hid hU
      have HMM := Lib.hid hmm
      have HFI := Lib.hid hfi
      have HSL := Lib.hid hsl
      have HUL : Hid (U.length ≤ 2000) := Lib.hid (by omega)
      have HHL := Lib.hid hlw
      obtain ⟨gg, rfl⟩ : ∃ gg, gk = gg + 1 := ⟨gk - 1, by omega⟩
      clear hstep hsm hsl hfi hcl husn hs hul hmz hU hKK hbk hlw hmm e0
      go_wp2_with fail
      refine qa.mono ?_
      clear qa
      rintro e w4 ⟨rfl, n4, hw4⟩
      have hb4 : Below wr.heap.size wr w4 := by rw [hw4]; exact below_drewN (Below.refl _ _) n4
      replace y0 := keep_cell hb4 y0
      replace r0 := keep_cell hb4 r0
      have HB4 := Lib.hid hb4
      clear hw4
      cases KK with
      | false =>
       have HN : Hid (BackR w3 w4 (usN ml) L R k IN OUT ia oa) := Lib.hid ⟨by omega, HS.out, lies_keep7 HK.out.lin hb4, lies_keep7 HK.out.lout hb4, by have := HK.out.nin; omega, by have := HK.out.nout; omega, HK.out.low.trans (hb4.mono HK.out.low.size)⟩
       clear hb4 HS HK HU HMM HFI HSL HUL HHL
       go_wp2
       go_roundg gg
       case rel => exact ⟨k, IN, OUT, ia, oa, ic, oc, rfl, rfl, rfl, by omega, hic, hoc, HN.out⟩
       case measure => omega
      | true =>
       have hlo4 := lies_keep7 HK.out.lout hb4
       have hlen4 : 1 + OUT.length ≤ 4000 := by have := HK.out.nout; omega
       have hlo5 := lies_keep7 hlo4 ((Below.refl w4.heap.size w4).alloc (Nat.le_refl _) (.cells #[.string (bs s)] 9))
       clear hb4 hlo4
       obtain ⟨mn, pa, pc, pl, ta, tc, tl, ja, jc, il⟩ := m
       have q5 : ∀ V, Below w4.heap.size w4 V → Calls Tryz.prog 39 #[.agg #[.slice ma ml.length mc], .string (bs s)] V fun e V' => Below V.heap.size V V' ∧ e = .returned (.tuple #[.agg #[.string (bs mn), .slice pa pl.length pc, .slice ta tl.length tc, .slice ja il.length jc], .bool true]) := fun V hV => by
        have hV2 := (HB.out.trans (HK.out.low.mono HB.out.size)).trans ((HB4.out.trans (hV.mono HB4.out.size)).mono (HB.out.trans (HK.out.low.mono HB.out.size)).size)
        refine (HQF.out V hV2 s HSL.out).mono ?_
        rintro e V' ⟨h1, ⟨h2, _⟩ | ⟨m2, hm2, h2, h3⟩⟩
        ·rw [HFI.out] at h2; cases h2
        ·have e9 := HFI.out.symm.trans h2
         cases e9
         exact ⟨h1, h3⟩
       have HQ5 := Lib.hid q5
       clear q5
       go_upto_region 14 with (at_builtin; refine wpList_append_strs7 rfl (.tmp 53) (.tmp 54) rfl w4.heap.size (.slice (some ⟨w4.heap.size, 0, none⟩) 1 1) 1 [.string (bs s)] rfl (own_one9 w4 s) oa OUT oc rfl hoc hlo5 (by omega) (by simp) ?_; intro v5 w5 own5 hg5; have hb5 : Below w4.heap.size w4 w5 := ((Below.refl _ _).alloc (Nat.le_refl _) _).grown hg5 (by simp) (fun k e => by cases e; exact Nat.le_refl _); rw [show 1 + OUT.length = (s :: OUT).length by simp; omega, show [Value.string (bs s)] ++ strs OUT = strs (s :: OUT) by simp [strs]] at own5; obtain ⟨oa2, oc2, rfl, -, hoc2, hlo6⟩ := own_row9 own5; have HO5 := Lib.hid hlo6; have HB5 := Lib.hid hb5; replace y0 := keep_cell hb5 y0; replace r0 := keep_cell hb5 r0; clear own5 hg5 hb5 hlo6)
       skip
       clear hlo5
       have y0A := fun O => alloc_cell y0 O
       have r0A := fun O => alloc_cell r0 O
       have HQ6 := Lib.hid (fun V (hV : Below w5.heap.size w5 V) => HQ5.out V (HB5.out.trans (hV.mono HB5.out.size)))
       clear HQ5
       go_cut [13, 14] from 56 to 64 (fun p q wx => ∃ gm : Nat, p = .pointer (some ⟨gm, 0, none⟩) ∧ wx.heap[gm]? = some (.cells #[.string (bs mn), .slice pa pl.length pc, .slice ta tl.length tc, .slice ja il.length jc] 39 (0, 0)) ∧ Below w5.heap.size w5 wx)
       case first =>
        clear HS HK HU HMM HFI HSL HUL HHL HB4 HB5 HO5 HB HM HQF HE HOF HR HLW HST
        go_region_with (go_at_call 39; refine (HQ6.out _ (by first | exact (Below.refl _ _).drew | exact ((Below.refl _ _).drew).alloc (Nat.le_refl _) _)).mono ?_; rintro e V5 ⟨hb5, rfl⟩; (try have hfp := mod_put9 (w := w5.drew) (v0 := .string (bs mn)) (v1 := .slice pa pl.length pc) (v2 := .slice ta tl.length tc) (v3 := .slice ja il.length jc) hb5); (try have hbx := box4n ((hb5.block w5.heap.size (by first | (simp; done) | (rw [World.size_alloc]; exact Nat.lt_succ_self _))).trans (World.alloc_heap_new w5.drew (.cells #[.string ⟨#[]⟩, .slice none 0 0, .slice none 0 0, .slice none 0 0] 39)))); (try obtain ⟨⟨c0, c1, c2, c3⟩, f0, f1, f2, f3⟩ := hbx); (try (unfold putM at hfp; have HFP := Lib.hid hfp; clear hfp)); have HB9 := Lib.hid hb5; clear hb5)
        all_goals (go_wp2_with fail; go_meet; first | exact ⟨_, rfl, HFP.out.1, (Below.refl _ _).drew.trans HFP.out.2⟩ | exact ⟨_, rfl, World.alloc_heap_new _ _, (Below.refl _ _).drew.trans (HB9.out.alloc HB9.out.size _)⟩)
       case rest =>
        obtain ⟨gm, rfl, BM, hbm⟩ := hcut
        generalize wc = w6 at *
        clear y0A r0A HQ6
        replace y0 := keep_cell hbm y0
        replace HO5 := Lib.hid (lies_keep7 HO5.out hbm)
        have hb46 := HB5.out.trans (hbm.mono HB5.out.size)
        have hbr6 := HB4.out.trans (hb46.mono HB4.out.size)
        have HB6 := Lib.hid hbr6
        have hW6 := (HB.out.trans (HK.out.low.mono HB.out.size)).trans (hbr6.mono (HB.out.trans (HK.out.low.mono HB.out.size)).size)
        obtain ⟨⟨c0, c1, c2, c3⟩, -⟩ := box4n BM
        have qU := refUses_any ⟨mn, pa, pc, pl, ta, tc, tl, ja, jc, il⟩ (by have := (HM.out.1 _ HMM.out).1; exact Nat.le_trans this (by omega)) n0 w6 (Nat.le_trans hn0 hW6.size) (HM.out.2.1 _ HMM.out w6 hW6)
        rw [HU.out] at qU
        simp only [MT.val, MT.cells] at qU
        clear BM hbm hb46 hbr6 hW6 HB4 HB5
        go_wp2_with fail
        refine qU.mono ?_
        clear qU
        rintro e w7 ⟨v, rfl, htv, hb7⟩
        obtain ⟨ua, uc, rfl, huc, hul7⟩ := htv
        replace HB6 := Lib.hid (HB6.out.trans (hb7.mono HB6.out.size))
        replace HO5 := Lib.hid (lies_keep7 HO5.out hb7)
        replace y0 := keep_cell hb7 y0
        have HU7 := Lib.hid hul7
        have HIN : Hid (LiesS w7 ia IN) := Lib.hid (lies_keep7 HK.out.lin HB6.out)
        clear hb7 hul7 c0 c1 c2 c3
        go_wp2_with fail
        go_loopg [10, 16] U.length (fun gh v1 v2 wq => ∃ (j : Nat) (na : Option Addr) (nc : Nat), v1 = .slice na (addN IN (U.take j)).length nc ∧ v2 = .int .i64 j ∧ j + gh = U.length ∧ (na = none → nc = 0) ∧ LiesS wq na (addN IN (U.take j)) ∧ Below w7.heap.size w7 wq)
        case atStart => exact ⟨0, ia, ic, rfl, rfl, by omega, hic, HIN.out, Below.refl _ _⟩
        case round =>
         obtain ⟨j, na, nc, rfl, rfl, hjk, hnc, hln, hbq⟩ := hrel
         have HLN := Lib.hid hln
         have HBQ := Lib.hid hbq
         have hlenN : (addN IN (U.take j)).length ≤ 1 + 2000 * 2000 + 2000 := by
          have h1 := addN_len7 (U.take j) IN
          have h2 := HUL.out
          have h3 := HK.out.nin
          rw [List.length_take] at h1
          omega
         by_cases hjl : j < U.length
         ·have d3 : decide (j < U.length) = true := by simpa using hjl
          have d4 : decide ((j : Int) < (U.length : Int)) = true := by rw [decide_eq_true_eq]; omega
          have x3 : (j : Int) < (U.length : Int) := by omega
          have x5 : (j : Int) ≤ 2000 := by have := HUL.out; omega
          have x6 : j ≤ 2000 := by have := HUL.out; omega
          have hmt := more_take7 IN U j hjl
          obtain ⟨ub, uo, rfl, hucl⟩ := (lies_keep7 HU7.out hbq).resolve_left (by intro h; rw [h] at hjl; cases hjl)
          have u0 : wr.cell? ⟨ub, uo + j, none⟩ = some (.string (bs U[j])) := hucl j hjl
          obtain ⟨t, ht⟩ : ∃ t, U[j] = t := ⟨_, rfl⟩
          rw [ht] at u0 hmt
          have HMT := Lib.hid hmt
          have qm := refmore_any (addN IN (U.take j)) t (by omega) na nc hnc wr hln
          clear hmt hucl ht hln hbq hlenN
          obtain ⟨NN, hNN⟩ : ∃ x, addN IN (U.take j) = x := ⟨_, rfl⟩
          rw [hNN] at qm
          simp only [hNN]
          have HNN := Lib.hid hNN
          clear hNN
          go_wp2_with fail
          refine qm.mono ?_
          clear qm
          rintro e w8 ⟨v, rfl, htv, hb8⟩
          obtain ⟨ma2, mc2, rfl, hmc2, hlm2⟩ := htv
          have HNX : Hid (more1 NN t = addN IN (U.take (j + 1)) ∧ LiesS w8 ma2 (more1 NN t) ∧ Below w7.heap.size w7 w8) := Lib.hid ⟨by rw [HMT.out, HNN.out], hlm2, HBQ.out.trans (hb8.mono HBQ.out.size)⟩
          obtain ⟨MM, hMM⟩ : ∃ x, more1 NN t = x := ⟨_, rfl⟩
          rw [hMM] at HNX
          simp only [hMM]
          clear hb8 hlm2 hMM HMT HNN HLN HBQ
          cases gk with
          | zero => omega
          | succ gi =>
           go_wp2
           go_roundg gi
           case rel => exact ⟨j + 1, ma2, mc2, by rw [HNX.out.1], rfl, by omega, hmc2, by rw [← HNX.out.1]; exact HNX.out.2.1, HNX.out.2.2⟩
           case measure => omega
         ·have d3 : decide (j < U.length) = false := by simpa using hjl
          have d4 : decide ((j : Int) < (U.length : Int)) = false := by rw [decide_eq_false_iff_not]; omega
          have htk : U.take j = U := List.take_of_length_le (by omega)
          rw [htk] at HLN hlenN
          simp only [htk]
          have HN : Hid (BackR w3 wr (usN ml) L R k (addN IN U) (s :: OUT) na oa2) := Lib.hid (by
           have hbw := HK.out.low.trans ((HB6.out.trans (HBQ.out.mono HB6.out.size)).mono HK.out.low.size)
           refine ⟨by omega, HS.out, HLN.out, lies_keep7 HO5.out HBQ.out, ?_, ?_, hbw⟩
           ·have h1 := addN_len7 U IN
            have h2 := HUL.out
            have h3 := HK.out.nin
            omega
           ·have h3 := HK.out.nout
            rw [List.length_cons]; omega)
          clear HLN HBQ hln hbq hlenN htk
          obtain ⟨NN, hNN⟩ : ∃ x, addN IN U = x := ⟨_, rfl⟩
          rw [hNN] at HN
          simp only [hNN]
          obtain ⟨OO, hOO⟩ : ∃ x, s :: OUT = x := ⟨_, rfl⟩
          rw [hOO] at HN
          have hOl : OUT.length + 1 = OO.length := by rw [← hOO]; rfl
          clear hNN hOO
          go_wp2
          go_roundg gg
          case rel => exact ⟨k, NN, OO, na, oa2, nc, oc2, rfl, by first | rfl | rw [← hOl], rfl, by omega, hnc, hoc2, HN.out⟩
          case measure => omega
end Go.Proofs.YtiipjbafdhijlaaGreatDoor
