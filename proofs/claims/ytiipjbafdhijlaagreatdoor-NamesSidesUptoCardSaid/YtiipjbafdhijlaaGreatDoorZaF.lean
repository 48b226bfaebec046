/-
  NaF, in one text.
-/
import Derived.Test.YtiipjbafdhijlaaGreatDoorZaE
import Derived.RangeFuncNested
import Derived.RangeFuncBox
import Derived.Lib.SliceRun
namespace Go.Proofs.YtiipjbafdhijlaaGreatDoor
open Go Go.RowKit
set_option linter.unusedVariables false
set_option linter.unusedSimpArgs false
open Go.Sort
theorem set2_block {V : World} {b : Nat} {x y : Value} {t : TypeId} (h : V.heap[b]? = some (.cells #[x, y] t (0, 0))) (u v : Value) : ((V.setCell ⟨b, 0, none⟩ u).setCell ⟨b, 1, none⟩ v).heap[b]? = some (.cells #[u, v] t (0, 0)) := by
 have hb := (Array.getElem?_eq_some_iff.1 h).1
 simp [World.setCell, Array.getElem?_modify, h]
/-- The cells of two boxes in a world. -/
theorem planned_cells {V : World} {g : Nat} {fv : Value} (BF : V.heap[g]? = some (.cells #[fv] 24 (0, 0))) (BR : V.heap[g + 1]? = some (.cells #[.map none, .slice none 0 0] 66 (0, 0))) :
  V.cell? ⟨g, 0, none⟩ = some fv ∧ V.cell? ⟨g + 1, 0, none⟩ = some (.map none) ∧ V.cell? ⟨g + 1, 1, none⟩ = some (.slice none 0 0) ∧ V.frozen? ⟨g + 1, 0, none⟩ = false ∧ V.frozen? ⟨g + 1, 1, none⟩ = false :=
 ⟨by simp [World.cell?, BF], by simp [World.cell?, BR], by simp [World.cell?, BR], by simp [World.frozen?, BR], by simp [World.frozen?, BR]⟩
def PlanPost (W W' : World) (CP : Int) (ml : List MT) (pv : Value) : Prop := (CP ≠ 0 ∧ pv = .agg #[.map none, .slice none 0 0]) ∨ (CP = 0 ∧ ∃ lo hi base mb ov out, pv = .agg #[.map (some mb), ov] ∧ W.heap.size ≤ mb ∧ hi ≤ W'.heap.size ∧ Plan W' lo hi base mb ov ml out)
set_option maxHeartbeats 16000000 in
set_option maxRecDepth 100000 in
theorem planned_any (W : World) (n0 : Nat) (f : FT) (hn0 : n0 ≤ W.heap.size) (he : EnvA W) (hwf : f.Wf) (hin : f.In n0 W) (hbk : f.bk ≤ 4500000) :
  Calls Tryz.prog 30 #[f.val] W fun e W' => Below W.heap.size W W' ∧ ∃ pv, e = .returned (.tuple #[pv, .int .i64 (checkP f)]) ∧ PlanPost W W' (checkP f) f.ml pv := by
 obtain ⟨ma, mc, ml⟩ := f
 have hbl : MT.bkL ml ≤ 4500000 := by have : 1 + MT.bkL ml ≤ 4500000 := hbk; omega
 have hll := MT.bkL_len ml
 obtain ⟨g, hg⟩ : ∃ g, W.heap.size = g := ⟨_, rfl⟩
 obtain ⟨W1, hW1⟩ : ∃ W1, (W.alloc (.cells #[.slice ma ml.length mc] 24)).alloc (.cells #[.map none, .slice none 0 0] 66) = W1 := ⟨_, rfl⟩
 have hz1 : W1.heap.size = g + 2 := by rw [← hW1]; simp [hg]
 have hB1 : Below g W W1 := by rw [← hW1]; exact ((Below.refl _ _).alloc (by omega) _).alloc (by simp; omega) _
 have he1 : EnvA W1 := by rw [← hW1]; exact (he.alloc _).alloc _
 have BF : W1.heap[g]? = some (.cells #[.slice ma ml.length mc] 24 (0, 0)) := by
  rw [← hW1, ← hg]; exact block_alloc (World.alloc_heap_new W _) _
 have BR : W1.heap[g + 1]? = some (.cells #[.map none, .slice none 0 0] 66 (0, 0)) := by
  rw [← hW1, ← hg]; have := World.alloc_heap_new (W.alloc (.cells #[.slice ma ml.length mc] 24)) (.cells #[.map none, .slice none 0 0] 66); rwa [World.size_alloc] at this
 have hin1 : FT.In n0 W1 ⟨ma, mc, ml⟩ := InRow.keep (Below.keptTo hB1 (by omega)) (fun x _ h => MT.In.keep (Below.keptTo hB1 (by omega)) x h) hin
 have q1 := check_file_any ⟨ma, mc, ml⟩ hbk hwf n0 W1 (by omega) he1 hin1
 unfold checkP
 obtain ⟨CF, hCF⟩ : ∃ CF, checkF ⟨ma, mc, ml⟩ = CF := ⟨_, rfl⟩
 rw [hCF] at q1 ⊢
 simp only [FT.val, FT.cells] at q1 ⊢
 obtain ⟨CP, hCP⟩ : ∃ CP, (if CF ≠ 0 then CF else checkN ml) = CP := ⟨_, rfl⟩
 rw [hCP]
 have y0 : W1.cell? ⟨g, 0, none⟩ = some (.slice ma ml.length mc) := by simp [World.cell?, BF]
 have HH := Lib.hid (And.intro he (And.intro hwf (And.intro hin (And.intro hB1 (And.intro he1 (And.intro BF (And.intro BR (And.intro hin1 (And.intro hCF (And.intro hCP hW1))))))))))
 clear he hwf hin hB1 he1 BF BR hin1 hCF hCP
 go_enter Tryz.func30, Tryz.ntmps30
 go_wp2_with fail
 refine q1.mono ?_
 clear q1
 rintro e V1 ⟨rfl, hBV1⟩
 have BFV := (hBV1.block g (by omega)).trans HH.out.2.2.2.2.2.1
 have BRV := (hBV1.block (g + 1) (by omega)).trans HH.out.2.2.2.2.2.2.1
 have hBW1 : Below W.heap.size W V1 := (HH.out.2.2.2.1.mono (by omega)).trans (hBV1.mono (by omega))
 obtain ⟨y1, y2, y3, f0, f1⟩ := planned_cells BFV BRV
 have HV := Lib.hid (And.intro BFV (And.intro BRV (And.intro hBV1 hBW1)))
 have hzV1 := hBV1.size
 clear BFV BRV y0 hBW1 hBV1
 by_cases hz : CF ≠ 0
 ·have d1 : (CF != 0) = true := by simpa using hz
  have ZB := set2_block HV.out.2.1 (.map none) (.slice none 0 0)
  have z0 : ((V1.setCell ⟨g + 1, 0, none⟩ (.map none)).setCell ⟨g + 1, 1, none⟩ (.slice none 0 0)).cell? ⟨g + 1, 0, none⟩ = some (.map none) := by simp only [World.cell?, ZB]; rfl
  have z1 : ((V1.setCell ⟨g + 1, 0, none⟩ (.map none)).setCell ⟨g + 1, 1, none⟩ (.slice none 0 0)).cell? ⟨g + 1, 1, none⟩ = some (.slice none 0 0) := by simp only [World.cell?, ZB]; rfl
  have HZ := Lib.hid (And.intro (Below.setCell (Below.setCell HV.out.2.2.2 (p := ⟨g + 1, 0, none⟩) (by show W.heap.size ≤ g + 1; omega) (.map none)) (p := ⟨g + 1, 1, none⟩) (by show W.heap.size ≤ g + 1; omega) (.slice none 0 0)) (And.intro z0 z1))
  clear ZB z0 z1
  have HE : Hid (CF = CP) := Lib.hid (by rw [← HH.out.2.2.2.2.2.2.2.2.2.1, if_pos hz])
  go_wp2_with fail
  obtain ⟨-, z0, z1⟩ := HZ.out
  refine bodyPost_ret (v := .tuple #[.agg #[.map none, .slice none 0 0], .int .i64 CF]) (by simp [results, Tryz.results30, go_sem, z0, z1]) rfl ?_
  exact ⟨HZ.out.1, _, by rw [HE.out], .inl ⟨by rw [← HE.out]; exact hz, rfl⟩⟩
 ·replace hz : CF = 0 := Decidable.byContradiction hz
  subst hz
  have hin2 : FT.In n0 V1 ⟨ma, mc, ml⟩ := InRow.keep (Below.keptTo HV.out.2.2.2 (by omega)) (fun x _ h => MT.In.keep (Below.keptTo HV.out.2.2.2 (by omega)) x h) HH.out.2.2.1
  have q2 := twice_any V1 n0 ⟨ma, mc, ml⟩ (by omega) hin2 hbl
  simp only [FT.val, FT.cells] at q2
  have HC : Hid (checkN ml = CP) := Lib.hid (by rw [← HH.out.2.2.2.2.2.2.2.2.2.1]; simp)
  unfold checkN at HC
  obtain ⟨TW, hTW⟩ : ∃ TW, twiceB [] ml = TW := ⟨_, rfl⟩
  rw [hTW] at q2 HC
  have HT := Lib.hid hTW
  clear hTW hin2
  go_wp2_with fail
  refine q2.mono ?_
  clear q2 y1 y2 y3 f0 f1
  rintro e V2 ⟨rfl, hBV2⟩
  have BF2 := (hBV2.block g (by omega)).trans HV.out.1
  have BR2 := (hBV2.block (g + 1) (by omega)).trans HV.out.2.1
  have hBW2 : Below W.heap.size W V2 := HV.out.2.2.2.trans (hBV2.mono (by omega))
  have hzV2 := hBV2.size
  obtain ⟨y1, y2, y3, f0, f1⟩ := planned_cells BF2 BR2
  have HV2 := Lib.hid (And.intro BF2 (And.intro BR2 hBW2))
  clear BF2 BR2 hBW2 hBV2 HV
  cases TW with
  | true =>
   rw [if_pos rfl] at HC
   have ZB := set2_block HV2.out.2.1 (.map none) (.slice none 0 0)
   have z0 : ((V2.setCell ⟨g + 1, 0, none⟩ (.map none)).setCell ⟨g + 1, 1, none⟩ (.slice none 0 0)).cell? ⟨g + 1, 0, none⟩ = some (.map none) := by simp only [World.cell?, ZB]; rfl
   have z1 : ((V2.setCell ⟨g + 1, 0, none⟩ (.map none)).setCell ⟨g + 1, 1, none⟩ (.slice none 0 0)).cell? ⟨g + 1, 1, none⟩ = some (.slice none 0 0) := by simp only [World.cell?, ZB]; rfl
   have HZ := Lib.hid (And.intro (Below.setCell (Below.setCell HV2.out.2.2 (p := ⟨g + 1, 0, none⟩) (by show W.heap.size ≤ g + 1; omega) (.map none)) (p := ⟨g + 1, 1, none⟩) (by show W.heap.size ≤ g + 1; omega) (.slice none 0 0)) (And.intro z0 z1))
   clear ZB z0 z1
   go_wp2_with fail
   obtain ⟨-, z0, z1⟩ := HZ.out
   refine bodyPost_ret (v := .tuple #[.agg #[.map none, .slice none 0 0], .int .i64 70]) (by simp [results, Tryz.results30, go_sem, z0, z1]) rfl ?_
   exact ⟨HZ.out.1, _, by rw [← HC.out], .inl ⟨by rw [← HC.out]; decide, rfl⟩⟩
  | false =>
   rw [if_neg (by decide)] at HC
   have hd := (twice_nodup ml [] HT.out).1
   obtain ⟨M, hM⟩ : ∃ M, V2.heap.size = M := ⟨_, rfl⟩
   obtain ⟨V3, hV3⟩ : ∃ V3, (V2.alloc (.map #[] 0)).alloc (.cells #[.map (some M), .slice none 0 0] 66) = V3 := ⟨_, rfl⟩
   have hz3 : V3.heap.size = M + 2 := by rw [← hV3]; simp [hM]
   have hB3 : Below M V2 V3 := by rw [← hV3]; exact ((Below.refl _ _).alloc (by omega) _).alloc (by simp; omega) _
   have hU3 : UMap V3 M 0 [] := by
    have h1 := umap_made V2
    rw [hM] at h1
    exact h1.block (by rw [← hV3]; exact Below.heap_alloc _ _ _ (by simp; omega))
   have BP3 : V3.heap[M + 1]? = some (.cells #[.map (some M), .slice none 0 0] 66 (0, 0)) := by
    have h1 := World.alloc_heap_new (V2.alloc (.map #[] 0)) (.cells #[.map (some M), .slice none 0 0] 66)
    rw [World.size_alloc, hM] at h1
    rw [← hV3]; exact h1
   have y13 := fun O O' => alloc_cell (alloc_cell y1 O) O'
   have hmm := @run_makeMap Tryz.prog
   have HL := Lib.hid (And.intro hd (And.intro hB3 (And.intro hU3 (And.intro BP3 hM))))
   have HW3 := Lib.hid hV3
   clear hd hB3 hU3 BP3 y1 y2 y3 f0 f1 hV3
   rw [hM] at hzV2
   go_wp2_with fail
   rw [HW3.out]
   clear HW3
   go_loopg [22] ml.length (fun gh u wr => ∃ (k : Nat) (L : List (Bytes × Value)), u = .int .i64 k ∧ k + gh = ml.length ∧ Umk wr (M + 2) M k ml L ∧ wr.heap[M + 1]? = some (.cells #[.map (some M), .slice none 0 0] 66 (0, 0)) ∧ Below M V2 wr ∧ M + 2 ≤ wr.heap.size)
   case atStart => exact ⟨0, [], rfl, by omega, ⟨HL.out.2.2.1, by simp, fun i h => by cases h⟩, HL.out.2.2.2.1, HL.out.2.1, by omega⟩
   case round =>
    obtain ⟨k, L, rfl, hk, hU, hbp, hbW, hz⟩ := hrel
    clear y13
    by_cases hlt : k < ml.length
    ·have d1 : decide (k < ml.length) = true := by simpa using hlt
     have d2 : decide ((k : Int) < (ml.length : Int)) = true := by rw [decide_eq_true_eq]; omega
     have x1 : (k : Int) < (ml.length : Int) := by omega
     have hkt : KeptTo n0 W wr := Below.keptTo (HV2.out.2.2.trans (hbW.mono (by omega))) hn0
     obtain ⟨b, o, rfl, hb, hr, hxin⟩ := (HH.out.2.2.1 : InRow 4 MT.cells (MT.In n0 W) n0 W ml ma).at hlt
     have hnx : (ml.take (k + 1)).map (·.nm) = (ml.take k).map (·.nm) ++ [ml[k].nm] := by rw [List.take_succ_eq_append_getElem hlt, List.map_append]; rfl
     have hbx := MT.bkL_mem (List.getElem_mem hlt)
     have hxin2 : ml[k].In n0 wr := MT.In.keep hkt _ hxin
     obtain ⟨x, hxk⟩ : ∃ x, ml[k] = x := ⟨_, rfl⟩
     rw [hxk] at hnx hbx hr hxin2
     have hul := usesM_len x
     have HX := Lib.hid (And.intro hnx hxk)
     clear hnx hxk hxin
     obtain ⟨US, hUS⟩ : ∃ US, usesM x = US := ⟨_, rfl⟩
     obtain ⟨nm, pa, pc, pl, ta, tc, tl, ia, ic, il⟩ := x
     have r0 : wr.cell? ⟨b, o + k * 4, none⟩ = some (.string (bs nm)) := hkt _ _ _ hb (hr 0 _ rfl)
     have r1 : wr.cell? ⟨b, o + k * 4 + 1, none⟩ = some (.slice pa pl.length pc) := hkt _ _ _ hb (hr 1 _ rfl)
     have r2 : wr.cell? ⟨b, o + k * 4 + 2, none⟩ = some (.slice ta tl.length tc) := hkt _ _ _ hb (hr 2 _ rfl)
     have r3 : wr.cell? ⟨b, o + k * 4 + 3, none⟩ = some (.slice ia il.length ic) := hkt _ _ _ hb (hr 3 _ rfl)
     have hnl : nm.length ≤ 12000000 := by simp only [MT.bk] at hbx; omega
     obtain ⟨z, hzz⟩ : ∃ z, wr.heap.size = z := ⟨_, rfl⟩
     rw [hzz] at hz
     obtain ⟨Wa, hWa⟩ : ∃ Wa, wr.alloc (.cells #[.string (bs nm), .slice pa pl.length pc, .slice ta tl.length tc, .slice ia il.length ic] 39) = Wa := ⟨_, rfl⟩
     have hza : Wa.heap.size = z + 1 := by rw [← hWa, ← hzz]; simp
     have hal : Below z wr Wa := by rw [← hWa, ← hzz]; exact (Below.refl _ _).alloc (Nat.le_refl _) _
     have BX : Wa.heap[z]? = some (.cells #[.string (bs nm), .slice pa pl.length pc, .slice ta tl.length tc, .slice ia il.length ic] 39 (0, 0)) := by rw [← hWa, ← hzz]; exact World.alloc_heap_new wr _
     have BPa := (hal.block (M + 1) (by omega)).trans hbp
     have y0 : Wa.drew.cell? ⟨z, 0, none⟩ = some (.string (bs nm)) := (show Wa.cell? _ = _ by simp [World.cell?, BX])
     have y1 : Wa.drew.cell? ⟨z, 1, none⟩ = some (.slice pa pl.length pc) := (show Wa.cell? _ = _ by simp [World.cell?, BX])
     have y2 : Wa.drew.cell? ⟨z, 2, none⟩ = some (.slice ta tl.length tc) := (show Wa.cell? _ = _ by simp [World.cell?, BX])
     have y3 : Wa.drew.cell? ⟨z, 3, none⟩ = some (.slice ia il.length ic) := (show Wa.cell? _ = _ by simp [World.cell?, BX])
     have y4 : Wa.drew.cell? ⟨M + 1, 0, none⟩ = some (.map (some M)) := (show Wa.cell? _ = _ by simp [World.cell?, BPa])
     have kA : KeptTo n0 wr Wa.drew := Below.keptTo (hal.drew) (by omega)
     have q3 := uses_any Wa.drew n0 ⟨nm, pa, pc, pl, ta, tc, tl, ia, ic, il⟩ (by show n0 ≤ Wa.heap.size; omega) (MT.In.keep kA _ hxin2) (by omega)
     rw [show Wa.drew.heap.size = z + 1 from hza, hUS] at q3
     simp only [MT.val, MT.cells] at q3
     have HK : Hid (∀ V v, V.ownsRow (z + 1 + 4) 9 1 v US.length (strs US) → Below (z + 1) Wa.drew V → V.cell? ⟨z, 0, none⟩ = some (.string (bs nm)) ∧ V.cell? ⟨M + 1, 0, none⟩ = some (.map (some M)) ∧ ∃ V', (Instr.mapUpdate 64 (.map (some M)) (.string (bs nm)) v).run Tryz.prog V = .ok () V' ∧
       (∃ L', Umk V' (M + 2) M (k + 1) ml L' ∧ V'.heap[M + 1]? = some (.cells #[.map (some M), .slice none 0 0] 66 (0, 0)) ∧ Below M V2 V' ∧ M + 2 ≤ V'.heap.size)) := Lib.hid (by
      intro V v ho hB
      have BXV := (hB.block z (by omega)).trans (show Wa.drew.heap[z]? = _ from BX)
      have BPV := (hB.block (M + 1) (by omega)).trans (show Wa.drew.heap[M + 1]? = _ from BPa)
      have hzV := hB.size
      have hzd : Wa.drew.heap.size = z + 1 := hza
      have hUV := hU.um.block ((hB.block M (by omega)).trans (hal.block M (by omega)))
      obtain ⟨V', hrun, hU', hg'⟩ := hUV.put (by omega) nm hnl v
      have hzV' := hg'.size
      have hkV : ∀ i, i < V.heap.size → i ≠ M → V'.heap[i]? = V.heap[i]? := fun i hi hn => hg'.block i hi (fun e => hn (Option.some.inj e))
      refine ⟨by simp [World.cell?, BXV], by simp [World.cell?, BPV], V', hrun, L ++ [(nm, v)], ⟨hU', ?_, ?_⟩, (hkV _ (by omega) (by omega)).trans BPV, ?_, by omega⟩
      ·rw [List.map_append, hU.ks, HX.out.1]; rfl
      ·intro i hi hi2
       have hLl : L.length = k := by have := congrArg List.length hU.ks; simpa [List.length_take, Nat.min_eq_left (Nat.le_of_lt hlt)] using this
       by_cases hik : i < L.length
       ·rw [List.getElem_append_left hik]
        refine (hU.rows i hik hi2).keep (by omega) (fun j hj1 hj2 => ?_)
        exact (hkV j (by omega) (by omega)).trans ((hB.block j (by omega)).trans (hal.block j (by omega)))
       ·have : i = k := by simp at hi; omega
        subst this
        have h1 : (L ++ [(nm, v)])[i].2 = v := by
         rw [List.getElem_append_right (by omega)]; simp
        rw [h1]
        have h2 : usesM ml[i] = US := by rw [HX.out.2]; exact hUS
        rw [h2]
        have h3 : SRow (z + 1 + 4) V v US := srow_of ho
        obtain ⟨a, c, e1, e2⟩ := h3.keep (W' := V') (by omega) (fun j hj1 hj2 => hkV j hj2 (by omega))
        exact ⟨a, c, e1, e2.imp id (fun ⟨b', o', e3, e4, e5⟩ => ⟨b', o', e3, by omega, e5⟩)⟩
      ·refine hbW.trans ((hal.mono (by omega)).trans ((show Below M Wa Wa.drew from (Below.refl _ _).drew).trans ((hB.mono (by omega)).trans ?_)))
       exact ⟨hg'.os, hg'.tape, hg'.output, by omega, fun i hi => hkV i (by omega) (by omega)⟩)
     clear hU hbp hbW hkt hr hxin2 hul hal BX BPa kA HL HV2 HH HT HC hUS
     go_wp2_with fail
     clear hWa r0 r1 r2 r3
     go_region_with (go_at_call 27; refine q3.mono ?_; rintro e V ⟨v, rfl, ho, hB, hzv⟩; obtain ⟨c0, c1, V', hrun, HN⟩ := HK.out V v ho hB; replace HN := Lib.hid HN; clear ho hB)
     all_goals
      go_wp2
      cases gk with
      | zero => omega
      | succ gg =>
       go_roundg gg
       case rel =>
        obtain ⟨L', h1, h2, h3, h4⟩ := HN.out
        exact ⟨k + 1, L', rfl, by omega, h1, h2, h3, h4⟩
       case measure => omega
    ·have d1 : decide (k < ml.length) = false := by simpa using hlt
     have d2 : decide ((k : Int) < (ml.length : Int)) = false := by rw [decide_eq_false_iff_not]; omega
     have hke : k = ml.length := by omega
     subst hke
     obtain ⟨hd, hB3, hU3, BP3, hM⟩ := HL.out
     obtain ⟨hks, hrows⟩ := hU.full hd
     have hus := usN_len (ml := ml) (B := 4500000) hbl
     have q4 := hasAll_any wr (M + 1) M ml.length (M + 2) (.slice none 0 0) L (usN ml) hbp hU.um hrows (fun s => ⟨by have := (hus s).1; omega, fun t ht => by have := (hus s).2 t ht; omega⟩)
     rw [hks, hasAll_is hd] at q4
     obtain ⟨HA, hHA⟩ : ∃ HA, hasAllB ml = HA := ⟨_, rfl⟩
     rw [hHA] at q4 HC
     have HF := Lib.hid (And.intro hU (And.intro hbp (And.intro hbW (And.intro hks (And.intro hrows hus)))))
     clear hU hbp hbW hks hrows hus hd hB3 hU3 BP3 hM hHA
     go_wp2_with fail
     refine q4.mono ?_
     clear q4
     rintro e V5 ⟨rfl, hB5⟩
     obtain ⟨hU, hbp, hbW, hks, hrows, hus⟩ := HF.out
     have hz5 := hB5.size
     have hB25 : Below M V2 V5 := hbW.trans (hB5.mono (by omega))
     have BF5 := (hB25.block g (by omega)).trans HV2.out.1
     have BR5 := (hB25.block (g + 1) (by omega)).trans HV2.out.2.1
     have hW5 : Below W.heap.size W V5 := HV2.out.2.2.trans (hB25.mono (by omega))
     have BP5 := (hB5.block (M + 1) (by omega)).trans hbp
     have hU5 : UMap V5 M ml.length L := hU.um.block (hB5.block M (by omega))
     have hr5 : ∀ s, SRow (M + 2) V5 (valU L s) (usN ml s) := fun s => (hrows s).keep hz5 (fun i _ hi => hB5.block i hi)
     obtain ⟨y1, y2, y3, f0, f1⟩ := planned_cells BF5 BR5
     have H5 := Lib.hid (And.intro BF5 (And.intro BR5 (And.intro hW5 (And.intro BP5 (And.intro hU5 (And.intro hr5 (And.intro hks hus)))))))
     clear hU hbp hbW hks hrows hus HF hB5 hB25 BF5 BR5 hW5 BP5 hU5 hr5
     cases HA with
     | false =>
      rw [if_pos rfl] at HC
      have ZB := set2_block H5.out.2.1 (.map none) (.slice none 0 0)
      have z0 : ((V5.setCell ⟨g + 1, 0, none⟩ (.map none)).setCell ⟨g + 1, 1, none⟩ (.slice none 0 0)).cell? ⟨g + 1, 0, none⟩ = some (.map none) := by simp only [World.cell?, ZB]; rfl
      have z1 : ((V5.setCell ⟨g + 1, 0, none⟩ (.map none)).setCell ⟨g + 1, 1, none⟩ (.slice none 0 0)).cell? ⟨g + 1, 1, none⟩ = some (.slice none 0 0) := by simp only [World.cell?, ZB]; rfl
      have HZ := Lib.hid (And.intro (Below.setCell (Below.setCell H5.out.2.2.1 (p := ⟨g + 1, 0, none⟩) (by show W.heap.size ≤ g + 1; omega) (.map none)) (p := ⟨g + 1, 1, none⟩) (by show W.heap.size ≤ g + 1; omega) (.slice none 0 0)) (And.intro z0 z1))
      clear ZB z0 z1
      go_wp2_with fail
      obtain ⟨-, z0, z1⟩ := HZ.out
      refine bodyPost_ret (v := .tuple #[.agg #[.map none, .slice none 0 0], .int .i64 71]) (by simp [results, Tryz.results30, go_sem, z0, z1]) rfl ?_
      exact ⟨HZ.out.1, _, by rw [← HC.out], .inl ⟨by rw [← HC.out]; decide, rfl⟩⟩
     | true =>
      rw [if_neg (by decide)] at HC
      have hin5 : InRow 4 MT.cells (MT.In n0 V5) n0 V5 ml ma := InRow.keep (Below.keptTo H5.out.2.2.1 hn0) (fun x _ h => MT.In.keep (Below.keptTo H5.out.2.2.1 hn0) x h) HH.out.2.2.1
      have hd := HL.out.1
      have q5 := putInOrder_any V5 n0 (M + 1) M ml.length (M + 2) L (usN ml) ma mc ml ⟨H5.out.2.2.2.1, H5.out.2.2.2.2.1, H5.out.2.2.2.2.2.1⟩ (by omega) (by omega) (by omega) (by omega) hin5 (by omega) (fun m hm => by have := MT.bkL_mem hm; have h2 : m.nm.length ≤ m.bk := (by cases m; simp only [MT.bk]; omega); omega) (fun s => ⟨by have := (H5.out.2.2.2.2.2.2.2 s).1; omega, fun t ht => by have := (H5.out.2.2.2.2.2.2.2 s).2 t ht; omega⟩) (fun m hm => usN_of hd hm)
      obtain ⟨OO, hOO⟩ : ∃ OO, ordN ml ml.length [] = OO := ⟨_, rfl⟩
      rw [hOO] at q5 HC
      have HO := Lib.hid hOO
      obtain ⟨P, hP⟩ : ∃ P, V5.heap.size = P := ⟨_, rfl⟩
      rw [hP] at q5 hz5
      clear hin5 hd hOO
      go_wp2_with fail
      refine q5.mono ?_
      clear q5 y1 y2 y3 f0 f1
      rintro e V6 ⟨rfl, hk6, hord⟩
      have hz6 := hk6.size
      rw [hP] at hz6
      have hB6 : Below (M + 1) V5 V6 := hk6.below (by omega) (fun i hi e => by (try simp only at e); omega)
      have BF6 := (hB6.block g (by omega)).trans H5.out.1
      have BR6 := (hB6.block (g + 1) (by omega)).trans H5.out.2.1
      have hW6 : Below W.heap.size W V6 := H5.out.2.2.1.trans (hB6.mono (by omega))
      obtain ⟨y1, y2, y3, f0, f1⟩ := planned_cells BF6 BR6
      have H6 := Lib.hid (And.intro BF6 (And.intro BR6 (And.intro hW6 (And.intro hk6 hord))))
      clear BF6 BR6 hW6 hk6 hord hB6
      cases OO with
      | none =>
       rw [if_pos (show (none : Option (List Bytes)).isNone = true from rfl)] at HC
       have ZB := set2_block H6.out.2.1 (.map none) (.slice none 0 0)
       have z0 : ((V6.setCell ⟨g + 1, 0, none⟩ (.map none)).setCell ⟨g + 1, 1, none⟩ (.slice none 0 0)).cell? ⟨g + 1, 0, none⟩ = some (.map none) := by simp only [World.cell?, ZB]; rfl
       have z1 : ((V6.setCell ⟨g + 1, 0, none⟩ (.map none)).setCell ⟨g + 1, 1, none⟩ (.slice none 0 0)).cell? ⟨g + 1, 1, none⟩ = some (.slice none 0 0) := by simp only [World.cell?, ZB]; rfl
       have HZ := Lib.hid (And.intro (Below.setCell (Below.setCell H6.out.2.2.1 (p := ⟨g + 1, 0, none⟩) (by show W.heap.size ≤ g + 1; omega) (.map none)) (p := ⟨g + 1, 1, none⟩) (by show W.heap.size ≤ g + 1; omega) (.slice none 0 0)) (And.intro z0 z1))
       clear ZB z0 z1
       go_wp2_with fail
       obtain ⟨-, z0, z1⟩ := HZ.out
       refine bodyPost_ret (v := .tuple #[.agg #[.map none, .slice none 0 0], .int .i64 72]) (by simp [results, Tryz.results30, go_sem, z0, z1]) rfl ?_
       exact ⟨HZ.out.1, _, by rw [← HC.out], .inl ⟨by rw [← HC.out]; decide, rfl⟩⟩
      | some out =>
       rw [if_neg (show ¬ (some out).isNone = true by simp)] at HC
       obtain ⟨BF6, BR6, hW6, hk6, hord⟩ := H6.out
       obtain ⟨ov, hpv, hrow⟩ := hord out rfl
       obtain ⟨oa, on, oc, rfl⟩ : ∃ oa on oc, ov = .slice oa on oc := by
        rcases hrow.2 with ⟨h, _⟩ | ⟨q, cap, cur, h, _⟩
        ·exact ⟨_, _, _, h⟩
        ·exact ⟨_, _, _, h⟩
       have m0 : V6.cell? ⟨M + 1, 0, none⟩ = some (.map (some M)) := by simp [World.cell?, hpv]
       have m1 : V6.cell? ⟨M + 1, 1, none⟩ = some (.slice oa on oc) := by simp [World.cell?, hpv]
       have ZB := set2_block BR6 (.map (some M)) (.slice oa on oc)
       have z0 : ((V6.setCell ⟨g + 1, 0, none⟩ (.map (some M))).setCell ⟨g + 1, 1, none⟩ (.slice oa on oc)).cell? ⟨g + 1, 0, none⟩ = some (.map (some M)) := by simp only [World.cell?, ZB]; rfl
       have z1 : ((V6.setCell ⟨g + 1, 0, none⟩ (.map (some M))).setCell ⟨g + 1, 1, none⟩ (.slice oa on oc)).cell? ⟨g + 1, 1, none⟩ = some (.slice oa on oc) := by simp only [World.cell?, ZB]; rfl
       obtain ⟨V7, hV7⟩ : ∃ V7, ((V6.setCell ⟨g + 1, 0, none⟩ (.map (some M))).setCell ⟨g + 1, 1, none⟩ (.slice oa on oc)) = V7 := ⟨_, rfl⟩
       have hW7 : Below W.heap.size W V7 := by rw [← hV7]; exact Below.setCell (Below.setCell hW6 (p := ⟨g + 1, 0, none⟩) (by show W.heap.size ≤ g + 1; omega) _) (p := ⟨g + 1, 1, none⟩) (by show W.heap.size ≤ g + 1; omega) _
       have hk7 : ∀ i, i ≠ g + 1 → V7.heap[i]? = V6.heap[i]? := fun i hi => by rw [← hV7]; exact (Below.heap_setCell _ _ _ _ (by show i ≠ g + 1; exact hi)).trans (Below.heap_setCell _ _ _ _ (by show i ≠ g + 1; exact hi))
       have hz7 : V7.heap.size = V6.heap.size := by rw [← hV7]; simp
       have hPL : Plan V7 (M + 2) P (P + 3) M (.slice oa on oc) ml out := by
        refine ⟨⟨ml.length, L, ?_, H5.out.2.2.2.2.2.2.1, fun s => ?_⟩, ?_, by omega, HO.out⟩
        ·exact H5.out.2.2.2.2.1.block ((hk7 M (by omega)).trans (hk6.block M (by omega) (by (try simp only); omega)))
        ·have h1 := (H5.out.2.2.2.2.2.1 s).u
         rw [hP] at h1
         exact h1.keep (fun i h1 h2 => (hk7 i (by omega)).trans (hk6.block i (by omega) (by (try simp only); omega)))
        ·rw [← hV7]
         exact ownsRow_setCell_below (ownsRow_setCell_below hrow (a := ⟨g + 1, 0, none⟩) (by show g + 1 < P + 3; omega) _) (a := ⟨g + 1, 1, none⟩) (by show g + 1 < P + 3; omega) _
       have hlt2 : W.heap.size ≤ M := by omega
       have HZ := Lib.hid (And.intro z0 (And.intro z1 (And.intro hV7 (And.intro hW7 (And.intro hPL (show P ≤ V7.heap.size by omega))))))
       clear BF6 BR6 hW6 hk6 hord hpv hrow ZB z0 z1 hV7 hW7 hk7 hz7 hPL
       go_wp2_with fail
       obtain ⟨z0, z1, hV7, hW7, hPL, hP7⟩ := HZ.out
       rw [hV7] at z0 z1
       refine bodyPost_ret (v := .tuple #[.agg #[.map (some M), (.slice oa on oc)], .int .i64 0]) (by simp [results, Tryz.results30, go_sem, hV7, z0, z1]) rfl ?_
       rw [hV7]
       exact ⟨hW7, _, by rw [← HC.out], .inr ⟨by rw [← HC.out], M + 2, P, P + 3, M, (.slice oa on oc), out, rfl, hlt2, hP7, hPL⟩⟩
end Go.Proofs.YtiipjbafdhijlaaGreatDoor
namespace Go.Proofs.YtiipjbafdhijlaaGreatDoor
open Go Go.RowKit
set_option linter.unusedVariables false
set_option linter.unusedSimpArgs false
open Go.Sort
theorem PlanPost.agg {W W' : World} {CP : Int} {ml : List MT} {pv : Value} (h : PlanPost W W' CP ml pv) : ∃ m oa on oc, pv = .agg #[.map m, .slice oa on oc] := by
 rcases h with ⟨_, rfl⟩ | ⟨_, lo, hi, base, mb, ov, out, rfl, _, _, hP⟩
 ·exact ⟨_, _, _, _, rfl⟩
 ·rcases hP.ord.2 with ⟨rfl, _⟩ | ⟨q, cap, cur, rfl, _⟩
  ·exact ⟨_, _, _, _, rfl⟩
  ·exact ⟨_, _, _, _, rfl⟩
theorem PlanPost.keep {W W' V : World} {CP : Int} {ml : List MT} {pv : Value} (h : PlanPost W W' CP ml pv) (hB : Below W'.heap.size W' V) : PlanPost W V CP ml pv := by
 rcases h with h | ⟨h0, lo, hi, base, mb, ov, out, h1, h2, h3, h4⟩
 ·exact .inl h
 ·exact .inr ⟨h0, lo, hi, base, mb, ov, out, h1, h2, Nat.le_trans h3 hB.size, h4.keep h3 hB⟩
set_option maxHeartbeats 4000000 in
set_option maxRecDepth 100000 in
theorem namesCheck_any (W : World) (n0 : Nat) (f : FT) (hn0 : n0 ≤ W.heap.size) (he : EnvA W) (hwf : f.Wf) (hin : f.In n0 W) (hbk : f.bk ≤ 4500000) :
  Calls Tryz.prog 10 #[f.val] W fun e W' => e = .returned (.int .i64 (checkP f)) ∧ Below W.heap.size W W' := by
 obtain ⟨ma, mc, ml⟩ := f
 obtain ⟨W1, hW1⟩ : ∃ W1, W.alloc (.cells #[.slice ma ml.length mc] 24) = W1 := ⟨_, rfl⟩
 have hB1 : Below W.heap.size W W1 := by rw [← hW1]; exact (Below.refl _ _).alloc (Nat.le_refl _) _
 have y0 : W1.cell? ⟨W.heap.size, 0, none⟩ = some (.slice ma ml.length mc) := by
  have BF : W1.heap[W.heap.size]? = some (.cells #[.slice ma ml.length mc] 24 (0, 0)) := by rw [← hW1]; exact World.alloc_heap_new W _
  simp [World.cell?, BF]
 have kt : KeptTo n0 W W1 := Below.keptTo hB1 hn0
 have q := planned_any W1 n0 ⟨ma, mc, ml⟩ (by have := hB1.size; omega) (he.keep hB1) hwf (InRow.keep kt (fun x _ h => MT.In.keep kt x h) hin) hbk
 obtain ⟨CP, hCP⟩ : ∃ CP, checkP ⟨ma, mc, ml⟩ = CP := ⟨_, rfl⟩
 rw [hCP] at q ⊢
 simp only [FT.val, FT.cells] at q ⊢
 have HB := Lib.hid hB1
 clear hCP hB1 he hwf hin kt
 go_enter Tryz.func10, Tryz.ntmps10
 go_wp2_with fail
 refine q.mono ?_
 clear q hW1 y0
 rintro e V ⟨hBV, pv, rfl, hP⟩
 obtain ⟨m, oa, on, oc, rfl⟩ := hP.agg
 have HF := Lib.hid ((HB.out.trans (hBV.mono HB.out.size)).alloc (by have := HB.out.size; have := hBV.size; omega) (.cells #[.map m, .slice oa on oc] 66))
 clear hBV hP
 go_wp2
 go_ret
 exact ⟨rfl, HF.out⟩
/-- Order's answer. -/
def OrdPost (W W' : World) (CP : Int) (ml : List MT) (ov : Value) : Prop := (CP ≠ 0 ∧ ov = .slice none 0 0) ∨ (CP = 0 ∧ ∃ base out, W.heap.size ≤ base ∧ ordN ml ml.length [] = some out ∧ W'.ownsRow base 9 1 ov out.length (strs out))
set_option maxHeartbeats 4000000 in
set_option maxRecDepth 100000 in
theorem namesOrder_any (W : World) (n0 : Nat) (f : FT) (hn0 : n0 ≤ W.heap.size) (he : EnvA W) (hwf : f.Wf) (hin : f.In n0 W) (hbk : f.bk ≤ 4500000) :
  Calls Tryz.prog 12 #[f.val] W fun e W' => Below W.heap.size W W' ∧ ∃ ov, e = .returned (.tuple #[ov, .int .i64 (checkP f)]) ∧ OrdPost W W' (checkP f) f.ml ov := by
 obtain ⟨ma, mc, ml⟩ := f
 obtain ⟨W1, hW1⟩ : ∃ W1, W.alloc (.cells #[.slice ma ml.length mc] 24) = W1 := ⟨_, rfl⟩
 have hB1 : Below W.heap.size W W1 := by rw [← hW1]; exact (Below.refl _ _).alloc (Nat.le_refl _) _
 have y0 : W1.cell? ⟨W.heap.size, 0, none⟩ = some (.slice ma ml.length mc) := by
  have BF : W1.heap[W.heap.size]? = some (.cells #[.slice ma ml.length mc] 24 (0, 0)) := by rw [← hW1]; exact World.alloc_heap_new W _
  simp [World.cell?, BF]
 have kt : KeptTo n0 W W1 := Below.keptTo hB1 hn0
 have q := planned_any W1 n0 ⟨ma, mc, ml⟩ (by have := hB1.size; omega) (he.keep hB1) hwf (InRow.keep kt (fun x _ h => MT.In.keep kt x h) hin) hbk
 obtain ⟨CP, hCP⟩ : ∃ CP, checkP ⟨ma, mc, ml⟩ = CP := ⟨_, rfl⟩
 rw [hCP] at q ⊢
 simp only [FT.val, FT.cells] at q ⊢
 have HB := Lib.hid hB1
 clear hCP hB1 he hwf hin kt
 go_enter Tryz.func12, Tryz.ntmps12
 go_wp2_with fail
 refine q.mono ?_
 clear q hW1 y0
 rintro e V ⟨hBV, pv, rfl, hP⟩
 obtain ⟨m, oa, on, oc, rfl⟩ := hP.agg
 have HF := Lib.hid (And.intro ((HB.out.trans (hBV.mono HB.out.size)).alloc (by have := HB.out.size; have := hBV.size; omega) (.cells #[.map m, .slice oa on oc] 66)) (hP.keep ((Below.refl V.heap.size V).alloc (Nat.le_refl _) (.cells #[.map m, .slice oa on oc] 66))))
 clear hBV hP
 go_wp2
 go_ret2
 refine ⟨HF.out.1, _, rfl, ?_⟩
 rcases HF.out.2 with ⟨h1, h2⟩ | ⟨h0, lo, hi, base, mb, ov, out, h1, h2, h3, h4⟩
 ·exact .inl ⟨h1, by injection h2 with h2; simp only [Array.mk.injEq, List.cons.injEq] at h2; exact h2.2.1⟩
 ·refine .inr ⟨h0, base, out, ?_, h4.is, ?_⟩
  ·have := HB.out.size; have := h4.lt; omega
  ·injection h1 with h1
   simp only [Array.mk.injEq, List.cons.injEq] at h1
   have e := h1.2.1
   subst e
   exact h4.ord
set_option maxHeartbeats 4000000 in
set_option maxRecDepth 100000 in
theorem indexS_any (W : World) (s : Bytes) (a : Option Addr) (c : Nat) (l : List Bytes) (hll : l.length ≤ 12000000)
  (h1 : l = [] ∨ ∃ b o, a = some ⟨b, o, none⟩ ∧ ∀ i (h : i < l.length), W.cell? ⟨b, o + i, none⟩ = some (.string (bs l[i]))) :
  Calls Tryz.prog 60 #[.slice a l.length c, .string (bs s)] W fun e W' => (∃ r : Int, e = .returned (.int .i64 r) ∧ decide (0 ≤ r) = l.contains s ∧ r ≤ 12000000) ∧ W' = W := by
 have H1 := Lib.hid h1
 clear h1
 obtain ⟨R, hR⟩ : ∃ R, l.contains s = R := ⟨_, rfl⟩
 rw [hR]
 have HR := Lib.hid hR
 clear hR
 go_enter Tryz.func60, Tryz.ntmps60
 go_wp2
 go_loopg [8] l.length (fun g u wr => ∃ k : Nat, u = .int .i64 k ∧ k + g = l.length ∧ (l.drop k).contains s = R ∧ wr = W)
 case atStart => exact ⟨0, rfl, by omega, by rw [List.drop_zero]; exact HR.out, rfl⟩
 case round =>
  obtain ⟨k, rfl, hk, hdr, rfl⟩ := hrel
  have HD := Lib.hid hdr
  clear hdr
  by_cases hlt : k < l.length
  ·have d1 : decide (k < l.length) = true := by simpa using hlt
   have d2 : decide ((k : Int) < (l.length : Int)) = true := by rw [decide_eq_true_eq]; omega
   have x1 : (k : Int) < (l.length : Int) := by omega
   obtain ⟨b1, o1, rfl, hL1⟩ := (H1.out).resolve_left (by intro h; rw [h] at hlt; simp at hlt)
   have r0 := hL1 k hlt
   have hdk : (l.drop k).contains s = ((s == l[k]) || (l.drop (k + 1)).contains s) := by rw [← List.getElem_cons_drop hlt, List.contains_cons]
   have HK := Lib.hid hdk
   clear hL1 hdk
   generalize l[k] = t at *
   cases hc : (s == t) with
   | true =>
    have HE : Hid (R = true) := Lib.hid (by rw [← HD.out, HK.out, hc]; rfl)
    clear HK HD H1 HR
    go_wp2
    go_ret
    exact ⟨⟨_, rfl, by rw [HE.out]; simp, by omega⟩, rfl⟩
   | false =>
    have HE : Hid ((l.drop (k + 1)).contains s = R) := Lib.hid (by rw [← HD.out, HK.out, hc]; rfl)
    clear HK HD HR
    go_wp2
    cases gk with
    | zero => omega
    | succ gg =>
     go_roundg gg
     case rel => exact ⟨k + 1, rfl, by omega, HE.out, rfl⟩
     case measure => omega
  ·have d1 : decide (k < l.length) = false := by simpa using hlt
   have d2 : decide ((k : Int) < (l.length : Int)) = false := by rw [decide_eq_false_iff_not]; omega
   have HE : Hid (R = false) := Lib.hid (by rw [← HD.out, List.drop_eq_nil_of_le (by omega)]; rfl)
   clear HD H1 HR
   go_wp2
   go_ret
   exact ⟨⟨_, rfl, by rw [HE.out]; decide, by omega⟩, rfl⟩
set_option maxHeartbeats 4000000 in
set_option maxRecDepth 100000 in
theorem containsS_any (W : World) (s : Bytes) (a : Option Addr) (c : Nat) (l : List Bytes) (hll : l.length ≤ 12000000)
  (h1 : l = [] ∨ ∃ b o, a = some ⟨b, o, none⟩ ∧ ∀ i (h : i < l.length), W.cell? ⟨b, o + i, none⟩ = some (.string (bs l[i]))) :
  Calls Tryz.prog 37 #[.slice a l.length c, .string (bs s)] W fun e W' => e = .returned (.bool (l.contains s)) ∧ W' = W := by
 have q := indexS_any W s a c l hll h1
 clear h1
 obtain ⟨R, hR⟩ : ∃ R, l.contains s = R := ⟨_, rfl⟩
 rw [hR] at q ⊢
 clear hR
 go_enter Tryz.func37, Tryz.ntmps37
 go_wp2_with fail
 refine q.mono ?_
 rintro e w' ⟨⟨r, rfl, hr, _⟩, rfl⟩
 clear q
 have hr2 : decide ((0 : Int) ≤ r) = R := hr
 go_wp2
 go_ret
 exact ⟨rfl, rfl⟩
end Go.Proofs.YtiipjbafdhijlaaGreatDoor
namespace Go.Proofs.YtiipjbafdhijlaaGreatDoor
open Go Go.RowKit
set_option linter.unusedVariables false
set_option linter.unusedSimpArgs false
open Go.Sort
attribute [local go_sem] Oper.semAt_some
theorem wantR_snoc (us : Bytes → List Bytes) (n : Bytes) : ∀ (r W : List Bytes), wantR us W (r ++ [n]) = if (wantR us W r).contains n = true then wantR us W r ++ us n else wantR us W r
 | [], W => rfl
 | m :: r, W => by rw [List.cons_append, wantR, wantR_snoc us n r, wantR]
/-- A row of texts below a block. -/
def TRow (n0 : Nat) (W : World) (l : List Bytes) (a : Option Addr) : Prop := l = [] ∨ ∃ b o, a = some ⟨b, o, none⟩ ∧ b < n0 ∧ ∀ i (h : i < l.length), W.cell? ⟨b, o + i, none⟩ = some (.string (bs l[i]))
theorem TRow.keep {n0 : Nat} {W W' : World} {l : List Bytes} {a : Option Addr} (h : TRow n0 W l a) (hk : KeptTo n0 W W') : TRow n0 W' l a := by
 rcases h with h | ⟨b, o, h1, h2, h3⟩
 ·exact .inl h
 ·exact .inr ⟨b, o, h1, h2, fun i hi => hk _ _ _ h2 (h3 i hi)⟩
theorem TRow.at {n0 : Nat} {W : World} {l : List Bytes} {a : Option Addr} (h : TRow n0 W l a) {k : Nat} (hk : k < l.length) : ∃ b o, a = some ⟨b, o, none⟩ ∧ b < n0 ∧ W.cell? ⟨b, o + k, none⟩ = some (.string (bs l[k])) := by
 rcases h with h | ⟨b, o, h1, h2, h3⟩
 ·rw [h] at hk; cases hk
 ·exact ⟨b, o, h1, h2, h3 k hk⟩
/-- What lay below n0, and block B, lie as they lay. -/
def Kq (n0 B : Nat) (W W' : World) : Prop := Below n0 W W' ∧ (B < W.heap.size → W'.heap[B]? = W.heap[B]?)
theorem Kq.refl (n0 B : Nat) (W : World) : Kq n0 B W W := ⟨Below.refl _ _, fun _ => rfl⟩
theorem Kq.trans {n0 B : Nat} {X Y Z : World} (h : Kq n0 B X Y) (k : Kq n0 B Y Z) : Kq n0 B X Z := ⟨h.1.trans k.1, fun hb => (k.2 (Nat.lt_of_lt_of_le hb h.1.size)).trans (h.2 hb)⟩
def kI (k : Nat) : Int := (k : Int) - 1
theorem drop_rev {α : Type} (l : List α) (m : Nat) (h : m < l.length) : (l.drop m).reverse = (l.drop (m + 1)).reverse ++ [l[m]] := by
 rw [← List.getElem_cons_drop h, List.reverse_cons]
theorem drop_pre {α : Type} (l : List α) (m : Nat) : (l.drop m).reverse <+: l.reverse := ⟨(l.take m).reverse, by rw [← List.reverse_append, List.take_append_drop]⟩
set_option maxHeartbeats 4000000 in
set_option maxRecDepth 100000 in
theorem backward_in (F : Fence) (hW : ∀ g, F.fn g) (hro : F.round = none) (n : Nat) (a : Option Addr) (len cap : Nat) (w : World) :
  CallsIn F n Tryz.prog 61 #[.slice a len cap] w fun e w' => e = .returned (.func (.func 99) #[] #[.pointer (some ⟨w.heap.size, 0, none⟩)]) ∧ w' = w.alloc (.cells #[.slice a len cap] 29) := by
 refine callsIn_of_wp Tryz.func61 rfl (hW _) ?_ hro
 simp only [Tryz.ntmps61, List.size_toArray, List.length_cons, List.length_nil, Nat.reduceAdd, Nat.reduceSub, Array.replicate_succ, Array.replicate_zero, List.push_toArray, List.append_toArray, List.nil_append, List.cons_append]
 gi_wp2
 go_ret
 exact ⟨rfl, rfl⟩
/-- A place of a row, and the text there. -/
def PlT (l : List Bytes) : Type := {x : Nat × Bytes // x.2 ∈ l}
def PlT.t {l : List Bytes} (y : PlT l) : Bytes := y.1.2
set_option maxHeartbeats 4000000 in
set_option maxRecDepth 100000 in
theorem backward1_in (F : Fence) (hW : ∀ g, F.fn g) (hro : F.round = none) (n : Nat) (hn : 1 ≤ n) (l0 Bs n0 : Nat) (l : List Bytes) (hll : l.length ≤ 12000000) (J Jx : List (PlT l) → World → Prop)
  (hY : ∀ pre x W, J pre W → pre.length < l.length → YieldAt F (n - 1) Tryz.prog l0 #[.int .i64 (x.1.1 : Int), .string (bs x.1.2)] W fun e W' =>
    (e = .returned (.bool true) ∧ J (pre ++ [x]) W' ∧ Kq n0 Bs W W') ∨ (e = .returned (.bool false) ∧ Jx (pre ++ [x]) W'))
  (a : Option Addr) (c : Nat) (W : World) (hBs : W.heap[Bs]? = some (.cells #[.slice a l.length c] 29 (0, 0))) (hin : TRow n0 W l a) (h0 : J [] W) :
  CallsIn F n Tryz.prog 99 #[.func (.yield l0) #[] #[], .pointer (some ⟨Bs, 0, none⟩)] W fun e W' => (∃ v, e = .returned v) ∧
   ((∃ ys, ys.map PlT.t = l.reverse ∧ J ys W') ∨ (∃ pre, pre.map PlT.t <+: l.reverse ∧ Jx pre W')) := by
 have hlt0 := (Array.getElem?_eq_some_iff.1 hBs).1
 have hb00 := (cell_of_box_1 hBs).1
 refine callsIn_of_wp Tryz.func99 rfl (hW _) ?_ hro
 simp only [Tryz.ntmps99, List.size_toArray, List.length_cons, List.length_nil, Nat.reduceAdd, Nat.reduceSub, Array.replicate_succ, Array.replicate_zero, List.push_toArray, List.append_toArray, List.nil_append, List.cons_append]
 gi_wp2
 gi_loopw [3] (fun i wr => ∃ k : Nat, k ≤ l.length ∧ i = .int .i64 (kI k) ∧ (∃ ys : List (PlT l), ys.map PlT.t = (l.drop k).reverse ∧ J ys wr) ∧ Kq n0 Bs W wr) (fun i _ => (intOf i + 1).toNat)
 case atStart => exact ⟨l.length, Nat.le_refl _, rfl, ⟨[], by simp, h0⟩, Kq.refl _ _ _⟩
 case round =>
  obtain ⟨k, hk, rfl, ⟨ys, hys, hJ⟩, hq⟩ := hrel
  have HYS := Lib.hid hys
  have hyl : ys.length = l.length - k := by have := congrArg List.length hys; simpa using this
  have hb0 := (cell_of_box_1 ((hq.2 hlt0).trans hBs)).1
  clear hys hb00
  cases k with
  | zero =>
   rw [show kI 0 = -1 from rfl]
   gi_wp2
   go_end0
   exact ⟨⟨_, rfl⟩, .inl ⟨ys, by have := HYS.out; simpa using this, hJ⟩⟩
  | succ m =>
   rw [show kI (m + 1) = (m : Int) by simp [kI]]
   have hlt : m < l.length := by omega
   obtain ⟨b, o, rfl, hb, r0⟩ := (hin.keep (Below.keptTo hq.1 (Nat.le_refl _))).at hlt
   have hdr := drop_rev l m hlt
   have HP := Lib.hid (drop_pre l m)
   obtain ⟨xx, hxx⟩ : ∃ xx : PlT l, xx.1 = (m, l[m]) := ⟨⟨(m, l[m]), List.getElem_mem hlt⟩, rfl⟩
   have hy0 := hY ys xx wr hJ (by omega)
   rw [show xx.1.1 = m by rw [hxx], show xx.1.2 = l[m] by rw [hxx]] at hy0
   have hxt : xx.t = l[m] := by unfold PlT.t; rw [hxx]
   have d1 : decide (m < l.length) = true := by simpa using hlt
   have d2 : decide ((m : Int) < (l.length : Int)) = true := by rw [decide_eq_true_eq]; omega
   have x1 : (m : Int) < (l.length : Int) := by omega
   have x2 : (m : Int) ≤ 12000000 := by omega
   rw [← hxt] at hdr
   obtain ⟨x, hgx⟩ : ∃ x, l[m] = x := ⟨_, rfl⟩
   rw [hgx] at r0 hy0
   have HD := Lib.hid hdr
   obtain ⟨fn, tmps, assign, body, hy, hR⟩ := hy0
   (try dsimp only at hy)
   clear hin hY hgx hBs hxt hdr hxx
   gi_wp2
   refine hR.mono ?_
   rintro e W3 (⟨rfl, hJ3, hk3⟩ | ⟨rfl, hJx3⟩)
   ·gi_wp2
    go_roundw
    case rel => exact ⟨m, by omega, rfl, ⟨_, by rw [List.map_append, HYS.out, HD.out]; (try rfl), hJ3⟩, hq.trans hk3⟩
    case measure => (try simp [intOf]); (try omega)
   ·gi_wp2
    refine bodyPost_ret (results_none rfl _ _ _) rfl ?_
    exact ⟨⟨_, rfl⟩, .inr ⟨_, by rw [List.map_append, HYS.out]; have := HP.out; rw [HD.out] at this; exact this, hJx3⟩⟩
theorem backward_enters (args : Array Value) (w : World) : (callFunc 99 args).run Tryz.prog w = .ok (.enter 99 args) w := enters_of Tryz.func99 (by kernel_rfl) rfl args w
theorem backward_stops (F : Fence) (hW : ∀ g, F.fn g) (hro : F.round = none) (n : Nat) (hn : 1 ≤ n) (Bs n0 : Nat) (l : List Bytes) (hll : l.length ≤ 12000000) (a : Option Addr) (c : Nat) (w : World) (hBs : w.heap[Bs]? = some (.cells #[.slice a l.length c] 29 (0, 0))) (hn0 : n0 ≤ w.heap.size) (hin : TRow n0 w l a) :
  SeqStopsK F n Tryz.prog 99 #[.pointer (some ⟨Bs, 0, none⟩)] (fun x : PlT l => #[Value.int .i64 (x.1.1 : Int), .string (bs x.1.2)]) (Kq n0 Bs) (fun ys => ys.map PlT.t = l.reverse) (fun pre => pre.map PlT.t <+: l.reverse) l.length w := fun l0 J Jx W hW2 _ _ hY h0 =>
 backward1_in F hW hro n hn l0 Bs n0 l hll J Jx hY a c W (block_kept hBs hW2) (hin.keep (Below.keptTo hW2 hn0)) h0
set_option maxHeartbeats 4000000 in
set_option maxRecDepth 100000 in
theorem below1_any (W : World) (B mb n : Nat) (names : List Bytes) (s : Bytes) (hs : s.length ≤ 12000000) (hB : W.heap[B]? = some (.cells #[.map (some mb)] 81 (0, 0))) (h : SetAt W mb n names) :
  Calls Tryz.prog 63 #[.string (bs s), .pointer (some ⟨B, 0, none⟩)] W fun e W' => e = .returned (.bool (!names.contains s)) ∧ W' = W := by
 have hl := h.seen.look s hs
 have y0 := (cell_of_box_1 hB).1
 obtain ⟨k, hk⟩ : ∃ k, names.contains s = k := ⟨_, rfl⟩
 rw [hk] at hl ⊢
 clear hk h hB
 go_enter Tryz.func63, Tryz.ntmps63
 go_wp2
 go_ret
 exact ⟨rfl, rfl⟩
end Go.Proofs.YtiipjbafdhijlaaGreatDoor
namespace Go.Proofs.YtiipjbafdhijlaaGreatDoor
open Go Go.RowKit
set_option linter.unusedVariables false
set_option linter.unusedSimpArgs false
open Go.Sort
def delF (B : Nat) : Value := .func (.func 63) #[] #[.pointer (some ⟨B, 0, none⟩)]
set_option maxHeartbeats 4000000 in
set_option maxRecDepth 100000 in
theorem indexB_any (W : World) (B q : Nat) (K : Bytes → Bool) (c : Nat) (l : List Bytes) (hll : l.length ≤ 12000000) (hm : ∀ s ∈ l, Calls Tryz.prog 63 #[.string (bs s), .pointer (some ⟨B, 0, none⟩)] W fun e W' => e = .returned (.bool (K s)) ∧ W' = W)
  (h1 : ∀ i (h : i < l.length), W.cell? ⟨q, i, none⟩ = some (.string (bs l[i]))) :
  Calls Tryz.prog 100 #[.slice (some ⟨q, 0, none⟩) l.length c, delF B] W fun e W' => (∃ r : Int, e = .returned (.int .i64 r) ∧ ((r = -1 ∧ ∀ i (h : i < l.length), K l[i] = false) ∨ ∃ k : Nat, r = k ∧ ∃ h : k < l.length, K l[k] = true ∧ ∀ i (h : i < k), K l[i] = false)) ∧ W' = W := by
 have H1 := Lib.hid (And.intro h1 hm)
 clear h1 hm
 unfold delF
 go_enter Tryz.func100, Tryz.ntmps100
 go_wp2
 go_loopg [8] l.length (fun g u wr => ∃ k : Nat, u = .int .i64 k ∧ k + g = l.length ∧ (∀ i (h : i < l.length), i < k → K l[i] = false) ∧ wr = W)
 case atStart => exact ⟨0, rfl, by omega, fun i _ h => absurd h (by omega), rfl⟩
 case round =>
  obtain ⟨k, rfl, hk, hdr, rfl⟩ := hrel
  have HD := Lib.hid hdr
  clear hdr
  by_cases hlt : k < l.length
  ·have d1 : decide (k < l.length) = true := by simpa using hlt
   have d2 : decide ((k : Int) < (l.length : Int)) = true := by rw [decide_eq_true_eq]; omega
   have x1 : (k : Int) < (l.length : Int) := by omega
   have r0 := H1.out.1 k hlt
   have qq := H1.out.2 l[k] (List.getElem_mem hlt)
   obtain ⟨t, ht⟩ : ∃ t, l[k] = t := ⟨_, rfl⟩
   rw [ht] at r0 qq
   cases hc : K t with
   | true =>
    rw [hc] at qq
    have HE : Hid (∃ h : k < l.length, K l[k] = true ∧ ∀ i (h : i < k), K l[i] = false) := Lib.hid ⟨hlt, by rw [ht]; exact hc, fun i h => HD.out i (by omega) h⟩
    clear HD H1 hc ht
    have r0' : wr.cell? ⟨q, k, none⟩ = some (.string (bs t)) := by exact r0
    go_wp2_with fail
    refine qq.mono ?_
    rintro e w' ⟨rfl, rfl⟩
    go_wp2
    go_ret
    exact ⟨⟨_, rfl, .inr ⟨k, rfl, HE.out⟩⟩, rfl⟩
   | false =>
    rw [hc] at qq
    have HE : Hid (∀ i (h : i < l.length), i < k + 1 → K l[i] = false) := Lib.hid (fun i h hi => by
     by_cases e : i = k
     ·subst e; rw [ht]; exact hc
     ·exact HD.out i h (by omega))
    clear HD hc ht
    go_wp2_with fail
    refine qq.mono ?_
    rintro e w' ⟨rfl, rfl⟩
    clear qq
    go_wp2
    cases gk with
    | zero => omega
    | succ gg =>
     go_roundg gg
     case rel => exact ⟨k + 1, rfl, by omega, HE.out, rfl⟩
     case measure => omega
  ·have d1 : decide (k < l.length) = false := by simpa using hlt
   have d2 : decide ((k : Int) < (l.length : Int)) = false := by rw [decide_eq_false_iff_not]; omega
   have HE : Hid (∀ i (h : i < l.length), K l[i] = false) := Lib.hid (fun i h => HD.out i h (by omega))
   clear HD H1
   go_wp2
   go_ret
   exact ⟨⟨_, rfl, .inl ⟨rfl, HE.out⟩⟩, rfl⟩
theorem filter_take_snoc {p : Bytes → Bool} {l : List Bytes} {j : Nat} (h : j < l.length) : (l.take (j + 1)).filter p = (l.take j).filter p ++ (if p l[j] = true then [l[j]] else []) := by
 rw [List.take_succ_eq_append_getElem h, List.filter_append]
 congr 1
 by_cases e : p l[j] = true
 ·rw [if_pos e, List.filter_cons, if_pos e]; rfl
 ·rw [if_neg e, List.filter_cons, if_neg e]; rfl
/-- The row while what is not wanted is struck. -/
structure Struck (W V : World) (q j : Nat) (l kept : List Bytes) : Prop where
 but : KeptBut (fun i => i = q) W V
 le : kept.length ≤ j ∧ j ≤ l.length
 lo : ∀ t (h : t < kept.length), V.cell? ⟨q, t, none⟩ = some (.string (bs kept[t]))
 hi : ∀ t (h : t < l.length), j ≤ t → V.cell? ⟨q, t, none⟩ = some (.string (bs l[t]))
 str : ∀ t, t < l.length → ∃ s, V.cell? ⟨q, t, none⟩ = some (.string s)
 free : ∀ t, t < l.length → V.frozen? ⟨q, t, none⟩ = false
theorem Struck.skip {W V : World} {q j : Nat} {l kept : List Bytes} (h : Struck W V q j l kept) (hj : j < l.length) : Struck W V q (j + 1) l kept :=
 ⟨h.but, ⟨by have := h.le; omega, hj⟩, h.lo, fun t ht hjt => h.hi t ht (by omega), h.str, h.free⟩
theorem Struck.set {W V : World} {q j : Nat} {l kept : List Bytes} (h : Struck W V q j l kept) (hj : j < l.length) (s : Bytes) : Struck W (V.setCell ⟨q, kept.length, none⟩ (.string (bs s))) q (j + 1) l (kept ++ [s]) := by
 obtain ⟨s0, hs0⟩ := h.str kept.length (by have := h.le; omega)
 have hsame := World.cell?_setCell_same V ⟨q, kept.length, none⟩ (.string (bs s)) hs0
 have hoth : ∀ t, t ≠ kept.length → (V.setCell ⟨q, kept.length, none⟩ (.string (bs s))).cell? ⟨q, t, none⟩ = V.cell? ⟨q, t, none⟩ := fun t ht => World.cell?_setCell_other _ _ _ _ (fun e => ht (by cases e; rfl))
 refine ⟨(h.but.trans (KeptBut.setCell V _ _ (p := fun i => i = q) rfl) (fun _ _ e => e)), ⟨by have := h.le; simp; omega, hj⟩, fun t ht => ?_, fun t ht hjt => ?_, fun t ht => ?_, fun t ht => by rw [World.frozen?_setCell]; exact h.free t ht⟩
 ·by_cases e : t = kept.length
  ·subst e; rw [hsame]; simp
  ·rw [hoth t e, h.lo t (by simp at ht; omega), List.getElem_append_left]
 ·rw [hoth t (by have := h.le; omega)]; exact h.hi t ht (by omega)
 ·by_cases e : t = kept.length
  ·subst e; exact ⟨_, hsame⟩
  ·rw [hoth t e]; exact h.str t ht
theorem KeptBut.setCells {p : Nat → Prop} {b : Nat} (hp : p b) : ∀ (vs : List Value) (o : Nat) (W : World), KeptBut p W (W.setCells b o vs)
 | [], _, W => KeptBut.refl p W
 | v :: r, o, W => (KeptBut.setCell W ⟨b, o, none⟩ v hp).trans (KeptBut.setCells hp r (o + 1) _) (fun _ _ e => e)
theorem zeroStr (w : World) : (zeroValue 9).run Tryz.prog w = .ok (.string ⟨#[]⟩) w := by kernel_rfl
set_option maxHeartbeats 8000000 in
set_option maxRecDepth 100000 in
theorem deleteB_any (W : World) (B mb n q c : Nat) (names l : List Bytes) (hll : l.length ≤ 12000000) (hs : ∀ s ∈ l, s.length ≤ 12000000) (hcap : l.length ≤ c) (hcm : c ≤ maxLen) (hB : W.heap[B]? = some (.cells #[.map (some mb)] 81 (0, 0))) (hS : SetAt W mb n names)
  (hqB : B ≠ q) (hqm : mb ≠ q) (hc : ∀ t (h : t < l.length), W.cell? ⟨q, t, none⟩ = some (.string (bs l[t]))) (hf : ∀ t, t < l.length → W.frozen? ⟨q, t, none⟩ = false) (FL : List Bytes) (hFL : (l.filter fun s => names.contains s) = FL) :
  Calls Tryz.prog 62 #[.slice (some ⟨q, 0, none⟩) l.length c, delF B] W fun e W' => KeptBut (fun i => i = q) W W' ∧ e = .returned (.slice (some ⟨q, 0, none⟩) FL.length c) ∧ ∀ t (h : t < FL.length), W'.cell? ⟨q, t, none⟩ = some (.string (bs FL[t])) := by
 have hBlt := (Array.getElem?_eq_some_iff.1 hB).1
 have q1 := indexB_any W B q (fun s => !names.contains s) c l hll (fun s h => below1_any W B mb n names s (hs s h) hB hS) hc
 have H1 := Lib.hid (And.intro hs (And.intro hB (And.intro hS (And.intro hc (And.intro hf hFL)))))
 clear hs hB hS hc hf hFL
 obtain ⟨fv, hfv⟩ : ∃ fv, delF B = fv := ⟨_, rfl⟩
 rw [hfv] at q1 ⊢
 have HV := Lib.hid hfv
 clear hfv
 go_enter Tryz.func62, Tryz.ntmps62
 go_wp2_with fail
 refine q1.mono ?_
 clear q1
 rintro e W1 ⟨⟨r, rfl, hr⟩, rfl⟩
 rcases hr with ⟨rfl, hno⟩ | ⟨k, rfl, hk, hyes, hno⟩
 ·have HE : Hid (FL = l) := Lib.hid (by
   rw [← H1.out.2.2.2.2.2, List.filter_eq_self]
   intro s hs
   obtain ⟨i, hi, rfl⟩ := List.mem_iff_getElem.1 hs
   simpa using hno i hi)
  clear hno
  go_wp2
  go_ret
  have h2 := H1.out.2.2.2.1
  have h3 := HE.out
  subst h3
  exact ⟨KeptBut.refl _ _, rfl, h2⟩
 ·have hst : Struck W1 W1 q (k + 1) l ((l.take (k + 1)).filter fun s => names.contains s) ∧ ((l.take (k + 1)).filter fun s => names.contains s).length = k := by
   have h1 : (l.take k).filter (fun s => names.contains s) = l.take k := by
    rw [List.filter_eq_self]
    intro s hs
    obtain ⟨i, hi, rfl⟩ := List.mem_iff_getElem.1 hs
    rw [List.length_take] at hi
    rw [List.getElem_take]
    simpa using hno i (by omega)
   have h2 : (l.take (k + 1)).filter (fun s => names.contains s) = l.take k := by
    rw [filter_take_snoc hk, h1]
    have : names.contains l[k] = false := by simpa using hyes
    rw [this]; simp
   rw [h2]
   refine ⟨⟨KeptBut.refl _ _, ⟨by simp; omega, hk⟩, fun t ht => ?_, fun t ht _ => H1.out.2.2.2.1 t ht, fun t ht => ⟨_, H1.out.2.2.2.1 t ht⟩, H1.out.2.2.2.2.1⟩, by simp; omega⟩
   rw [List.getElem_take]
   exact H1.out.2.2.2.1 t (by simp at ht; omega)
  have HST := Lib.hid hst
  clear hst hno hyes
  have e1 : ((k : Int) == -1) = false := by simp
  have e2 : decide ((k : Int) = -1) = false := by simp
  go_wp2_with fail
  go_loopg [5, 6, 7] (l.length - (k + 1)) (fun g u5 u6 u7 wr => ∃ (i j : Nat) (kept : List Bytes), u5 = .int .i64 i ∧ u6 = .int .i64 j ∧ j + g = l.length ∧ 1 ≤ j ∧ i < j ∧ kept.length = i ∧ kept = (l.take j).filter (fun s => names.contains s) ∧ Struck W1 wr q j l kept)
  case atStart => exact ⟨k, k + 1, _, rfl, by go_num, by omega, by omega, by omega, HST.out.2, rfl, HST.out.1⟩
  case round =>
   obtain ⟨i, j, kept, rfl, rfl, hg, h1j, hij, hkl, hkp, hstr⟩ := hrel
   have HS := Lib.hid (And.intro hkl (And.intro hkp hstr))
   clear hkp hstr hkl
   by_cases hlt : j < l.length
   ·have d1 : decide (j < l.length) = true := by simpa using hlt
    have d2 : decide ((j : Int) < (l.length : Int)) = true := by rw [decide_eq_true_eq]; omega
    have x1 : (j : Int) < (l.length : Int) := by omega
    have x2 : (i : Int) < (l.length : Int) := by omega
    have x3 : (j : Int) ≤ 12000000 := by omega
    have x4 : (i : Int) ≤ 12000000 := by omega
    have r0 := HS.out.2.2.hi j hlt (Nat.le_refl _)
    have hkb := HS.out.2.2.but
    have hBr : wr.heap[B]? = some (.cells #[.map (some mb)] 81 (0, 0)) := (hkb.block B hBlt hqB).trans H1.out.2.1
    have hSr : SetAt wr mb n names := H1.out.2.2.1.block (hkb.block mb H1.out.2.2.1.lt hqm)
    have qq := below1_any wr B mb n names l[j] (H1.out.1 _ (List.getElem_mem hlt)) hBr hSr
    have hft := filter_take_snoc (p := fun s => names.contains s) hlt
    obtain ⟨t, ht⟩ : ∃ t, l[j] = t := ⟨_, rfl⟩
    rw [ht] at r0 qq hft
    have HT := Lib.hid (And.intro hft ht)
    obtain ⟨s0, hs0⟩ := HS.out.2.2.str i (by omega)
    have hfr := HS.out.2.2.free i (by omega)
    clear hkb hBr hSr hft ht
    cases hct : names.contains t with
    | false =>
     rw [hct] at qq
     have HN : Hid (kept.length = i ∧ kept = (l.take (j + 1)).filter (fun s => names.contains s) ∧ Struck W1 wr q (j + 1) l kept) := Lib.hid ⟨HS.out.1, by rw [HT.out.1, hct, HS.out.2.1]; simp, HS.out.2.2.skip hlt⟩
     clear HS HT hct hs0 hfr
     have HVV := HV.out
     subst HVV
     unfold delF
     go_wp2_with fail
     refine qq.mono ?_
     rintro e w' ⟨rfl, rfl⟩
     clear qq
     go_wp2
     cases gk with
     | zero => omega
     | succ gg =>
      go_roundg gg
      case rel => exact ⟨i, j + 1, kept, rfl, by go_num, by omega, by omega, by omega, HN.out⟩
      case measure => omega
    | true =>
     rw [hct] at qq
     have hnx := HS.out.2.2.set hlt t
     rw [HS.out.1] at hnx
     have HN : Hid ((kept ++ [t]).length = i + 1 ∧ kept ++ [t] = (l.take (j + 1)).filter (fun s => names.contains s) ∧ Struck W1 (wr.setCell ⟨q, i, none⟩ (.string (bs t))) q (j + 1) l (kept ++ [t])) := Lib.hid ⟨by simp; exact HS.out.1, by rw [HT.out.1, hct, ← HS.out.2.1]; simp, hnx⟩
     clear HS HT hct hnx
     have HVV := HV.out
     subst HVV
     unfold delF
     go_wp2_with fail
     refine qq.mono ?_
     rintro e w' ⟨rfl, rfl⟩
     clear qq
     go_wp2
     cases gk with
     | zero => omega
     | succ gg =>
      go_roundg gg
      case rel => exact ⟨i + 1, j + 1, kept ++ [t], by go_num, by go_num, by omega, by omega, by omega, HN.out⟩
      case measure => omega
   ·have d1 : decide (j < l.length) = false := by simpa using hlt
    have d2 : decide ((j : Int) < (l.length : Int)) = false := by rw [decide_eq_false_iff_not]; omega
    have hje : j = l.length := by have := HS.out.2.2.le; omega
    have hkF : kept = FL := by rw [HS.out.2.1, hje, List.take_length]; exact H1.out.2.2.2.2.2
    have hil : i < l.length := by omega
    have x2 : (i : Int) < (l.length : Int) := by omega
    have x3 : (i : Int) ≤ (l.length : Int) := by omega
    have x4 : (i : Int) ≤ (c : Int) := by omega
    have hcl : ∀ ty, (Builtin.clear_ #[29] ty #[.slice (some ⟨q, i, none⟩) (l.length - i) (c - i)]).run Tryz.prog wr = .ok (.tuple #[]) (wr.setCells q i (List.replicate (l.length - i) (.string ⟨#[]⟩))) :=
     fun ty => Lib.run_clear_slice wr _ _ ty _ Tryz.underlying29 zeroStr rfl rfl q i _ _ (by omega) (fun t ht => by obtain ⟨s, h⟩ := HS.out.2.2.str (i + t) (by omega); rw [h]; rfl) (fun t ht => HS.out.2.2.free (i + t) (by omega))
    have HF : Hid (KeptBut (fun i => i = q) W1 (wr.setCells q i (List.replicate (l.length - i) (.string ⟨#[]⟩))) ∧ FL.length = i ∧ ∀ t (h : t < FL.length), (wr.setCells q i (List.replicate (l.length - i) (.string ⟨#[]⟩))).cell? ⟨q, t, none⟩ = some (.string (bs FL[t]))) := Lib.hid (by
     have hFi : FL.length = i := by rw [← hkF]; exact HS.out.1
     refine ⟨?_, hFi, fun t ht => ?_⟩
     ·refine HS.out.2.2.but.trans (q := fun i => i = q) ?_ (fun _ _ e => e)
      exact KeptBut.setCells (p := fun i => i = q) (b := q) rfl _ _ _
     ·rw [World.cell?_setCells_out q _ i wr ⟨q, t, none⟩ (fun _ _ => Or.inl (by show t < i; omega))]
      subst hkF
      exact HS.out.2.2.lo t ht)
    clear hkF HS H1
    go_wp2
    go_ret
    exact ⟨HF.out.1, by rw [HF.out.2.1]; rfl, HF.out.2.2⟩
end Go.Proofs.YtiipjbafdhijlaaGreatDoor
namespace Go.Proofs.YtiipjbafdhijlaaGreatDoor
open Go Go.RowKit
set_option linter.unusedVariables false
set_option linter.unusedSimpArgs false
open Go.Sort
attribute [local go_sem] Oper.semAt_some
set_option maxRecDepth 100000 in
/-- A name put, however many there are. -/
theorem SetAt.put2 {W : World} {mb n : Nat} {names : List Bytes} (h : SetAt W mb n names) (hn : n < 1000000000000000) (s : Bytes) (hs : s.length ≤ 12000000) : ∃ W', (Instr.mapUpdate 81 (.map (some mb)) (.string (bs s)) (.bool true)).run Tryz.prog W = .ok () W' ∧ SetAt W' mb (n + 1) (names ++ [s]) ∧ W.grownBy W' (some mb) := by
 obtain ⟨D, ho, hD⟩ := h
 have hm := ho.isMap
 obtain ⟨W', hrun, ho', hg⟩ := ho.update (Maps.string_keyed Tryz.underlying9) Tryz.underlying81 (by unfold maxLen; omega) (key_str s hs) (plainElem_bool Tryz.underlying4 true)
 refine ⟨W', hrun, ⟨_, ho', fun s' => ?_⟩, hg⟩
 by_cases e : s' = s
 ·subst e
  rw [Maps.atKey_put_same hm (by simp [WideAt.IsKeyLit]), Maps.has_put_same hm (by simp [WideAt.IsKeyLit])]
  simp
 ·have hne : (Lit.string s') ≠ (Lit.string s) := by intro h; cases h; exact e rfl
  rw [Maps.atKey_put_other hne, Maps.has_put_other hne, (hD s').1, (hD s').2]
  have : (names ++ [s]).contains s' = names.contains s' := by
   rw [Bool.eq_iff_iff]
   simp [e]
  rw [this]
  exact ⟨rfl, rfl⟩
def mkP {l : List Bytes} (i : Nat) (s : Bytes) (h : s ∈ l) : PlT l := ⟨(i, s), h⟩
/-- While it is gone back. -/
structure Wanted (W0 X : World) (g z2 pb q c ln mb lo hi : Nat) (us : Bytes → List Bytes) (top : Bytes) (pre : List Bytes) : Prop where
 set : SetAt X (g + 1) (1 + pre.length * 3000 * 1500) (wantR us [top] pre)
 self : X.heap[g]? = some (.cells #[.pointer (some ⟨pb, 0, none⟩)] 93 (0, 0))
 box : X.heap[z2]? = some (.cells #[.map (some (g + 1))] 81 (0, 0))
 ord : X.heap[z2 + 1]? = some (.cells #[.slice (some ⟨q, 0, none⟩) ln c] 29 (0, 0))
 low : Below g W0 X
theorem Wanted.grow {W0 X X' : World} {g z2 pb q c ln mb lo hi : Nat} {us : Bytes → List Bytes} {top : Bytes} {pre : List Bytes} {row : Option Nat} (h : Wanted W0 X g z2 pb q c ln mb lo hi us top pre) (hz : g + 2 ≤ z2) (hg0 : g ≤ W0.heap.size) (hg : X.grownBy X' row) (hr : ∀ r, row = some r → z2 + 2 ≤ r) : Wanted W0 X' g z2 pb q c ln mb lo hi us top pre := by
 have hlt := (Array.getElem?_eq_some_iff.1 h.ord).1
 have hk : ∀ k, k < z2 + 2 → X'.heap[k]? = X.heap[k]? := fun k hk => hg.block k (by omega) (fun e => by have := hr k e.symm; omega)
 exact ⟨h.set.block (hk _ (by omega)), (hk _ (by omega)).trans h.self, (hk _ (by omega)).trans h.box, (hk _ (by omega)).trans h.ord, h.low.grown hg (Nat.le_trans hg0 h.low.size) (fun k e => by have := hr k e; omega)⟩
/-- A slice no longer than its room. -/
def CapOk (v : Value) : Prop := ∀ a n c, v = .slice a n c → n ≤ c
set_option maxHeartbeats 8000000 in
set_option maxRecDepth 100000 in
theorem planBelow_in (F : Fence) (hF : Fence.wide = F) (W : World) (n0 pb mb n lo hi base : Nat) (ov : Value) (L : List (Bytes × Value)) (ml : List MT) (out : List Bytes) (top : Bytes) (htop : top.length ≤ 12000000)
  (hp : W.heap[pb]? = some (.cells #[.map (some mb), ov] 66 (0, 0))) (hu : UMap W mb n L) (hrows : ∀ s, URow lo hi W (valU L s) (usN ml s)) (hi1 : hi ≤ W.heap.size) (hib : hi ≤ base) (hmlo : mb < lo) (hloi : lo ≤ hi)
  (hord : W.ownsRow base 9 1 ov out.length (strs out)) (hne : out ≠ []) (hnd : out.Nodup) (hbk : MT.bkL ml ≤ 4500000) (hon : ∀ s ∈ out, s.length ≤ 12000000) (hol : out.length ≤ 6000000) :
  CallsIn F 6 Tryz.prog 38 #[.pointer (some ⟨pb, 0, none⟩), .string (bs top)] W fun e W' => ∃ v, e = .returned v ∧ (SRow base W' v (belowP (usN ml) out top) ∧ CapOk v) ∧ KeptBut (fun i => some i = ov.ownBlock) W W' := by
 have hW : ∀ g, F.fn g := by subst hF; exact fun _ => trivial
 have hro : F.round = none := by subst hF; rfl
 obtain ⟨q, c, hov, hq, hcells, hfree, hcap, hcm⟩ : ∃ q c, ov = .slice (some ⟨q, 0, none⟩) out.length c ∧ base ≤ q ∧ (∀ t (h : t < out.length), W.cell? ⟨q, t, none⟩ = some (.string (bs out[t]))) ∧ (∀ t, t < out.length → W.frozen? ⟨q, t, none⟩ = false) ∧ out.length ≤ c ∧ c ≤ maxLen := by
  rcases hord.2 with ⟨_, h0⟩ | ⟨q, cap, cur, rfl, hq, hh, h1, h2, _⟩
  ·exact absurd (List.length_eq_zero_iff.1 h0) hne
  ·refine ⟨q, cap, rfl, hq, fun t ht => ?_, fun t ht => by simp [World.frozen?, hh], h1, h2⟩
   have := hord.cells (g := q) rfl t (.string (bs out[t])) (by simp [strs, ht])
   rw [Addr.add_mid] at this
   simpa using this
 subst hov
 obtain ⟨g, hg⟩ : ∃ g, W.heap.size = g := ⟨_, rfl⟩
 have hqW : q < g := by
  have := hcells 0 (List.length_pos_iff.2 hne)
  rw [← hg]
  exact block_lt_of_cell this
 have hpW := (Array.getElem?_eq_some_iff.1 hp).1
 have hsm := set_made (W.alloc (.cells #[.pointer (some ⟨pb, 0, none⟩)] 93))
 rw [World.size_alloc, hg] at hsm
 obtain ⟨W2, hrun, hS2, hg2⟩ := hsm.put (by omega) top htop
 have hzm : ((W.alloc (.cells #[.pointer (some ⟨pb, 0, none⟩)] 93)).alloc (.map #[] 0)).heap.size = g + 2 := by simp [hg]
 have hz2a := hg2.size
 rw [hzm] at hz2a
 obtain ⟨z2, hz2⟩ : ∃ z, W2.heap.size = z := ⟨_, rfl⟩
 rw [hz2] at hz2a
 have hk2 : ∀ i, i < g → W2.heap[i]? = W.heap[i]? := fun i hi => (hg2.block i (by rw [hzm]; omega) (fun e => by have := Option.some.inj e; omega)).trans ((Below.heap_alloc _ _ _ (by simp [hg]; omega)).trans (Below.heap_alloc _ _ _ (by omega)))
 have BY2 : W2.heap[g]? = some (.cells #[.pointer (some ⟨pb, 0, none⟩)] 93 (0, 0)) := by
  refine (hg2.block g (by rw [hzm]; omega) (fun e => by have := Option.some.inj e; omega)).trans ?_
  have := World.alloc_heap_new W (.cells #[.pointer (some ⟨pb, 0, none⟩)] 93)
  rw [hg] at this
  exact block_alloc this _
 have hBW2 : Below g W W2 := ⟨hg2.os, hg2.tape, hg2.output, by omega, hk2⟩
 obtain ⟨W3, hW3⟩ : ∃ W3, W2.alloc (.cells #[.map (some (g + 1))] 81) = W3 := ⟨_, rfl⟩
 have hz3 : W3.heap.size = z2 + 1 := by rw [← hW3]; simp [hz2]
 have hB3 : Below z2 W2 W3 := by rw [← hW3]; exact (Below.refl _ _).alloc (by omega) _
 have BB3 : W3.heap[z2]? = some (.cells #[.map (some (g + 1))] 81 (0, 0)) := by rw [← hW3, ← hz2]; exact World.alloc_heap_new W2 _
 have BP3 : W3.heap[pb]? = some (.cells #[.map (some mb), .slice (some ⟨q, 0, none⟩) out.length c] 66 (0, 0)) := (hB3.block pb (by omega)).trans ((hk2 pb (by omega)).trans hp)
 have BY3 : W3.heap[g]? = some (.cells #[.pointer (some ⟨pb, 0, none⟩)] 93 (0, 0)) := (hB3.block g (by omega)).trans BY2
 have y0 : W3.cell? ⟨pb, 0, none⟩ = some (.map (some mb)) := by simp [World.cell?, BP3]
 have y1 : W3.cell? ⟨pb, 1, none⟩ = some (.slice (some ⟨q, 0, none⟩) out.length c) := by simp [World.cell?, BP3]
 have y2 : W3.cell? ⟨g, 0, none⟩ = some (.pointer (some ⟨pb, 0, none⟩)) := (cell_of_box_1 BY3).1
 have HH := Lib.hid (And.intro hu (And.intro hrows (And.intro hord (And.intro hne (And.intro hnd (And.intro hon (And.intro hcells (And.intro hfree hg))))))))
 have HB := Lib.hid (And.intro hS2 (And.intro hBW2 (And.intro hB3 (And.intro BB3 (And.intro BP3 BY3)))))
 have HP := Lib.hid hp
 clear hp hu hrows hord hne hnd hon hcells hfree hsm hg2 hk2 BY2 hBW2 hB3 BB3 BP3 BY3 hS2
 have hmm := @run_makeMap Tryz.prog
 refine callsIn_of_wp_marks Tryz.func38 rfl (hW _) ?_ hro
 simp only [Tryz.ntmps38, List.size_toArray, List.length_cons, List.length_nil, Nat.reduceAdd, Nat.reduceSub, Array.replicate_succ, Array.replicate_zero, List.push_toArray, List.append_toArray, List.nil_append, List.cons_append]
 gi_wp2_with fail
 try refine ⟨fun _ => by omega, ?_⟩
 refine (backward_in F hW hro _ _ _ _ _).mono ?_
 rintro e w' ⟨rfl, rfl⟩
 gi_wp2_with fail
 obtain ⟨W4, hW4⟩ : ∃ W4, W3.alloc (.cells #[.slice (some ⟨q, 0, none⟩) out.length c] 29) = W4 := ⟨_, rfl⟩
 (try rw [hz3])
 rw [hW4]
 have hz4 : W4.heap.size = z2 + 2 := by rw [← hW4]; simp [hz3]
 have hB4 : Below (z2 + 1) W3 W4 := by rw [← hW4]; exact (Below.refl _ _).alloc (by omega) _
 obtain ⟨hS2, hBW2, hB3, BB3, BP3, BY3⟩ := HB.out
 have BO4 : W4.heap[z2 + 1]? = some (.cells #[.slice (some ⟨q, 0, none⟩) out.length c] 29 (0, 0)) := by rw [← hW4, ← hz3]; exact World.alloc_heap_new W3 _
 have hBW4 : Below g W W4 := hBW2.trans ((hB3.mono (by omega)).trans (hB4.mono (by omega)))
 have hWA : Wanted W W4 g z2 pb q c out.length mb lo hi (usN ml) top [] := ⟨(hS2.more (by omega)).block ((hB4.block _ (by omega)).trans (hB3.block _ (by omega))), (hB4.block _ (by omega)).trans BY3, (hB4.block _ (by omega)).trans BB3, BO4, hBW4⟩
 have hTR : TRow g W4 out (some ⟨q, 0, none⟩) := .inr ⟨q, 0, rfl, hqW, fun i hi => by rw [Nat.zero_add, World.cell?_of_block (w := W) (hBW4.block q hqW)]; exact HH.out.2.2.2.2.2.2.1 i hi⟩
 clear hS2 hBW2 hB3 BB3 BP3 BY3 hB4 hW4 hBW4
 have hgW : g ≤ W.heap.size := by omega
 have h1 : 1 ≤ 6 := by omega
 refine wpIn_rangeFunc_ownH hro h1 (gf := 99) (lb := #[.pointer (some ⟨z2 + 1, 0, none⟩)]) rfl (hW _) backward_enters
  (backward_stops F hW hro 5 (by omega) (z2 + 1) g out (by omega) (some ⟨q, 0, none⟩) c W4 BO4 (by omega) hTR)
  (fun h k => h.trans k) (fun X l o o' hq ho _ _ => ⟨belowK_b (w := W4) (by omega) X l o o' hq ho (by assumption) (by assumption), fun _ => World.putObj_heap_other (by omega)⟩) (Below.refl _ _) (fun _ => rfl)
  (fun pre X => Wanted W X g z2 pb q c out.length mb lo hi (usN ml) top (pre.map PlT.t))
  (fun c pre X => False)
  (fun pre X X' row h hgr hr => h.grow hz2a hgW hgr (fun r e => by have := (hr r e).1; omega))
  (fun c pre X X' row h _ _ => h) hWA
  (fun x a' X => a' = { tmps := #[.pointer (some ⟨pb, 0, none⟩), .string (bs top), .pointer (some ⟨g, 0, none⟩), undef, .slice none 0 0, .pointer (some ⟨z2, 0, none⟩), undef, .string (bs x.1.2), undef, undef, .map (some (g + 1)), .string (bs top), .map (some (g + 1)), .pointer (some ⟨pb, 0, none⟩), .pointer (some ⟨pb, 0, none⟩), .pointer (some ⟨pb, 1, none⟩), .slice (some ⟨q, 0, none⟩) out.length c, .func (.func 99) #[] #[.pointer (some ⟨z2 + 1, 0, none⟩)], .int .i64 (x.1.1 : Int), .string (bs x.1.2), undef, undef, undef, undef, undef, undef, undef, undef, undef, undef, undef, undef, undef, undef, undef, undef, undef, undef, undef, undef, undef, undef, undef], defers := [] })
  (fun x a' X A B row hs hg hr => hs)
  ?assign ?body ?done ?stop
 case assign =>
  rintro l0 pre x X K hI hK
  gi_wp2
  exact hK _ _ (KeepsFrom.refl _ _) (Kq.refl _ _ _) hI rfl
 case stop =>
  rintro D c pre X hD hS hI hK
  exact hI.elim
 case body =>
  rintro l0 pre x a' X hl0 ⟨r0, hr0⟩ hI rfl hpl
  obtain ⟨⟨i, s⟩, hs⟩ := x
  have hs : s ∈ out := hs
  have hsl := HH.out.2.2.2.2.2.1 s hs
  obtain ⟨NS, hNS⟩ : ∃ NS, wantR (usN ml) [top] (pre.map PlT.t) = NS := ⟨_, rfl⟩
  have hset := hI.set
  rw [hNS, List.length_map] at hset
  have hlk := hset.seen.look s hsl
  have hzX : z2 + 2 ≤ X.heap.size := (Array.getElem?_eq_some_iff.1 hI.ord).1
  have b0 := (cell_of_box_1 hI.box).1
  have b1 := (cell_of_box_1 hI.self).1
  have b2 : X.cell? ⟨pb, 0, none⟩ = some (.map (some mb)) := by rw [World.cell?_of_block (w := W) (hI.low.block pb (by omega))]; simp [World.cell?, HP.out]
  have hux := (HH.out.1.block (hI.low.block mb (by omega)))
  have hlu := hux.look s hsl
  have hul := usN_len hbk s
  obtain ⟨ua, uc, hue, hur⟩ := (HH.out.2.1 s).keep (fun i _ hi2 => hI.low.block i (by omega))
  rw [hue] at hlu
  obtain ⟨US, hUS⟩ : ∃ US, usN ml s = US := ⟨_, rfl⟩
  rw [hUS] at hlu hul hur
  have hsn := wantR_snoc (usN ml) s (pre.map PlT.t) [top]
  rw [hNS, hUS] at hsn
  have HI := Lib.hid (And.intro hI (And.intro hset (And.intro hsn hur)))
  have hplen : pre.length ≤ 6000000 := by omega
  clear hux hue hUS hNS hset hsn hI hur
  obtain ⟨KK, hKK⟩ : ∃ KK, NS.contains s = KK := ⟨_, rfl⟩
  rw [hKK] at hlk HI
  cases KK with
  | false =>
   have HD : Hid (Wanted W X g z2 pb q c out.length mb lo hi (usN ml) top ((pre ++ [mkP i s hs]).map PlT.t)) := Lib.hid (by
    obtain ⟨hI, hset, hsn, _⟩ := HI.out
    rw [List.map_append]
    refine ⟨?_, hI.self, hI.box, hI.ord, hI.low⟩
    show SetAt X (g + 1) _ (wantR (usN ml) [top] (pre.map PlT.t ++ [s]))
    rw [hsn]
    exact hset.more (by simp; omega))
   clear HI hKK hul hlu
   gi_wp2
   exact ⟨KeepsFrom.refl _ _, Kq.refl _ _ _, HD.out⟩
  | true =>
   gi_wp2_with fail
   gi_loopw [30] (fun u wr => ∃ k : Nat, k ≤ US.length ∧ u = .int .i64 k ∧ SetAt wr (g + 1) (1 + pre.length * 3000 * 1500 + k) (NS ++ US.take k) ∧ X.grownBy wr (some (g + 1))) (fun u _ => (US.length - (intOf u).toNat))
   case atStart => exact ⟨0, Nat.zero_le _, rfl, by have := HI.out.2.1; simpa using this, ⟨rfl, rfl, rfl, Nat.le_refl _, fun _ _ _ => rfl⟩⟩
   case round =>
    obtain ⟨k, hk, rfl, hset, hgr⟩ := hrel
    have hzr := hgr.size
    have hbx := (hgr.block z2 (by omega) (fun e => by have := Option.some.inj e; omega)).trans HI.out.1.box
    have c0 := (cell_of_box_1 hbx).1
    have HG := Lib.hid (And.intro hgr hset)
    clear hbx b0 b1 b2 hlk hlu
    by_cases hlt : k < US.length
    ·have d1 : decide (k < US.length) = true := by simpa using hlt
     have d2 : decide ((k : Int) < (US.length : Int)) = true := by rw [decide_eq_true_eq]; omega
     have x1 : (k : Int) < (US.length : Int) := by omega
     have x2 : (k : Int) ≤ 12000000 := by have := hul.1; omega
     obtain ⟨b, o, rfl, hb1, hb2, hcl⟩ := HI.out.2.2.2.resolve_left (by intro h; rw [h] at hlt; cases hlt)
     have r0 : wr.cell? ⟨b, o + k, none⟩ = some (.string (bs US[k])) := by
      rw [World.cell?_of_block (w := X) (hgr.block b (by omega) (fun e => by have := Option.some.inj e; omega))]
      exact hcl k hlt
     obtain ⟨W', hrun, hS', hg'⟩ := hset.put2 (by omega) US[k] (by have := hul.2 _ (List.getElem_mem hlt); omega)
     have hnx : NS ++ US.take k ++ [US[k]] = NS ++ US.take (k + 1) := by rw [List.take_succ_eq_append_getElem hlt, List.append_assoc]
     rw [hnx] at hS'
     have HN := Lib.hid (And.intro hS' (hgr.trans hg'))
     obtain ⟨t, ht⟩ : ∃ t, US[k] = t := ⟨_, rfl⟩
     rw [ht] at r0 hrun
     clear hcl hS' hg' ht hnx hset hgr
     gi_wp2
     go_roundw
     case rel => exact ⟨k + 1, by omega, by go_num, by have := HN.out.1; rwa [Nat.add_assoc] at this, HN.out.2⟩
     case measure => (try simp [intOf]); (try omega)
    ·have d1 : decide (k < US.length) = false := by simpa using hlt
     have d2 : decide ((k : Int) < (US.length : Int)) = false := by rw [decide_eq_false_iff_not]; omega
     have hke : k = US.length := by omega
     have HD : Hid (KeepsFrom W4.heap.size X wr ∧ Kq g (z2 + 1) X wr ∧ Wanted W wr g z2 pb q c out.length mb lo hi (usN ml) top ((pre ++ [mkP i s hs]).map PlT.t)) := Lib.hid (by
      obtain ⟨hI, _, hsn, _⟩ := HI.out
      have hset2 := HG.out.2
      have hul1 := hul.1
      have hkb : ∀ j, j < X.heap.size → j ≠ g + 1 → wr.heap[j]? = X.heap[j]? := fun j hj hn => hgr.block j hj (fun e => hn (Option.some.inj e))
      have hB : Below g X wr := ⟨hgr.os, hgr.tape, hgr.output, hzr, fun j hj => hkb j (by omega) (by omega)⟩
      refine ⟨KeepsFrom.of_grownBy hgr (fun j e => by have := Option.some.inj e; omega), ⟨hB, fun h => hkb _ h (by omega)⟩, ?_⟩
      rw [List.map_append]
      refine ⟨?_, (hkb _ (by omega) (by omega)).trans hI.self, (hkb _ (by omega) (by omega)).trans hI.box, (hkb _ (by omega) (by omega)).trans hI.ord, hI.low.trans hB⟩
      show SetAt wr (g + 1) _ (wantR (usN ml) [top] (pre.map PlT.t ++ [s]))
      rw [hsn, if_pos (by trivial)]
      rw [hke, List.take_length] at hset2
      exact hset2.more (by simp; omega))
     clear hset hgr HG HI
     gi_wp2
     exact HD.out
 case done =>
  rintro D ys X hD hS hI hK
  obtain ⟨hset, hself, hbox, hordb, hlow⟩ := hI
  obtain ⟨NS, hNS⟩ : ∃ NS, wantR (usN ml) [top] (ys.map PlT.t) = NS := ⟨_, rfl⟩
  rw [hNS] at hset
  have hNS2 : wantR (usN ml) [top] out.reverse = NS := by rw [← hNS, hS]
  have b1 := (cell_of_box_1 hself).1
  have b2 : X.cell? ⟨pb, 1, none⟩ = some (.slice (some ⟨q, 0, none⟩) out.length c) := by rw [World.cell?_of_block (w := W) (hlow.block pb (by omega))]; simp [World.cell?, HP.out]
  have hord2 : X.ownsRow base 9 1 (.slice (some ⟨q, 0, none⟩) out.length c) out.length (strs out) := below_own_row HH.out.2.2.1 (by rw [hg]; exact hlow)
  have q1 := deleteB_any X z2 (g + 1) _ q c NS out (by omega) HH.out.2.2.2.2.2.1 hcap hcm hbox hset (by omega) (by omega) (fun t ht => by rw [World.cell?_of_block (w := W) (hlow.block q hqW)]; exact HH.out.2.2.2.2.2.2.1 t ht) (fun t ht => by rw [World.frozen?_of_block (w := W) (hlow.block q hqW)]; exact HH.out.2.2.2.2.2.2.2.1 t ht) (belowP (usN ml) out top) (by unfold belowP; rw [hNS2])
  have HX := Lib.hid (And.intro hlow hK)
  have hDq : D ≠ q := by omega
  obtain ⟨fv, hfv⟩ : ∃ fv, delF z2 = fv := ⟨_, rfl⟩
  clear hset hself hbox hordb hlow hNS hNS2 hord2 hK
  unfold delF at q1
  gi_wp2_with fail
  try refine ⟨fun _ => by omega, ?_⟩
  refine (toF hF q1).mono ?_
  rintro e W' ⟨hkb, rfl, hcl⟩
  have hK' : W'.heap[D]? = some (.deferred (some [])) := (hkb.block D (Array.getElem?_eq_some_iff.1 HX.out.2).1 hDq).trans HX.out.2
  have hDlt := (Array.getElem?_eq_some_iff.1 hK').1
  have HK' := Lib.hid hK'
  have HE : Hid (SRow base (W'.putObj D (.deferred none)) (.slice (some ⟨q, 0, none⟩) (belowP (usN ml) out top).length c) (belowP (usN ml) out top) ∧ KeptBut (fun i => some i = (Value.slice (some ⟨q, 0, none⟩) out.length c).ownBlock) W (W'.putObj D (.deferred none))) := Lib.hid (by
   have hlow := HX.out.1
   refine ⟨⟨_, _, rfl, .inr ⟨q, 0, rfl, hq, by have := hkb.size; have := hlow.size; simp; omega, fun i hi => ?_⟩⟩, ⟨by have := hkb.size; have := hlow.size; simp; omega, fun i hi hn => ?_, ?_⟩⟩
   ·rw [Nat.zero_add, World.cell?_of_block (w := W') (World.putObj_heap_other (fun e => hDq e.symm))]
    exact hcl i hi
   ·have hn' : i ≠ q := fun e => hn (by rw [e]; rfl)
    exact (World.putObj_heap_other (by omega)).trans ((hkb.block i (by have := hlow.size; omega) hn').trans (hlow.block i (by omega)))
   ·exact ⟨hkb.io.1.trans hlow.os, hkb.io.2.1.trans hlow.tape, hkb.io.2.2.trans hlow.output⟩)
  have HCK : Hid (CapOk (.slice (some ⟨q, 0, none⟩) (belowP (usN ml) out top).length c)) := Lib.hid (by
   intro a n c' e9
   injection e9 with _ e10 e11
   subst e10
   subst e11
   exact Nat.le_trans (List.length_filter_le _ _) hcap)
  clear hkb hcl hK' HX HP HH HB q1
  gi_wp2
  refine ⟨by simp, .inl ⟨_, _, rfl, run_takeDeferred HK'.out, ?_⟩⟩
  refine ⟨_, by simp [results, Tryz.results38, go_sem], _, rfl, ⟨HE.out.1, HCK.out⟩, HE.out.2⟩
theorem planBelow_any (W : World) (pb mb n lo hi base : Nat) (ov : Value) (L : List (Bytes × Value)) (ml : List MT) (out : List Bytes) (top : Bytes) (htop : top.length ≤ 12000000)
  (hp : W.heap[pb]? = some (.cells #[.map (some mb), ov] 66 (0, 0))) (hu : UMap W mb n L) (hrows : ∀ s, URow lo hi W (valU L s) (usN ml s)) (hi1 : hi ≤ W.heap.size) (hib : hi ≤ base) (hmlo : mb < lo) (hloi : lo ≤ hi)
  (hord : W.ownsRow base 9 1 ov out.length (strs out)) (hne : out ≠ []) (hnd : out.Nodup) (hbk : MT.bkL ml ≤ 4500000) (hon : ∀ s ∈ out, s.length ≤ 12000000) (hol : out.length ≤ 6000000) :
  Calls Tryz.prog 38 #[.pointer (some ⟨pb, 0, none⟩), .string (bs top)] W fun e W' => ∃ v, e = .returned v ∧ (SRow base W' v (belowP (usN ml) out top) ∧ CapOk v) ∧ KeptBut (fun i => some i = ov.ownBlock) W W' :=
 (callsIn_wide (n := 6)).1 (planBelow_in Fence.wide rfl W 0 pb mb n lo hi base ov L ml out top htop hp hu hrows hi1 hib hmlo hloi hord hne hnd hbk hon hol)
end Go.Proofs.YtiipjbafdhijlaaGreatDoor
namespace Go.Proofs.YtiipjbafdhijlaaGreatDoor
open Go Go.RowKit
set_option linter.unusedVariables false
set_option linter.unusedSimpArgs false
open Go.Sort
theorem capOk_zero : CapOk zs := fun a n c e => by unfold zs at e; cases e; exact Nat.le_refl _
theorem own_slice {W : World} {base : Nat} {e : TypeId} {v : Value} {n : Nat} {xs : List Value} (h : W.ownsRow base e 1 v n xs) : ∃ a c, v = .slice a n c := by
 rcases h.2 with ⟨rfl, rfl⟩ | ⟨q, cap, cur, rfl, _⟩
 ·exact ⟨_, _, rfl⟩
 ·exact ⟨_, _, rfl⟩
/-- The order of a file. -/
def ordF (f : FT) : List Bytes := if checkP f ≠ 0 then [] else (ordN f.ml f.ml.length []).getD []
def belE (f : FT) (top : Bytes) : Int := if checkP f ≠ 0 then checkP f else if (ordF f).contains top = true then 0 else 71
def belL (f : FT) (top : Bytes) : List Bytes := if checkP f ≠ 0 then [] else if (ordF f).contains top = true then belowP (usN f.ml) (ordF f) top else []
theorem OrdPost.row {W W' : World} {f : FT} {ov : Value} (h : OrdPost W W' (checkP f) f.ml ov) : SRow W.heap.size W' ov (ordF f) := by
 unfold ordF
 rcases h with ⟨h1, rfl⟩ | ⟨h0, base, out, h1, h2, h3⟩
 ·rw [if_pos h1]; exact SRow.zero _ _
 ·rw [if_neg (by rw [h0]; simp), h2]
  obtain ⟨a, c, e1, e2⟩ := srow_of h3
  exact ⟨a, c, e1, e2.imp id (fun ⟨b, o, x1, x2, x3⟩ => ⟨b, o, x1, by omega, x3⟩)⟩
theorem ord_facts {ml : List MT} {out : List Bytes} (h : ordN ml ml.length [] = some out) (hbk : MT.bkL ml ≤ 4500000) : out.Nodup ∧ out.length ≤ 4500000 ∧ ∀ s ∈ out, s.length ≤ 12000000 := by
 have h1 := (ordN_ok ml ml.length [] out (OrdOk.nil ml) h).1
 have h2 := h1.len
 have h3 := MT.bkL_len ml
 refine ⟨h1.nodup, by omega, fun s hs => ?_⟩
 obtain ⟨m, hm, rfl⟩ := h1.sub s hs
 have h4 := MT.bkL_mem hm
 have h5 : m.nm.length ≤ m.bk := by cases m; simp only [MT.bk]; omega
 omega
set_option maxHeartbeats 4000000 in
set_option maxRecDepth 100000 in
theorem namesBelow_cap (W : World) (n0 : Nat) (f : FT) (top : Bytes) (htop : top.length ≤ 12000000) (hn0 : n0 ≤ W.heap.size) (he : EnvA W) (hwf : f.Wf) (hin : f.In n0 W) (hbk : f.bk ≤ 4500000) :
  Calls Tryz.prog 14 #[f.val, .string (bs top)] W fun e W' => Below W.heap.size W W' ∧ ∃ v, e = .returned (.tuple #[v, .int .i64 (belE f top)]) ∧ SRow W.heap.size W' v (belL f top) ∧ CapOk v := by
 have hbl : MT.bkL f.ml ≤ 4500000 := by have : 1 + MT.bkL f.ml ≤ 4500000 := hbk; omega
 obtain ⟨RE, hRE⟩ : ∃ RE, belE f top = RE := ⟨_, rfl⟩
 obtain ⟨RL, hRL⟩ : ∃ RL, belL f top = RL := ⟨_, rfl⟩
 rw [hRE, hRL]
 unfold belE at hRE
 unfold belL at hRL
 have hof : ∀ out, checkP f = 0 → ordN f.ml f.ml.length [] = some out → ordF f = out := fun out h0 h => by unfold ordF; rw [if_neg (by rw [h0]; simp), h]; rfl
 obtain ⟨ma, mc, ml⟩ := f
 obtain ⟨W1, hW1⟩ : ∃ W1, W.alloc (.cells #[.slice ma ml.length mc] 24) = W1 := ⟨_, rfl⟩
 have hB1 : Below W.heap.size W W1 := by rw [← hW1]; exact (Below.refl _ _).alloc (Nat.le_refl _) _
 have y0 : W1.cell? ⟨W.heap.size, 0, none⟩ = some (.slice ma ml.length mc) := by
  have BF : W1.heap[W.heap.size]? = some (.cells #[.slice ma ml.length mc] 24 (0, 0)) := by rw [← hW1]; exact World.alloc_heap_new W _
  simp [World.cell?, BF]
 have kt : KeptTo n0 W W1 := Below.keptTo hB1 hn0
 have q := planned_any W1 n0 ⟨ma, mc, ml⟩ (by have := hB1.size; omega) (he.keep hB1) hwf (InRow.keep kt (fun x _ h => MT.In.keep kt x h) hin) hbk
 obtain ⟨CP, hCP⟩ : ∃ CP, checkP ⟨ma, mc, ml⟩ = CP := ⟨_, rfl⟩
 rw [hCP] at q hRE hRL hof
 simp only [FT.val, FT.cells] at q ⊢
 have HB := Lib.hid (And.intro hB1 (And.intro hRE (And.intro hRL hof)))
 clear hCP hB1 he hwf hin kt hRE hRL hof
 go_enter Tryz.func14, Tryz.ntmps14
 go_wp2_with fail
 refine q.mono ?_
 clear q hW1 y0
 rintro e V ⟨hBV, pv, rfl, hP⟩
 have hBWV := HB.out.1.trans (hBV.mono HB.out.1.size)
 have hWV : W.heap.size + 1 ≤ V.heap.size + 1 := by have := hBWV.size; omega
 rcases hP with ⟨h0, rfl⟩ | ⟨rfl, lo, hi, base, mb, ov, out, rfl, hmb, hhi, hP⟩
 ·have e1 : (CP != 0) = true := by simpa using h0
  have HF : Hid (Below W.heap.size W (V.alloc (.cells #[.map none, .slice none 0 0] 66)) ∧ CP = RE ∧ RL = []) := Lib.hid ⟨hBWV.alloc (by omega) _, by rw [← HB.out.2.1, if_pos h0], by rw [← HB.out.2.2.1, if_pos h0]⟩
  clear hBV hBWV
  go_wp2
  go_ret2
  exact ⟨HF.out.1, _, by rw [← HF.out.2.1]; rfl, by rw [HF.out.2.2]; exact SRow.zero _ _, capOk_zero⟩
 ·obtain ⟨hnd, hol, hon⟩ := ord_facts hP.is hbl
  have hOF := HB.out.2.2.2 out rfl hP.is
  have hRE := HB.out.2.1
  have hRL := HB.out.2.2.1
  rw [if_neg (by simp), hOF] at hRE hRL
  obtain ⟨oa, oc, rfl⟩ := own_slice hP.ord
  obtain ⟨z, hz⟩ : ∃ z, V.heap.size = z := ⟨_, rfl⟩
  obtain ⟨V1, hV1⟩ : ∃ V1, V.alloc (.cells #[.map (some mb), .slice oa out.length oc] 66) = V1 := ⟨_, rfl⟩
  have hB1 : Below V.heap.size V V1 := by rw [← hV1]; exact (Below.refl _ _).alloc (Nat.le_refl _) _
  have hP1 := hP.keep hhi hB1
  have hz1 : V1.heap.size = z + 1 := by rw [← hV1, ← hz]; simp
  have BP : V1.heap[z]? = some (.cells #[.map (some mb), .slice oa out.length oc] 66 (0, 0)) := by rw [← hV1, ← hz]; exact World.alloc_heap_new V _
  have hsr := srow_of hP1.ord
  have hcr : out = [] ∨ ∃ b o, oa = some ⟨b, o, none⟩ ∧ ∀ i (h : i < out.length), V1.cell? ⟨b, o + i, none⟩ = some (.string (bs out[i])) := by
   obtain ⟨a, c, e1, e2⟩ := hsr
   have ea : oa = a := by injection e1
   subst ea
   exact e2.imp id (fun ⟨b, o, x1, x2, x3, x4⟩ => ⟨b, o, x1, x4⟩)
  have q2 := containsS_any V1 top oa oc out (by omega) hcr
  obtain ⟨KK, hKK⟩ : ∃ KK, out.contains top = KK := ⟨_, rfl⟩
  rw [hKK] at q2 hRE hRL
  have HV1 := Lib.hid hV1
  have HF := Lib.hid (And.intro (hBWV.trans (hB1.mono (by omega))) (And.intro hP1 (And.intro BP (And.intro hRE (And.intro hRL (And.intro hnd (And.intro hon hKK)))))))
  clear hV1 hBV hBWV hP hB1 hP1 BP hsr hcr hRE hRL hOF hnd hon hKK
  go_wp2_with fail
  rw [HV1.out]
  refine q2.mono ?_
  clear q2
  rintro e V2 ⟨rfl, rfl⟩
  cases KK with
  | false =>
   go_wp2
   go_ret2
   obtain ⟨hBW, -, -, hRE, hRL, -⟩ := HF.out
   rw [if_neg (by simp)] at hRE hRL
   exact ⟨hBW, _, by rw [← hRE]; rfl, by rw [← hRL]; exact SRow.zero _ _, capOk_zero⟩
  | true =>
   obtain ⟨hBW, hP1, BP, hRE, hRL, hnd, hon, hKK⟩ := HF.out
   obtain ⟨⟨nn, L, hU, hks, hrows⟩, hord, ⟨hl1, hl2, hl3⟩, his⟩ := hP1
   have q3 := planBelow_any V2 z mb nn lo hi base (.slice oa out.length oc) L ml out top htop BP hU hrows (by omega) hl2 hl3 hl1 hord (by intro h; rw [h] at hKK; cases hKK) hnd hbl hon (by omega)
   clear hBW BP hRE hRL hnd hon hKK hU hks hrows hord his
   go_wp2_with fail
   refine q3.mono ?_
   clear q3
   rintro e V3 ⟨v, rfl, hsv, hkb⟩
   have HG := Lib.hid (And.intro hsv hkb)
   clear hsv hkb
   go_wp2
   go_ret2
   obtain ⟨hBW, hP1, BP, hRE, hRL, hnd, hon, hKK⟩ := HF.out
   rw [if_pos (by trivial)] at hRE hRL
   have hbW : W.heap.size ≤ base := by have := hP1.lt; have := HB.out.1.size; omega
   have hBW3 : Below W.heap.size W V3 := hBW.trans (HG.out.2.below (by have := hBW.size; omega) (fun i hi e => by
    rcases hP1.ord.2 with ⟨h, _⟩ | ⟨q, cap, cur, h, hq, _⟩
    ·rw [h] at e; cases e
    ·rw [h] at e
     have : i = q := by simpa [Value.ownBlock] using e
     omega))
   refine ⟨hBW3, v, by rw [← hRE]; rfl, ?_, HG.out.1.2⟩
   rw [← hRL]
   obtain ⟨a, c, e1, e2⟩ := HG.out.1.1
   exact ⟨a, c, e1, e2.imp id (fun ⟨b, o, x1, x2, x3⟩ => ⟨b, o, x1, by omega, x3⟩)⟩
theorem namesBelow_any (W : World) (n0 : Nat) (f : FT) (top : Bytes) (htop : top.length ≤ 12000000) (hn0 : n0 ≤ W.heap.size) (he : EnvA W) (hwf : f.Wf) (hin : f.In n0 W) (hbk : f.bk ≤ 4500000) :
  Calls Tryz.prog 14 #[f.val, .string (bs top)] W fun e W' => Below W.heap.size W W' ∧ ∃ v, e = .returned (.tuple #[v, .int .i64 (belE f top)]) ∧ SRow W.heap.size W' v (belL f top) :=
 (namesBelow_cap W n0 f top htop hn0 he hwf hin hbk).mono fun _ _ ⟨h1, v, h2, h3, _⟩ => ⟨h1, v, h2, h3⟩
end Go.Proofs.YtiipjbafdhijlaaGreatDoor
