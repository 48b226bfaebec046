/-
  NuD, in one text.
-/
import Derived.Test.YtiipjbafdhijlaaGreatDoorZuC
namespace Go.Proofs.YtiipjbafdhijlaaGreatDoor
open Go Go.RowKit
set_option linter.unusedVariables false
set_option linter.unusedSimpArgs false
open Go.Sort
theorem ToR.low9 {W1 : World} {g gs : Nat} {T : List Bytes × Bool} {wr : World} (h : ToR W1 g gs T wr) (hg : g = W1.heap.size := by first | rfl | assumption | omega) : Below W1.heap.size W1 wr := by subst hg; exact h.low
theorem toldM_len (x : MT) : (toldM x).1.length ≤ IT.szL x.il + (x.tl.length + x.pl.length) := by
 unfold toldM
 rw [tell_fold_len, tell_fold_len, List.length_map, List.length_map]
 have := toldA_len x.il
 omega
set_option maxHeartbeats 16000000 in
set_option maxRecDepth 100000 in
theorem refTold_any (x : MT) (hsz : x.sz ≤ 4200000) (n0 : Nat) (w : World) (hn0 : n0 ≤ w.heap.size) (hx : x.In n0 w) : Calls Tryz.prog 18 #[x.val] w fun e w' => ∃ v, e = .returned v ∧ ScV w' v (toldM x) ∧ Below w.heap.size w w' := by
 have hi := szM_il7 x
 have hbt : IT.szL x.il + PT.szL x.tl + BT.szL x.pl ≤ x.sz := by obtain ⟨nm, pa, pc, pl, ta, tc, tl, ia, ic, il⟩ := x; simp only [MT.sz]; omega
 have hlt9 := PT.szL_len7 x.tl
 have hlp := BT.szL_len7 x.pl
 have hq : ∀ V, Below w.heap.size w V → Calls Tryz.prog 41 #[.slice x.ia x.il.length x.ic] V fun e w' => ∃ v, e = .returned v ∧ ScV w' v (toldA ([], true) x.il) ∧ Below V.heap.size V w' := fun V hV =>
  reftold7_any x.il n0 x.ia x.ic V (by omega) (by have := hV.size; omega) (InRow.keep (Below.keptTo hV hn0) (fun y _ h => IT.In.keep (Below.keptTo hV hn0) y h) hx.2.2)
 obtain ⟨F, hF⟩ : ∃ F, toldM x = F := ⟨_, rfl⟩
 rw [hF]
 obtain ⟨TS, hTS⟩ : ∃ A, toldA ([], true) x.il = A := ⟨_, rfl⟩
 have hAl : TS.1.length ≤ IT.szL x.il := by rw [← hTS]; exact toldA_len x.il
 rw [hTS] at hq
 unfold toldM at hF
 rw [hTS] at hF
 have HXtl := Lib.hid hx.2.1
 have HXpl := Lib.hid hx.1
 have HFF := Lib.hid hF
 clear hx hF hTS hi
 obtain ⟨nm, pa, pc, pl, ta, tc, tl, ia, ic, il⟩ := x
 simp only at hq hbt hlt9 hlp hAl
 have HXtl : Hid (InRow 8 PT.cells (PT.In n0 w) n0 w tl ta) := HXtl
 have HXpl : Hid (InRow 7 BT.cells (BT.In n0 w) n0 w pl pa) := HXpl
 have HFF : Hid ((pl.map (·.nm)).foldl tell1 ((tl.map (·.nm)).foldl tell1 TS) = F) := HFF
 simp only [MT.val, MT.cells]
 obtain ⟨gx, hgx⟩ : ∃ gx, w.heap.size = gx := ⟨_, rfl⟩
 obtain ⟨g, hg⟩ : ∃ g, gx + 1 = g := ⟨_, rfl⟩
 obtain ⟨W1, hW1⟩ : ∃ W1, w.alloc (.cells #[.string (bs nm), .slice pa pl.length pc, .slice ta tl.length tc, .slice ia il.length ic] 39) = W1 := ⟨_, rfl⟩
 have hz1 : g = W1.heap.size := by rw [← hW1, ← hg, ← hgx]; simp
 have hWg : W1.heap.size = g := hz1.symm
 have hb0 : Below w.heap.size w W1 := by rw [← hW1]; exact (Below.refl _ _).alloc (Nat.le_refl _) _
 have BX : W1.heap[gx]? = some (.cells #[.string (bs nm), .slice pa pl.length pc, .slice ta tl.length tc, .slice ia il.length ic] 39 (0, 0)) := by rw [← hW1, ← hgx]; exact World.alloc_heap_new w _
 obtain ⟨W2, hW2⟩ : ∃ W2, W1.alloc (.cells #[.slice none 0 0, .bool false] 42) = W2 := ⟨_, rfl⟩
 have hb2 : Below W1.heap.size W1 W2 := by rw [← hW2]; exact (Below.refl _ _).alloc (Nat.le_refl _) _
 have BR : W2.heap[g]? = some (.cells #[.slice none 0 0, .bool false] 42 (0, 0)) := by rw [← hW2, hz1]; exact World.alloc_heap_new W1 _
 have BX2 := block_kept BX hb2
 have y3 : W2.cell? ⟨gx, 3, none⟩ = some (.slice ia il.length ic) := by simp [World.cell?, BX2]
 have q := hq W2 (hb0.trans (hb2.mono hb0.size))
 have HB : Hid (Below w.heap.size w W1 ∧ W1.heap[gx]? = some (.cells #[.string (bs nm), .slice pa pl.length pc, .slice ta tl.length tc, .slice ia il.length ic] 39 (0, 0))) := Lib.hid ⟨hb0, BX⟩
 have H2 := Lib.hid (And.intro hb2 (And.intro BR BX2))
 have HW1 := Lib.hid hW1
 have HZ1 := Lib.hid hz1
 have HGG := Lib.hid hg
 clear hq hb0 BX BR BX2 hb2 hz1
 go_enter Tryz.func18, Tryz.ntmps18
 go_wp2_with fail
 (try rw [hW1])
 (try rw [hW2])
 refine q.mono ?_
 clear q hW1 hW2 y3
 rintro e w2 ⟨v, rfl, ⟨at2, ct2, rfl, hct2, hlt2⟩, hb3⟩
 obtain ⟨gs, hgs⟩ : ∃ gs, w2.heap.size = gs := ⟨_, rfl⟩
 obtain ⟨w3, hw3⟩ : ∃ w3, w2.alloc (.cells #[.slice at2 TS.1.length ct2, .bool TS.2] 42) = w3 := ⟨_, rfl⟩
 have hba3 : Below w2.heap.size w2 w3 := by rw [← hw3]; exact (Below.refl _ _).alloc (Nat.le_refl _) _
 have BT3 : w3.heap[gs]? = some (.cells #[.slice at2 TS.1.length ct2, .bool TS.2] 42 (0, 0)) := by rw [← hw3, ← hgs]; exact World.alloc_heap_new w2 _
 have hb4 : Below W1.heap.size W1 w3 := H2.out.1.trans ((hb3.trans (hba3.mono hb3.size)).mono H2.out.1.size)
 have hgl : g < W2.heap.size := (Array.getElem?_eq_some_iff.1 H2.out.2.1).1
 have HT0 : Hid (ToR W1 g gs TS w3) := Lib.hid ⟨by rw [HZ1.out]; exact hb4, by have := hb3.size; omega, (hba3.block g (by have := hb3.size; omega)).trans ((hb3.block g hgl).trans H2.out.2.1), ⟨at2, ct2, BT3, hct2, lies_keep7 hlt2 hba3⟩⟩
 have hz9 : g = W1.heap.size := HZ1.out
 have BX3 := block_kept (block_kept H2.out.2.2 hb3) hba3
 have y2 : w3.cell? ⟨gx, 2, none⟩ = some (.slice ta tl.length tc) := by simp [World.cell?, BX3]
 have HZ9 := Lib.hid hz9
 clear hb3 hba3 BT3 hb4 hgl hct2 hlt2 BX3 H2 hz9
 go_wp2_with fail
 (try rw [hw3])
 clear hw3 y2
 go_loopg [4] tl.length (fun gh u wr => ∃ (j : Nat) (T : List Bytes × Bool), u = .int .i64 j ∧ j + gh = tl.length ∧ ((tl.map (·.nm)).take j).foldl tell1 TS = T ∧ ToR W1 g gs T wr ∧ Below W1.heap.size W1 wr)
 case atStart => exact ⟨0, _, rfl, by omega, rfl, HT0.out, (HT0.out.low9 HZ9.out)⟩
 case round =>
  obtain ⟨j, ⟨ML, oM⟩, rfl, hj, hT, hto, hbw⟩ := hrel
  clear HT0
  have BXr := block_kept HB.out.2 hbw
  have y2 : wr.cell? ⟨gx, 2, none⟩ = some (.slice ta tl.length tc) := by simp [World.cell?, BXr]
  by_cases hlt : j < tl.length
  ·have d1 : decide (j < tl.length) = true := by simpa using hlt
   have d2 : decide ((j : Int) < (tl.length : Int)) = true := by rw [decide_eq_true_eq]; omega
   have x1 : (j : Int) < (tl.length : Int) := by omega
   have x2 : (0 : Int) ≤ (j : Int) := by omega
   have hMl : ML.length ≤ TS.1.length + tl.length := by
    have h1 := tell_fold_len ((tl.map (·.nm)).take j) TS
    rw [hT, List.length_take, List.length_map] at h1
    simp only at h1
    omega
   have hbW : Below w.heap.size w wr := HB.out.1.trans (hbw.mono HB.out.1.size)
   have hkt : KeptTo n0 w wr := Below.keptTo hbW hn0
   obtain ⟨b, o, rfl, hb, hr, -⟩ := InRow.at (InRow.keep hkt (fun x _ h => PT.In.keep hkt x h) HXtl.out) hlt
   have hnj : ((tl.map (·.nm)).take (j + 1)).foldl tell1 TS = tell1 (ML, oM) tl[j].nm := by
    rw [List.take_succ_eq_append_getElem (by simpa using hlt), List.foldl_append, hT, List.getElem_map]; rfl
   obtain ⟨x, hxg⟩ : ∃ x, tl[j] = x := ⟨_, rfl⟩
   rw [hxg] at hr hnj
   obtain ⟨bn, po, xx⟩ := x
   have y3 : wr.cell? ⟨b, o + j * 8, none⟩ = some (.string (bs bn)) := hr 0 _ rfl
   simp only at hnj
   obtain ⟨a8, c8, bs8, hc8, hlm8⟩ := hto.box
   simp only at bs8 hlm8
   obtain ⟨y80, y81, f80, f81⟩ := scope_cells bs8
   have q := fun (V : World) (hV : Below wr.heap.size wr V) => reftell_any ML oM bn (by omega) a8 c8 hc8 V (lies_keep7 hlm8 hV)
   obtain ⟨TN, hTN⟩ : ∃ T, tell1 (ML, oM) bn = T := ⟨_, rfl⟩
   simp only [hTN] at q
   rw [hTN] at hnj
   have HQ := Lib.hid q
   have HNJ := Lib.hid hnj
   have HT8 := Lib.hid hto
   have HB8 := Lib.hid bs8
   have HBW := Lib.hid hbw
   have hjb : j < 12000000 := by omega
   clear hr hxg hnj hT hto bs8 hc8 hlm8 q hTN hbW hkt hbw BXr
   go_upto_region 5 with (fail)
   go_region_with (go_at_call 42; refine (HQ.out _ (Below.refl _ _).drew).mono ?_; rintro e w9 ⟨v, rfl, hv, hb9⟩; obtain ⟨a1, c1, rfl, -, -⟩ := id hv; have hb9' : Below wr.heap.size wr w9 := (Below.refl _ _).drew.trans hb9; have HB9 := Lib.hid hb9'; have HV9 := Lib.hid hv; obtain ⟨y80N, y81N, f80N, f81N⟩ := scope_cells (block_kept HB8.out hb9'); clear hv hb9 hb9')
   all_goals (
    have HFN : Hid (ToR W1 g gs TN _) := Lib.hid (ToR.put (HT8.out.keep HB9.out) HV9.out)
    clear HT8 HB8 HB9 HV9 HQ HBW
    go_wp2
    obtain ⟨gi, rfl⟩ : ∃ gi, gk = gi + 1 := ⟨gk - 1, by omega⟩
    go_roundg gi
    case rel => exact ⟨j + 1, TN, rfl, by omega, HNJ.out, HFN.out, (HFN.out.low9 HZ9.out)⟩
    case measure => omega)
  ·have d1 : decide (j < tl.length) = false := by simpa using hlt
   have d2 : decide ((j : Int) < (tl.length : Int)) = false := by rw [decide_eq_false_iff_not]; omega
   have hTe : (tl.map (·.nm)).foldl tell1 TS = (ML, oM) := by rw [← hT, List.take_of_length_le (by simp; omega)]
   have HTE := Lib.hid hTe
   have HT9 := Lib.hid hto
   obtain ⟨wz, hwz⟩ : ∃ wz, wr = wz := ⟨_, rfl⟩
   rw [hwz] at HT9 y2 hbw BXr ⊢
   have HBZ := Lib.hid hbw
   clear hTe hT hto hbw hwz
   have HTS2 : Hid ((tl.map (·.nm)).foldl tell1 TS = (ML, oM)) := HTE
   have hpl2 : (ML, oM).1.length ≤ TS.1.length + tl.length := by
    have h1 := tell_fold_len (tl.map (·.nm)) TS
    rw [HTE.out, List.length_map] at h1
    simp only at h1 ⊢
    omega
   obtain ⟨TSP, hTSP⟩ : ∃ T, (ML, oM) = T := ⟨_, rfl⟩
   rw [hTSP] at hpl2 HT9 HTS2
   have HTS3 : Hid ((tl.map (·.nm)).foldl tell1 TS = TSP) := HTS2
   have y1 : wz.cell? ⟨gx, 1, none⟩ = some (.slice pa pl.length pc) := by simp [World.cell?, BXr]
   have HT0 := HT9
   have HTS := HTS3
   clear HTE hTSP BXr HT9
   go_wp2_with fail
   clear y1 y2
   go_loopg [5] pl.length (fun gh u wr => ∃ (j : Nat) (T : List Bytes × Bool), u = .int .i64 j ∧ j + gh = pl.length ∧ ((pl.map (·.nm)).take j).foldl tell1 TSP = T ∧ ToR W1 g gs T wr ∧ Below W1.heap.size W1 wr)
   case atStart => exact ⟨0, _, rfl, by omega, rfl, HT0.out, (HT0.out.low9 HZ9.out)⟩
   case round =>
    obtain ⟨j, ⟨ML, oM⟩, rfl, hj, hT, hto, hbw⟩ := hrel
    clear HT0
    have BXr := block_kept HB.out.2 hbw
    have y1 : wr.cell? ⟨gx, 1, none⟩ = some (.slice pa pl.length pc) := by simp [World.cell?, BXr]
    by_cases hlt : j < pl.length
    ·have d1 : decide (j < pl.length) = true := by simpa using hlt
     have d2 : decide ((j : Int) < (pl.length : Int)) = true := by rw [decide_eq_true_eq]; omega
     have x1 : (j : Int) < (pl.length : Int) := by omega
     have x2 : (0 : Int) ≤ (j : Int) := by omega
     have hMl : ML.length ≤ TSP.1.length + pl.length := by
      have h1 := tell_fold_len ((pl.map (·.nm)).take j) TSP
      rw [hT, List.length_take, List.length_map] at h1
      simp only at h1
      omega
     have hbW : Below w.heap.size w wr := HB.out.1.trans (hbw.mono HB.out.1.size)
     have hkt : KeptTo n0 w wr := Below.keptTo hbW hn0
     obtain ⟨b, o, rfl, hb, hr, -⟩ := InRow.at (InRow.keep hkt (fun x _ h => BT.In.keep hkt x h) HXpl.out) hlt
     have hnj : ((pl.map (·.nm)).take (j + 1)).foldl tell1 TSP = tell1 (ML, oM) pl[j].nm := by
      rw [List.take_succ_eq_append_getElem (by simpa using hlt), List.foldl_append, hT, List.getElem_map]; rfl
     obtain ⟨x, hxg⟩ : ∃ x, pl[j] = x := ⟨_, rfl⟩
     rw [hxg] at hr hnj
     obtain ⟨bn, xx⟩ := x
     have y3 : wr.cell? ⟨b, o + j * 7, none⟩ = some (.string (bs bn)) := hr 0 _ rfl
     simp only at hnj
     obtain ⟨a8, c8, bs8, hc8, hlm8⟩ := hto.box
     simp only at bs8 hlm8
     obtain ⟨y80, y81, f80, f81⟩ := scope_cells bs8
     have q := fun (V : World) (hV : Below wr.heap.size wr V) => reftell_any ML oM bn (by omega) a8 c8 hc8 V (lies_keep7 hlm8 hV)
     obtain ⟨TN, hTN⟩ : ∃ T, tell1 (ML, oM) bn = T := ⟨_, rfl⟩
     simp only [hTN] at q
     rw [hTN] at hnj
     have HQ := Lib.hid q
     have HNJ := Lib.hid hnj
     have HT8 := Lib.hid hto
     have HB8 := Lib.hid bs8
     have HBW := Lib.hid hbw
     have hjb : j < 12000000 := by omega
     clear hr hxg hnj hT hto bs8 hc8 hlm8 q hTN hbW hkt hbw BXr
     go_upto_region 9 with (fail)
     go_region_with (go_at_call 42; refine (HQ.out _ (Below.refl _ _).drew).mono ?_; rintro e w9 ⟨v, rfl, hv, hb9⟩; obtain ⟨a1, c1, rfl, -, -⟩ := id hv; have hb9' : Below wr.heap.size wr w9 := (Below.refl _ _).drew.trans hb9; have HB9 := Lib.hid hb9'; have HV9 := Lib.hid hv; obtain ⟨y80N, y81N, f80N, f81N⟩ := scope_cells (block_kept HB8.out hb9'); clear hv hb9 hb9')
     all_goals (
      have HFN : Hid (ToR W1 g gs TN _) := Lib.hid (ToR.put (HT8.out.keep HB9.out) HV9.out)
      clear HT8 HB8 HB9 HV9 HQ HBW
      go_wp2
      obtain ⟨gi, rfl⟩ : ∃ gi, gk = gi + 1 := ⟨gk - 1, by omega⟩
      go_roundg gi
      case rel => exact ⟨j + 1, TN, rfl, by omega, HNJ.out, HFN.out, (HFN.out.low9 HZ9.out)⟩
      case measure => omega)
    ·have d1 : decide (j < pl.length) = false := by simpa using hlt
     have d2 : decide ((j : Int) < (pl.length : Int)) = false := by rw [decide_eq_false_iff_not]; omega
     have hTe : (pl.map (·.nm)).foldl tell1 TSP = (ML, oM) := by rw [← hT, List.take_of_length_le (by simp; omega)]
     have HTE := Lib.hid hTe
     have HT9 := Lib.hid hto
     obtain ⟨wz, hwz⟩ : ∃ wz, wr = wz := ⟨_, rfl⟩
     rw [hwz] at HT9 y1 hbw BXr ⊢
     have HBZ := Lib.hid hbw
     clear hTe hT hto hbw hwz
     obtain ⟨aM, cM, bsM, hcM, hlM⟩ := HT9.out.box
     simp only at bsM hlM
     obtain ⟨s0, s1, f0, f1⟩ := scope_cells bsM
     obtain ⟨t0, t1, e0, e1⟩ := scope_cells HT9.out.res
     obtain ⟨u, hu⟩ : ∃ u, (wz.setCell ⟨g, 0, none⟩ (.slice aM ML.length cM)).setCell ⟨g, 1, none⟩ (.bool oM) = u := ⟨_, rfl⟩
     have hbu : u.heap[g]? = some (.cells #[.slice aM ML.length cM, .bool oM] 42 (0, 0)) := by rw [← hu]; exact scope_store HT9.out.res
     obtain ⟨z0, z1, -, -⟩ := scope_cells hbu
     have HE : Hid (ScV u (.agg #[.slice aM ML.length cM, .bool oM]) (ML, oM) ∧ Below w.heap.size w u) := Lib.hid (by
      rw [← hu]
      exact ⟨⟨aM, cM, rfl, hcM, lies_off HT9.out.res (scope_off _ _ _ _) hlM⟩, HB.out.1.trans (((HT9.out.low.mono (by have := HB.out.1.size; omega)).setCell (p := ⟨g, 0, none⟩) (by show w.heap.size ≤ g; have := HB.out.1.size; omega) _).setCell (p := ⟨g, 1, none⟩) (by show w.heap.size ≤ g; have := HB.out.1.size; omega) _)⟩)
     have HU := Lib.hid (And.intro hu (And.intro z0 z1))
     clear hu hbu z0 z1 hlM hcM bsM
     go_wp2
     obtain ⟨hu, z0, z1⟩ := HU.out
     refine bodyPost_ret (v := .agg #[.slice aM ML.length cM, .bool oM]) (by simp [results, Tryz.results18, go_sem, hu, z0, z1]) rfl ?_
     rw [hu]
     have hE := HE.out
     have hEq : F = (ML, oM) := by rw [← HFF.out, HTS.out]; exact HTE.out
     rw [hEq]
     first
      | exact ⟨_, rfl, hE.1, hE.2⟩
      | (have h9 := hE.2; rw [hgx] at h9; exact ⟨_, rfl, hE.1, h9⟩)
end Go.Proofs.YtiipjbafdhijlaaGreatDoor
