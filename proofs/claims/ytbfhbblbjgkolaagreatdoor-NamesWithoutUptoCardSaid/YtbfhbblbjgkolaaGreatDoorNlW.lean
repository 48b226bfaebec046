/-
  NamesWithout: its walk.
-/
import Derived.Test.YtbfhbblbjgkolaaGreatDoorNaG
import Derived.Deep.RegionLaw
import Derived.RegionTactic
import Derived.BigRegion
namespace Go.Proofs.YtbfhbblbjgkolaaGreatDoor
open Go Go.RowKit
set_option linter.unusedVariables false
set_option linter.unusedSimpArgs false
open Go.Sort

/-- What is kept of the file while the law runs. -/
structure Wo (W V : World) (n0 g : Nat) (f : FT) : Prop where
  env : EnvA V
  low : Below W.heap.size W V
  hn : n0 ≤ V.heap.size
  fin : FT.In n0 V f
  box : V.heap[g]? = some (.cells #[.slice f.ma f.ml.length f.mc] 24 (0, 0))
theorem Wo.keep {W V V' : World} {n0 g : Nat} {f : FT} (h : Wo W V n0 g f) (hb : Below V.heap.size V V') : Wo W V' n0 g f :=
  ⟨h.env.keep hb, h.low.trans (hb.mono h.low.size), Nat.le_trans h.hn hb.size, FT.In.keep (Below.keptTo hb h.hn) _ h.fin, block_kept h.box hb⟩
theorem lies_srow {lo : Nat} {W : World} {a : Option Addr} {c n : Nat} {l : List Bytes} (h : SRow lo W (.slice a n c) l) : n = l.length ∧ LiesS W a l := by
  obtain ⟨a', c', e1, e2⟩ := h
  injection e1 with e1 e3 e4
  subst e1
  exact ⟨e3, e2.imp id (fun ⟨b, o, x1, x2, x3, x4⟩ => ⟨b, o, x1, x4⟩)⟩
theorem news_four (w : World) (a b c d : Value) (t : TypeId) : ∀ j u, ([a, b, c, d] : List Value)[j]? = some u → (w.alloc (.cells #[a, b, c, d] t)).cell? ((⟨w.heap.size, 0, none⟩ : Addr).add j) = some u := by
  intro j u hu
  have hb := World.alloc_heap_new w (.cells #[a, b, c, d] t)
  match j, hu with
  | 0, h => cases h; rw [Addr.add_mid]; simp only [World.cell?, hb]; rfl
  | 1, h => cases h; rw [Addr.add_mid]; simp only [World.cell?, hb]; rfl
  | 2, h => cases h; rw [Addr.add_mid]; simp only [World.cell?, hb]; rfl
  | 3, h => cases h; rw [Addr.add_mid]; simp only [World.cell?, hb]; rfl
/-- A round's state. -/
structure WoR (V4 : World) (gb : Nat) (B : List Bytes) (ml : List MT) (k : Nat) (gv : Value) (wr : World) : Prop where
  box : wr.heap[gb]? = some (.cells #[gv] 24 (0, 0))
  own : wr.ownsRow (gb + 1) 33 4 gv (partM B (ml.take k)).length ((partM B (ml.take k)).flatMap MT.cells)
  low : Below gb V4 wr
  top : gb + 1 ≤ wr.heap.size
theorem WoR.drewN {V4 : World} {gb : Nat} {B : List Bytes} {ml : List MT} {k : Nat} {gv : Value} {wr : World} (h : WoR V4 gb B ml k gv wr) (n : Nat) : WoR V4 gb B ml k gv (wr.drewN n) := ⟨h.box, h.own, ⟨h.low.os, h.low.tape, h.low.output, h.low.size, h.low.block⟩, h.top⟩
theorem WoR.skip {V4 : World} {gb : Nat} {B : List Bytes} {ml : List MT} {k : Nat} {gv : Value} {wr : World} (h : WoR V4 gb B ml k gv wr) (hk : k < ml.length) (hc : B.contains ml[k].nm = false) : WoR V4 gb B ml (k + 1) gv wr := by
  have e : partM B (ml.take (k + 1)) = partM B (ml.take k) := by rw [partM_snoc hk, if_neg (by rw [hc]; decide), List.append_nil]
  exact ⟨h.box, by rw [e]; exact h.own, h.low, h.top⟩
theorem WoR.more {V4 : World} {gb : Nat} {B : List Bytes} {ml : List MT} {k : Nat} {gv : Value} {wr w5 : World} {v5 : Value} {O : Obj} (h : WoR V4 gb B ml k gv wr) (hk : k < ml.length) (hc : B.contains ml[k].nm = true)
    (ho : w5.ownsRow (gb + 1) 33 4 v5 ((partM B (ml.take k)).length + 1) ((partM B (ml.take k)).flatMap MT.cells ++ ml[k].cells)) (hg : (wr.alloc O).grownBy w5 gv.ownBlock) : WoR V4 gb B ml (k + 1) v5 (w5.setCell ⟨gb, 0, none⟩ v5) := by
  have e : partM B (ml.take (k + 1)) = partM B (ml.take k) ++ [ml[k]] := by rw [partM_snoc hk, if_pos hc]
  have hne : ∀ i, gv.ownBlock = some i → gb + 1 ≤ i := fun i hi => (h.own.lt i hi).1
  have hz := hg.size
  rw [World.size_alloc] at hz
  have hkb : w5.heap[gb]? = some (.cells #[gv] 24 (0, 0)) := (hg.block gb (by rw [World.size_alloc]; have := h.top; omega) (fun e2 => by have := hne gb e2.symm; omega)).trans ((Below.heap_alloc wr O gb (by have := h.top; omega)).trans h.box)
  refine ⟨?_, ?_, ?_, by simp; have := h.top; omega⟩
  · simp [World.setCell, Array.getElem?_modify, hkb]
  · rw [e, List.length_append, List.length_singleton, List.flatMap_append]
    simp only [List.flatMap_cons, List.flatMap_nil, List.append_nil]
    exact ownsRow_setCell_below ho (a := ⟨gb, 0, none⟩) (by show gb < gb + 1; omega) v5
  · exact h.low.trans ((((Below.refl gb wr).alloc (by have := h.top; omega) O).grown hg (by rw [World.size_alloc]; have := h.top; omega) (fun i hi => by have := hne i hi; omega)).setCell (p := ⟨gb, 0, none⟩) (Nat.le_refl _) v5)
set_option maxHeartbeats 16000000 in
set_option maxRecDepth 100000 in
theorem without_any (W : World) (n0 : Nat) (f : FT) (s : Bytes) (hs : s.length ≤ 4000000) (hn0 : n0 ≤ W.heap.size) (he : EnvA W) (hwf : f.Wf) (hin : f.In n0 W) (hbk : f.bk ≤ 1500000) :
    Calls Tryz.prog 13 #[f.val, .string (bs s)] W fun e W' => e = .returned (.bool true) ∧ Below W.heap.size W W' := by
  obtain ⟨ma, mc, ml⟩ := f
  have hbl : MT.bkL ml ≤ 1500000 := by have : 1 + MT.bkL ml ≤ 1500000 := hbk; omega
  have hll := MT.bkL_len ml
  have hsz : FT.sz ⟨ma, mc, ml⟩ ≤ 1500000 := by have := MT.szL_bk ml; show MT.szL ml ≤ _; omega
  obtain ⟨g, hg⟩ : ∃ g, W.heap.size = g := ⟨_, rfl⟩
  obtain ⟨W1, hW1⟩ : ∃ W1, W.alloc (.cells #[.slice ma ml.length mc] 24) = W1 := ⟨_, rfl⟩
  have hB1 : Below W.heap.size W W1 := by rw [← hW1]; exact (Below.refl _ _).alloc (Nat.le_refl _) _
  have hwo : Wo W W1 n0 g ⟨ma, mc, ml⟩ := ⟨he.keep hB1, hB1, Nat.le_trans hn0 hB1.size, FT.In.keep (Below.keptTo hB1 hn0) _ hin, by rw [← hW1, ← hg]; exact World.alloc_heap_new W _⟩
  have hgW1 : g + 1 = W1.heap.size := by rw [← hW1, World.size_alloc, hg]
  have HO := Lib.hid hwo
  have HG := Lib.hid hgW1
  have HWF := Lib.hid hwf
  have HS := Lib.hid hsz
  simp only [FT.val, FT.cells]
  clear he hwf hin hB1 hwo hsz hgW1
  go_enter Tryz.func13, Tryz.ntmps13
  go_wp2_with fail
  (try rw [hW1])
  refine (live7_any _ HO.out.env).mono ?_
  rintro e V1 ⟨rfl, hb⟩
  replace HO := Lib.hid (HO.out.keep hb)
  clear hW1
  have hz1 : g + 1 ≤ V1.heap.size := by have := hb.size; have := HG.out; omega
  clear hb
  have y0 := (cell_of_box_1 HO.out.box).1
  have q2 := few7_any ⟨ma, mc, ml⟩ HS.out n0 V1 HO.out.hn HO.out.fin
  obtain ⟨fw, hfw⟩ : ∃ b, (decide (FT.sz ⟨ma, mc, ml⟩ ≤ 2000) && decide (FT.dp ⟨ma, mc, ml⟩ ≤ 100)) = b := ⟨_, rfl⟩
  rw [hfw] at q2
  simp only [FT.val, FT.cells] at q2
  clear hfw
  go_wp2_with fail
  refine q2.mono ?_
  rintro e V2 ⟨rfl, hb⟩
  replace HO := Lib.hid (HO.out.keep hb)
  have hz2 : g + 1 ≤ V2.heap.size := by have := hb.size; omega
  clear hb y0 q2
  have y0 := (cell_of_box_1 HO.out.box).1
  cases fw with
  | false =>
    go_wp2
    go_ret
    exact ⟨rfl, HO.out.low⟩
  | true =>
    by_cases hlong : 100 < s.length
    · have d1 : decide (100 < s.length) = true := by simpa using hlong
      have d2 : decide ((100 : Int) < (s.length : Int)) = true := by rw [decide_eq_true_eq]; omega
      go_wp2
      go_ret
      exact ⟨rfl, HO.out.low⟩
    · have d1 : decide (100 < s.length) = false := by simpa using hlong
      have d2 : decide ((100 : Int) < (s.length : Int)) = false := by rw [decide_eq_false_iff_not]; omega
      have q3 := namesBelow_any V2 n0 ⟨ma, mc, ml⟩ s hs HO.out.hn HO.out.env HWF.out HO.out.fin hbk
      obtain ⟨RE, hRE⟩ : ∃ RE, belE ⟨ma, mc, ml⟩ s = RE := ⟨_, rfl⟩
      obtain ⟨B, hB⟩ : ∃ B, belL ⟨ma, mc, ml⟩ s = B := ⟨_, rfl⟩
      rw [hRE, hB] at q3
      simp only [FT.val, FT.cells] at q3
      have HR := Lib.hid (And.intro hRE hB)
      clear hRE hB
      go_wp2_with fail
      refine q3.mono ?_
      clear q3
      rintro e V3 ⟨hb, v, rfl, hr⟩
      replace HO := Lib.hid (HO.out.keep hb)
      have hz3 : g + 1 ≤ V3.heap.size := by have := hb.size; omega
      clear hb y0 hz2
      have y0 := (cell_of_box_1 HO.out.box).1
      obtain ⟨ba, bc, rfl, hbr⟩ := hr
      have hbt : TRow V3.heap.size V3 B ba := hbr.imp id (fun ⟨b, o, x1, x2, x3, x4⟩ => ⟨b, o, x1, x3, x4⟩)
      have HB := Lib.hid hbt
      clear hbr hbt
      by_cases hre : RE ≠ 0
      · have e1 : (RE != 0) = true := by simpa using hre
        go_wp2
        go_ret
        exact ⟨rfl, HO.out.low⟩
      · replace hre : RE = 0 := Decidable.byContradiction hre
        subst hre
        have hBs := HR.out
        have hCP : checkP ⟨ma, mc, ml⟩ = 0 := by
          have h1 := HR.out.1
          unfold belE at h1
          by_cases e : checkP ⟨ma, mc, ml⟩ = 0
          · exact e
          · rw [if_pos e] at h1; exact absurd h1 e
        have hBl : B.length ≤ 1500000 := by
          have h1 := HR.out.2
          unfold belL at h1
          rw [if_neg (by rw [hCP]; simp)] at h1
          by_cases e : (ordF ⟨ma, mc, ml⟩).contains s = true
          · rw [if_pos e] at h1
            rw [← h1]
            refine Nat.le_trans (List.length_filter_le _ _) ?_
            unfold ordF
            rw [if_neg (by rw [hCP]; simp)]
            cases e2 : ordN ml ml.length [] with
            | none => simp
            | some out => exact (ord_facts e2 hbl).2.1
          · rw [if_neg e] at h1
            rw [← h1]; simp
        have HCP := Lib.hid hCP
        clear hBs hCP
        go_upto_region 10 with (fail)
        obtain ⟨gb, hgb⟩ : ∃ n, V3.heap.size = n := ⟨_, rfl⟩
        have bg := World.alloc_heap_new V3 (.cells #[.slice none 0 0] 24)
        have hb : Below V3.heap.size V3 (V3.alloc (.cells #[.slice none 0 0] 24)) := (Below.refl _ _).alloc (Nat.le_refl _) _
        have hz4 : (V3.alloc (.cells #[.slice none 0 0] 24)).heap.size = gb + 1 := by simp [hgb]
        have hn3 := HO.out.hn
        have hg5 := HO.out.env.size
        obtain ⟨V4, hV4⟩ : ∃ V4, V3.alloc (.cells #[.slice none 0 0] 24) = V4 := ⟨_, rfl⟩
        rw [hV4] at bg hb hz4 ⊢
        replace HO := Lib.hid (HO.out.keep hb)
        replace HB := Lib.hid (TRow.keep HB.out (Below.keptTo hb (Nat.le_refl _)))
        rw [hgb] at bg hz3 hn3 hg5 HB ⊢
        clear hV4
        have HG4 := Lib.hid bg
        clear hb bg y0 hgb
        go_wp2_with fail
        go_loopg [9] ml.length (fun gh u wr => ∃ (k : Nat) (gv : Value), u = .int .i64 k ∧ k + gh = ml.length ∧ WoR V4 gb B ml k gv wr)
        case atStart => exact ⟨0, .slice none 0 0, rfl, by omega, HG4.out, World.ownsRow_nil _ _ _ _, Below.refl _ _, by omega⟩
        case round =>
          obtain ⟨k, gv, rfl, hk, hw⟩ := hrel
          have hkt : KeptTo gb V4 wr := Below.keptTo hw.low (Nat.le_refl _)
          have BG : wr.heap[g]? = some (.cells #[.slice ma ml.length mc] 24 (0, 0)) := (hw.low.block g (by omega)).trans HO.out.box
          have y0 := (cell_of_box_1 BG).1
          have hT : TRow gb wr B ba := HB.out.keep hkt
          have hfi : FT.In n0 wr ⟨ma, mc, ml⟩ := FT.In.keep (hkt.less hn3) _ HO.out.fin
          have HW := Lib.hid hw
          have HT := Lib.hid (And.intro hT hfi)
          have hzr := hw.top
          clear hw hkt hT hfi
          by_cases hlt : k < ml.length
          · have d1 : decide (k < ml.length) = true := by simpa using hlt
            have d2 : decide ((k : Int) < (ml.length : Int)) = true := by rw [decide_eq_true_eq]; omega
            have x1 : (k : Int) < (ml.length : Int) := by omega
            obtain ⟨b, o, rfl, hb, hr, -⟩ := InRow.at HT.out.2 hlt
            have hsk := HW.out.skip hlt
            have hmo := fun w5 v5 O => HW.out.more (w5 := w5) (v5 := v5) (O := O) hlt
            obtain ⟨x, hxg⟩ : ∃ x, ml[k] = x := ⟨_, rfl⟩
            rw [hxg] at hr hsk
            have hmo2 : ∀ (w5 : World) (v5 : Value) (O : Obj), B.contains x.nm = true → w5.ownsRow (gb + 1) 33 4 v5 ((partM B (ml.take k)).length + 1) ((partM B (ml.take k)).flatMap MT.cells ++ x.cells) → (wr.alloc O).grownBy w5 gv.ownBlock → WoR V4 gb B ml (k + 1) v5 (w5.setCell ⟨gb, 0, none⟩ v5) := fun w5 v5 O h1 h2 h3 => hmo w5 v5 O (by rw [hxg]; exact h1) (by rw [hxg]; exact h2) h3
            have hones := ones_mod x
            obtain ⟨nm, pa, pc, pl, ta, tc, tl, ia, ic, il⟩ := x
            have r0 : wr.cell? ⟨b, o + k * 4, none⟩ = some (.string (bs nm)) := hr 0 _ rfl
            have r1 : wr.cell? ⟨b, o + k * 4 + 1, none⟩ = some (.slice pa pl.length pc) := hr 1 _ rfl
            have r2 : wr.cell? ⟨b, o + k * 4 + 2, none⟩ = some (.slice ta tl.length tc) := hr 2 _ rfl
            have r3 : wr.cell? ⟨b, o + k * 4 + 3, none⟩ = some (.slice ia il.length ic) := hr 3 _ rfl
            simp only [MT.cells] at hmo2 hones
            have HM := Lib.hid (And.intro hsk (And.intro hmo2 hones))
            clear hr hsk hmo hmo2 hxg hones
            have q := amongS_any ba bc B nm (by omega) wr (HT.out.1.imp id (fun ⟨b, o, x1, _, x4⟩ => ⟨b, o, x1, x4⟩))
            obtain ⟨KK, hKK⟩ : ∃ KK, B.contains nm = KK := ⟨_, rfl⟩
            rw [hKK] at q
            have HK := Lib.hid hKK
            clear hKK
            go_wp2_with fail
            refine q.mono ?_
            clear q
            rintro e w6 ⟨rfl, nq, hw6⟩
            cases KK with
            | false =>
              have HN := Lib.hid ((HM.out.1 HK.out).drewN nq)
              rw [← hw6] at HN
              clear r0 r1 r2 r3 y0 BG HM HT hw6
              go_wp2
              cases gk with
              | zero => omega
              | succ gg =>
                go_roundg gg
                case rel => exact ⟨k + 1, gv, rfl, by omega, HN.out⟩
                case measure => omega
            | true =>
              have hcell : ∀ (p : Addr) (v : Value), wr.cell? p = some v → w6.cell? p = some v := fun p v h => by rw [hw6]; exact h
              replace r0 := hcell _ _ r0
              replace r1 := hcell _ _ r1
              replace r2 := hcell _ _ r2
              replace r3 := hcell _ _ r3
              replace y0 := hcell _ _ y0
              have hb6 : w6.heap[gb]? = some (.cells #[gv] 24 (0, 0)) := by rw [hw6]; exact HW.out.box
              have ho6 : w6.ownsRow (gb + 1) 33 4 gv (partM B (ml.take k)).length ((partM B (ml.take k)).flatMap MT.cells) := by rw [hw6]; exact HW.out.own
              have yg : w6.cell? ⟨gb, 0, none⟩ = some gv := (cell_of_box_1 hb6).1
              have hz6 : gb + 1 ≤ w6.heap.size := by rw [hw6]; exact hzr
              have hgr : ∀ (w5 : World) (O : Obj), (w6.alloc O).grownBy w5 gv.ownBlock → (wr.alloc O).grownBy w5 gv.ownBlock := fun w5 O h => by rw [hw6] at h; exact ⟨h.os, h.tape, h.output, h.size, h.block⟩
              have hnb : ∀ q, gv.ownBlock = some q → gb + 1 ≤ q := fun q hq => (ho6.lt q hq).1
              have hpl : (partM B (ml.take k)).length ≤ 1500000 := by
                have h1 : (partM B (ml.take k)).length ≤ (ml.take k).length := List.length_filter_le _ _
                rw [List.length_take] at h1
                omega
              obtain ⟨PN, hPN⟩ : ∃ n, (partM B (ml.take k)).length = n := ⟨_, rfl⟩
              obtain ⟨PX, hPX⟩ : ∃ n, (partM B (ml.take k)).flatMap MT.cells = n := ⟨_, rfl⟩
              have HMo := Lib.hid (And.intro (fun (w5 : World) (v5 : Value) (O : Obj) => HM.out.2.1 w5 v5 O HK.out) (And.intro hgr (And.intro hPN hPX)))
              rw [hPN, hPX] at ho6
              rw [hPN] at hpl
              have HB6 := Lib.hid hb6
              have hnb2 := Lib.hid hnb
              have hones := HM.out.2.2
              have r0A := fun O => alloc_cell r0 O
              have r1A := fun O => alloc_cell r1 O
              have r2A := fun O => alloc_cell r2 O
              have r3A := fun O => alloc_cell r3 O
              have y0A := fun O => alloc_cell y0 O
              have ygA := fun O => alloc_cell yg O
              have ho6d : w6.drew.ownsRow (gb + 1) 33 4 gv PN PX := ho6
              obtain ⟨i0, hi0, hq0, hq1, hq2⟩ := info_parts info_mod
              have hb3a : ∀ x, gb + 1 ≤ (w6.drew.alloc x).heap.size := fun x => by rw [World.size_alloc]; show gb + 1 ≤ w6.heap.size + 1; omega
              have HON := Lib.hid hones
              clear hPN hPX HM HT BG hw6 hcell hb6 hgr hnb hones
              go_wp2
              go_region_law (refine step_append_own rfl (.tmp 53) (.tmp 59) 22 rfl (gb + 1) 33 i0 _ 4 88 Tryz.underlying22 hi0 hq0 hq1 hq2 rfl (by decide) gv PN PX (by simp [Act.eval, Act.put]) (ho6d.alloc (.cells #[.string (bs nm), .slice pa pl.length pc, .slice ta tl.length tc, .slice ia il.length ic] 33)) ⟨w6.heap.size, 0, none⟩ 1 1 [.string (bs nm), .slice pa pl.length pc, .slice ta tl.length tc, .slice ia il.length ic] (by simp [Act.eval, Act.put]) rfl (news_four w6.drew _ _ _ _ 33) HON.out (by unfold maxLen; omega) (by omega) (hb3a _) ?_; intro v5 w5 own5 hg5 _; obtain ⟨g5, cap5, rfl⟩ := own_some own5 (by omega); have hf5 : w5.heap[gb]? = some (.cells #[gv] 24 (0, 0)) := fb_kept HB6.out hg5 (fun e => by have := hnb2.out gb e.symm; omega); have y5 : w5.cell? ⟨gb, 0, none⟩ = some gv := (cell_of_box_1 hf5).1; have w5f : w5.frozen? ⟨gb, 0, none⟩ = false := (by simp [World.frozen?, hf5]))
              all_goals
                have hg6 : (w6.alloc (.cells #[.string (bs nm), .slice pa pl.length pc, .slice ta tl.length tc, .slice ia il.length ic] 33)).grownBy w5 gv.ownBlock := ⟨hg5.os, hg5.tape, hg5.output, hg5.size, hg5.block⟩
                have HN : Hid (WoR V4 gb B ml (k + 1) (.slice (some ⟨g5, 0, none⟩) (PN + 1) cap5) (w5.setCell ⟨gb, 0, none⟩ (.slice (some ⟨g5, 0, none⟩) (PN + 1) cap5))) := Lib.hid (HMo.out.1 w5 _ _ (by rw [HMo.out.2.2.1, HMo.out.2.2.2]; exact own5) (HMo.out.2.1 _ _ hg6))
                clear own5 hg5 hf5 y5 w5f hg6
                go_wp2
                cases gk with
                | zero => omega
                | succ gg =>
                  go_roundg gg
                  case rel => exact ⟨k + 1, _, rfl, by omega, HN.out⟩
                  case measure => omega
          · have d1 : decide (k < ml.length) = false := by simpa using hlt
            have d2 : decide ((k : Int) < (ml.length : Int)) = false := by rw [decide_eq_false_iff_not]; omega
            have hkl : k = ml.length := by omega
            subst hkl
            obtain ⟨a5, c5, rfl, hfI⟩ := file_of_own (n0 := 0) (by have := HW.out.own; rw [List.take_length] at this; exact this) (fun x hx => by
              have h1 := InRow.all HT.out.2 x (List.mem_filter.1 hx).1
              exact MT.In.less (by omega) _ h1)
            have hlen : (partM B ml).length = (partM B ml).length := rfl
            obtain ⟨hw1, hw2, hw3, hw4⟩ := without_ok ⟨ma, mc, ml⟩ s HCP.out HR.out.1 a5 c5
            rw [HR.out.2] at hw1 hw2 hw3 hw4 
            have hwf5 : FT.Wf ⟨a5, c5, partM B ml⟩ := wfL_filter HWF.out
            have hbk5 : FT.bk ⟨a5, c5, partM B ml⟩ ≤ 1500000 := by
              have := bkL_filter (fun m => B.contains m.nm) ml
              show 1 + MT.bkL (partM B ml) ≤ 1500000
              have h2 : 1 + MT.bkL ml ≤ 1500000 := hbk
              unfold partM
              omega
            have hEnv : EnvA wr := HO.out.env.low (fun b hb => by omega) HW.out.low
            have q1 : Calls Tryz.prog 24 #[FT.val ⟨a5, c5, partM B ml⟩] wr fun e W' => Below wr.heap.size wr W' ∧ ∃ a c, e = .returned (.tuple #[.slice a B.length c, .int .i64 0]) ∧ SRow 0 W' (.slice a B.length c) B := (namesOrder_any wr wr.heap.size ⟨a5, c5, partM B ml⟩ (Nat.le_refl _) hEnv hwf5 hfI hbk5).mono (by
              rintro e W' ⟨hb, ov, rfl, hp⟩
              have hr := hp.row
              rw [hw2] at hr
              obtain ⟨a, c, rfl, hx⟩ := hr
              exact ⟨hb, a, c, by rw [hw1], a, c, rfl, hx.imp id (fun ⟨b, o, x1, x2, x3⟩ => ⟨b, o, x1, Nat.zero_le _, x3⟩)⟩)
            have q2 : ∀ W : World, Below wr.heap.size wr W → Calls Tryz.prog 26 #[FT.val ⟨a5, c5, partM B ml⟩, .string (bs s)] W fun e W' => Below W.heap.size W W' ∧ ∃ a c, e = .returned (.tuple #[.slice a B.length c, .int .i64 0]) ∧ SRow 0 W' (.slice a B.length c) B := fun W hbw => (namesBelow_any W wr.heap.size ⟨a5, c5, partM B ml⟩ s hs hbw.size (hEnv.keep hbw) hwf5 (FT.In.keep (Below.keptTo hbw (Nat.le_refl _)) _ hfI) hbk5).mono (by
              rintro e W' ⟨hb, v, rfl, hr⟩
              rw [hw4] at hr
              obtain ⟨a, c, rfl, hx⟩ := hr
              exact ⟨hb, a, c, by rw [hw3], a, c, rfl, hx.imp id (fun ⟨b, o, x1, x2, x3⟩ => ⟨b, o, x1, Nat.zero_le _, x3⟩)⟩)
            have hl0 : SRow 0 wr (.slice ba B.length bc) B := ⟨ba, bc, rfl, HT.out.1.imp id (fun ⟨b, o, x1, x2, x4⟩ => ⟨b, o, x1, Nat.zero_le _, by omega, x4⟩)⟩
            have qt : ∀ (W : World) (a a2 : Option Addr) (c c2 : Nat), SRow 0 W (.slice a B.length c) B → SRow 0 W (.slice a2 B.length c2) B → Calls Tryz.prog 21 #[.slice a B.length c, .slice a2 B.length c2] W fun e W' => e = .returned (.bool true) ∧ Below W.heap.size W W' := fun W a a2 c c2 h1 h2 => (textsS_any a a2 c c2 B B (by omega) (by omega) W (lies_srow h1).2 (lies_srow h2).2).mono (by
              rintro e W' ⟨rfl, n, rfl⟩
              exact ⟨by simp, below_drewN (Below.refl _ _) n⟩)
            have hbox := HW.out.box
            have hlow : Below W.heap.size W wr := HO.out.low.trans (HW.out.low.mono (by omega))
            obtain ⟨L5, hL5⟩ : ∃ n, (partM B ml).length = n := ⟨_, rfl⟩
            simp only [FT.val, FT.cells] at q1 q2
            rw [hL5] at q1 hbox
            simp only [hL5] at q2
            have H1 := Lib.hid q2
            have HQT := Lib.hid qt
            have HL := Lib.hid (And.intro hl0 (And.intro hbox hlow))
            clear q2 qt hl0 hlow hw1 hw2 hw3 hw4 hwf5 hbk5 hfI hEnv HW HT HO HB HR HCP HWF hL5 hlen BG
            have yb := (cell_of_box_1 hbox).1
            clear hbox
            go_wp2_with fail
            refine q1.mono ?_
            clear q1
            rintro e Wa ⟨hba, a6, c6, rfl, hr6⟩
            have HA := Lib.hid (And.intro hba (And.intro hr6 (HL.out.1.below hba)))
            have bxa := block_kept HL.out.2.1 hba
            have ya := (cell_of_box_1 bxa).1
            have HBA := Lib.hid bxa
            clear hba hr6 yb bxa y0
            go_wp2_with fail
            refine (H1.out Wa HA.out.1).mono ?_
            rintro e Wb ⟨hbb, a7, c7, rfl, hr7⟩
            have HC := Lib.hid (And.intro hbb (And.intro hr7 (And.intro (HA.out.2.1.below hbb) (HA.out.2.2.below hbb))))
            clear hbb hr7 ya
            go_wp2_with fail
            refine (HQT.out Wb _ _ _ _ HC.out.2.2.2 HC.out.2.2.1).mono ?_
            rintro e Wc ⟨rfl, hbc⟩
            have HD := Lib.hid (And.intro hbc (And.intro (HC.out.2.1.below hbc) (HC.out.2.2.2.below hbc)))
            clear hbc
            go_wp2_with fail
            refine (HQT.out Wc _ _ _ _ HD.out.2.2 HD.out.2.1).mono ?_
            rintro e Wd ⟨rfl, hbd⟩
            have hfin : Below W.heap.size W Wd := HL.out.2.2.trans ((HA.out.1.mono HL.out.2.2.size).trans ((HC.out.1.mono (Nat.le_trans HL.out.2.2.size HA.out.1.size)).trans ((HD.out.1.mono (Nat.le_trans (Nat.le_trans HL.out.2.2.size HA.out.1.size) HC.out.1.size)).trans (hbd.mono (Nat.le_trans (Nat.le_trans (Nat.le_trans HL.out.2.2.size HA.out.1.size) HC.out.1.size) HD.out.1.size)))))
            have HFI := Lib.hid hfin
            clear hbd hfin
            go_wp2
            go_ret
            exact ⟨rfl, HFI.out⟩
end Go.Proofs.YtbfhbblbjgkolaaGreatDoor
