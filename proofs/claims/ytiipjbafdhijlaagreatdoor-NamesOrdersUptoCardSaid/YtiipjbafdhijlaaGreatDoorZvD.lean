/-
  NvD, in one text.
-/
import Derived.Test.YtiipjbafdhijlaaGreatDoorZuO
import Derived.Test.YtiipjbafdhijlaaGreatDoorZlP
namespace Go.Proofs.YtiipjbafdhijlaaGreatDoor
open Go Go.RowKit
set_option linter.unusedVariables false
set_option linter.unusedSimpArgs false
open Go.Sort
theorem srow_lies9 {lo : Nat} {W : World} {v : Value} {l : List Bytes} (h : SRow lo W v l) : ∃ a c, v = .slice a l.length c ∧ LiesS W a l := by
 obtain ⟨a, c, h1, h2⟩ := h
 exact ⟨a, c, h1, h2.imp id fun ⟨b, o, x1, _, _, x2⟩ => ⟨b, o, x1, x2⟩⟩
set_option maxHeartbeats 16000000 in
set_option maxRecDepth 100000 in
theorem orders_any (W : World) (n0 : Nat) (f : FT) (top : Bytes) (htop : top.length ≤ 1100000) (hn0 : n0 ≤ W.heap.size) (he : EnvA W) (hwf : f.Wf) (hin : f.In n0 W) (hbk : f.bk ≤ 1100000) :
  Calls Tryz.prog 4 #[f.val, .string (bs top)] W fun e W' => e = .returned (.bool true) ∧ Below W.heap.size W W' := by
 obtain ⟨ma, mc, ml⟩ := f
 have hbl : MT.bkL ml ≤ 1100000 := by have : 1 + MT.bkL ml ≤ 1100000 := hbk; omega
 have hsz : FT.sz ⟨ma, mc, ml⟩ ≤ 4500000 := by have := MT.szL_bk ml; show MT.szL ml ≤ _; omega
 obtain ⟨g, hg⟩ : ∃ g, W.heap.size = g := ⟨_, rfl⟩
 obtain ⟨W1, hW1⟩ : ∃ W1, W.alloc (.cells #[.slice ma ml.length mc] 24) = W1 := ⟨_, rfl⟩
 have hB1 : Below W.heap.size W W1 := by rw [← hW1]; exact (Below.refl _ _).alloc (Nat.le_refl _) _
 have hwo : Wo7 W W1 n0 g ⟨ma, mc, ml⟩ := ⟨he.keep hB1, hB1, Nat.le_trans hn0 hB1.size, FT.In.keep (Below.keptTo hB1 hn0) _ hin, by rw [← hW1, ← hg]; exact World.alloc_heap_new W _⟩
 have HO := Lib.hid hwo
 have HWF := Lib.hid hwf
 have HS := Lib.hid hsz
 have HBK := Lib.hid hbk
 simp only [FT.val, FT.cells]
 clear he hwf hin hB1 hwo hsz hbk
 go_enter Tryz.func4, Tryz.ntmps4
 go_wp2_with fail
 (try rw [hW1])
 refine (live7_any _ HO.out.env).mono ?_
 rintro e V1 ⟨rfl, hb⟩
 replace HO := Lib.hid (HO.out.keep hb)
 clear hW1 hb
 have y0 := (cell_of_box_1 HO.out.box).1
 have q2 := few7_any ⟨ma, mc, ml⟩ HS.out n0 V1 HO.out.hn HO.out.fin
 obtain ⟨fw, hfw⟩ : ∃ b, (decide (FT.sz ⟨ma, mc, ml⟩ ≤ 2000) && decide (FT.dp ⟨ma, mc, ml⟩ ≤ 100)) = b := ⟨_, rfl⟩
 have HFW := Lib.hid hfw
 rw [hfw] at q2
 simp only [FT.val, FT.cells] at q2
 clear hfw
 go_wp2_with fail
 refine q2.mono ?_
 rintro e V2 ⟨rfl, hb⟩
 replace HO := Lib.hid (HO.out.keep hb)
 clear hb y0 q2
 have y0 := (cell_of_box_1 HO.out.box).1
 cases fw with
 | false =>
  go_wp2
  go_ret
  exact ⟨rfl, HO.out.low⟩
 | true =>
  by_cases hlong : 100 < top.length
  ·have d3 : decide (100 < top.length) = true := by simpa using hlong
   have d4 : decide ((100 : Int) < (top.length : Int)) = true := by rw [decide_eq_true_eq]; omega
   go_wp2
   go_ret
   exact ⟨rfl, HO.out.low⟩
  have d3 : decide (100 < top.length) = false := by simpa using hlong
  have d4 : decide ((100 : Int) < (top.length : Int)) = false := by rw [decide_eq_false_iff_not]; omega
  have hsz2 : FT.sz ⟨ma, mc, ml⟩ ≤ 2000 := by have := HFW.out; simp only [Bool.and_eq_true, decide_eq_true_eq] at this; exact this.1
  have hlo : (ordF ⟨ma, mc, ml⟩).length ≤ 1099511627776 := by
   by_cases h0 : checkP ⟨ma, mc, ml⟩ = 0
   ·have h1 := (ord_ok9 h0).len
    have h2 := MT.szL_len ml
    have h3 : MT.szL ml ≤ 2000 := hsz2
    have h4 : (ordF ⟨ma, mc, ml⟩).length ≤ ml.length := h1
    omega
   ·unfold ordF; rw [if_pos h0]; simp
  have hlb : (belL ⟨ma, mc, ml⟩ top).length ≤ 1099511627776 := by
   unfold belL
   split
   ·simp
   ·split
    ·exact Nat.le_trans (List.length_filter_le _ _) hlo
    ·simp
  have q3 := fun V (hV : Below V2.heap.size V2 V) => namesOrder_any V n0 ⟨ma, mc, ml⟩ (HO.out.keep hV).hn (HO.out.keep hV).env HWF.out (HO.out.keep hV).fin (by have := HBK.out; omega)
  have q4 := fun V (hV : Below V2.heap.size V2 V) => refOrder_any V n0 ⟨ma, mc, ml⟩ (HO.out.keep hV).hn (HO.out.keep hV).env HWF.out (HO.out.keep hV).fin (by have := HBK.out; omega) hsz2
  have q5 := fun V (hV : Below V2.heap.size V2 V) => namesBelow_any V n0 ⟨ma, mc, ml⟩ top (by omega) (HO.out.keep hV).hn (HO.out.keep hV).env HWF.out (HO.out.keep hV).fin (by have := HBK.out; omega)
  have q6 := fun V (hV : Below V2.heap.size V2 V) => refBelow_any V n0 ⟨ma, mc, ml⟩ top (by omega) (HO.out.keep hV).hn (HO.out.keep hV).env HWF.out (HO.out.keep hV).fin (by have := HBK.out; omega) hsz2
  have q3 := fun V (hV : Below V2.heap.size V2 V) => (q3 V hV).mono fun e w' h => (show Below V.heap.size V w' ∧ ∃ a c, e = .returned (.tuple #[.slice a (ordF ⟨ma, mc, ml⟩).length c, .int .i64 (checkP ⟨ma, mc, ml⟩)]) ∧ LiesS w' a (ordF ⟨ma, mc, ml⟩) from by
   obtain ⟨h1, ov, h2, h3⟩ := h
   obtain ⟨a, c, rfl, h4⟩ := srow_lies9 (OrdPost.row (f := ⟨ma, mc, ml⟩) h3)
   exact ⟨h1, a, c, h2, h4⟩)
  have q5 := fun V (hV : Below V2.heap.size V2 V) => (q5 V hV).mono fun e w' h => (show Below V.heap.size V w' ∧ ∃ a c, e = .returned (.tuple #[.slice a (belL ⟨ma, mc, ml⟩ top).length c, .int .i64 (belE ⟨ma, mc, ml⟩ top)]) ∧ LiesS w' a (belL ⟨ma, mc, ml⟩ top) from by
   obtain ⟨h1, ov, h2, h3⟩ := h
   obtain ⟨a, c, rfl, h4⟩ := srow_lies9 h3
   exact ⟨h1, a, c, h2, h4⟩)
  unfold OrdR at q4
  unfold BelR at q6
  obtain ⟨CP, hCP⟩ : ∃ x, checkP ⟨ma, mc, ml⟩ = x := ⟨_, rfl⟩
  obtain ⟨BE, hBE⟩ : ∃ x, belE ⟨ma, mc, ml⟩ top = x := ⟨_, rfl⟩
  obtain ⟨L, hL⟩ : ∃ x, ordF ⟨ma, mc, ml⟩ = x := ⟨_, rfl⟩
  obtain ⟨M, hM⟩ : ∃ x, belL ⟨ma, mc, ml⟩ top = x := ⟨_, rfl⟩
  simp only [hCP, hBE, hL, hM, FT.val, FT.cells] at q3 q4 q5 q6 hlo hlb
  have HQ := Lib.hid (And.intro q3 (And.intro q4 (And.intro q5 q6)))
  clear q3 q4 q5 q6 hCP hBE hL hM hsz2 HFW hbl htop hlong
  have HB : Hid (Below V2.heap.size V2 V2) := Lib.hid (Below.refl _ _)
  go_wp2_with fail
  refine (HQ.out.1 _ HB.out).mono ?_
  rintro e V3 ⟨hb, a1, c1, rfl, hl1⟩
  replace HB := Lib.hid (HB.out.trans (hb.mono HB.out.size))
  replace y0 := keep_cell hb y0
  have H1 := Lib.hid hl1
  clear hb hl1
  go_wp2_with fail
  refine (HQ.out.2.1 _ HB.out).mono ?_
  rintro e V4 ⟨a2, c2, rfl, -, hl2, hb⟩
  replace HB := Lib.hid (HB.out.trans (hb.mono HB.out.size))
  replace y0 := keep_cell hb y0
  replace H1 := Lib.hid (lies_keep7 H1.out hb)
  have H2 := Lib.hid hl2
  clear hb hl2
  go_wp2_with fail
  refine (HQ.out.2.2.1 _ HB.out).mono ?_
  rintro e V5 ⟨hb, a3, c3, rfl, hl3⟩
  replace HB := Lib.hid (HB.out.trans (hb.mono HB.out.size))
  replace y0 := keep_cell hb y0
  replace H1 := Lib.hid (lies_keep7 H1.out hb)
  replace H2 := Lib.hid (lies_keep7 H2.out hb)
  have H3 := Lib.hid hl3
  clear hb hl3
  go_wp2_with fail
  refine (HQ.out.2.2.2 _ HB.out).mono ?_
  rintro e V6 ⟨a4, c4, rfl, hl4, hb⟩
  replace HB := Lib.hid (HB.out.trans (hb.mono HB.out.size))
  replace y0 := keep_cell hb y0
  replace H1 := Lib.hid (lies_keep7 H1.out hb)
  replace H2 := Lib.hid (lies_keep7 H2.out hb)
  replace H3 := Lib.hid (lies_keep7 H3.out hb)
  have H4 := Lib.hid hl4
  clear hb hl4
  have qt := textsS_any a1 a2 c1 c2 L L hlo hlo V6 H1.out H2.out
  rw [decide_eq_true rfl] at qt
  go_wp2_with fail
  refine qt.mono ?_
  clear qt
  rintro e V7 ⟨rfl, n7, hV7⟩
  have hb : Below V6.heap.size V6 V7 := by rw [hV7]; exact below_drewN (Below.refl _ _) n7
  replace HB := Lib.hid (HB.out.trans (hb.mono HB.out.size))
  replace H3 := Lib.hid (lies_keep7 H3.out hb)
  replace H4 := Lib.hid (lies_keep7 H4.out hb)
  clear hV7 hb
  have qt := textsS_any a3 a4 c3 c4 M M hlb hlb V7 H3.out H4.out
  rw [decide_eq_true rfl] at qt
  go_wp2_with fail
  refine qt.mono ?_
  clear qt
  rintro e V8 ⟨rfl, n8, hV8⟩
  have hb : Below V7.heap.size V7 V8 := by rw [hV8]; exact below_drewN (Below.refl _ _) n8
  replace HB := Lib.hid (HB.out.trans (hb.mono HB.out.size))
  clear hV8 hb
  have hlow := (HO.out.keep HB.out).low
  have f1 : (CP == CP) = true := by simp
  have f2 : (BE == BE) = true := by simp
  go_wp2
  go_ret
  exact ⟨rfl, hlow⟩
end Go.Proofs.YtiipjbafdhijlaaGreatDoor
