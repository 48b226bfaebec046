/-
  NuG, NuH, NuI, in one text.
-/
import Derived.Test.YtiipjbafdhijlaaGreatDoorZRf
import Derived.Test.YtiipjbafdhijlaaGreatDoorZuF
namespace Go.Proofs.YtiipjbafdhijlaaGreatDoor
open Go Go.RowKit
set_option linter.unusedVariables false
set_option linter.unusedSimpArgs false
open Go.Sort
set_option maxHeartbeats 8000000 in
set_option maxRecDepth 100000 in
theorem refbinds_any (l : List BT) (hbk : BT.bkL l ≤ 4500000) (hwf : BT.WfL l) (a : Option Addr) (c n0 : Nat) (w : World) (hn0 : n0 ≤ w.heap.size) (hin : InRow 7 BT.cells (BT.In n0 w) n0 w l a) : Calls Tryz.prog 95 #[.slice a l.length c] w fun e w' => e = .returned (.bool (l.all mayB')) ∧ Below w.heap.size w w' := by
 have hll : l.length ≤ 4500000 := by
  have : ∀ l : List BT, l.length ≤ BT.bkL l := fun l => by
   induction l with
   | nil => exact Nat.le_refl _
   | cons x r ih => rw [BT.bkL, BT.bk, List.length_cons]; omega
  have := this l
  omega
 obtain ⟨R, hR⟩ : ∃ R, l.all mayB' = R := ⟨_, rfl⟩
 rw [hR]
 have HR := Lib.hid hR
 have HI := Lib.hid hin
 have HP := Lib.hid (And.intro hbk ((BT.wfL_iff _).1 hwf))
 clear hR hin hbk hwf
 go_enter Tryz.func95, Tryz.ntmps95
 go_wp2
 go_loopg [3] l.length (fun g u wr => ∃ k : Nat, u = .int .i64 k ∧ k + g = l.length ∧ (l.drop k).all mayB' = R ∧ Below w.heap.size w wr)
 case atStart => exact ⟨0, rfl, by omega, by rw [List.drop_zero]; exact HR.out, Below.refl _ _⟩
 case round =>
  obtain ⟨k, rfl, hk, hdr, hbW⟩ := hrel
  clear HR
  have HD := Lib.hid hdr
  clear hdr
  by_cases hlt : k < l.length
  ·have d1 : decide (k < l.length) = true := by simpa using hlt
   have d2 : decide ((k : Int) < (l.length : Int)) = true := by rw [decide_eq_true_eq]; omega
   have x1 : (k : Int) < (l.length : Int) := by omega
   have hkt : KeptTo n0 w wr := Below.keptTo hbW hn0
   obtain ⟨b, o, rfl, hb, hr, hx⟩ := InRow.at (InRow.keep hkt (fun x _ h => BT.In.keep hkt x h) HI.out) hlt
   have hdk := all_drop9 mayB' l k hlt
   have hbx := BT.bkL_mem (List.getElem_mem hlt)
   have hxw := HP.out.2 l[k] (List.getElem_mem hlt)
   have hbl := HP.out.1
   obtain ⟨x, hxg⟩ : ∃ x, l[k] = x := ⟨_, rfl⟩
   rw [hxg] at hr hx hdk hbx hxw
   obtain ⟨bn, op, xn, m, wd, v, a2, c2, l2⟩ := x
   have hxb : XT.bk (.mk op xn m wd v a2 c2 l2) ≤ 4500000 := by
    have h : 1 + bn.length + XT.bk (.mk op xn m wd v a2 c2 l2) ≤ BT.bkL l := hbx
    omega
   have hnl : bn.length ≤ 9000000 := by
    have h : 1 + bn.length + XT.bk (.mk op xn m wd v a2 c2 l2) ≤ BT.bkL l := hbx
    omega
   have hxw : XT.Wf (.mk op xn m wd v a2 c2 l2) := hxw
   have hx : XT.In n0 wr (.mk op xn m wd v a2 c2 l2) := hx
   have hdk : (l.drop k).all mayB' = ((isNameB bn && mayX (.mk op xn m wd v a2 c2 l2)) && (l.drop (k + 1)).all mayB') := hdk
   have x0 : wr.cell? ⟨b, o + k * 7, none⟩ = some (.string (bs bn)) := hr 0 _ rfl
   have x1 : wr.cell? ⟨b, o + k * 7 + 1, none⟩ = some (.int .i64 op) := hr 1 _ rfl
   have x2 : wr.cell? ⟨b, o + k * 7 + 2, none⟩ = some (.string (bs xn)) := hr 2 _ rfl
   have x3 : wr.cell? ⟨b, o + k * 7 + 3, none⟩ = some (.int .i64 m) := hr 3 _ rfl
   have x4 : wr.cell? ⟨b, o + k * 7 + 4, none⟩ = some (.int .i64 wd) := hr 4 _ rfl
   have x5 : wr.cell? ⟨b, o + k * 7 + 5, none⟩ = some (.int .u64 (v : Int)) := hr 5 _ rfl
   have x6 : wr.cell? ⟨b, o + k * 7 + 6, none⟩ = some (.slice a2 l2.length c2) := hr 6 _ rfl
   clear hr hxg hkt hbx hbl hb
   have q := refname_any bn (by omega) wr
   have qm := fun (V : World) (hV : Below wr.heap.size wr V) => refmayX_any (.mk op xn m wd v a2 c2 l2) hxb hxw n0 V (by have := hV.size; have := hbW.size; omega) (XT.In.keep (Below.keptTo hV (by have := hbW.size; omega)) _ hx)
   obtain ⟨K1, hK1⟩ : ∃ K, isNameB bn = K := ⟨_, rfl⟩
   obtain ⟨K2, hK2⟩ : ∃ K, mayX (.mk op xn m wd v a2 c2 l2) = K := ⟨_, rfl⟩
   rw [hK1] at q hdk
   simp only [hK2] at qm
   rw [hK2] at hdk
   simp only [XT.val, XT.cells] at qm
   have HQM := Lib.hid qm
   have HK := Lib.hid hdk
   have HBW := Lib.hid hbW
   clear qm hdk hK1 hK2 hxb hxw hx hbW
   go_wp2_with fail
   refine q.mono ?_
   clear q
   rintro e w1 ⟨rfl, hb1⟩
   have HB1 := Lib.hid hb1
   cases K1 with
   | false =>
    have HE : Hid (R = false) := Lib.hid (by rw [← HD.out, HK.out]; rfl)
    have HLo := Lib.hid (HBW.out.trans (hb1.mono HBW.out.size))
    clear hb1 HK HD HQM
    go_wp2
    go_ret
    exact ⟨ret_bool HE.out.symm, HLo.out⟩
   | true =>
    have q := HQM.out w1 hb1
    replace x0 := keep_cell hb1 x0
    replace x1 := keep_cell hb1 x1
    replace x2 := keep_cell hb1 x2
    replace x3 := keep_cell hb1 x3
    replace x4 := keep_cell hb1 x4
    replace x5 := keep_cell hb1 x5
    replace x6 := keep_cell hb1 x6
    clear hb1
    go_wp2_with fail
    refine q.mono ?_
    clear q
    rintro e w2 ⟨rfl, hb2⟩
    have HB2 := Lib.hid (HB1.out.trans (hb2.mono HB1.out.size))
    clear hb2
    cases K2 with
    | false =>
     have HE : Hid (R = false) := Lib.hid (by rw [← HD.out, HK.out]; rfl)
     have HLo := Lib.hid (HBW.out.trans (HB2.out.mono HBW.out.size))
     clear HK HD HQM
     go_wp2
     go_ret
     exact ⟨ret_bool HE.out.symm, HLo.out⟩
    | true =>
     have HE : Hid ((l.drop (k + 1)).all mayB' = R) := Lib.hid (by rw [← HD.out, HK.out]; rfl)
     clear HK HD HQM
     go_wp2
     obtain ⟨gg, rfl⟩ : ∃ gg, gk = gg + 1 := ⟨gk - 1, by omega⟩
     go_roundg gg
     case rel => exact ⟨k + 1, rfl, by omega, HE.out, HBW.out.trans (HB2.out.mono HBW.out.size)⟩
     case measure => omega
  ·have d1 : decide (k < l.length) = false := by simpa using hlt
   have d2 : decide ((k : Int) < (l.length : Int)) = false := by rw [decide_eq_false_iff_not]; omega
   have HE : Hid (R = true) := Lib.hid (by rw [← HD.out, List.drop_eq_nil_of_le (by omega)]; rfl)
   clear HD
   go_wp2
   go_ret
   exact ⟨ret_bool HE.out.symm, hbW⟩
/-- The contract of an item. -/
def ItC (x : IT) : Prop := ∀ (n0 : Nat) (w : World), x.bk ≤ 4500000 → x.Wf → n0 ≤ w.heap.size → x.In n0 w → Calls Tryz.prog 126 #[.agg x.cells.toArray] w fun e w' => e = .returned (.bool (mayI x)) ∧ Below w.heap.size w w'
end Go.Proofs.YtiipjbafdhijlaaGreatDoor
namespace Go.Proofs.YtiipjbafdhijlaaGreatDoor
open Go Go.RowKit
set_option linter.unusedVariables false
set_option linter.unusedSimpArgs false
open Go.Sort
theorem IT.bkL_len9 : ∀ l : List IT, l.length ≤ IT.bkL l
 | [] => Nat.le_refl _
 | x :: r => by
  have h := IT.bkL_len9 r
  have h2 : 1 ≤ x.bk := by obtain ⟨op2, nm2, nf2, xa2, xc2, xl2, sa2, sc2, sl2, la2, lc2, ll2, ea2, ec2, el2, pa2, pc2, pl2, ba2, bc2, bl2⟩ := x; rw [IT.bk]; omega
  rw [IT.bkL, List.length_cons]; omega
set_option maxHeartbeats 8000000 in
set_option maxRecDepth 100000 in
theorem refitems_of (l : List IT) (hit : ∀ x ∈ l, ItC x) (hbk : IT.bkL l ≤ 4500000) (hwf : IT.WfL l) (a : Option Addr) (c n0 : Nat) (w : World) (hn0 : n0 ≤ w.heap.size) (hin : InRow 9 IT.cells (IT.In n0 w) n0 w l a) : Calls Tryz.prog 96 #[.slice a l.length c] w fun e w' => e = .returned (.bool (l.all mayI)) ∧ Below w.heap.size w w' := by
 have hll := IT.bkL_len9 l
 obtain ⟨R, hR⟩ : ∃ R, l.all mayI = R := ⟨_, rfl⟩
 rw [hR]
 have HR := Lib.hid hR
 have HI := Lib.hid hin
 have HP := Lib.hid (And.intro hbk (And.intro ((IT.wfL_iff _).1 hwf) hit))
 have hlb : l.length ≤ 4500000 := by omega
 clear hR hin hbk hwf hit hll
 go_enter Tryz.func96, Tryz.ntmps96
 go_wp2
 go_loopg [3] l.length (fun g u wr => ∃ k : Nat, u = .int .i64 k ∧ k + g = l.length ∧ (l.drop k).all mayI = R ∧ Below w.heap.size w wr)
 case atStart => exact ⟨0, rfl, by omega, by rw [List.drop_zero]; exact HR.out, Below.refl _ _⟩
 case round =>
  obtain ⟨k, rfl, hk, hdr, hbW⟩ := hrel
  clear HR
  have HD := Lib.hid hdr
  clear hdr
  by_cases hlt : k < l.length
  ·have d1 : decide (k < l.length) = true := by simpa using hlt
   have d2 : decide ((k : Int) < (l.length : Int)) = true := by rw [decide_eq_true_eq]; omega
   have x1 : (k : Int) < (l.length : Int) := by omega
   have hkt : KeptTo n0 w wr := Below.keptTo hbW hn0
   obtain ⟨b, o, rfl, hb, hr, hx⟩ := InRow.at (InRow.keep hkt (fun x _ h => IT.In.keep hkt x h) HI.out) hlt
   have hdk := all_drop9 mayI l k hlt
   have q := HP.out.2.2 l[k] (List.getElem_mem hlt) n0 wr (Nat.le_trans (IT.bkL_mem (List.getElem_mem hlt)) HP.out.1) (HP.out.2.1 l[k] (List.getElem_mem hlt)) (by have := hbW.size; omega) hx
   obtain ⟨K1, hK1⟩ : ∃ K, mayI l[k] = K := ⟨_, rfl⟩
   rw [hK1] at q hdk
   obtain ⟨x, hxg⟩ : ∃ x, l[k] = x := ⟨_, rfl⟩
   rw [hxg] at hr q
   obtain ⟨op2, nm2, nf2, xa2, xc2, xl2, sa2, sc2, sl2, la2, lc2, ll2, ea2, ec2, el2, pa2, pc2, pl2, ba2, bc2, bl2⟩ := x
   simp only [IT.cells] at q
   have r0 : wr.cell? ⟨b, o + k * 9, none⟩ = some (.int .i64 op2) := hr 0 _ rfl
   have r1 : wr.cell? ⟨b, o + k * 9 + 1, none⟩ = some (.string (bs nm2)) := hr 1 _ rfl
   have r2 : wr.cell? ⟨b, o + k * 9 + 2, none⟩ = some (.string (bs nf2)) := hr 2 _ rfl
   have r3 : wr.cell? ⟨b, o + k * 9 + 3, none⟩ = some (.slice xa2 xl2.length xc2) := hr 3 _ rfl
   have r4 : wr.cell? ⟨b, o + k * 9 + 4, none⟩ = some (.slice sa2 sl2.length sc2) := hr 4 _ rfl
   have r5 : wr.cell? ⟨b, o + k * 9 + 5, none⟩ = some (.slice la2 ll2.length lc2) := hr 5 _ rfl
   have r6 : wr.cell? ⟨b, o + k * 9 + 6, none⟩ = some (.slice ea2 el2.length ec2) := hr 6 _ rfl
   have r7 : wr.cell? ⟨b, o + k * 9 + 7, none⟩ = some (.slice pa2 pl2.length pc2) := hr 7 _ rfl
   have r8 : wr.cell? ⟨b, o + k * 9 + 8, none⟩ = some (.slice ba2 bl2.length bc2) := hr 8 _ rfl
   have HK := Lib.hid hdk
   have HBW := Lib.hid hbW
   clear hr hx hdk hxg hK1 hkt hbW hb
   go_wp2_with fail
   refine q.mono ?_
   clear q r0 r1 r2 r3 r4 r5 r6 r7 r8
   rintro e w1 ⟨rfl, hb1⟩
   have HB1 := Lib.hid (HBW.out.trans (hb1.mono HBW.out.size))
   clear hb1
   cases K1 with
   | false =>
    have HE : Hid (R = false) := Lib.hid (by rw [← HD.out, HK.out]; rfl)
    clear HK HD
    go_wp2
    go_ret
    exact ⟨ret_bool HE.out.symm, HB1.out⟩
   | true =>
    have HE : Hid ((l.drop (k + 1)).all mayI = R) := Lib.hid (by rw [← HD.out, HK.out]; rfl)
    clear HK HD
    go_wp2
    obtain ⟨gg, rfl⟩ : ∃ gg, gk = gg + 1 := ⟨gk - 1, by omega⟩
    go_roundg gg
    case rel => exact ⟨k + 1, rfl, by omega, HE.out, HB1.out⟩
    case measure => omega
  ·have d1 : decide (k < l.length) = false := by simpa using hlt
   have d2 : decide ((k : Int) < (l.length : Int)) = false := by rw [decide_eq_false_iff_not]; omega
   have HE : Hid (R = true) := Lib.hid (by rw [← HD.out, List.drop_eq_nil_of_le (by omega)]; rfl)
   clear HD
   go_wp2
   go_ret
   exact ⟨ret_bool HE.out.symm, hbW⟩
set_option maxHeartbeats 16000000 in
set_option maxRecDepth 100000 in
theorem refmodule_of (y : MT) (hit : ∀ x ∈ y.il, ItC x) (hbk : y.bk ≤ 4500000) (hwf : y.Wf) (n0 : Nat) (w : World) (hn0 : n0 ≤ w.heap.size) (hin : y.In n0 w) : Calls Tryz.prog 56 #[y.val] w fun e w' => e = .returned (.bool (mayM y)) ∧ Below w.heap.size w w' := by
 obtain ⟨R, hR⟩ : ∃ R, mayM y = R := ⟨_, rfl⟩
 rw [hR]
 obtain ⟨nm, pa, pc, pl, ta, tc, tl, ia, ic, il⟩ := y
 have hit : ∀ x ∈ il, ItC x := hit
 have hbk : 1 + nm.length + BT.bkL pl + PT.bkL tl + IT.bkL il ≤ 4500000 := hbk
 obtain ⟨g1, g2, g3⟩ : BT.WfL pl ∧ PT.WfL tl ∧ IT.WfL il := hwf
 obtain ⟨i1, i2, i3⟩ : InRow 7 BT.cells (BT.In n0 w) n0 w pl pa ∧ InRow 8 PT.cells (PT.In n0 w) n0 w tl ta ∧ InRow 9 IT.cells (IT.In n0 w) n0 w il ia := hin
 have hll : tl.length ≤ 4500000 := by
  have : ∀ l : List PT, l.length ≤ PT.bkL l := fun l => by
   induction l with
   | nil => exact Nat.le_refl _
   | cons x r ih => rw [PT.bkL, PT.bk, List.length_cons]; omega
  have := this tl
  omega
 have hR : (isNameB nm && (pl.all mayB' && (tl.all mayP && il.all mayI))) = R := hR
 have qn : ∀ V, Calls Tryz.prog 93 #[.string (bs nm)] V fun e w' => e = .returned (.bool (isNameB nm)) ∧ Below V.heap.size V w' := fun V => refname_any nm (by omega) V
 have qb : ∀ V, Below w.heap.size w V → Calls Tryz.prog 95 #[.slice pa pl.length pc] V fun e w' => e = .returned (.bool (pl.all mayB')) ∧ Below V.heap.size V w' := fun V hV => refbinds_any pl (by omega) g1 pa pc n0 V (by have := hV.size; omega) (InRow.keep (Below.keptTo hV hn0) (fun x _ h => BT.In.keep (Below.keptTo hV hn0) x h) i1)
 have qi : ∀ V, Below w.heap.size w V → Calls Tryz.prog 96 #[.slice ia il.length ic] V fun e w' => e = .returned (.bool (il.all mayI)) ∧ Below V.heap.size V w' := fun V hV => refitems_of il hit (by omega) g3 ia ic n0 V (by have := hV.size; omega) (InRow.keep (Below.keptTo hV hn0) (fun x _ h => IT.In.keep (Below.keptTo hV hn0) x h) i3)
 obtain ⟨S1, hS1⟩ : ∃ S, isNameB nm = S := ⟨_, rfl⟩
 obtain ⟨S2, hS2⟩ : ∃ S, pl.all mayB' = S := ⟨_, rfl⟩
 obtain ⟨S3, hS3⟩ : ∃ S, tl.all mayP = S := ⟨_, rfl⟩
 obtain ⟨S4, hS4⟩ : ∃ S, il.all mayI = S := ⟨_, rfl⟩
 rw [hS1, hS2, hS3, hS4] at hR
 simp only [hS1] at qn
 simp only [hS2] at qb
 simp only [hS4] at qi
 have HR := Lib.hid hR
 have HS3 := Lib.hid hS3
 have HQ := Lib.hid (And.intro qn (And.intro qb qi))
 have HI := Lib.hid i2
 have HP := Lib.hid (And.intro (show PT.bkL tl ≤ 4500000 by omega) ((PT.wfL_iff _).1 g2))
 clear hR hS1 hS2 hS3 hS4 qn qb qi i1 i2 i3 g1 g2 g3 hit hbk
 simp only [MT.val, MT.cells]
 obtain ⟨gx, hgx⟩ : ∃ gx, w.heap.size = gx := ⟨_, rfl⟩
 obtain ⟨W1, hW1⟩ : ∃ W1, w.alloc (.cells #[.string (bs nm), .slice pa pl.length pc, .slice ta tl.length tc, .slice ia il.length ic] 39) = W1 := ⟨_, rfl⟩
 have hb0 : Below w.heap.size w W1 := by rw [← hW1]; exact (Below.refl _ _).alloc (Nat.le_refl _) _
 have BX : W1.heap[gx]? = some (.cells #[.string (bs nm), .slice pa pl.length pc, .slice ta tl.length tc, .slice ia il.length ic] 39 (0, 0)) := by rw [← hW1, ← hgx]; exact World.alloc_heap_new w _
 have y2 : W1.cell? ⟨gx, 2, none⟩ = some (.slice ta tl.length tc) := by simp [World.cell?, BX]
 have HB := Lib.hid (And.intro hb0 BX)
 clear hb0 BX
 go_enter Tryz.func56, Tryz.ntmps56
 go_wp2_with fail
 (try rw [hW1])
 clear hW1 y2
 go_loopg [3] tl.length (fun g u wr => ∃ k : Nat, u = .int .i64 k ∧ k + g = tl.length ∧ (tl.drop k).all mayP = S3 ∧ Below W1.heap.size W1 wr)
 case atStart => exact ⟨0, rfl, by omega, by rw [List.drop_zero]; exact HS3.out, Below.refl _ _⟩
 case round =>
  obtain ⟨k, rfl, hk, hdr, hbw⟩ := hrel
  clear HS3
  have HD := Lib.hid hdr
  have hbW : Below w.heap.size w wr := HB.out.1.trans (hbw.mono HB.out.1.size)
  have BXr := Lib.hid (block_kept HB.out.2 hbw)
  have y2 : wr.cell? ⟨gx, 2, none⟩ = some (.slice ta tl.length tc) := by simp [World.cell?, BXr.out]
  have HBR := Lib.hid hbw
  clear hdr hbw
  by_cases hlt : k < tl.length
  ·have d1 : decide (k < tl.length) = true := by simpa using hlt
   have d2 : decide ((k : Int) < (tl.length : Int)) = true := by rw [decide_eq_true_eq]; omega
   have x1 : (k : Int) < (tl.length : Int) := by omega
   have hkt : KeptTo n0 w wr := Below.keptTo hbW hn0
   obtain ⟨b, o, rfl, hb, hr, hx⟩ := InRow.at (InRow.keep hkt (fun x _ h => PT.In.keep hkt x h) HI.out) hlt
   have hdk := all_drop9 mayP tl k hlt
   have hbx := PT.bkL_mem (List.getElem_mem hlt)
   have hxw := HP.out.2 tl[k] (List.getElem_mem hlt)
   have hbl := HP.out.1
   obtain ⟨x, hxg⟩ : ∃ x, tl[k] = x := ⟨_, rfl⟩
   rw [hxg] at hr hx hdk hbx hxw
   obtain ⟨bn, po, op, xn, m, wd, v, a2, c2, l2⟩ := x
   have hxb : XT.bk (.mk op xn m wd v a2 c2 l2) ≤ 4500000 := by
    have h : 1 + bn.length + XT.bk (.mk op xn m wd v a2 c2 l2) ≤ PT.bkL tl := hbx
    omega
   have hnl : bn.length ≤ 9000000 := by
    have h : 1 + bn.length + XT.bk (.mk op xn m wd v a2 c2 l2) ≤ PT.bkL tl := hbx
    omega
   have hxw : XT.Wf (.mk op xn m wd v a2 c2 l2) := hxw
   have hx : XT.In n0 wr (.mk op xn m wd v a2 c2 l2) := hx
   have hdk : (tl.drop k).all mayP = ((isNameB bn && mayX (.mk op xn m wd v a2 c2 l2)) && (tl.drop (k + 1)).all mayP) := hdk
   have x0 : wr.cell? ⟨b, o + k * 8, none⟩ = some (.string (bs bn)) := hr 0 _ rfl
   have x2 : wr.cell? ⟨b, o + k * 8 + 2, none⟩ = some (.int .i64 op) := hr 2 _ rfl
   have x3 : wr.cell? ⟨b, o + k * 8 + 3, none⟩ = some (.string (bs xn)) := hr 3 _ rfl
   have x4 : wr.cell? ⟨b, o + k * 8 + 4, none⟩ = some (.int .i64 m) := hr 4 _ rfl
   have x5 : wr.cell? ⟨b, o + k * 8 + 5, none⟩ = some (.int .i64 wd) := hr 5 _ rfl
   have x6 : wr.cell? ⟨b, o + k * 8 + 6, none⟩ = some (.int .u64 (v : Int)) := hr 6 _ rfl
   have x7 : wr.cell? ⟨b, o + k * 8 + 7, none⟩ = some (.slice a2 l2.length c2) := hr 7 _ rfl
   clear hr hxg hkt hbx hbl hb
   have q := refname_any bn (by omega) wr
   have qm := fun (V : World) (hV : Below wr.heap.size wr V) => refmayX_any (.mk op xn m wd v a2 c2 l2) hxb hxw n0 V (by have := hV.size; have := hbW.size; omega) (XT.In.keep (Below.keptTo hV (by have := hbW.size; omega)) _ hx)
   obtain ⟨K1, hK1⟩ : ∃ K, isNameB bn = K := ⟨_, rfl⟩
   obtain ⟨K2, hK2⟩ : ∃ K, mayX (.mk op xn m wd v a2 c2 l2) = K := ⟨_, rfl⟩
   rw [hK1] at q hdk
   simp only [hK2] at qm
   rw [hK2] at hdk
   simp only [XT.val, XT.cells] at qm
   have HQM := Lib.hid qm
   have HK := Lib.hid hdk
   have HBW := Lib.hid hbW
   clear qm hdk hK1 hK2 hxb hxw hx hbW
   go_wp2_with fail
   refine q.mono ?_
   clear q
   rintro e w1 ⟨rfl, hb1⟩
   have HB1 := Lib.hid hb1
   cases K1 with
   | false =>
    have HE : Hid (R = false) := Lib.hid (by rw [← HR.out, ← HD.out, HK.out]; simp)
    have HLo := Lib.hid (HBW.out.trans (hb1.mono HBW.out.size))
    clear hb1 HK HD HQM
    go_wp2
    go_ret
    first
     | exact ⟨ret_bool HE.out.symm, HLo.out⟩
     | exact ⟨ret_bool HE.out.symm, by have h9 := HLo.out; rw [hgx] at h9; exact h9⟩
   | true =>
    have q := HQM.out w1 hb1
    replace x0 := keep_cell hb1 x0
    replace x2 := keep_cell hb1 x2
    replace x3 := keep_cell hb1 x3
    replace x4 := keep_cell hb1 x4
    replace x5 := keep_cell hb1 x5
    replace x6 := keep_cell hb1 x6
    replace x7 := keep_cell hb1 x7
    replace y2 := keep_cell hb1 y2
    clear hb1
    go_wp2_with fail
    refine q.mono ?_
    clear q
    rintro e w2 ⟨rfl, hb2⟩
    have HB2 := Lib.hid (HB1.out.trans (hb2.mono HB1.out.size))
    clear hb2
    cases K2 with
    | false =>
     have HE : Hid (R = false) := Lib.hid (by rw [← HR.out, ← HD.out, HK.out]; simp)
     have HLo := Lib.hid (HBW.out.trans (HB2.out.mono HBW.out.size))
     clear HK HD HQM
     go_wp2
     go_ret
     first
      | exact ⟨ret_bool HE.out.symm, HLo.out⟩
      | exact ⟨ret_bool HE.out.symm, by have h9 := HLo.out; rw [hgx] at h9; exact h9⟩
    | true =>
     have HE : Hid ((tl.drop (k + 1)).all mayP = S3) := Lib.hid (by rw [← HD.out, HK.out]; rfl)
     clear HK HD HQM
     go_wp2
     obtain ⟨gg, rfl⟩ : ∃ gg, gk = gg + 1 := ⟨gk - 1, by omega⟩
     go_roundg gg
     case rel => exact ⟨k + 1, rfl, by omega, HE.out, HBR.out.trans (HB2.out.mono HBR.out.size)⟩
     case measure => omega
  ·have d1 : decide (k < tl.length) = false := by simpa using hlt
   have d2 : decide ((k : Int) < (tl.length : Int)) = false := by rw [decide_eq_false_iff_not]; omega
   obtain rfl : true = S3 := by rw [← HD.out, List.drop_eq_nil_of_le (by omega)]; rfl
   have y0 : wr.cell? ⟨gx, 0, none⟩ = some (.string (bs nm)) := by simp [World.cell?, BXr.out]
   have y1 : wr.cell? ⟨gx, 1, none⟩ = some (.slice pa pl.length pc) := by simp [World.cell?, BXr.out]
   have y3 : wr.cell? ⟨gx, 3, none⟩ = some (.slice ia il.length ic) := by simp [World.cell?, BXr.out]
   have q := HQ.out.1 wr
   have HBW := Lib.hid hbW
   clear hbW HD
   go_wp2_with fail
   refine q.mono ?_
   clear q y0 y2
   rintro e w1 ⟨rfl, hb1⟩
   have HB1 := Lib.hid (HBW.out.trans (hb1.mono HBW.out.size))
   replace y1 := keep_cell hb1 y1
   replace y3 := keep_cell hb1 y3
   clear hb1
   cases S1 with
   | false =>
    obtain rfl : false = R := by rw [← HR.out]; rfl
    go_wp2
    go_ret
    first
     | exact ⟨rfl, HB1.out⟩
     | exact ⟨rfl, by have h9 := HB1.out; rw [hgx] at h9; exact h9⟩
   | true =>
    have q := HQ.out.2.1 w1 HB1.out
    go_wp2_with fail
    refine q.mono ?_
    clear q y1
    rintro e w2 ⟨rfl, hb2⟩
    have HB2 := Lib.hid (HB1.out.trans (hb2.mono HB1.out.size))
    replace y3 := keep_cell hb2 y3
    clear hb2
    cases S2 with
    | false =>
     obtain rfl : false = R := by rw [← HR.out]; rfl
     go_wp2
     go_ret
     first
      | exact ⟨rfl, HB2.out⟩
      | exact ⟨rfl, by have h9 := HB2.out; rw [hgx] at h9; exact h9⟩
    | true =>
     obtain rfl : S4 = R := by rw [← HR.out]; simp
     have q := HQ.out.2.2 w2 HB2.out
     go_wp2_with fail
     refine q.mono ?_
     clear q y3
     rintro e w3 ⟨rfl, hb3⟩
     have HB3 := Lib.hid (HB2.out.trans (hb3.mono HB2.out.size))
     clear hb3
     go_wp2
     go_ret
     first
      | exact ⟨rfl, HB3.out⟩
      | exact ⟨rfl, by have h9 := HB3.out; rw [hgx] at h9; exact h9⟩
end Go.Proofs.YtiipjbafdhijlaaGreatDoor
namespace Go.Proofs.YtiipjbafdhijlaaGreatDoor
open Go Go.RowKit
set_option linter.unusedVariables false
set_option linter.unusedSimpArgs false
open Go.Sort
set_option maxHeartbeats 16000000 in
set_option maxRecDepth 100000 in
theorem refcheckF_of (f : FT) (hit : ∀ m ∈ f.ml, ∀ x ∈ m.il, ItC x) (hbk : f.bk ≤ 4500000) (hwf : f.Wf) (n0 : Nat) (w : World) (hn0 : n0 ≤ w.heap.size) (hin : f.In n0 w) : Calls Tryz.prog 31 #[f.val] w fun e w' => e = .returned (.int .i64 (checkF f)) ∧ Below w.heap.size w w' := by
 have hsz : f.sz ≤ 4500000 := by
  have h1 := MT.szL_bk f.ml
  have h2 : 1 + MT.bkL f.ml ≤ 4500000 := hbk
  show MT.szL f.ml ≤ _
  omega
 have h1 := fun (V : World) (hV : Below w.heap.size w V) => refsize_any f (by omega) n0 V (by have := hV.size; omega) (FT.In.keep (Below.keptTo hV hn0) _ hin)
 have h2 := fun (V : World) (hV : Below w.heap.size w V) => refdeep_any f (by omega) n0 V (by have := hV.size; omega) (FT.In.keep (Below.keptTo hV hn0) _ hin)
 obtain ⟨R, hR⟩ : ∃ R, checkF f = R := ⟨_, rfl⟩
 rw [hR]
 unfold checkF at hR
 obtain ⟨S, hS⟩ : ∃ S, f.sz = S := ⟨_, rfl⟩
 obtain ⟨D, hD⟩ : ∃ D, f.dp = D := ⟨_, rfl⟩
 simp only [hS] at h1
 simp only [hD] at h2
 rw [hS, hD] at hR
 have hll : f.ml.length ≤ 4500000 := by
  have h1 := MT.bkL_len f.ml
  have h2 : 1 + MT.bkL f.ml ≤ 4500000 := hbk
  omega
 have HP := Lib.hid (And.intro hbk (And.intro hwf hit))
 have HR := Lib.hid hR
 have HI := Lib.hid hin
 clear hR hin hbk hwf hit hsz hS hD
 obtain ⟨ma, mc, ml⟩ := f
 have hll : ml.length ≤ 4500000 := hll
 have HP : Hid (1 + MT.bkL ml ≤ 4500000 ∧ MT.WfL ml ∧ ∀ m ∈ ml, ∀ x ∈ m.il, ItC x) := HP
 have HR : Hid ((if decide (64 < ml.length) = true then 2 else if (decide (65536 < S) || decide (64 < D)) = true then 2 else if ml.all mayM = true then 0 else 1) = R) := HR
 simp only [FT.val, FT.cells] at h1 h2 ⊢
 have HQ := Lib.hid (And.intro h1 h2)
 clear h1 h2
 obtain ⟨gx, hgx⟩ : ∃ gx, w.heap.size = gx := ⟨_, rfl⟩
 obtain ⟨W1, hW1⟩ : ∃ W1, w.alloc (.cells #[.slice ma ml.length mc] 24) = W1 := ⟨_, rfl⟩
 have hb0 : Below w.heap.size w W1 := by rw [← hW1]; exact (Below.refl _ _).alloc (Nat.le_refl _) _
 have BX : W1.heap[gx]? = some (.cells #[.slice ma ml.length mc] 24 (0, 0)) := by rw [← hW1, ← hgx]; exact World.alloc_heap_new w _
 have y0 : W1.cell? ⟨gx, 0, none⟩ = some (.slice ma ml.length mc) := by simp [World.cell?, BX]
 have HB := Lib.hid hb0
 have HBX := Lib.hid BX
 have q := HQ.out.1 W1 hb0
 clear hb0 BX
 go_enter Tryz.func31, Tryz.ntmps31
 by_cases hL : 64 < ml.length
 ·have e1 : decide (64 < ml.length) = true := by simpa using hL
  have e2 : decide ((64 : Int) < (ml.length : Int)) = true := by rw [decide_eq_true_eq]; omega
  obtain rfl : 2 = R := by rw [← HR.out, if_pos e1]
  clear q
  go_wp2_with fail
  (try rw [hW1])
  clear hW1
  go_wp2
  go_ret
  first
   | exact ⟨rfl, HB.out⟩
   | exact ⟨rfl, by have h9 := HB.out; rw [hgx] at h9; exact h9⟩
 ·have e1 : decide (64 < ml.length) = false := by simpa using hL
  have e2 : decide ((64 : Int) < (ml.length : Int)) = false := by rw [decide_eq_false_iff_not]; omega
  have HR2 : Hid ((if (decide (65536 < S) || decide (64 < D)) = true then 2 else if ml.all mayM = true then 0 else 1) = R) := Lib.hid (by rw [← HR.out, if_neg (show ¬ decide (64 < ml.length) = true by rw [e1]; decide)])
  go_wp2_with fail
  (try rw [hW1])
  refine q.mono ?_
  clear q hW1 y0 HR
  rintro e V1 ⟨rfl, hb1⟩
  have HB1 := Lib.hid (HB.out.trans (hb1.mono HB.out.size))
  have BX1 := Lib.hid (block_kept HBX.out hb1)
  have y0 : V1.cell? ⟨gx, 0, none⟩ = some (.slice ma ml.length mc) := by simp [World.cell?, BX1.out]
  clear hb1
  by_cases hS : 65536 < S
  ·have g1 : decide (65536 < S) = true := by simpa using hS
   have g2 : decide ((65536 : Int) < (S : Int)) = true := by rw [decide_eq_true_eq]; omega
   obtain rfl : 2 = R := by rw [← HR2.out, if_pos (by rw [g1]; rfl)]
   go_wp2
   go_ret
   first
    | exact ⟨rfl, HB1.out⟩
    | exact ⟨rfl, by have h9 := HB1.out; rw [hgx] at h9; exact h9⟩
  ·have g1 : decide (65536 < S) = false := by simpa using hS
   have g2 : decide ((65536 : Int) < (S : Int)) = false := by rw [decide_eq_false_iff_not]; omega
   have q := HQ.out.2 V1 HB1.out
   go_wp2_with fail
   refine q.mono ?_
   clear q y0
   rintro e V2 ⟨rfl, hb2⟩
   have HB2 := Lib.hid (HB1.out.trans (hb2.mono HB1.out.size))
   have BX2 := Lib.hid (block_kept BX1.out hb2)
   have y0 : V2.cell? ⟨gx, 0, none⟩ = some (.slice ma ml.length mc) := by simp [World.cell?, BX2.out]
   clear hb2
   by_cases hD : 64 < D
   ·have k1 : decide (64 < D) = true := by simpa using hD
    have k2 : decide ((64 : Int) < (D : Int)) = true := by rw [decide_eq_true_eq]; omega
    obtain rfl : 2 = R := by rw [← HR2.out, if_pos (by rw [k1]; simp)]
    go_wp2
    go_ret
    first
     | exact ⟨rfl, HB2.out⟩
     | exact ⟨rfl, by have h9 := HB2.out; rw [hgx] at h9; exact h9⟩
   ·have k1 : decide (64 < D) = false := by simpa using hD
    have k2 : decide ((64 : Int) < (D : Int)) = false := by rw [decide_eq_false_iff_not]; omega
    have HR3 : Hid ((if ml.all mayM = true then 0 else 1) = R) := Lib.hid (by rw [← HR2.out, if_neg (show ¬ (decide (65536 < S) || decide (64 < D)) = true by rw [g1, k1]; decide)])
    obtain ⟨G, hG⟩ : ∃ G, ml.all mayM = G := ⟨_, rfl⟩
    rw [hG] at HR3
    have HG := Lib.hid hG
    clear hG HR2
    go_wp2_with fail
    clear y0
    go_loopg [3] ml.length (fun g u wr => ∃ k : Nat, u = .int .i64 k ∧ k + g = ml.length ∧ (ml.drop k).all mayM = G ∧ Below V2.heap.size V2 wr)
    case atStart => exact ⟨0, rfl, by omega, by rw [List.drop_zero]; exact HG.out, Below.refl _ _⟩
    case round =>
     obtain ⟨k, rfl, hk, hdr, hbw⟩ := hrel
     clear HG
     have HD := Lib.hid hdr
     have hbW : Below w.heap.size w wr := HB2.out.trans (hbw.mono HB2.out.size)
     have BXr := block_kept BX2.out hbw
     have y0 : wr.cell? ⟨gx, 0, none⟩ = some (.slice ma ml.length mc) := by simp [World.cell?, BXr]
     have HBR := Lib.hid hbw
     clear hdr hbw BXr
     by_cases hlt : k < ml.length
     ·have d1 : decide (k < ml.length) = true := by simpa using hlt
      have d2 : decide ((k : Int) < (ml.length : Int)) = true := by rw [decide_eq_true_eq]; omega
      have x1 : (k : Int) < (ml.length : Int) := by omega
      have hkt : KeptTo n0 w wr := Below.keptTo hbW hn0
      obtain ⟨b, o, rfl, hb, hr, hx⟩ := InRow.at (InRow.keep hkt (fun x _ h => MT.In.keep hkt x h) HI.out) hlt
      have hdk := all_drop9 mayM ml k hlt
      have q := refmodule_of ml[k] (HP.out.2.2 ml[k] (List.getElem_mem hlt)) (Nat.le_trans (MT.bkL_mem (List.getElem_mem hlt)) (Nat.le_trans (Nat.le_add_left _ 1) HP.out.1)) ((MT.wfL_iff _).1 HP.out.2.1 ml[k] (List.getElem_mem hlt)) n0 wr (by have := hbW.size; omega) hx
      obtain ⟨K1, hK1⟩ : ∃ K, mayM ml[k] = K := ⟨_, rfl⟩
      rw [hK1] at q hdk
      obtain ⟨x, hxg⟩ : ∃ x, ml[k] = x := ⟨_, rfl⟩
      rw [hxg] at hr q
      obtain ⟨nm, pa, pc, pl, ta, tc, tl, ia, ic, il⟩ := x
      simp only [MT.val, MT.cells] at q
      have r0 : wr.cell? ⟨b, o + k * 4, none⟩ = some (.string (bs nm)) := hr 0 _ rfl
      have r1 : wr.cell? ⟨b, o + k * 4 + 1, none⟩ = some (.slice pa pl.length pc) := hr 1 _ rfl
      have r2 : wr.cell? ⟨b, o + k * 4 + 2, none⟩ = some (.slice ta tl.length tc) := hr 2 _ rfl
      have r3 : wr.cell? ⟨b, o + k * 4 + 3, none⟩ = some (.slice ia il.length ic) := hr 3 _ rfl
      have HK := Lib.hid hdk
      have HBW := Lib.hid hbW
      clear hr hx hdk hxg hK1 hkt hbW hb
      go_wp2_with fail
      refine q.mono ?_
      clear q r0 r1 r2 r3 y0
      rintro e w1 ⟨rfl, hb1⟩
      have HBA := Lib.hid (HBW.out.trans (hb1.mono HBW.out.size))
      have HBB := Lib.hid (HBR.out.trans (hb1.mono HBR.out.size))
      clear hb1
      cases K1 with
      | false =>
       obtain rfl : false = G := by rw [← HD.out, HK.out]; rfl
       obtain rfl : 1 = R := by rw [← HR3.out]; rfl
       clear HK HD
       go_wp2
       go_ret
       first
        | exact ⟨rfl, HBA.out⟩
        | exact ⟨rfl, by have h9 := HBA.out; rw [hgx] at h9; exact h9⟩
      | true =>
       have HE : Hid ((ml.drop (k + 1)).all mayM = G) := Lib.hid (by rw [← HD.out, HK.out]; rfl)
       clear HK HD
       go_wp2
       obtain ⟨gg, rfl⟩ : ∃ gg, gk = gg + 1 := ⟨gk - 1, by omega⟩
       go_roundg gg
       case rel => exact ⟨k + 1, rfl, by omega, HE.out, HBB.out⟩
       case measure => omega
     ·have d1 : decide (k < ml.length) = false := by simpa using hlt
      have d2 : decide ((k : Int) < (ml.length : Int)) = false := by rw [decide_eq_false_iff_not]; omega
      obtain rfl : true = G := by rw [← HD.out, List.drop_eq_nil_of_le (by omega)]; rfl
      obtain rfl : 0 = R := by rw [← HR3.out]; rfl
      have HBA := Lib.hid hbW
      clear HD hbW
      go_wp2
      go_ret
      first
       | exact ⟨rfl, HBA.out⟩
       | exact ⟨rfl, by have h9 := HBA.out; rw [hgx] at h9; exact h9⟩
end Go.Proofs.YtiipjbafdhijlaaGreatDoor
