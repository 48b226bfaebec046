/-
  AsQm, in one text.
-/
import Derived.Test.YtiipjbafdhijlaaGreatDoorZAt
import Derived.Test.YtiipjbafdhijlaaGreatDoorZAf
namespace Go.Proofs.YtiipjbafdhijlaaGreatDoor
open Go Go.RowKit
set_option linter.unusedVariables false
set_option linter.unusedSimpArgs false
open Go.Sort
theorem mayI_any : ∀ x : IT, x.bk ≤ 4500000 → x.Wf → ∀ (n0 : Nat) (w : World), n0 ≤ w.heap.size → EnvA w → x.In n0 w → Calls Tryz.prog 117 #[x.val] w fun e w' => e = .returned (.bool (mayI x)) ∧ Below w.heap.size w w' := by
 refine IT.ind ?_
 intro op nm nf xa xc xl sa sc sl la lc ll ea ec el pa pc pl ba bc bl ih0 ih1 hbk hwf n0 w hn0 he hin
 cases hkt : (ki op.toNat).2.2.1 with
 | true => exact mayI_true op nm nf xa xc xl sa sc sl la lc ll ea ec el pa pc pl ba bc bl hkt ih0 ih1 hbk hwf n0 w hn0 he hin
 | false => exact mayI_false op nm nf xa xc xl sa sc sl la lc ll ea ec el pa pc pl ba bc bl hkt ih0 ih1 hbk hwf n0 w hn0 he hin
set_option maxHeartbeats 4000000 in
set_option maxRecDepth 9000000 in
theorem allM_any (p : MT → Bool) (n0 : Nat) (l : List MT) (hll : l.length ≤ 12000000) (hc : ∀ x ∈ l, ∀ w, n0 ≤ w.heap.size → EnvA w → x.In n0 w → Calls Tryz.prog 83 #[x.val] w fun e w' => e = .returned (.bool (p x)) ∧ Below w.heap.size w w') (a : Option Addr) (c : Nat) (w : World) (hn0 : n0 ≤ w.heap.size) (he : EnvA w) (hin : InRow 4 MT.cells (MT.In n0 w) n0 w l a) :
  Calls Tryz.prog 82 #[.slice a l.length c, .func (.func 83) #[] #[]] w fun e w' => e = .returned (.bool (l.all p)) ∧ Below w.heap.size w w' := by
 go_enter Tryz.func82, Tryz.ntmps82
 go_wp2
 go_loopw [9] (fun u wr => ∃ k : Nat, u = .int .i64 k ∧ k ≤ l.length ∧ (l.take k).all p = true ∧ Below w.heap.size w wr) (fun u _ => l.length - (intOf u).toNat)
 case atStart => exact ⟨0, rfl, Nat.zero_le _, rfl, Below.refl _ _⟩
 case round =>
  obtain ⟨k, rfl, hk, hal, hb0⟩ := hrel
  have HA := Lib.hid hal
  clear hal
  by_cases hlt : k < l.length
  ·have d1 : decide (k < l.length) = true := by simpa using hlt
   have d2 : decide ((k : Int) < (l.length : Int)) = true := by rw [decide_eq_true_eq]; omega
   have x1 : (k : Int) < (l.length : Int) := by omega
   obtain ⟨b, o, rfl, hb, hr, hx⟩ := hin.kept (Below.keptTo hb0 hn0) hlt
   have HT := Lib.hid (all_take p l k hlt)
   have HS := Lib.hid (all_stop p l k hlt)
   have hcx := hc l[k] (List.getElem_mem hlt)
   have hxin := hx.keep (Below.keptTo hb0 hn0)
   have her := he.keep hb0
   have zz := hb0.size
   generalize p l[k] = bp at *
   generalize hgx : l[k] = x at *
   obtain ⟨nm, pa, pc, pl, ta, tc, tl, ia, ic, il⟩ := x
   have c0 := fun (o' : Obj) => hcx (wr.alloc o') (by simp; omega) (her.alloc o') (hxin.keep (Below.keptTo ((Below.refl _ _).alloc (Nat.le_refl _) o') (by omega)))
   have r0 : wr.cell? ⟨b, o + k * 4, none⟩ = some (.string (bs nm)) := hr 0 _ rfl
   have r1 : wr.cell? ⟨b, o + k * 4 + 1, none⟩ = some (.slice pa pl.length pc) := hr 1 _ rfl
   have r2 : wr.cell? ⟨b, o + k * 4 + 2, none⟩ = some (.slice ta tl.length tc) := hr 2 _ rfl
   have r3 : wr.cell? ⟨b, o + k * 4 + 3, none⟩ = some (.slice ia il.length ic) := hr 3 _ rfl
   simp only [MT.val, MT.cells] at c0
   clear hin hc hcx hr hx hxin hgx he her
   cases bp with
   | true =>
    clear HS
    go_wp2_with fail
    refine (c0 _).mono ?_
    clear c0
    rintro e W1 ⟨rfl, hb1⟩
    have hb2 := hb0.trans (((Below.refl _ _).alloc (Nat.le_refl _) _).trans (hb1.mono (by simp)) |>.mono zz)
    go_wp2
    go_roundw
    case rel => exact ⟨k + 1, by simp; first | done | rfl | omega, by omega, by rw [HT.out, HA.out]; rfl, hb2⟩
    case measure => simp [intOf]; omega
   | false =>
    have HE : Hid (l.all p = false) := Lib.hid (HS.out rfl)
    clear HS HT
    go_wp2_with fail
    refine (c0 _).mono ?_
    clear c0
    rintro e W1 ⟨rfl, hb1⟩
    have hb2 := hb0.trans (((Below.refl _ _).alloc (Nat.le_refl _) _).trans (hb1.mono (by simp)) |>.mono zz)
    go_wp2
    go_ret
    exact ⟨by rw [HE.out]; rfl, hb2⟩
  ·have d1 : decide (k < l.length) = false := by simpa using hlt
   have d2 : decide ((k : Int) < (l.length : Int)) = false := by rw [decide_eq_false_iff_not]; omega
   have hkl : k = l.length := by omega
   have HE : Hid (l.all p = true) := Lib.hid (by have := HA.out; rw [hkl, List.take_length] at this; exact this)
   clear hkl
   go_wp2
   go_ret
   exact ⟨by rw [HE.out]; rfl, hb0⟩
set_option maxHeartbeats 8000000 in
set_option maxRecDepth 9000000 in
theorem mayM_any (x : MT) (hbk : x.bk ≤ 4500000) (hwf : x.Wf) (n0 : Nat) (w : World) (hn0 : n0 ≤ w.heap.size) (he : EnvA w) (hx : x.In n0 w) : Calls Tryz.prog 83 #[x.val] w fun e w' => e = .returned (.bool (mayM x)) ∧ Below w.heap.size w w' := by
 obtain ⟨nm, pa, pc, pl, ta, tc, tl, ia, ic, il⟩ := x
 have HI : Hid (mayM ⟨nm, pa, pc, pl, ta, tc, tl, ia, ic, il⟩ = (isNameB nm && (pl.all mayB' && (tl.all mayP && il.all mayI)))) := Lib.hid rfl
 obtain ⟨i0, i1, i2⟩ : InRow 7 BT.cells (BT.In n0 w) n0 w pl pa ∧ InRow 8 PT.cells (PT.In n0 w) n0 w tl ta ∧ InRow 9 IT.cells (IT.In n0 w) n0 w il ia := hx
 have hwf2 : BT.WfL pl ∧ PT.WfL tl ∧ IT.WfL il := hwf
 rw [BT.wfL_iff, PT.wfL_iff, IT.wfL_iff] at hwf2
 obtain ⟨g0, g1, g2⟩ := hwf2
 simp only [MT.bk] at hbk
 have l0 := BT.bkL_len pl
 have l1 := PT.bkL_len tl
 have l2 := IT.bkL_len il
 have c_n := fun (w' : World) h1 => aisName_any nm (by omega) w' h1
 have c_p := fun (w' : World) h1 h2 h3 => allB_any mayB' n0 pl (by omega) (fun y hy w2 e1 e2 e3 => bindMay_any y (by have := BT.bkL_mem hy; omega) (g0 y hy) n0 w2 e1 e2 e3) pa pc w' h1 h2 h3
 have c_t := fun (w' : World) h1 h2 h3 => allP_any mayP n0 tl (by omega) (fun y hy w2 e1 e2 e3 => portMay_any y (by have := PT.bkL_mem hy; omega) (g1 y hy) n0 w2 e1 e2 e3) ta tc w' h1 h2 h3
 have c_i := fun (w' : World) h1 h2 h3 => allI_any mayI n0 il (by omega) (fun y hy w2 e1 e2 e3 => mayI_any y (by have := IT.bkL_mem hy; omega) (g2 y hy) n0 w2 e1 e2 e3) ia ic w' h1 h2 h3
 generalize mayM ⟨nm, pa, pc, pl, ta, tc, tl, ia, ic, il⟩ = R at *
 generalize isNameB nm = b1 at *
 generalize pl.all mayB' = b2 at *
 generalize tl.all mayP = b3 at *
 generalize il.all mayI = b4 at *
 simp only [MT.val, MT.cells]
 have Hc_n := Lib.hid c_n
 have Hc_p := Lib.hid c_p
 have Hc_t := Lib.hid c_t
 have Hc_i := Lib.hid c_i
 clear hwf g0 g1 g2 l0 l1 l2 hbk c_n c_p c_t c_i
 go_enter Tryz.func83, Tryz.ntmps83
 go_upto_region 1 with (fail)
 have BX : (w.alloc (.cells #[.string (bs nm), .slice pa pl.length pc, .slice ta tl.length tc, .slice ia il.length ic] 39)).heap[w.heap.size]? = some (.cells #[.string (bs nm), .slice pa pl.length pc, .slice ta tl.length tc, .slice ia il.length ic] 39) := World.alloc_heap_new w _
 have hB2 : Below w.heap.size w (w.alloc (.cells #[.string (bs nm), .slice pa pl.length pc, .slice ta tl.length tc, .slice ia il.length ic] 39)) := (Below.refl _ _).alloc (Nat.le_refl _) _
 have he2 := he.alloc (.cells #[.string (bs nm), .slice pa pl.length pc, .slice ta tl.length tc, .slice ia il.length ic] 39)
 have hk8 := Below.keptTo hB2 hn0
 replace i0 := i0.keep hk8 (fun x _ => BT.In.keep hk8 x)
 replace i1 := i1.keep hk8 (fun x _ => PT.In.keep hk8 x)
 replace i2 := i2.keep hk8 (fun x _ => IT.In.keep hk8 x)
 clear he hk8
 generalize w.alloc (.cells #[.string (bs nm), .slice pa pl.length pc, .slice ta tl.length tc, .slice ia il.length ic] 39) = w1 at *
 have hn1 : n0 ≤ w1.heap.size := by have := hB2.size; omega
 obtain ⟨x0, x1, x2, x3⟩ := open4 BX
 go_wp2_with fail
 refine (Hc_n.out _ he2).mono ?_
 rintro e1 w1 ⟨rfl, hb⟩
 clear x0 x1 x2 x3
 replace BX := block_kept BX hb
 have hk9 := Below.keptTo hb hn1
 replace i0 := i0.keep hk9 (fun x _ => BT.In.keep hk9 x)
 replace i1 := i1.keep hk9 (fun x _ => PT.In.keep hk9 x)
 replace i2 := i2.keep hk9 (fun x _ => IT.In.keep hk9 x)
 replace he2 := he2.keep hb
 replace hn1 := Nat.le_trans hn1 hb.size
 clear hk9
 replace hB2 := hB2.trans (hb.mono hB2.size)
 clear hb
 cases b1 with
 | false =>
  obtain ⟨x0, x1, x2, x3⟩ := open4 BX
  go_wp2
  go_ret
  exact ⟨by rw [HI.out]; rfl, hB2⟩
 | true =>
  obtain ⟨x0, x1, x2, x3⟩ := open4 BX
  go_wp2_with fail
  refine (Hc_p.out _ hn1 he2 i0).mono ?_
  rintro e1 w1 ⟨rfl, hb⟩
  clear x0 x1 x2 x3
  replace BX := block_kept BX hb
  have hk9 := Below.keptTo hb hn1
  replace i0 := i0.keep hk9 (fun x _ => BT.In.keep hk9 x)
  replace i1 := i1.keep hk9 (fun x _ => PT.In.keep hk9 x)
  replace i2 := i2.keep hk9 (fun x _ => IT.In.keep hk9 x)
  replace he2 := he2.keep hb
  replace hn1 := Nat.le_trans hn1 hb.size
  clear hk9
  replace hB2 := hB2.trans (hb.mono hB2.size)
  clear hb
  cases b2 with
  | false =>
   obtain ⟨x0, x1, x2, x3⟩ := open4 BX
   go_wp2
   go_ret
   exact ⟨by rw [HI.out]; rfl, hB2⟩
  | true =>
   obtain ⟨x0, x1, x2, x3⟩ := open4 BX
   go_wp2_with fail
   refine (Hc_t.out _ hn1 he2 i1).mono ?_
   rintro e1 w1 ⟨rfl, hb⟩
   clear x0 x1 x2 x3
   replace BX := block_kept BX hb
   have hk9 := Below.keptTo hb hn1
   replace i0 := i0.keep hk9 (fun x _ => BT.In.keep hk9 x)
   replace i1 := i1.keep hk9 (fun x _ => PT.In.keep hk9 x)
   replace i2 := i2.keep hk9 (fun x _ => IT.In.keep hk9 x)
   replace he2 := he2.keep hb
   replace hn1 := Nat.le_trans hn1 hb.size
   clear hk9
   replace hB2 := hB2.trans (hb.mono hB2.size)
   clear hb
   cases b3 with
   | false =>
    obtain ⟨x0, x1, x2, x3⟩ := open4 BX
    go_wp2
    go_ret
    exact ⟨by rw [HI.out]; rfl, hB2⟩
   | true =>
    obtain ⟨x0, x1, x2, x3⟩ := open4 BX
    go_wp2_with fail
    refine (Hc_i.out _ hn1 he2 i2).mono ?_
    rintro e1 w1 ⟨rfl, hb⟩
    clear x0 x1 x2 x3
    replace BX := block_kept BX hb
    have hk9 := Below.keptTo hb hn1
    replace i0 := i0.keep hk9 (fun x _ => BT.In.keep hk9 x)
    replace i1 := i1.keep hk9 (fun x _ => PT.In.keep hk9 x)
    replace i2 := i2.keep hk9 (fun x _ => IT.In.keep hk9 x)
    replace he2 := he2.keep hb
    replace hn1 := Nat.le_trans hn1 hb.size
    clear hk9
    replace hB2 := hB2.trans (hb.mono hB2.size)
    clear hb
    obtain ⟨x0, x1, x2, x3⟩ := open4 BX
    go_wp2
    go_ret
    exact ⟨by rw [HI.out]; rfl, hB2⟩
end Go.Proofs.YtiipjbafdhijlaaGreatDoor
