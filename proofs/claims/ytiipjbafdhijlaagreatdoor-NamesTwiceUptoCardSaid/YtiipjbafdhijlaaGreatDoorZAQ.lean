/-
  AsQ, in one text.
-/
import Derived.Test.YtiipjbafdhijlaaGreatDoorZAO
namespace Go.Proofs.YtiipjbafdhijlaaGreatDoor
open Go Go.RowKit
set_option linter.unusedVariables false
set_option linter.unusedSimpArgs false
open Go.Sort
theorem open7 {w : World} {g : Nat} {v0 v1 v2 v3 v4 v5 v6 : Value} {t : TypeId} (h : w.heap[g]? = some (.cells #[v0, v1, v2, v3, v4, v5, v6] t (0, 0))) : w.cell? ⟨g, 0, none⟩ = some v0 ∧ w.cell? ⟨g, 1, none⟩ = some v1 ∧ w.cell? ⟨g, 2, none⟩ = some v2 ∧ w.cell? ⟨g, 3, none⟩ = some v3 ∧ w.cell? ⟨g, 4, none⟩ = some v4 ∧ w.cell? ⟨g, 5, none⟩ = some v5 ∧ w.cell? ⟨g, 6, none⟩ = some v6 := by
 simp [World.cell?, h]
set_option maxHeartbeats 4000000 in
set_option maxRecDepth 9000000 in
theorem bindMay_any (x : BT) (hbk : x.bk ≤ 4500000) (hwf : x.Wf) (n0 : Nat) (w : World) (hn0 : n0 ≤ w.heap.size) (he : EnvA w) (hx : x.In n0 w) : Calls Tryz.prog 113 #[x.val] w fun e w' => e = .returned (.bool (mayB' x)) ∧ Below w.heap.size w w' := by
 obtain ⟨bn, x⟩ := x
 have HI : Hid (mayB' ⟨bn, x⟩ = (isNameB bn && mayX x)) := Lib.hid rfl
 have hx0 : x.In n0 w := hx
 have hwx : x.Wf := hwf
 simp only [BT.bk] at hbk
 have hmx := fun (w' : World) h1 h2 h3 => mayX_any x (by omega) hwx n0 w' h1 h2 h3
 have hnm := fun (w' : World) h1 => aisName_any bn (by omega) w' h1
 generalize mayB' ⟨bn, x⟩ = R at *
 generalize isNameB bn = b1 at *
 generalize mayX x = b2 at *
 have HW := Lib.hid hwx
 clear hx hwf hwx
 obtain ⟨X, hX⟩ : ∃ X : XT → Prop, X = fun x => x.In n0 w := ⟨_, rfl⟩
 clear hX X
 have hx1 := hx0
 obtain ⟨op, nm, xn, wd, v, xa, xc, xl⟩ := x
 simp only [BT.val, BT.cells, XT.cells]
 simp only [XT.val, XT.cells] at hmx
 go_enter Tryz.func113, Tryz.ntmps113
 go_upto_region 1 with (fail)
 have BX : (w.alloc (.cells #[.string (bs bn), .int .i64 op, .string (bs nm), .int .i64 xn, .int .i64 wd, .int .u64 (v : Int), .slice xa xl.length xc] 78)).heap[w.heap.size]? = some (.cells #[.string (bs bn), .int .i64 op, .string (bs nm), .int .i64 xn, .int .i64 wd, .int .u64 (v : Int), .slice xa xl.length xc] 78) := World.alloc_heap_new w _
 have hB2 : Below w.heap.size w (w.alloc (.cells #[.string (bs bn), .int .i64 op, .string (bs nm), .int .i64 xn, .int .i64 wd, .int .u64 (v : Int), .slice xa xl.length xc] 78)) := (Below.refl _ _).alloc (Nat.le_refl _) _
 have he2 := he.alloc (.cells #[.string (bs bn), .int .i64 op, .string (bs nm), .int .i64 xn, .int .i64 wd, .int .u64 (v : Int), .slice xa xl.length xc] 78)
 have hi2 := XT.In.keep (Below.keptTo hB2 hn0) _ hx1
 clear he hx0 hx1
 generalize w.alloc (.cells #[.string (bs bn), .int .i64 op, .string (bs nm), .int .i64 xn, .int .i64 wd, .int .u64 (v : Int), .slice xa xl.length xc] 78) = w1 at *
 have hn1 : n0 ≤ w1.heap.size := by have := hB2.size; omega
 obtain ⟨x0, x1, x2, x3, x4, x5, x6⟩ := open7 BX
 go_wp2_with fail
 refine (hnm _ he2).mono ?_
 rintro e1 w1 ⟨rfl, hb⟩
 clear x0 x1 x2 x3 x4 x5 x6
 replace BX := block_kept BX hb
 have hk9 := Below.keptTo hb hn1
 replace hi2 := XT.In.keep hk9 _ hi2
 replace he2 := he2.keep hb
 replace hn1 := Nat.le_trans hn1 hb.size
 clear hk9
 replace hB2 := hB2.trans (hb.mono hB2.size)
 clear hb
 cases b1 with
 | false =>
  obtain ⟨x0, x1, x2, x3, x4, x5, x6⟩ := open7 BX
  go_wp2
  go_ret
  exact ⟨by rw [HI.out]; rfl, hB2⟩
 | true =>
  obtain ⟨x0, x1, x2, x3, x4, x5, x6⟩ := open7 BX
  go_wp2_with fail
  refine (hmx _ hn1 he2 hi2).mono ?_
  rintro e1 w1 ⟨rfl, hb⟩
  clear x0 x1 x2 x3 x4 x5 x6
  replace BX := block_kept BX hb
  have hk9 := Below.keptTo hb hn1
  replace hi2 := XT.In.keep hk9 _ hi2
  replace he2 := he2.keep hb
  replace hn1 := Nat.le_trans hn1 hb.size
  clear hk9
  replace hB2 := hB2.trans (hb.mono hB2.size)
  clear hb
  obtain ⟨x0, x1, x2, x3, x4, x5, x6⟩ := open7 BX
  go_wp2
  go_ret
  exact ⟨by rw [HI.out]; rfl, hB2⟩
set_option maxHeartbeats 4000000 in
set_option maxRecDepth 9000000 in
theorem portMay_any (x : PT) (hbk : x.bk ≤ 4500000) (hwf : x.Wf) (n0 : Nat) (w : World) (hn0 : n0 ≤ w.heap.size) (he : EnvA w) (hx : x.In n0 w) : Calls Tryz.prog 115 #[x.val] w fun e w' => e = .returned (.bool (mayP x)) ∧ Below w.heap.size w w' := by
 obtain ⟨bn, po, x⟩ := x
 have HI : Hid (mayP ⟨bn, po, x⟩ = (isNameB bn && mayX x)) := Lib.hid rfl
 have hx0 : x.In n0 w := hx
 have hwx : x.Wf := hwf
 simp only [PT.bk] at hbk
 have hmx := fun (w' : World) h1 h2 h3 => mayX_any x (by omega) hwx n0 w' h1 h2 h3
 have hnm := fun (w' : World) h1 => aisName_any bn (by omega) w' h1
 generalize mayP ⟨bn, po, x⟩ = R at *
 generalize isNameB bn = b1 at *
 generalize mayX x = b2 at *
 have HW := Lib.hid hwx
 clear hx hwf hwx
 obtain ⟨X, hX⟩ : ∃ X : XT → Prop, X = fun x => x.In n0 w := ⟨_, rfl⟩
 clear hX X
 have hx1 := hx0
 obtain ⟨op, nm, xn, wd, v, xa, xc, xl⟩ := x
 simp only [PT.val, PT.cells, XT.cells]
 simp only [XT.val, XT.cells] at hmx
 go_enter Tryz.func115, Tryz.ntmps115
 go_upto_region 1 with (fail)
 have BX : (w.alloc (.cells #[.string (bs bn), .bool po, .int .i64 op, .string (bs nm), .int .i64 xn, .int .i64 wd, .int .u64 (v : Int), .slice xa xl.length xc] 76)).heap[w.heap.size]? = some (.cells #[.string (bs bn), .bool po, .int .i64 op, .string (bs nm), .int .i64 xn, .int .i64 wd, .int .u64 (v : Int), .slice xa xl.length xc] 76) := World.alloc_heap_new w _
 have hB2 : Below w.heap.size w (w.alloc (.cells #[.string (bs bn), .bool po, .int .i64 op, .string (bs nm), .int .i64 xn, .int .i64 wd, .int .u64 (v : Int), .slice xa xl.length xc] 76)) := (Below.refl _ _).alloc (Nat.le_refl _) _
 have he2 := he.alloc (.cells #[.string (bs bn), .bool po, .int .i64 op, .string (bs nm), .int .i64 xn, .int .i64 wd, .int .u64 (v : Int), .slice xa xl.length xc] 76)
 have hi2 := XT.In.keep (Below.keptTo hB2 hn0) _ hx1
 clear he hx0 hx1
 generalize w.alloc (.cells #[.string (bs bn), .bool po, .int .i64 op, .string (bs nm), .int .i64 xn, .int .i64 wd, .int .u64 (v : Int), .slice xa xl.length xc] 76) = w1 at *
 have hn1 : n0 ≤ w1.heap.size := by have := hB2.size; omega
 obtain ⟨x0, x1, x2, x3, x4, x5, x6, x7⟩ := open8 BX
 go_wp2_with fail
 refine (hnm _ he2).mono ?_
 rintro e1 w1 ⟨rfl, hb⟩
 clear x0 x1 x2 x3 x4 x5 x6 x7
 replace BX := block_kept BX hb
 have hk9 := Below.keptTo hb hn1
 replace hi2 := XT.In.keep hk9 _ hi2
 replace he2 := he2.keep hb
 replace hn1 := Nat.le_trans hn1 hb.size
 clear hk9
 replace hB2 := hB2.trans (hb.mono hB2.size)
 clear hb
 cases b1 with
 | false =>
  obtain ⟨x0, x1, x2, x3, x4, x5, x6, x7⟩ := open8 BX
  go_wp2
  go_ret
  exact ⟨by rw [HI.out]; rfl, hB2⟩
 | true =>
  obtain ⟨x0, x1, x2, x3, x4, x5, x6, x7⟩ := open8 BX
  go_wp2_with fail
  refine (hmx _ hn1 he2 hi2).mono ?_
  rintro e1 w1 ⟨rfl, hb⟩
  clear x0 x1 x2 x3 x4 x5 x6 x7
  replace BX := block_kept BX hb
  have hk9 := Below.keptTo hb hn1
  replace hi2 := XT.In.keep hk9 _ hi2
  replace he2 := he2.keep hb
  replace hn1 := Nat.le_trans hn1 hb.size
  clear hk9
  replace hB2 := hB2.trans (hb.mono hB2.size)
  clear hb
  obtain ⟨x0, x1, x2, x3, x4, x5, x6, x7⟩ := open8 BX
  go_wp2
  go_ret
  exact ⟨by rw [HI.out]; rfl, hB2⟩
set_option maxHeartbeats 4000000 in
set_option maxRecDepth 9000000 in
theorem allB_any (p : BT → Bool) (n0 : Nat) (l : List BT) (hll : l.length ≤ 12000000) (hc : ∀ x ∈ l, ∀ w, n0 ≤ w.heap.size → EnvA w → x.In n0 w → Calls Tryz.prog 113 #[x.val] w fun e w' => e = .returned (.bool (p x)) ∧ Below w.heap.size w w') (a : Option Addr) (c : Nat) (w : World) (hn0 : n0 ≤ w.heap.size) (he : EnvA w) (hin : InRow 7 BT.cells (BT.In n0 w) n0 w l a) :
  Calls Tryz.prog 112 #[.slice a l.length c, .func (.func 113) #[] #[]] w fun e w' => e = .returned (.bool (l.all p)) ∧ Below w.heap.size w w' := by
 go_enter Tryz.func112, Tryz.ntmps112
 go_wp2
 go_loopw [9] (fun u wr => ∃ k : Nat, u = .int .i64 k ∧ k ≤ l.length ∧ (l.take k).all p = true ∧ Below w.heap.size w wr) (fun u _ => l.length - (intOf u).toNat)
 case atStart => exact ⟨0, rfl, Nat.zero_le _, rfl, Below.refl _ _⟩
 case round =>
  obtain ⟨k, rfl, hk, hal, hb0⟩ := hrel
  have HA := Lib.hid hal
  clear hal
  by_cases hlt : k < l.length
  ·have d1 : decide (k < l.length) = true := by simpa using hlt
   have d2 : decide ((k : Int) < (l.length : Int)) = true := by rw [decide_eq_true_eq]; omega
   have x1 : (k : Int) < (l.length : Int) := by omega
   obtain ⟨b, o, rfl, hb, hr, hx⟩ := hin.kept (Below.keptTo hb0 hn0) hlt
   have HT := Lib.hid (all_take p l k hlt)
   have HS := Lib.hid (all_stop p l k hlt)
   have hcx := hc l[k] (List.getElem_mem hlt)
   have hxin := hx.keep (Below.keptTo hb0 hn0)
   have her := he.keep hb0
   have zz := hb0.size
   generalize p l[k] = bp at *
   generalize hgx : l[k] = x at *
   obtain ⟨bn, ⟨op, nm, xn, wd, v, xa, xc, xl⟩⟩ := x
   have c0 := fun (o' : Obj) => hcx (wr.alloc o') (by simp; omega) (her.alloc o') (hxin.keep (Below.keptTo ((Below.refl _ _).alloc (Nat.le_refl _) o') (by omega)))
   have r0 : wr.cell? ⟨b, o + k * 7, none⟩ = some (.string (bs bn)) := hr 0 _ rfl
   have r1 : wr.cell? ⟨b, o + k * 7 + 1, none⟩ = some (.int .i64 op) := hr 1 _ rfl
   have r2 : wr.cell? ⟨b, o + k * 7 + 2, none⟩ = some (.string (bs nm)) := hr 2 _ rfl
   have r3 : wr.cell? ⟨b, o + k * 7 + 3, none⟩ = some (.int .i64 xn) := hr 3 _ rfl
   have r4 : wr.cell? ⟨b, o + k * 7 + 4, none⟩ = some (.int .i64 wd) := hr 4 _ rfl
   have r5 : wr.cell? ⟨b, o + k * 7 + 5, none⟩ = some (.int .u64 (v : Int)) := hr 5 _ rfl
   have r6 : wr.cell? ⟨b, o + k * 7 + 6, none⟩ = some (.slice xa xl.length xc) := hr 6 _ rfl
   simp only [BT.val, BT.cells, XT.cells] at c0
   clear hin hc hcx hr hx hxin hgx he her
   cases bp with
   | true =>
    clear HS
    go_wp2_with fail
    refine (c0 _).mono ?_
    clear c0
    rintro e W1 ⟨rfl, hb1⟩
    have hb2 := hb0.trans (((Below.refl _ _).alloc (Nat.le_refl _) _).trans (hb1.mono (by simp)) |>.mono zz)
    go_wp2
    go_roundw
    case rel => exact ⟨k + 1, by simp; first | done | rfl | omega, by omega, by rw [HT.out, HA.out]; rfl, hb2⟩
    case measure => simp [intOf]; omega
   | false =>
    have HE : Hid (l.all p = false) := Lib.hid (HS.out rfl)
    clear HS HT
    go_wp2_with fail
    refine (c0 _).mono ?_
    clear c0
    rintro e W1 ⟨rfl, hb1⟩
    have hb2 := hb0.trans (((Below.refl _ _).alloc (Nat.le_refl _) _).trans (hb1.mono (by simp)) |>.mono zz)
    go_wp2
    go_ret
    exact ⟨by rw [HE.out]; rfl, hb2⟩
  ·have d1 : decide (k < l.length) = false := by simpa using hlt
   have d2 : decide ((k : Int) < (l.length : Int)) = false := by rw [decide_eq_false_iff_not]; omega
   have hkl : k = l.length := by omega
   have HE : Hid (l.all p = true) := Lib.hid (by have := HA.out; rw [hkl, List.take_length] at this; exact this)
   clear hkl
   go_wp2
   go_ret
   exact ⟨by rw [HE.out]; rfl, hb0⟩
set_option maxHeartbeats 4000000 in
set_option maxRecDepth 9000000 in
theorem allP_any (p : PT → Bool) (n0 : Nat) (l : List PT) (hll : l.length ≤ 12000000) (hc : ∀ x ∈ l, ∀ w, n0 ≤ w.heap.size → EnvA w → x.In n0 w → Calls Tryz.prog 115 #[x.val] w fun e w' => e = .returned (.bool (p x)) ∧ Below w.heap.size w w') (a : Option Addr) (c : Nat) (w : World) (hn0 : n0 ≤ w.heap.size) (he : EnvA w) (hin : InRow 8 PT.cells (PT.In n0 w) n0 w l a) :
  Calls Tryz.prog 114 #[.slice a l.length c, .func (.func 115) #[] #[]] w fun e w' => e = .returned (.bool (l.all p)) ∧ Below w.heap.size w w' := by
 go_enter Tryz.func114, Tryz.ntmps114
 go_wp2
 go_loopw [9] (fun u wr => ∃ k : Nat, u = .int .i64 k ∧ k ≤ l.length ∧ (l.take k).all p = true ∧ Below w.heap.size w wr) (fun u _ => l.length - (intOf u).toNat)
 case atStart => exact ⟨0, rfl, Nat.zero_le _, rfl, Below.refl _ _⟩
 case round =>
  obtain ⟨k, rfl, hk, hal, hb0⟩ := hrel
  have HA := Lib.hid hal
  clear hal
  by_cases hlt : k < l.length
  ·have d1 : decide (k < l.length) = true := by simpa using hlt
   have d2 : decide ((k : Int) < (l.length : Int)) = true := by rw [decide_eq_true_eq]; omega
   have x1 : (k : Int) < (l.length : Int) := by omega
   obtain ⟨b, o, rfl, hb, hr, hx⟩ := hin.kept (Below.keptTo hb0 hn0) hlt
   have HT := Lib.hid (all_take p l k hlt)
   have HS := Lib.hid (all_stop p l k hlt)
   have hcx := hc l[k] (List.getElem_mem hlt)
   have hxin := hx.keep (Below.keptTo hb0 hn0)
   have her := he.keep hb0
   have zz := hb0.size
   generalize p l[k] = bp at *
   generalize hgx : l[k] = x at *
   obtain ⟨bn, po, ⟨op, nm, xn, wd, v, xa, xc, xl⟩⟩ := x
   have c0 := fun (o' : Obj) => hcx (wr.alloc o') (by simp; omega) (her.alloc o') (hxin.keep (Below.keptTo ((Below.refl _ _).alloc (Nat.le_refl _) o') (by omega)))
   have r0 : wr.cell? ⟨b, o + k * 8, none⟩ = some (.string (bs bn)) := hr 0 _ rfl
   have r1 : wr.cell? ⟨b, o + k * 8 + 1, none⟩ = some (.bool po) := hr 1 _ rfl
   have r2 : wr.cell? ⟨b, o + k * 8 + 2, none⟩ = some (.int .i64 op) := hr 2 _ rfl
   have r3 : wr.cell? ⟨b, o + k * 8 + 3, none⟩ = some (.string (bs nm)) := hr 3 _ rfl
   have r4 : wr.cell? ⟨b, o + k * 8 + 4, none⟩ = some (.int .i64 xn) := hr 4 _ rfl
   have r5 : wr.cell? ⟨b, o + k * 8 + 5, none⟩ = some (.int .i64 wd) := hr 5 _ rfl
   have r6 : wr.cell? ⟨b, o + k * 8 + 6, none⟩ = some (.int .u64 (v : Int)) := hr 6 _ rfl
   have r7 : wr.cell? ⟨b, o + k * 8 + 7, none⟩ = some (.slice xa xl.length xc) := hr 7 _ rfl
   simp only [PT.val, PT.cells, XT.cells] at c0
   clear hin hc hcx hr hx hxin hgx he her
   cases bp with
   | true =>
    clear HS
    go_wp2_with fail
    refine (c0 _).mono ?_
    clear c0
    rintro e W1 ⟨rfl, hb1⟩
    have hb2 := hb0.trans (((Below.refl _ _).alloc (Nat.le_refl _) _).trans (hb1.mono (by simp)) |>.mono zz)
    go_wp2
    go_roundw
    case rel => exact ⟨k + 1, by simp; first | done | rfl | omega, by omega, by rw [HT.out, HA.out]; rfl, hb2⟩
    case measure => simp [intOf]; omega
   | false =>
    have HE : Hid (l.all p = false) := Lib.hid (HS.out rfl)
    clear HS HT
    go_wp2_with fail
    refine (c0 _).mono ?_
    clear c0
    rintro e W1 ⟨rfl, hb1⟩
    have hb2 := hb0.trans (((Below.refl _ _).alloc (Nat.le_refl _) _).trans (hb1.mono (by simp)) |>.mono zz)
    go_wp2
    go_ret
    exact ⟨by rw [HE.out]; rfl, hb2⟩
  ·have d1 : decide (k < l.length) = false := by simpa using hlt
   have d2 : decide ((k : Int) < (l.length : Int)) = false := by rw [decide_eq_false_iff_not]; omega
   have hkl : k = l.length := by omega
   have HE : Hid (l.all p = true) := Lib.hid (by have := HA.out; rw [hkl, List.take_length] at this; exact this)
   clear hkl
   go_wp2
   go_ret
   exact ⟨by rw [HE.out]; rfl, hb0⟩
set_option maxHeartbeats 4000000 in
set_option maxRecDepth 9000000 in
theorem allI_any (p : IT → Bool) (n0 : Nat) (l : List IT) (hll : l.length ≤ 12000000) (hc : ∀ x ∈ l, ∀ w, n0 ≤ w.heap.size → EnvA w → x.In n0 w → Calls Tryz.prog 117 #[x.val] w fun e w' => e = .returned (.bool (p x)) ∧ Below w.heap.size w w') (a : Option Addr) (c : Nat) (w : World) (hn0 : n0 ≤ w.heap.size) (he : EnvA w) (hin : InRow 9 IT.cells (IT.In n0 w) n0 w l a) :
  Calls Tryz.prog 116 #[.slice a l.length c, .func (.func 117) #[] #[]] w fun e w' => e = .returned (.bool (l.all p)) ∧ Below w.heap.size w w' := by
 go_enter Tryz.func116, Tryz.ntmps116
 go_wp2
 go_loopw [9] (fun u wr => ∃ k : Nat, u = .int .i64 k ∧ k ≤ l.length ∧ (l.take k).all p = true ∧ Below w.heap.size w wr) (fun u _ => l.length - (intOf u).toNat)
 case atStart => exact ⟨0, rfl, Nat.zero_le _, rfl, Below.refl _ _⟩
 case round =>
  obtain ⟨k, rfl, hk, hal, hb0⟩ := hrel
  have HA := Lib.hid hal
  clear hal
  by_cases hlt : k < l.length
  ·have d1 : decide (k < l.length) = true := by simpa using hlt
   have d2 : decide ((k : Int) < (l.length : Int)) = true := by rw [decide_eq_true_eq]; omega
   have x1 : (k : Int) < (l.length : Int) := by omega
   obtain ⟨b, o, rfl, hb, hr, hx⟩ := hin.kept (Below.keptTo hb0 hn0) hlt
   have HT := Lib.hid (all_take p l k hlt)
   have HS := Lib.hid (all_stop p l k hlt)
   have hcx := hc l[k] (List.getElem_mem hlt)
   have hxin := hx.keep (Below.keptTo hb0 hn0)
   have her := he.keep hb0
   have zz := hb0.size
   generalize p l[k] = bp at *
   generalize hgx : l[k] = x at *
   obtain ⟨op, nm, nf, xa, xc, xl, sa, sc, sl, la, lc, ll, ea, ec, el, pa, pc, pl, ba, bc, bl⟩ := x
   have c0 := fun (o' : Obj) => hcx (wr.alloc o') (by simp; omega) (her.alloc o') (hxin.keep (Below.keptTo ((Below.refl _ _).alloc (Nat.le_refl _) o') (by omega)))
   have r0 : wr.cell? ⟨b, o + k * 9, none⟩ = some (.int .i64 op) := hr 0 _ rfl
   have r1 : wr.cell? ⟨b, o + k * 9 + 1, none⟩ = some (.string (bs nm)) := hr 1 _ rfl
   have r2 : wr.cell? ⟨b, o + k * 9 + 2, none⟩ = some (.string (bs nf)) := hr 2 _ rfl
   have r3 : wr.cell? ⟨b, o + k * 9 + 3, none⟩ = some (.slice xa xl.length xc) := hr 3 _ rfl
   have r4 : wr.cell? ⟨b, o + k * 9 + 4, none⟩ = some (.slice sa sl.length sc) := hr 4 _ rfl
   have r5 : wr.cell? ⟨b, o + k * 9 + 5, none⟩ = some (.slice la ll.length lc) := hr 5 _ rfl
   have r6 : wr.cell? ⟨b, o + k * 9 + 6, none⟩ = some (.slice ea el.length ec) := hr 6 _ rfl
   have r7 : wr.cell? ⟨b, o + k * 9 + 7, none⟩ = some (.slice pa pl.length pc) := hr 7 _ rfl
   have r8 : wr.cell? ⟨b, o + k * 9 + 8, none⟩ = some (.slice ba bl.length bc) := hr 8 _ rfl
   simp only [IT.val, IT.cells] at c0
   clear hin hc hcx hr hx hxin hgx he her
   cases bp with
   | true =>
    clear HS
    go_wp2_with fail
    refine (c0 _).mono ?_
    clear c0
    rintro e W1 ⟨rfl, hb1⟩
    have hb2 := hb0.trans (((Below.refl _ _).alloc (Nat.le_refl _) _).trans (hb1.mono (by simp)) |>.mono zz)
    go_wp2
    go_roundw
    case rel => exact ⟨k + 1, by simp; first | done | rfl | omega, by omega, by rw [HT.out, HA.out]; rfl, hb2⟩
    case measure => simp [intOf]; omega
   | false =>
    have HE : Hid (l.all p = false) := Lib.hid (HS.out rfl)
    clear HS HT
    go_wp2_with fail
    refine (c0 _).mono ?_
    clear c0
    rintro e W1 ⟨rfl, hb1⟩
    have hb2 := hb0.trans (((Below.refl _ _).alloc (Nat.le_refl _) _).trans (hb1.mono (by simp)) |>.mono zz)
    go_wp2
    go_ret
    exact ⟨by rw [HE.out]; rfl, hb2⟩
  ·have d1 : decide (k < l.length) = false := by simpa using hlt
   have d2 : decide ((k : Int) < (l.length : Int)) = false := by rw [decide_eq_false_iff_not]; omega
   have hkl : k = l.length := by omega
   have HE : Hid (l.all p = true) := Lib.hid (by have := HA.out; rw [hkl, List.take_length] at this; exact this)
   clear hkl
   go_wp2
   go_ret
   exact ⟨by rw [HE.out]; rfl, hb0⟩
end Go.Proofs.YtiipjbafdhijlaaGreatDoor
