/-
  FaE, in one text.
-/
import Derived.Test.YtbcgeglkmpcnpaaDoorFbB
import Derived.Deep.DeepCutAuto
namespace Go.Proofs.YtbcgeglkmpcnpaaDoor
open Go Go.RowKit
set_option linter.unusedVariables false
set_option linter.unusedSimpArgs false
open Go.Sort

set_option maxHeartbeats 8000000 in
set_option maxRecDepth 100000 in
theorem label_any (gl : List GT) (ga : Option Addr) (gc : Nat) (x : ET) (hbk : x.bk ≤ 4500000) (hwf : x.Wf) (n0 : Nat) (w : World) (hn0 : n0 ≤ w.heap.size) (he : EnvZ w) (hg : GsIn n0 w gl ga) (hin : x.In n0 w) : Calls Tryd.prog 105 #[.slice ga gl.length gc, x.val] w fun e w' => e = .returned (.bool ((x.op == 1) && mayE gl x)) ∧ Below w.heap.size w w' := by
  have cm := fun (W : World) (h : Below w.heap.size w W) => mayE_any gl ga gc x hbk hwf n0 W (Nat.le_trans hn0 h.size) (he.keep h) (hg.keep (Below.keptTo h hn0)) (hin.keep (Below.keptTo h hn0))
  obtain ⟨b, hb⟩ : ∃ b, mayE gl x = b := ⟨_, rfl⟩
  simp only [hb] at cm ⊢
  have HC := Lib.hid cm
  clear cm hb he hg hin
  obtain ⟨op, wd, v, sg, uh, ul, xn, xa, xc, xl⟩ := x
  simp only [ET.op]
  simp only [ET.val, ET.cells] at *
  obtain ⟨wa, hwa⟩ : ∃ wa, w.alloc (.cells #[.int .i64 op, .int .i64 wd, .int .u64 (v : Int), .int .i64 sg, .int .i64 uh, .int .i64 ul, .int .i64 xn, .slice xa xl.length xc] 30) = wa := ⟨_, rfl⟩
  have hba : Below w.heap.size w wa := by rw [← hwa]; exact (Below.refl _ _).alloc (Nat.le_refl _) _
  have BX : wa.heap[w.heap.size]? = some (.cells #[.int .i64 op, .int .i64 wd, .int .u64 (v : Int), .int .i64 sg, .int .i64 uh, .int .i64 ul, .int .i64 xn, .slice xa xl.length xc] 30) := by rw [← hwa]; exact World.alloc_heap_new w _
  obtain ⟨x0, x1, x2, x3, x4, x5, x6, x7⟩ := ope8 BX
  have c0 := HC.out wa hba
  have HB := Lib.hid hba
  clear BX hba
  obtain ⟨q, hq⟩ : ∃ q, (op == 1) = q := ⟨_, rfl⟩
  rw [hq]
  cases q with
  | false =>
    go_enter Tryd.func105, Tryd.ntmps105
    go_upto_region 1 with (fail)
    (try rw [hwa])
    go_wp2
    go_ret
    exact ⟨rfl, HB.out⟩
  | true =>
    go_enter Tryd.func105, Tryd.ntmps105
    go_upto_region 1 with (fail)
    (try rw [hwa])
    go_wp2_with fail
    refine c0.mono ?_
    clear c0
    rintro e W1 ⟨rfl, hb1⟩
    have HB2 := Lib.hid (HB.out.trans (hb1.mono HB.out.size))
    clear hb1
    go_wp2
    go_ret
    exact ⟨rfl, HB2.out⟩

set_option maxHeartbeats 4000000 in
set_option maxRecDepth 100000 in
theorem allLab_any (gl : List GT) (ga : Option Addr) (gc : Nat) (p : ET → Bool) (n0 : Nat) (l : List ET) (hll : l.length ≤ 12000000) (hc : ∀ x ∈ l, ∀ w, n0 ≤ w.heap.size → EnvZ w → GsIn n0 w gl ga → x.In n0 w → Calls Tryd.prog 105 #[.slice ga gl.length gc, x.val] w fun e w' => e = .returned (.bool (p x)) ∧ Below w.heap.size w w') (a : Option Addr) (c : Nat) (w : World) (hn0 : n0 ≤ w.heap.size) (he : EnvZ w) (hg : GsIn n0 w gl ga) (hin : InRow 8 ET.cells (ET.In n0 w) n0 w l a) :
    Calls Tryd.prog 52 #[.slice a l.length c, .func (.func 105) #[.slice ga gl.length gc] #[]] w fun e w' => e = .returned (.bool (l.all p)) ∧ Below w.heap.size w w' := by
  go_enter Tryd.func52, Tryd.ntmps52
  go_wp2
  go_loopw [9] (fun u wr => ∃ k : Nat, u = .int .i64 k ∧ k ≤ l.length ∧ (l.take k).all p = true ∧ Below w.heap.size w wr) (fun u _ => l.length - (intOf u).toNat)
  case atStart => exact ⟨0, rfl, Nat.zero_le _, rfl, Below.refl _ _⟩
  case round =>
    obtain ⟨k, rfl, hk, hal, hb0⟩ := hrel
    have HA := Lib.hid hal
    clear hal
    by_cases hlt : k < l.length
    · have d1 : decide (k < l.length) = true := by simpa using hlt
      have d2 : decide ((k : Int) < (l.length : Int)) = true := by rw [decide_eq_true_eq]; omega
      have x1 : (k : Int) < (l.length : Int) := by omega
      obtain ⟨b, o, rfl, hb, hr, hx⟩ := hin.kept (Below.keptTo hb0 hn0) hlt
      have HT := Lib.hid (all_take p l k hlt)
      have HS := Lib.hid (all_stop p l k hlt)
      have hcx := hc l[k] (List.getElem_mem hlt)
      have hxin := hx.keep (Below.keptTo hb0 hn0)
      have her := he.keep hb0
      have hgr := hg.keep (Below.keptTo hb0 hn0)
      have zz := hb0.size
      generalize p l[k] = bp at *
      generalize hgx : l[k] = x at *
      obtain ⟨op, wd, v, sg, uh, ul, xn, xa, xc, xl⟩ := x
      have c0 := fun (o' : Obj) => hcx (wr.alloc o') (by simp; omega) (her.alloc o') (hgr.alloc (by omega) o') (hxin.keep (Below.keptTo ((Below.refl _ _).alloc (Nat.le_refl _) o') (by omega)))
      have r0 : wr.cell? ⟨b, o + k * 8, none⟩ = some (.int .i64 op) := hr 0 _ rfl
      have r1 : wr.cell? ⟨b, o + k * 8 + 1, none⟩ = some (.int .i64 wd) := hr 1 _ rfl
      have r2 : wr.cell? ⟨b, o + k * 8 + 2, none⟩ = some (.int .u64 (v : Int)) := hr 2 _ rfl
      have r3 : wr.cell? ⟨b, o + k * 8 + 3, none⟩ = some (.int .i64 sg) := hr 3 _ rfl
      have r4 : wr.cell? ⟨b, o + k * 8 + 4, none⟩ = some (.int .i64 uh) := hr 4 _ rfl
      have r5 : wr.cell? ⟨b, o + k * 8 + 5, none⟩ = some (.int .i64 ul) := hr 5 _ rfl
      have r6 : wr.cell? ⟨b, o + k * 8 + 6, none⟩ = some (.int .i64 xn) := hr 6 _ rfl
      have r7 : wr.cell? ⟨b, o + k * 8 + 7, none⟩ = some (.slice xa xl.length xc) := hr 7 _ rfl
      simp only [ET.val, ET.cells] at c0
      clear hin hc hcx hr hx hxin hgx he her hg hgr
      cases bp with
      | true =>
        clear HS
        go_wp2_with fail
        refine (c0 _).mono ?_
        clear c0
        rintro e W1 ⟨rfl, hb1⟩
        have hb2 := hb0.trans (((Below.refl _ _).alloc (Nat.le_refl _) _).trans (hb1.mono (by simp)) |>.mono zz)
        go_wp2
        go_roundw
        case rel => exact ⟨k + 1, by simp; first | done | rfl | omega, by omega, by rw [HT.out, HA.out]; rfl, hb2⟩
        case measure => simp [intOf]; omega
      | false =>
        have HE : Hid (l.all p = false) := Lib.hid (HS.out rfl)
        clear HS HT
        go_wp2_with fail
        refine (c0 _).mono ?_
        clear c0
        rintro e W1 ⟨rfl, hb1⟩
        have hb2 := hb0.trans (((Below.refl _ _).alloc (Nat.le_refl _) _).trans (hb1.mono (by simp)) |>.mono zz)
        go_wp2
        go_ret
        exact ⟨by rw [HE.out]; rfl, hb2⟩
    · have d1 : decide (k < l.length) = false := by simpa using hlt
      have d2 : decide ((k : Int) < (l.length : Int)) = false := by rw [decide_eq_false_iff_not]; omega
      have hkl : k = l.length := by omega
      have HE : Hid (l.all p = true) := Lib.hid (by have := HA.out; rw [hkl, List.take_length] at this; exact this)
      clear hkl
      go_wp2
      go_ret
      exact ⟨by rw [HE.out]; rfl, hb0⟩

set_option maxHeartbeats 4000000 in
set_option maxRecDepth 100000 in
theorem allS_any (gl : List GT) (ga : Option Addr) (gc : Nat) (p : TT → Bool) (n0 : Nat) (l : List TT) (hll : l.length ≤ 12000000) (hc : ∀ x ∈ l, ∀ w, n0 ≤ w.heap.size → EnvZ w → GsIn n0 w gl ga → x.In n0 w → Calls Tryd.prog 74 #[.slice ga gl.length gc, x.val] w fun e w' => e = .returned (.bool (p x)) ∧ Below w.heap.size w w') (a : Option Addr) (c : Nat) (w : World) (hn0 : n0 ≤ w.heap.size) (he : EnvZ w) (hg : GsIn n0 w gl ga) (hin : InRow 6 TT.cells (TT.In n0 w) n0 w l a) :
    Calls Tryd.prog 73 #[.slice a l.length c, .func (.func 74) #[.slice ga gl.length gc] #[]] w fun e w' => e = .returned (.bool (l.all p)) ∧ Below w.heap.size w w' := by
  go_enter Tryd.func73, Tryd.ntmps73
  go_wp2
  go_loopw [9] (fun u wr => ∃ k : Nat, u = .int .i64 k ∧ k ≤ l.length ∧ (l.take k).all p = true ∧ Below w.heap.size w wr) (fun u _ => l.length - (intOf u).toNat)
  case atStart => exact ⟨0, rfl, Nat.zero_le _, rfl, Below.refl _ _⟩
  case round =>
    obtain ⟨k, rfl, hk, hal, hb0⟩ := hrel
    have HA := Lib.hid hal
    clear hal
    by_cases hlt : k < l.length
    · have d1 : decide (k < l.length) = true := by simpa using hlt
      have d2 : decide ((k : Int) < (l.length : Int)) = true := by rw [decide_eq_true_eq]; omega
      have x1 : (k : Int) < (l.length : Int) := by omega
      obtain ⟨b, o, rfl, hb, hr, hx⟩ := hin.kept (Below.keptTo hb0 hn0) hlt
      have HT := Lib.hid (all_take p l k hlt)
      have HS := Lib.hid (all_stop p l k hlt)
      have hcx := hc l[k] (List.getElem_mem hlt)
      have hxin := hx.keep (Below.keptTo hb0 hn0)
      have her := he.keep hb0
      have hgr := hg.keep (Below.keptTo hb0 hn0)
      have zz := hb0.size
      generalize p l[k] = bp at *
      generalize hgx : l[k] = x at *
      obtain ⟨op, sg, uh, ul, xa, xc, xl, sa, sc, sl⟩ := x
      have c0 := fun (o' : Obj) => hcx (wr.alloc o') (by simp; omega) (her.alloc o') (hgr.alloc (by omega) o') (hxin.keep (Below.keptTo ((Below.refl _ _).alloc (Nat.le_refl _) o') (by omega)))
      have r0 : wr.cell? ⟨b, o + k * 6, none⟩ = some (.int .i64 op) := hr 0 _ rfl
      have r1 : wr.cell? ⟨b, o + k * 6 + 1, none⟩ = some (.int .i64 sg) := hr 1 _ rfl
      have r2 : wr.cell? ⟨b, o + k * 6 + 2, none⟩ = some (.int .i64 uh) := hr 2 _ rfl
      have r3 : wr.cell? ⟨b, o + k * 6 + 3, none⟩ = some (.int .i64 ul) := hr 3 _ rfl
      have r4 : wr.cell? ⟨b, o + k * 6 + 4, none⟩ = some (.slice xa xl.length xc) := hr 4 _ rfl
      have r5 : wr.cell? ⟨b, o + k * 6 + 5, none⟩ = some (.slice sa sl.length sc) := hr 5 _ rfl
      simp only [TT.val, TT.cells] at c0
      clear hin hc hcx hr hx hxin hgx he her hg hgr
      cases bp with
      | true =>
        clear HS
        go_wp2_with fail
        refine (c0 _).mono ?_
        clear c0
        rintro e W1 ⟨rfl, hb1⟩
        have hb2 := hb0.trans (((Below.refl _ _).alloc (Nat.le_refl _) _).trans (hb1.mono (by simp)) |>.mono zz)
        go_wp2
        go_roundw
        case rel => exact ⟨k + 1, by simp; first | done | rfl | omega, by omega, by rw [HT.out, HA.out]; rfl, hb2⟩
        case measure => simp [intOf]; omega
      | false =>
        have HE : Hid (l.all p = false) := Lib.hid (HS.out rfl)
        clear HS HT
        go_wp2_with fail
        refine (c0 _).mono ?_
        clear c0
        rintro e W1 ⟨rfl, hb1⟩
        have hb2 := hb0.trans (((Below.refl _ _).alloc (Nat.le_refl _) _).trans (hb1.mono (by simp)) |>.mono zz)
        go_wp2
        go_ret
        exact ⟨by rw [HE.out]; rfl, hb2⟩
    · have d1 : decide (k < l.length) = false := by simpa using hlt
      have d2 : decide ((k : Int) < (l.length : Int)) = false := by rw [decide_eq_false_iff_not]; omega
      have hkl : k = l.length := by omega
      have HE : Hid (l.all p = true) := Lib.hid (by have := HA.out; rw [hkl, List.take_length] at this; exact this)
      clear hkl
      go_wp2
      go_ret
      exact ⟨by rw [HE.out]; rfl, hb0⟩

set_option maxHeartbeats 4000000 in
set_option maxRecDepth 100000 in
theorem allBl_any (gl : List GT) (ga : Option Addr) (gc : Nat) (p : TT → Bool) (n0 : Nat) (l : List TT) (hll : l.length ≤ 12000000) (hc : ∀ x ∈ l, ∀ w, n0 ≤ w.heap.size → EnvZ w → GsIn n0 w gl ga → x.In n0 w → Calls Tryd.prog 100 #[.slice ga gl.length gc, x.val] w fun e w' => e = .returned (.bool (p x)) ∧ Below w.heap.size w w') (a : Option Addr) (c : Nat) (w : World) (hn0 : n0 ≤ w.heap.size) (he : EnvZ w) (hg : GsIn n0 w gl ga) (hin : InRow 6 TT.cells (TT.In n0 w) n0 w l a) :
    Calls Tryd.prog 73 #[.slice a l.length c, .func (.func 100) #[.slice ga gl.length gc] #[]] w fun e w' => e = .returned (.bool (l.all p)) ∧ Below w.heap.size w w' := by
  go_enter Tryd.func73, Tryd.ntmps73
  go_wp2
  go_loopw [9] (fun u wr => ∃ k : Nat, u = .int .i64 k ∧ k ≤ l.length ∧ (l.take k).all p = true ∧ Below w.heap.size w wr) (fun u _ => l.length - (intOf u).toNat)
  case atStart => exact ⟨0, rfl, Nat.zero_le _, rfl, Below.refl _ _⟩
  case round =>
    obtain ⟨k, rfl, hk, hal, hb0⟩ := hrel
    have HA := Lib.hid hal
    clear hal
    by_cases hlt : k < l.length
    · have d1 : decide (k < l.length) = true := by simpa using hlt
      have d2 : decide ((k : Int) < (l.length : Int)) = true := by rw [decide_eq_true_eq]; omega
      have x1 : (k : Int) < (l.length : Int) := by omega
      obtain ⟨b, o, rfl, hb, hr, hx⟩ := hin.kept (Below.keptTo hb0 hn0) hlt
      have HT := Lib.hid (all_take p l k hlt)
      have HS := Lib.hid (all_stop p l k hlt)
      have hcx := hc l[k] (List.getElem_mem hlt)
      have hxin := hx.keep (Below.keptTo hb0 hn0)
      have her := he.keep hb0
      have hgr := hg.keep (Below.keptTo hb0 hn0)
      have zz := hb0.size
      generalize p l[k] = bp at *
      generalize hgx : l[k] = x at *
      obtain ⟨op, sg, uh, ul, xa, xc, xl, sa, sc, sl⟩ := x
      have c0 := fun (o' : Obj) => hcx (wr.alloc o') (by simp; omega) (her.alloc o') (hgr.alloc (by omega) o') (hxin.keep (Below.keptTo ((Below.refl _ _).alloc (Nat.le_refl _) o') (by omega)))
      have r0 : wr.cell? ⟨b, o + k * 6, none⟩ = some (.int .i64 op) := hr 0 _ rfl
      have r1 : wr.cell? ⟨b, o + k * 6 + 1, none⟩ = some (.int .i64 sg) := hr 1 _ rfl
      have r2 : wr.cell? ⟨b, o + k * 6 + 2, none⟩ = some (.int .i64 uh) := hr 2 _ rfl
      have r3 : wr.cell? ⟨b, o + k * 6 + 3, none⟩ = some (.int .i64 ul) := hr 3 _ rfl
      have r4 : wr.cell? ⟨b, o + k * 6 + 4, none⟩ = some (.slice xa xl.length xc) := hr 4 _ rfl
      have r5 : wr.cell? ⟨b, o + k * 6 + 5, none⟩ = some (.slice sa sl.length sc) := hr 5 _ rfl
      simp only [TT.val, TT.cells] at c0
      clear hin hc hcx hr hx hxin hgx he her hg hgr
      cases bp with
      | true =>
        clear HS
        go_wp2_with fail
        refine (c0 _).mono ?_
        clear c0
        rintro e W1 ⟨rfl, hb1⟩
        have hb2 := hb0.trans (((Below.refl _ _).alloc (Nat.le_refl _) _).trans (hb1.mono (by simp)) |>.mono zz)
        go_wp2
        go_roundw
        case rel => exact ⟨k + 1, by simp; first | done | rfl | omega, by omega, by rw [HT.out, HA.out]; rfl, hb2⟩
        case measure => simp [intOf]; omega
      | false =>
        have HE : Hid (l.all p = false) := Lib.hid (HS.out rfl)
        clear HS HT
        go_wp2_with fail
        refine (c0 _).mono ?_
        clear c0
        rintro e W1 ⟨rfl, hb1⟩
        have hb2 := hb0.trans (((Below.refl _ _).alloc (Nat.le_refl _) _).trans (hb1.mono (by simp)) |>.mono zz)
        go_wp2
        go_ret
        exact ⟨by rw [HE.out]; rfl, hb2⟩
    · have d1 : decide (k < l.length) = false := by simpa using hlt
      have d2 : decide ((k : Int) < (l.length : Int)) = false := by rw [decide_eq_false_iff_not]; omega
      have hkl : k = l.length := by omega
      have HE : Hid (l.all p = true) := Lib.hid (by have := HA.out; rw [hkl, List.take_length] at this; exact this)
      clear hkl
      go_wp2
      go_ret
      exact ⟨by rw [HE.out]; rfl, hb0⟩
/-- The call tells of a statement whether it may be one, whether it may be a block. -/
def StOK (gl : List GT) (ga : Option Addr) (gc : Nat) (x : TT) : Prop := ∀ (n0 : Nat) (w : World), n0 ≤ w.heap.size → EnvZ w → GsIn n0 w gl ga → x.In n0 w → Calls Tryd.prog 74 #[.slice ga gl.length gc, x.val] w fun e w' => e = .returned (.bool (mayT gl x 0)) ∧ Below w.heap.size w w'
def BlOK (gl : List GT) (ga : Option Addr) (gc : Nat) (x : TT) : Prop := ∀ (n0 : Nat) (w : World), n0 ≤ w.heap.size → EnvZ w → GsIn n0 w gl ga → x.In n0 w → Calls Tryd.prog 100 #[.slice ga gl.length gc, x.val] w fun e w' => e = .returned (.bool (mayT gl x 1)) ∧ Below w.heap.size w w'
theorem may_block (gl : List GT) (op sg uh ul : Int) (xa : Option Addr) (xc : Nat) (xl : List ET) (sa : Option Addr) (sc : Nat) (sl : List TT) : mayT gl (.mk op sg uh ul xa xc xl sa sc sl) 1 = ((op == 5) && (noBitsB sg uh ul && (((xl.length : Int) == 0) && mayTL gl sl 0))) := by
  rw [mayT, if_neg (by omega), if_neg (by omega), if_neg (by omega), if_pos (by omega)]
  congr 3
  rw [Bool.eq_iff_iff, beq_iff_eq, beq_iff_eq]; omega
theorem may_assign (gl : List GT) (sg uh ul : Int) (xa : Option Addr) (xc : Nat) (xl : List ET) (sa : Option Addr) (sc : Nat) (sl : List TT) : mayT gl (.mk 1 sg uh ul xa xc xl sa sc sl) 0 = (haveBitsB gl sg uh ul && (((xl.length : Int) == 1) && (mayEL gl xl && ((sl.length : Int) == 0)))) := by
  rw [mayT, if_pos ⟨rfl, rfl⟩]
  have e1 : (xl.length == 1) = ((xl.length : Int) == 1) := by rw [Bool.eq_iff_iff, beq_iff_eq, beq_iff_eq]; omega
  have e2 : (sl.length == 0) = ((sl.length : Int) == 0) := by rw [Bool.eq_iff_iff, beq_iff_eq, beq_iff_eq]; omega
  rw [e1, e2]
theorem may_if (gl : List GT) (sg uh ul : Int) (xa : Option Addr) (xc : Nat) (xl : List ET) (sa : Option Addr) (sc : Nat) (sl : List TT) : mayT gl (.mk 2 sg uh ul xa xc xl sa sc sl) 0 = (noBitsB sg uh ul && (((xl.length : Int) == 1) && (mayEL gl xl && (((sl.length : Int) == 2) && mayTL gl sl 1)))) := by
  rw [mayT, if_neg (by omega), if_pos ⟨rfl, rfl⟩]
  have e1 : (xl.length == 1) = ((xl.length : Int) == 1) := by rw [Bool.eq_iff_iff, beq_iff_eq, beq_iff_eq]; omega
  have e2 : (sl.length == 2) = ((sl.length : Int) == 2) := by rw [Bool.eq_iff_iff, beq_iff_eq, beq_iff_eq]; omega
  rw [e1, e2]
theorem may_case (gl : List GT) (sg uh ul : Int) (xa : Option Addr) (xc : Nat) (xl : List ET) (sa : Option Addr) (sc : Nat) (sl : List TT) : mayT gl (.mk 3 sg uh ul xa xc xl sa sc sl) 0 = (noBitsB sg uh ul && (((xl.length : Int) == 1) && (mayEL gl xl && (mayAL gl sl && decide (0 < sl.length))))) := by
  rw [mayT, if_neg (by omega), if_neg (by omega), if_pos ⟨rfl, rfl⟩]
  have e1 : (xl.length == 1) = ((xl.length : Int) == 1) := by rw [Bool.eq_iff_iff, beq_iff_eq, beq_iff_eq]; omega
  rw [e1]
theorem may_else (gl : List GT) (op sg uh ul : Int) (xa : Option Addr) (xc : Nat) (xl : List ET) (sa : Option Addr) (sc : Nat) (sl : List TT) (h1 : op ≠ 1) (h2 : op ≠ 2) (h3 : op ≠ 3) : mayT gl (.mk op sg uh ul xa xc xl sa sc sl) 0 = mayT gl (.mk op sg uh ul xa xc xl sa sc sl) 1 := by
  rw [mayT, mayT, if_neg (by omega), if_neg (by omega), if_neg (by omega), if_pos (by omega), if_neg (by omega), if_neg (by omega), if_neg (by omega), if_pos (by omega)]
theorem may_arm (gl : List GT) (op sg uh ul : Int) (xa : Option Addr) (xc : Nat) (xl : List ET) (sa : Option Addr) (sc : Nat) (sl : List TT) (last : Bool) : mayT gl (.mk op sg uh ul xa xc xl sa sc sl) (if last = true then 3 else 2) = ((op == 4) && (noBitsB sg uh ul && ((last == ((xl.length : Int) == 0)) && (xl.all (fun x => (x.op == 1) && mayE gl x) && mayTL gl sl 0)))) := by
  have e1 : (xl.length == 0) = ((xl.length : Int) == 0) := by rw [Bool.eq_iff_iff, beq_iff_eq, beq_iff_eq]; omega
  cases last <;> rw [mayT, if_neg (by simp), if_neg (by simp), if_neg (by simp), if_neg (by simp), e1] <;> simp
set_option maxHeartbeats 8000000 in
set_option maxRecDepth 100000 in
theorem block_of (gl : List GT) (ga : Option Addr) (gc : Nat) (op sg uh ul : Int) (xa : Option Addr) (xc : Nat) (xl : List ET) (sa : Option Addr) (sc : Nat) (sl : List TT) (hbk : TT.bkL sl ≤ 4500000) (ih : ∀ y ∈ sl, StOK gl ga gc y) : BlOK gl ga gc (.mk op sg uh ul xa xc xl sa sc sl) := by
  intro n0 w hn0 he hg hin
  have hlen := TT.bkL_len sl
  have hall := fun (w' : World) h1 h2 h3 h4 => allS_any gl ga gc (fun y => mayT gl y 0) n0 sl (by omega) (fun y hy w2 g1 g2 g3 g4 => ih y hy n0 w2 g1 g2 g3 g4) sa sc w' h1 h2 h3 h4
  have hno := fun (w' : World) => noBits_any op sg uh ul xa xc xl sa sc sl w'
  have HI : Hid (mayT gl (.mk op sg uh ul xa xc xl sa sc sl) 1 = ((op == 5) && (noBitsB sg uh ul && (((xl.length : Int) == 0) && sl.all (fun y => mayT gl y 0))))) := Lib.hid (by rw [may_block, mayTL_all])
  generalize mayT gl (.mk op sg uh ul xa xc xl sa sc sl) 1 = R at *
  simp only [TT.val, TT.cells]
  rw [TT.In_mk] at hin
  obtain ⟨n, hn⟩ : ∃ n, xl.length = n := ⟨_, rfl⟩
  obtain ⟨m, hm⟩ : ∃ m, sl.length = m := ⟨_, rfl⟩
  rw [hn] at HI hno ⊢
  rw [hm] at hall hno ⊢
  clear hn hm ih hbk hlen
  obtain ⟨b1, hb1⟩ : ∃ b, (op == 5) = b := ⟨_, rfl⟩
  obtain ⟨b2, hb2⟩ : ∃ b, noBitsB sg uh ul = b := ⟨_, rfl⟩
  obtain ⟨b3, hb3⟩ : ∃ b, ((n : Int) == 0) = b := ⟨_, rfl⟩
  obtain ⟨b4, hb4⟩ : ∃ b, sl.all (fun y => mayT gl y 0) = b := ⟨_, rfl⟩
  rw [hb1, hb2, hb3, hb4] at HI
  simp only [hb2] at hno
  simp only [hb4] at hall
  have HBB := Lib.hid (And.intro hb2 hb4)
  clear hb2 hb4
  obtain ⟨gx, hgx⟩ : ∃ gx, w.heap.size = gx := ⟨_, rfl⟩
  have BX : (w.alloc (.cells #[.int .i64 op, .int .i64 sg, .int .i64 uh, .int .i64 ul, .slice xa n xc, .slice sa m sc] 48)).heap[gx]? = some (.cells #[.int .i64 op, .int .i64 sg, .int .i64 uh, .int .i64 ul, .slice xa n xc, .slice sa m sc] 48) := by rw [← hgx]; exact World.alloc_heap_new w _
  have hB : Below w.heap.size w (w.alloc (.cells #[.int .i64 op, .int .i64 sg, .int .i64 uh, .int .i64 ul, .slice xa n xc, .slice sa m sc] 48)) := (Below.refl _ _).alloc (Nat.le_refl _) _
  have he1 := he.alloc (.cells #[.int .i64 op, .int .i64 sg, .int .i64 uh, .int .i64 ul, .slice xa n xc, .slice sa m sc] 48)
  have hg1 := hg.alloc hn0 (.cells #[.int .i64 op, .int .i64 sg, .int .i64 uh, .int .i64 ul, .slice xa n xc, .slice sa m sc] 48)
  have hE1 := hin.1.keep (Below.keptTo hB hn0) (fun x _ => ET.In.keep (Below.keptTo hB hn0) x)
  have hT1 := hin.2.keep (Below.keptTo hB hn0) (fun x _ => TT.In.keep (Below.keptTo hB hn0) x)
  have hn1 : n0 ≤ (w.alloc (.cells #[.int .i64 op, .int .i64 sg, .int .i64 uh, .int .i64 ul, .slice xa n xc, .slice sa m sc] 48)).heap.size := Nat.le_trans hn0 hB.size
  clear he hin hg
  go_enter Tryd.func100, Tryd.ntmps100
  go_upto_region 1 with (fail)
  generalize w.alloc (.cells #[.int .i64 op, .int .i64 sg, .int .i64 uh, .int .i64 ul, .slice xa n xc, .slice sa m sc] 48) = w1 at *
  (try rw [hgx])
  clear hgx
  cases b1 with
  | false =>
    obtain ⟨x0, x1, x2, x3, x4, x5⟩ := ope6_ BX
    go_wp2
    go_ret
    exact ⟨by rw [HI.out]; rfl, hB⟩
  | true =>
    obtain ⟨x0, x1, x2, x3, x4, x5⟩ := ope6_ BX
    go_wp2_with fail
    refine (hno _).mono ?_
    rintro e1 w1 ⟨rfl, hb⟩
    clear x0 x1 x2 x3 x4 x5
    replace BX := block_kept BX hb
    have hk9 := Below.keptTo hb hn1
    replace hE1 := hE1.keep hk9 (fun x _ => ET.In.keep hk9 x)
    replace hT1 := hT1.keep hk9 (fun x _ => TT.In.keep hk9 x)
    replace he1 := he1.keep hb
    replace hg1 := hg1.keep hk9
    replace hn1 := Nat.le_trans hn1 hb.size
    clear hk9
    replace hB := hB.trans (hb.mono hB.size)
    clear hb
    cases b2 with
    | false =>
      obtain ⟨x0, x1, x2, x3, x4, x5⟩ := ope6_ BX
      go_wp2
      go_ret
      exact ⟨by rw [HI.out]; rfl, hB⟩
    | true =>
      cases b3 with
      | false =>
        obtain ⟨x0, x1, x2, x3, x4, x5⟩ := ope6_ BX
        go_wp2
        go_ret
        exact ⟨by rw [HI.out]; rfl, hB⟩
      | true =>
        obtain ⟨x0, x1, x2, x3, x4, x5⟩ := ope6_ BX
        go_wp2_with fail
        refine (hall _ hn1 he1 hg1 hT1).mono ?_
        rintro e1 w1 ⟨rfl, hb⟩
        clear x0 x1 x2 x3 x4 x5
        replace BX := block_kept BX hb
        have hk9 := Below.keptTo hb hn1
        replace hE1 := hE1.keep hk9 (fun x _ => ET.In.keep hk9 x)
        replace hT1 := hT1.keep hk9 (fun x _ => TT.In.keep hk9 x)
        replace he1 := he1.keep hb
        replace hg1 := hg1.keep hk9
        replace hn1 := Nat.le_trans hn1 hb.size
        clear hk9
        replace hB := hB.trans (hb.mono hB.size)
        clear hb
        obtain ⟨x0, x1, x2, x3, x4, x5⟩ := ope6_ BX
        go_wp2
        go_ret
        exact ⟨by rw [HI.out]; rfl, hB⟩
theorem mayAL_take (gl : List GT) (l : List TT) (R : Bool) (hR : mayAL gl l = R) : R = true ↔ ∀ k (h : k < l.length), mayT gl l[k] (if decide (k + 1 = l.length) = true then 3 else 2) = true := by
  rw [← hR, mayAL_get]
  simp only [decide_eq_true_eq]
set_option maxHeartbeats 8000000 in
set_option maxRecDepth 100000 in
theorem arms_any (gl : List GT) (ga : Option Addr) (gc : Nat) (l : List TT) (hbk : TT.bkL l ≤ 4500000) (hwf : ∀ x ∈ l, x.Wf) (ih : ∀ x ∈ l, ∀ y ∈ x.sl, StOK gl ga gc y) (a : Option Addr) (c : Nat) (n0 : Nat) (w : World) (hn0 : n0 ≤ w.heap.size) (he : EnvZ w) (hg : GsIn n0 w gl ga) (hin : InRow 6 TT.cells (TT.In n0 w) n0 w l a) :
    Calls Tryd.prog 101 #[.slice ga gl.length gc, .slice a l.length c] w fun e w' => e = .returned (.bool (mayAL gl l && decide (0 < l.length))) ∧ Below w.heap.size w w' := by
  have hlen := TT.bkL_len l
  obtain ⟨R, hR⟩ : ∃ R, mayAL gl l = R := ⟨_, rfl⟩
  rw [hR]
  have HR := Lib.hid (mayAL_take gl l R hR)
  clear hR
  have e9 : (decide (0 < l.length)) = decide ((0 : Int) < (l.length : Int)) := by rw [Bool.eq_iff_iff, decide_eq_true_eq, decide_eq_true_eq]; omega
  have HE9 := Lib.hid e9
  clear e9
  go_enter Tryd.func101, Tryd.ntmps101
  go_wp2
  go_loopw [10] (fun u wr => ∃ k : Nat, u = .int .i64 k ∧ k ≤ l.length ∧ (∀ j (h : j < k) (h2 : j < l.length), mayT gl l[j] (if decide (j + 1 = l.length) = true then 3 else 2) = true) ∧ Below w.heap.size w wr) (fun u _ => l.length - (intOf u).toNat)
  case atStart => exact ⟨0, rfl, Nat.zero_le _, fun j h => absurd h (by omega), Below.refl _ _⟩
  case round =>
    obtain ⟨k, rfl, hk, hal, hb0⟩ := hrel
    have HA := Lib.hid hal
    clear hal
    by_cases hlt : k < l.length
    · have d1 : decide (k < l.length) = true := by simpa using hlt
      have d2 : decide ((k : Int) < (l.length : Int)) = true := by rw [decide_eq_true_eq]; omega
      have x1 : (k : Int) < (l.length : Int) := by omega
      obtain ⟨b, o, rfl, hb, hr, hx⟩ := hin.kept (Below.keptTo hb0 hn0) hlt
      obtain ⟨last, hlast⟩ : ∃ b, decide (k + 1 = l.length) = b := ⟨_, rfl⟩
      have hl2 : ((k : Int) == (l.length : Int) - 1) = last := by rw [← hlast, Bool.eq_iff_iff, beq_iff_eq, decide_eq_true_eq]; omega
      have HS : Hid (mayT gl l[k] (if last = true then 3 else 2) = false → R = false) := Lib.hid (fun h => by
        rw [Bool.eq_false_iff]; intro h9
        have := HR.out.1 h9 k hlt
        rw [hlast, h] at this; cases this)
      have HT : Hid (mayT gl l[k] (if last = true then 3 else 2) = true → ∀ j (h : j < k + 1) (h2 : j < l.length), mayT gl l[j] (if decide (j + 1 = l.length) = true then 3 else 2) = true) := Lib.hid (fun h j hj h2 => by
        by_cases q : j = k
        · subst q; rw [hlast]; exact h
        · exact HA.out j (by omega) h2)
      have HL := Lib.hid hlast
      clear hlast
      have hxk := TT.bkL_mem (List.getElem_mem hlt)
      have hxw := hwf l[k] (List.getElem_mem hlt)
      have hst := ih l[k] (List.getElem_mem hlt)
      have hxin := hx.keep (Below.keptTo hb0 hn0)
      have her := he.keep hb0
      have hgr := hg.keep (Below.keptTo hb0 hn0)
      have hnr : n0 ≤ wr.heap.size := Nat.le_trans hn0 hb0.size
      generalize hgx : l[k] = x at *
      obtain ⟨op, sg, uh, ul, xa, xc, xl, sa, sc, sl⟩ := x
      simp only [TT.bk] at hxk
      rw [TT.wf_mk] at hxw
      rw [TT.In_mk] at hxin
      simp only [TT.sl] at hst
      have hll1 := ET.bkL_len xl
      have hll2 := TT.bkL_len sl
      have hlb := fun (w' : World) h1 h2 h3 h4 => allLab_any gl ga gc (fun x => (x.op == 1) && mayE gl x) n0 xl (by omega) (fun y hy w2 g1 g2 g3 g4 => label_any gl ga gc y (by have := ET.bkL_mem hy; omega) (hxw.1 y hy) n0 w2 g1 g2 g3 g4) xa xc w' h1 h2 h3 h4
      have hst := fun (w' : World) h1 h2 h3 h4 => allS_any gl ga gc (fun y => mayT gl y 0) n0 sl (by omega) (fun y hy w2 g1 g2 g3 g4 => hst y hy n0 w2 g1 g2 g3 g4) sa sc w' h1 h2 h3 h4
      have hno := fun (w' : World) => noBits_any op sg uh ul xa xc xl sa sc sl w'
      have HI : Hid (mayT gl (.mk op sg uh ul xa xc xl sa sc sl) (if last = true then 3 else 2) = ((op == 4) && (noBitsB sg uh ul && ((last == ((xl.length : Int) == 0)) && (xl.all (fun x => (x.op == 1) && mayE gl x) && sl.all (fun y => mayT gl y 0)))))) := Lib.hid (by rw [may_arm, mayTL_all])
      generalize mayT gl (.mk op sg uh ul xa xc xl sa sc sl) (if last = true then 3 else 2) = Q at HS HT HI
      obtain ⟨n, hn⟩ : ∃ n, xl.length = n := ⟨_, rfl⟩
      obtain ⟨m, hm⟩ : ∃ m, sl.length = m := ⟨_, rfl⟩
      simp only [TT.cells] at hr
      rw [hn] at HI hno hlb hr
      rw [hm] at hst hno hr
      clear hn hm hll1 hll2 hxk hxw
      obtain ⟨b2, hb2⟩ : ∃ b, noBitsB sg uh ul = b := ⟨_, rfl⟩
      obtain ⟨b0, hb00⟩ : ∃ b, ((n : Int) == 0) = b := ⟨_, rfl⟩
      obtain ⟨b4, hb4⟩ : ∃ b, xl.all (fun x => (x.op == 1) && mayE gl x) = b := ⟨_, rfl⟩
      obtain ⟨b5, hb5⟩ : ∃ b, sl.all (fun y => mayT gl y 0) = b := ⟨_, rfl⟩
      rw [hb2, hb00, hb4, hb5] at HI
      obtain ⟨b3, hb3⟩ : ∃ b, (last == b0) = b := ⟨_, rfl⟩
      rw [hb3] at HI
      simp only [hb2] at hno
      simp only [hb4] at hlb
      simp only [hb5] at hst
      have HBB := Lib.hid (And.intro hb2 (And.intro hb4 hb5))
      clear hb2 hb4 hb5
      have r0 : wr.cell? ⟨b, o + k * 6, none⟩ = some (.int .i64 op) := hr 0 _ rfl
      have r1 : wr.cell? ⟨b, o + k * 6 + 1, none⟩ = some (.int .i64 sg) := hr 1 _ rfl
      have r2 : wr.cell? ⟨b, o + k * 6 + 2, none⟩ = some (.int .i64 uh) := hr 2 _ rfl
      have r3 : wr.cell? ⟨b, o + k * 6 + 3, none⟩ = some (.int .i64 ul) := hr 3 _ rfl
      have r4 : wr.cell? ⟨b, o + k * 6 + 4, none⟩ = some (.slice xa n xc) := hr 4 _ rfl
      have r5 : wr.cell? ⟨b, o + k * 6 + 5, none⟩ = some (.slice sa m sc) := hr 5 _ rfl
      have BX : (wr.alloc (.cells #[.int .i64 op, .int .i64 sg, .int .i64 uh, .int .i64 ul, .slice xa n xc, .slice sa m sc] 48)).heap[wr.heap.size]? = some (.cells #[.int .i64 op, .int .i64 sg, .int .i64 uh, .int .i64 ul, .slice xa n xc, .slice sa m sc] 48) := World.alloc_heap_new wr _
      have hB : Below w.heap.size w (wr.alloc (.cells #[.int .i64 op, .int .i64 sg, .int .i64 uh, .int .i64 ul, .slice xa n xc, .slice sa m sc] 48)) := hb0.alloc hb0.size _
      have hbr : Below wr.heap.size wr (wr.alloc (.cells #[.int .i64 op, .int .i64 sg, .int .i64 uh, .int .i64 ul, .slice xa n xc, .slice sa m sc] 48)) := (Below.refl _ _).alloc (Nat.le_refl _) _
      have he1 := her.alloc (.cells #[.int .i64 op, .int .i64 sg, .int .i64 uh, .int .i64 ul, .slice xa n xc, .slice sa m sc] 48)
      have hg1 := hgr.alloc hnr (.cells #[.int .i64 op, .int .i64 sg, .int .i64 uh, .int .i64 ul, .slice xa n xc, .slice sa m sc] 48)
      have hE1 := hxin.1.keep (Below.keptTo hbr hnr) (fun x _ => ET.In.keep (Below.keptTo hbr hnr) x)
      have hT1 := hxin.2.keep (Below.keptTo hbr hnr) (fun x _ => TT.In.keep (Below.keptTo hbr hnr) x)
      have hn1 : n0 ≤ (wr.alloc (.cells #[.int .i64 op, .int .i64 sg, .int .i64 uh, .int .i64 ul, .slice xa n xc, .slice sa m sc] 48)).heap.size := Nat.le_trans hnr hbr.size
      clear hin hr hx hxin hgx he her hg hgr hwf ih hbr hb0
      go_upto_region 4 with (fail)
      generalize wr.alloc (.cells #[.int .i64 op, .int .i64 sg, .int .i64 uh, .int .i64 ul, .slice xa n xc, .slice sa m sc] 48) = w5 at *
      clear r0 r1 r2 r3 r4 r5
      by_cases t4 : op = 4
      · subst t4
        replace HI : Hid (Q = (b2 && (b3 && (b4 && b5)))) := Lib.hid (by rw [HI.out]; rfl)
        obtain ⟨x0, x1, x2, x3, x4, x5⟩ := ope6_ BX
        go_wp2_with fail
        refine (hno _).mono ?_
        rintro e1 w1 ⟨rfl, hb⟩
        clear x0 x1 x2 x3 x4 x5
        replace BX := block_kept BX hb
        have hk9 := Below.keptTo hb hn1
        replace hE1 := hE1.keep hk9 (fun x _ => ET.In.keep hk9 x)
        replace hT1 := hT1.keep hk9 (fun x _ => TT.In.keep hk9 x)
        replace he1 := he1.keep hb
        replace hg1 := hg1.keep hk9
        replace hn1 := Nat.le_trans hn1 hb.size
        clear hk9
        replace hB := hB.trans (hb.mono hB.size)
        clear hb
        cases b2 with
        | false =>
          obtain ⟨x0, x1, x2, x3, x4, x5⟩ := ope6_ BX
          have HR : Hid (R = false) := Lib.hid (HS.out (by rw [HI.out] <;> simp))
          go_wp2
          exact bodyPost_ret (v := .bool false) (by simp [results, Tryd.results101, go_sem]) rfl (by exact ⟨by rw [HR.out]; rfl, hB⟩)
        | true =>
          cases b3 with
          | false =>
            obtain ⟨x0, x1, x2, x3, x4, x5⟩ := ope6_ BX
            have HR : Hid (R = false) := Lib.hid (HS.out (by rw [HI.out] <;> simp))
            go_wp2
            exact bodyPost_ret (v := .bool false) (by simp [results, Tryd.results101, go_sem]) rfl (by exact ⟨by rw [HR.out]; rfl, hB⟩)
          | true =>
            obtain ⟨x0, x1, x2, x3, x4, x5⟩ := ope6_ BX
            go_wp2_with fail
            refine (hlb _ hn1 he1 hg1 hE1).mono ?_
            rintro e1 w1 ⟨rfl, hb⟩
            clear x0 x1 x2 x3 x4 x5
            replace BX := block_kept BX hb
            have hk9 := Below.keptTo hb hn1
            replace hE1 := hE1.keep hk9 (fun x _ => ET.In.keep hk9 x)
            replace hT1 := hT1.keep hk9 (fun x _ => TT.In.keep hk9 x)
            replace he1 := he1.keep hb
            replace hg1 := hg1.keep hk9
            replace hn1 := Nat.le_trans hn1 hb.size
            clear hk9
            replace hB := hB.trans (hb.mono hB.size)
            clear hb
            cases b4 with
            | false =>
              obtain ⟨x0, x1, x2, x3, x4, x5⟩ := ope6_ BX
              have HR : Hid (R = false) := Lib.hid (HS.out (by rw [HI.out] <;> simp))
              go_wp2
              exact bodyPost_ret (v := .bool false) (by simp [results, Tryd.results101, go_sem]) rfl (by exact ⟨by rw [HR.out]; rfl, hB⟩)
            | true =>
              obtain ⟨x0, x1, x2, x3, x4, x5⟩ := ope6_ BX
              go_wp2_with fail
              refine (hst _ hn1 he1 hg1 hT1).mono ?_
              rintro e1 w1 ⟨rfl, hb⟩
              clear x0 x1 x2 x3 x4 x5
              replace BX := block_kept BX hb
              have hk9 := Below.keptTo hb hn1
              replace hE1 := hE1.keep hk9 (fun x _ => ET.In.keep hk9 x)
              replace hT1 := hT1.keep hk9 (fun x _ => TT.In.keep hk9 x)
              replace he1 := he1.keep hb
              replace hg1 := hg1.keep hk9
              replace hn1 := Nat.le_trans hn1 hb.size
              clear hk9
              replace hB := hB.trans (hb.mono hB.size)
              clear hb
              cases b5 with
              | false =>
                obtain ⟨x0, x1, x2, x3, x4, x5⟩ := ope6_ BX
                have HR : Hid (R = false) := Lib.hid (HS.out (by rw [HI.out] <;> simp))
                go_wp2
                exact bodyPost_ret (v := .bool false) (by simp [results, Tryd.results101, go_sem]) rfl (by exact ⟨by rw [HR.out]; rfl, hB⟩)
              | true =>
                obtain ⟨x0, x1, x2, x3, x4, x5⟩ := ope6_ BX
                have HG := Lib.hid (And.intro (HT.out (by rw [HI.out]; rfl)) hB)
                go_wp2
                go_roundw
                case rel => exact ⟨k + 1, by simp; first | done | rfl | omega, by omega, HG.out.1, HG.out.2⟩
                case measure => simp [intOf]; omega
      · have e4 : (op == 4) = false := by rw [beq_eq_false_iff_ne]; exact t4
        have e5 : (op != 4) = true := by rw [bne, e4]; rfl
        replace HI : Hid (Q = false) := Lib.hid (by rw [HI.out, e4]; rfl)
        clear t4
        obtain ⟨x0, x1, x2, x3, x4, x5⟩ := ope6_ BX
        have HR : Hid (R = false) := Lib.hid (HS.out (by rw [HI.out] <;> simp))
        go_wp2
        exact bodyPost_ret (v := .bool false) (by simp [results, Tryd.results101, go_sem]) rfl (by exact ⟨by rw [HR.out]; rfl, hB⟩)
    · have d1 : decide (k < l.length) = false := by simpa using hlt
      have d2 : decide ((k : Int) < (l.length : Int)) = false := by rw [decide_eq_false_iff_not]; omega
      have HE : Hid (R = true) := Lib.hid (HR.out.2 (fun j hj => HA.out j (by omega) hj))
      clear hin he hg
      go_wp2
      go_ret
      exact ⟨by rw [HE.out, Bool.true_and, HE9.out]; rfl, hb0⟩
set_option maxHeartbeats 8000000 in
set_option maxRecDepth 100000 in
theorem st_all (gl : List GT) (ga : Option Addr) (gc : Nat) : ∀ x : TT, x.bk ≤ 4500000 → x.Wf → (StOK gl ga gc x ∧ BlOK gl ga gc x) ∧ ∀ y ∈ x.sl, StOK gl ga gc y := by
  refine TT.ind ?_
  intro op sg uh ul xa xc xl sa sc sl ih hbk hwf
  rw [TT.wf_mk] at hwf
  simp only [TT.bk] at hbk
  have ih' := fun y (hy : y ∈ sl) => ih y hy (by have := TT.bkL_mem hy; omega) (hwf.2 y hy)
  have HB := block_of gl ga gc op sg uh ul xa xc xl sa sc sl (by omega) (fun y hy => (ih' y hy).1.1)
  refine ⟨⟨?_, HB⟩, fun y hy => (ih' y hy).1.1⟩
  intro n0 w hn0 he hg hin
  have hlen := ET.bkL_len xl
  have hlen2 := TT.bkL_len sl
  have hall := fun (w' : World) h1 h2 h3 h4 => allE_any gl ga gc (mayE gl) n0 xl (by omega) (fun y hy w2 g1 g2 g3 g4 => mayE_any gl ga gc y (by have := ET.bkL_mem hy; omega) (hwf.1 y hy) n0 w2 g1 g2 g3 g4) xa xc w' h1 h2 h3 h4
  have hbl := fun (w' : World) h1 h2 h3 h4 => allBl_any gl ga gc (fun y => mayT gl y 1) n0 sl (by omega) (fun y hy w2 g1 g2 g3 g4 => (ih' y hy).1.2 n0 w2 g1 g2 g3 g4) sa sc w' h1 h2 h3 h4
  have har := fun (w' : World) h1 h2 h3 h4 => arms_any gl ga gc sl (by omega) hwf.2 (fun y hy => (ih' y hy).2) sa sc n0 w' h1 h2 h3 h4
  have hno := fun (w' : World) => noBits_any op sg uh ul xa xc xl sa sc sl w'
  have hbits := fun (w' : World) (h : GsIn n0 w' gl ga) => haveBits_any n0 gl ga gc sg uh ul w' h
  have hblock := fun (w' : World) h1 h2 h3 h4 => HB n0 w' h1 h2 h3 h4
  simp only [TT.val, TT.cells] at hblock ⊢
  clear HB ih ih' hbk hwf hlen hlen2
  rw [TT.In_mk] at hin
  obtain ⟨n, hn⟩ : ∃ n, xl.length = n := ⟨_, rfl⟩
  obtain ⟨m, hm⟩ : ∃ m, sl.length = m := ⟨_, rfl⟩
  rw [hn] at hall hno hblock ⊢
  rw [hm] at hbl har hno hblock ⊢
  obtain ⟨c1, hc1⟩ : ∃ b, xl.all (mayE gl) = b := ⟨_, rfl⟩
  simp only [hc1] at hall
  by_cases t1 : op = 1
  · subst t1
    have HI := Lib.hid (may_assign gl sg uh ul xa xc xl sa sc sl)
    generalize mayT gl (.mk 1 sg uh ul xa xc xl sa sc sl) 0 = R at *
    rw [hn, hm, mayEL_all, hc1] at HI
    clear hn hm hc1 hbl har hno hblock
    obtain ⟨b1, hb1⟩ : ∃ b, haveBitsB gl sg uh ul = b := ⟨_, rfl⟩
    obtain ⟨b2, hb2⟩ : ∃ b, ((n : Int) == 1) = b := ⟨_, rfl⟩
    obtain ⟨b4, hb4⟩ : ∃ b, ((m : Int) == 0) = b := ⟨_, rfl⟩
    rw [hb1, hb2, hb4] at HI
    simp only [hb1] at hbits
    clear hb1
    obtain ⟨gx, hgx⟩ : ∃ gx, w.heap.size = gx := ⟨_, rfl⟩
    have BX : (w.alloc (.cells #[.int .i64 1, .int .i64 sg, .int .i64 uh, .int .i64 ul, .slice xa n xc, .slice sa m sc] 48)).heap[gx]? = some (.cells #[.int .i64 1, .int .i64 sg, .int .i64 uh, .int .i64 ul, .slice xa n xc, .slice sa m sc] 48) := by rw [← hgx]; exact World.alloc_heap_new w _
    have hB : Below w.heap.size w (w.alloc (.cells #[.int .i64 1, .int .i64 sg, .int .i64 uh, .int .i64 ul, .slice xa n xc, .slice sa m sc] 48)) := (Below.refl _ _).alloc (Nat.le_refl _) _
    have he1 := he.alloc (.cells #[.int .i64 1, .int .i64 sg, .int .i64 uh, .int .i64 ul, .slice xa n xc, .slice sa m sc] 48)
    have hg1 := hg.alloc hn0 (.cells #[.int .i64 1, .int .i64 sg, .int .i64 uh, .int .i64 ul, .slice xa n xc, .slice sa m sc] 48)
    have hE1 := hin.1.keep (Below.keptTo hB hn0) (fun x _ => ET.In.keep (Below.keptTo hB hn0) x)
    have hT1 := hin.2.keep (Below.keptTo hB hn0) (fun x _ => TT.In.keep (Below.keptTo hB hn0) x)
    have hn1 : n0 ≤ (w.alloc (.cells #[.int .i64 1, .int .i64 sg, .int .i64 uh, .int .i64 ul, .slice xa n xc, .slice sa m sc] 48)).heap.size := Nat.le_trans hn0 hB.size
    clear he hin hg
    go_enter Tryd.func74, Tryd.ntmps74
    go_upto_region 1 with (fail)
    generalize w.alloc (.cells #[.int .i64 1, .int .i64 sg, .int .i64 uh, .int .i64 ul, .slice xa n xc, .slice sa m sc] 48) = w1 at *
    (try rw [hgx])
    clear hgx
    obtain ⟨x0, x1, x2, x3, x4, x5⟩ := ope6_ BX
    go_wp2_with fail
    refine (hbits _ hg1).mono ?_
    rintro e1 w1 ⟨rfl, rfl⟩
    cases b1 with
    | false =>
      go_wp2
      go_ret
      exact ⟨by rw [HI.out]; rfl, hB⟩
    | true =>
      cases b2 with
      | false =>
        go_wp2
        go_ret
        exact ⟨by rw [HI.out]; rfl, hB⟩
      | true =>
        go_wp2_with fail
        refine (hall _ hn1 he1 hg1 hE1).mono ?_
        rintro e1 w1 ⟨rfl, hb⟩
        clear x0 x1 x2 x3 x4 x5
        replace BX := block_kept BX hb
        have hk9 := Below.keptTo hb hn1
        replace hE1 := hE1.keep hk9 (fun x _ => ET.In.keep hk9 x)
        replace hT1 := hT1.keep hk9 (fun x _ => TT.In.keep hk9 x)
        replace he1 := he1.keep hb
        replace hg1 := hg1.keep hk9
        replace hn1 := Nat.le_trans hn1 hb.size
        clear hk9
        replace hB := hB.trans (hb.mono hB.size)
        clear hb
        cases c1 with
        | false =>
          obtain ⟨x0, x1, x2, x3, x4, x5⟩ := ope6_ BX
          go_wp2
          go_ret
          exact ⟨by rw [HI.out]; rfl, hB⟩
        | true =>
          cases b4 with
          | false =>
            obtain ⟨x0, x1, x2, x3, x4, x5⟩ := ope6_ BX
            go_wp2
            go_ret
            exact ⟨by rw [HI.out]; rfl, hB⟩
          | true =>
            obtain ⟨x0, x1, x2, x3, x4, x5⟩ := ope6_ BX
            go_wp2
            go_ret
            exact ⟨by rw [HI.out]; rfl, hB⟩
  by_cases t2 : op = 2
  · subst t2
    have HI := Lib.hid (may_if gl sg uh ul xa xc xl sa sc sl)
    generalize mayT gl (.mk 2 sg uh ul xa xc xl sa sc sl) 0 = R at *
    rw [hn, hm, mayEL_all, hc1, mayTL_all] at HI
    clear hn hm hc1 har hblock hbits t1
    obtain ⟨b1, hb1⟩ : ∃ b, noBitsB sg uh ul = b := ⟨_, rfl⟩
    obtain ⟨b2, hb2⟩ : ∃ b, ((n : Int) == 1) = b := ⟨_, rfl⟩
    obtain ⟨b4, hb4⟩ : ∃ b, ((m : Int) == 2) = b := ⟨_, rfl⟩
    obtain ⟨b5, hb5⟩ : ∃ b, sl.all (fun y => mayT gl y 1) = b := ⟨_, rfl⟩
    rw [hb1, hb2, hb4, hb5] at HI
    simp only [hb1] at hno
    simp only [hb5] at hbl
    clear hb1 hb5
    obtain ⟨gx, hgx⟩ : ∃ gx, w.heap.size = gx := ⟨_, rfl⟩
    have BX : (w.alloc (.cells #[.int .i64 2, .int .i64 sg, .int .i64 uh, .int .i64 ul, .slice xa n xc, .slice sa m sc] 48)).heap[gx]? = some (.cells #[.int .i64 2, .int .i64 sg, .int .i64 uh, .int .i64 ul, .slice xa n xc, .slice sa m sc] 48) := by rw [← hgx]; exact World.alloc_heap_new w _
    have hB : Below w.heap.size w (w.alloc (.cells #[.int .i64 2, .int .i64 sg, .int .i64 uh, .int .i64 ul, .slice xa n xc, .slice sa m sc] 48)) := (Below.refl _ _).alloc (Nat.le_refl _) _
    have he1 := he.alloc (.cells #[.int .i64 2, .int .i64 sg, .int .i64 uh, .int .i64 ul, .slice xa n xc, .slice sa m sc] 48)
    have hg1 := hg.alloc hn0 (.cells #[.int .i64 2, .int .i64 sg, .int .i64 uh, .int .i64 ul, .slice xa n xc, .slice sa m sc] 48)
    have hE1 := hin.1.keep (Below.keptTo hB hn0) (fun x _ => ET.In.keep (Below.keptTo hB hn0) x)
    have hT1 := hin.2.keep (Below.keptTo hB hn0) (fun x _ => TT.In.keep (Below.keptTo hB hn0) x)
    have hn1 : n0 ≤ (w.alloc (.cells #[.int .i64 2, .int .i64 sg, .int .i64 uh, .int .i64 ul, .slice xa n xc, .slice sa m sc] 48)).heap.size := Nat.le_trans hn0 hB.size
    clear he hin hg
    go_enter Tryd.func74, Tryd.ntmps74
    go_upto_region 1 with (fail)
    generalize w.alloc (.cells #[.int .i64 2, .int .i64 sg, .int .i64 uh, .int .i64 ul, .slice xa n xc, .slice sa m sc] 48) = w1 at *
    (try rw [hgx])
    clear hgx
    obtain ⟨x0, x1, x2, x3, x4, x5⟩ := ope6_ BX
    go_wp2_with fail
    refine (hno _).mono ?_
    rintro e1 w1 ⟨rfl, hb⟩
    clear x0 x1 x2 x3 x4 x5
    replace BX := block_kept BX hb
    have hk9 := Below.keptTo hb hn1
    replace hE1 := hE1.keep hk9 (fun x _ => ET.In.keep hk9 x)
    replace hT1 := hT1.keep hk9 (fun x _ => TT.In.keep hk9 x)
    replace he1 := he1.keep hb
    replace hg1 := hg1.keep hk9
    replace hn1 := Nat.le_trans hn1 hb.size
    clear hk9
    replace hB := hB.trans (hb.mono hB.size)
    clear hb
    cases b1 with
    | false =>
      obtain ⟨x0, x1, x2, x3, x4, x5⟩ := ope6_ BX
      go_wp2
      go_ret
      exact ⟨by rw [HI.out]; rfl, hB⟩
    | true =>
      cases b2 with
      | false =>
        obtain ⟨x0, x1, x2, x3, x4, x5⟩ := ope6_ BX
        go_wp2
        go_ret
        exact ⟨by rw [HI.out]; rfl, hB⟩
      | true =>
        obtain ⟨x0, x1, x2, x3, x4, x5⟩ := ope6_ BX
        go_wp2_with fail
        refine (hall _ hn1 he1 hg1 hE1).mono ?_
        rintro e1 w1 ⟨rfl, hb⟩
        clear x0 x1 x2 x3 x4 x5
        replace BX := block_kept BX hb
        have hk9 := Below.keptTo hb hn1
        replace hE1 := hE1.keep hk9 (fun x _ => ET.In.keep hk9 x)
        replace hT1 := hT1.keep hk9 (fun x _ => TT.In.keep hk9 x)
        replace he1 := he1.keep hb
        replace hg1 := hg1.keep hk9
        replace hn1 := Nat.le_trans hn1 hb.size
        clear hk9
        replace hB := hB.trans (hb.mono hB.size)
        clear hb
        cases c1 with
        | false =>
          obtain ⟨x0, x1, x2, x3, x4, x5⟩ := ope6_ BX
          go_wp2
          go_ret
          exact ⟨by rw [HI.out]; rfl, hB⟩
        | true =>
          cases b4 with
          | false =>
            obtain ⟨x0, x1, x2, x3, x4, x5⟩ := ope6_ BX
            go_wp2
            go_ret
            exact ⟨by rw [HI.out]; rfl, hB⟩
          | true =>
            obtain ⟨x0, x1, x2, x3, x4, x5⟩ := ope6_ BX
            go_wp2_with fail
            refine (hbl _ hn1 he1 hg1 hT1).mono ?_
            rintro e1 w1 ⟨rfl, hb⟩
            clear x0 x1 x2 x3 x4 x5
            replace BX := block_kept BX hb
            have hk9 := Below.keptTo hb hn1
            replace hE1 := hE1.keep hk9 (fun x _ => ET.In.keep hk9 x)
            replace hT1 := hT1.keep hk9 (fun x _ => TT.In.keep hk9 x)
            replace he1 := he1.keep hb
            replace hg1 := hg1.keep hk9
            replace hn1 := Nat.le_trans hn1 hb.size
            clear hk9
            replace hB := hB.trans (hb.mono hB.size)
            clear hb
            obtain ⟨x0, x1, x2, x3, x4, x5⟩ := ope6_ BX
            go_wp2
            go_ret
            exact ⟨by rw [HI.out]; rfl, hB⟩
  by_cases t3 : op = 3
  · subst t3
    have HI := Lib.hid (may_case gl sg uh ul xa xc xl sa sc sl)
    generalize mayT gl (.mk 3 sg uh ul xa xc xl sa sc sl) 0 = R at *
    rw [hn, mayEL_all, hc1, hm] at HI
    clear hc1 hblock hbits t1 t2 hbl
    obtain ⟨b1, hb1⟩ : ∃ b, noBitsB sg uh ul = b := ⟨_, rfl⟩
    obtain ⟨b2, hb2⟩ : ∃ b, ((n : Int) == 1) = b := ⟨_, rfl⟩
    obtain ⟨b5, hb5⟩ : ∃ b, (mayAL gl sl && decide (0 < m)) = b := ⟨_, rfl⟩
    rw [hb1, hb2, hb5] at HI
    simp only [hb1] at hno
    simp only [hb5] at har
    clear hb1 hb5 hn hm
    obtain ⟨gx, hgx⟩ : ∃ gx, w.heap.size = gx := ⟨_, rfl⟩
    have BX : (w.alloc (.cells #[.int .i64 3, .int .i64 sg, .int .i64 uh, .int .i64 ul, .slice xa n xc, .slice sa m sc] 48)).heap[gx]? = some (.cells #[.int .i64 3, .int .i64 sg, .int .i64 uh, .int .i64 ul, .slice xa n xc, .slice sa m sc] 48) := by rw [← hgx]; exact World.alloc_heap_new w _
    have hB : Below w.heap.size w (w.alloc (.cells #[.int .i64 3, .int .i64 sg, .int .i64 uh, .int .i64 ul, .slice xa n xc, .slice sa m sc] 48)) := (Below.refl _ _).alloc (Nat.le_refl _) _
    have he1 := he.alloc (.cells #[.int .i64 3, .int .i64 sg, .int .i64 uh, .int .i64 ul, .slice xa n xc, .slice sa m sc] 48)
    have hg1 := hg.alloc hn0 (.cells #[.int .i64 3, .int .i64 sg, .int .i64 uh, .int .i64 ul, .slice xa n xc, .slice sa m sc] 48)
    have hE1 := hin.1.keep (Below.keptTo hB hn0) (fun x _ => ET.In.keep (Below.keptTo hB hn0) x)
    have hT1 := hin.2.keep (Below.keptTo hB hn0) (fun x _ => TT.In.keep (Below.keptTo hB hn0) x)
    have hn1 : n0 ≤ (w.alloc (.cells #[.int .i64 3, .int .i64 sg, .int .i64 uh, .int .i64 ul, .slice xa n xc, .slice sa m sc] 48)).heap.size := Nat.le_trans hn0 hB.size
    clear he hin hg
    go_enter Tryd.func74, Tryd.ntmps74
    go_upto_region 1 with (fail)
    generalize w.alloc (.cells #[.int .i64 3, .int .i64 sg, .int .i64 uh, .int .i64 ul, .slice xa n xc, .slice sa m sc] 48) = w1 at *
    (try rw [hgx])
    clear hgx
    obtain ⟨x0, x1, x2, x3, x4, x5⟩ := ope6_ BX
    go_wp2_with fail
    refine (hno _).mono ?_
    rintro e1 w1 ⟨rfl, hb⟩
    clear x0 x1 x2 x3 x4 x5
    replace BX := block_kept BX hb
    have hk9 := Below.keptTo hb hn1
    replace hE1 := hE1.keep hk9 (fun x _ => ET.In.keep hk9 x)
    replace hT1 := hT1.keep hk9 (fun x _ => TT.In.keep hk9 x)
    replace he1 := he1.keep hb
    replace hg1 := hg1.keep hk9
    replace hn1 := Nat.le_trans hn1 hb.size
    clear hk9
    replace hB := hB.trans (hb.mono hB.size)
    clear hb
    cases b1 with
    | false =>
      obtain ⟨x0, x1, x2, x3, x4, x5⟩ := ope6_ BX
      go_wp2
      go_ret
      exact ⟨by rw [HI.out]; rfl, hB⟩
    | true =>
      cases b2 with
      | false =>
        obtain ⟨x0, x1, x2, x3, x4, x5⟩ := ope6_ BX
        go_wp2
        go_ret
        exact ⟨by rw [HI.out]; rfl, hB⟩
      | true =>
        obtain ⟨x0, x1, x2, x3, x4, x5⟩ := ope6_ BX
        go_wp2_with fail
        refine (hall _ hn1 he1 hg1 hE1).mono ?_
        rintro e1 w1 ⟨rfl, hb⟩
        clear x0 x1 x2 x3 x4 x5
        replace BX := block_kept BX hb
        have hk9 := Below.keptTo hb hn1
        replace hE1 := hE1.keep hk9 (fun x _ => ET.In.keep hk9 x)
        replace hT1 := hT1.keep hk9 (fun x _ => TT.In.keep hk9 x)
        replace he1 := he1.keep hb
        replace hg1 := hg1.keep hk9
        replace hn1 := Nat.le_trans hn1 hb.size
        clear hk9
        replace hB := hB.trans (hb.mono hB.size)
        clear hb
        cases c1 with
        | false =>
          obtain ⟨x0, x1, x2, x3, x4, x5⟩ := ope6_ BX
          go_wp2
          go_ret
          exact ⟨by rw [HI.out]; rfl, hB⟩
        | true =>
          obtain ⟨x0, x1, x2, x3, x4, x5⟩ := ope6_ BX
          go_wp2_with fail
          refine (har _ hn1 he1 hg1 hT1).mono ?_
          rintro e1 w1 ⟨rfl, hb⟩
          clear x0 x1 x2 x3 x4 x5
          replace BX := block_kept BX hb
          have hk9 := Below.keptTo hb hn1
          replace hE1 := hE1.keep hk9 (fun x _ => ET.In.keep hk9 x)
          replace hT1 := hT1.keep hk9 (fun x _ => TT.In.keep hk9 x)
          replace he1 := he1.keep hb
          replace hg1 := hg1.keep hk9
          replace hn1 := Nat.le_trans hn1 hb.size
          clear hk9
          replace hB := hB.trans (hb.mono hB.size)
          clear hb
          obtain ⟨x0, x1, x2, x3, x4, x5⟩ := ope6_ BX
          go_wp2
          go_ret
          exact ⟨by rw [HI.out]; rfl, hB⟩
  have e1 : (op == 1) = false := by rw [beq_eq_false_iff_ne]; exact t1
  have e2 : (op == 2) = false := by rw [beq_eq_false_iff_ne]; exact t2
  have e3 : (op == 3) = false := by rw [beq_eq_false_iff_ne]; exact t3
  have HI := Lib.hid (may_else gl op sg uh ul xa xc xl sa sc sl t1 t2 t3)
  generalize mayT gl (.mk op sg uh ul xa xc xl sa sc sl) 0 = R at *
  generalize mayT gl (.mk op sg uh ul xa xc xl sa sc sl) 1 = Q at *
  have hin2 := fun (W : World) (h : Below w.heap.size w W) => TT.In.keep (Below.keptTo h hn0) (.mk op sg uh ul xa xc xl sa sc sl) ((TT.In_mk n0 w).2 hin)
  have HIN := Lib.hid hin2
  clear hin2
  clear t1 t2 t3 hn hm hc1 hbl har hno hall hbits
  replace hblock := fun (w' : World) h1 h2 h3 (h4 : Below w.heap.size w w') => hblock w' h1 h2 h3 (HIN.out w' h4)
  obtain ⟨gx, hgx⟩ : ∃ gx, w.heap.size = gx := ⟨_, rfl⟩
  have BX : (w.alloc (.cells #[.int .i64 op, .int .i64 sg, .int .i64 uh, .int .i64 ul, .slice xa n xc, .slice sa m sc] 48)).heap[gx]? = some (.cells #[.int .i64 op, .int .i64 sg, .int .i64 uh, .int .i64 ul, .slice xa n xc, .slice sa m sc] 48) := by rw [← hgx]; exact World.alloc_heap_new w _
  have hB : Below w.heap.size w (w.alloc (.cells #[.int .i64 op, .int .i64 sg, .int .i64 uh, .int .i64 ul, .slice xa n xc, .slice sa m sc] 48)) := (Below.refl _ _).alloc (Nat.le_refl _) _
  have he1 := he.alloc (.cells #[.int .i64 op, .int .i64 sg, .int .i64 uh, .int .i64 ul, .slice xa n xc, .slice sa m sc] 48)
  have hg1 := hg.alloc hn0 (.cells #[.int .i64 op, .int .i64 sg, .int .i64 uh, .int .i64 ul, .slice xa n xc, .slice sa m sc] 48)
  have hE1 := hin.1.keep (Below.keptTo hB hn0) (fun x _ => ET.In.keep (Below.keptTo hB hn0) x)
  have hT1 := hin.2.keep (Below.keptTo hB hn0) (fun x _ => TT.In.keep (Below.keptTo hB hn0) x)
  have hn1 : n0 ≤ (w.alloc (.cells #[.int .i64 op, .int .i64 sg, .int .i64 uh, .int .i64 ul, .slice xa n xc, .slice sa m sc] 48)).heap.size := Nat.le_trans hn0 hB.size
  clear he hin hg
  go_enter Tryd.func74, Tryd.ntmps74
  go_upto_region 1 with (fail)
  generalize w.alloc (.cells #[.int .i64 op, .int .i64 sg, .int .i64 uh, .int .i64 ul, .slice xa n xc, .slice sa m sc] 48) = w1 at *
  (try rw [hgx])
  clear hgx
  obtain ⟨x0, x1, x2, x3, x4, x5⟩ := ope6_ BX
  go_wp2_with fail
  refine (hblock _ hn1 he1 hg1 hB).mono ?_
  rintro e1 w1 ⟨rfl, hb⟩
  clear x0 x1 x2 x3 x4 x5
  replace BX := block_kept BX hb
  have hk9 := Below.keptTo hb hn1
  replace hE1 := hE1.keep hk9 (fun x _ => ET.In.keep hk9 x)
  replace hT1 := hT1.keep hk9 (fun x _ => TT.In.keep hk9 x)
  replace he1 := he1.keep hb
  replace hg1 := hg1.keep hk9
  replace hn1 := Nat.le_trans hn1 hb.size
  clear hk9
  replace hB := hB.trans (hb.mono hB.size)
  clear hb
  obtain ⟨x0, x1, x2, x3, x4, x5⟩ := ope6_ BX
  go_wp2
  go_ret
  exact ⟨by rw [HI.out]; rfl, hB⟩
end Go.Proofs.YtbcgeglkmpcnpaaDoor
