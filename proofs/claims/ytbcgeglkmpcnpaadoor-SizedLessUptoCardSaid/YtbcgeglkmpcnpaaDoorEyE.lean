/-
  The laws of sized: Small; Check of an easy design; expressions made.
-/
import Derived.Test.YtbcgeglkmpcnpaaDoorEyC
import Derived.Test.YtbcgeglkmpcnpaaDoorEyD
import Derived.Test.YtbcgeglkmpcnpaaDoorEzW
namespace Go.Proofs.YtbcgeglkmpcnpaaDoor
open Go Go.RowKit
set_option linter.unusedVariables false
set_option linter.unusedSimpArgs false
open Go.Sort

set_option maxHeartbeats 8000000 in
set_option maxRecDepth 100000 in
theorem small_any (d : DT) (hbk : d.bk ≤ 4500000) (n0 : Nat) (w : World) (hn0 : n0 ≤ w.heap.size) (hin : d.In n0 w) : Calls Tryd.prog 8 #[d.val] w fun e w' => e = .returned (.bool (smallD d)) ∧ Below w.heap.size w w' := by
  have cm := fun (W : World) (h : Below w.heap.size w W) => measure_any d hbk n0 W (Nat.le_trans hn0 h.size) (hin.keep (Below.keptTo h hn0))
  obtain ⟨R, hR⟩ : ∃ R, smallD d = R := ⟨_, rfl⟩
  obtain ⟨N, hN⟩ : ∃ N, measN d = N := ⟨_, rfl⟩
  obtain ⟨D, hD⟩ : ∃ D, measD d = D := ⟨_, rfl⟩
  have hR2 : R = (decide (N ≤ 2000) && (decide (D ≤ 100) && (decide (d.gl.length ≤ 100) && (decide (d.ql.length ≤ 200) && decide (d.kl.length ≤ 100))))) := by rw [← hR, smallD, hN, hD]
  rw [hR]
  simp only [hN, hD] at cm
  obtain ⟨ga, gc, gl, qa, qc, ql, ka, kc, kl⟩ := d
  simp only [DT.val, DT.cells] at cm hR2 ⊢
  have HR := Lib.hid hR2
  obtain ⟨gx, hgx⟩ : ∃ gx, w.heap.size = gx := ⟨_, rfl⟩
  obtain ⟨wa, hwa⟩ : ∃ wa, w.alloc (.cells #[.slice ga gl.length gc, .slice qa ql.length qc, .slice ka kl.length kc] 26) = wa := ⟨_, rfl⟩
  have hba : Below w.heap.size w wa := by rw [← hwa]; exact (Below.refl _ _).alloc (Nat.le_refl _) _
  have BX : wa.heap[gx]? = some (.cells #[.slice ga gl.length gc, .slice qa ql.length qc, .slice ka kl.length kc] 26 (0, 0)) := by rw [← hwa, ← hgx]; exact World.alloc_heap_new w _
  have HW := Lib.hid (And.intro hba BX)
  obtain ⟨z0, z1, z2⟩ := opq3 BX
  have c0K := Lib.hid (cm wa hba)
  clear cm hR hR2 hN hD hba BX hin
  go_enter Tryd.func8, Tryd.ntmps8
  go_upto_region 1 with (fail)
  (try rw [hwa])
  (try rw [hgx])
  clear hwa hgx
  go_wp2_with fail
  refine c0K.out.mono ?_
  clear c0K z0 z1 z2
  rintro e W1 ⟨rfl, hb1⟩
  have HW1 := Lib.hid (HW.out.1.trans (hb1.mono HW.out.1.size))
  obtain ⟨z0, z1, z2⟩ := opq3 (block_kept HW.out.2 hb1)
  clear hb1
  by_cases t0 : N ≤ 2000
  · have e0 : decide ((N : Int) ≤ 2000) = true := by rw [decide_eq_true_eq]; omega
    have f0 : decide (N ≤ 2000) = true := by rw [decide_eq_true_eq]; exact t0
    have r0 := f0
    by_cases t1 : D ≤ 100
    · have e1 : decide ((D : Int) ≤ 100) = true := by rw [decide_eq_true_eq]; omega
      have f1 : decide (D ≤ 100) = true := by rw [decide_eq_true_eq]; exact t1
      have r1 := f1
      by_cases t2 : gl.length ≤ 100
      · have e2 : decide ((gl.length : Int) ≤ 100) = true := by rw [decide_eq_true_eq]; omega
        have f2 : decide (gl.length ≤ 100) = true := by rw [decide_eq_true_eq]; exact t2
        have r2 := f2
        by_cases t3 : ql.length ≤ 200
        · have e3 : decide ((ql.length : Int) ≤ 200) = true := by rw [decide_eq_true_eq]; omega
          have f3 : decide (ql.length ≤ 200) = true := by rw [decide_eq_true_eq]; exact t3
          have r3 := f3
          by_cases t4 : kl.length ≤ 100
          · have e4 : decide ((kl.length : Int) ≤ 100) = true := by rw [decide_eq_true_eq]; omega
            have f4 : decide (kl.length ≤ 100) = true := by rw [decide_eq_true_eq]; exact t4
            have r4 := f4
            have HR3 : Hid (R = true) := Lib.hid (by rw [HR.out, r0, r1, r2, r3, r4]; rfl)
            go_wp2
            go_ret
            exact ⟨by rw [HR3.out]; rfl, HW1.out⟩
          · have e4 : decide ((kl.length : Int) ≤ 100) = false := by rw [decide_eq_false_iff_not]; omega
            have f4 : decide (kl.length ≤ 100) = false := by rw [decide_eq_false_iff_not]; exact t4
            have HR3 : Hid (R = false) := Lib.hid (by rw [HR.out, r0, r1, r2, r3, f4]; simp)
            go_wp2
            go_ret
            exact ⟨by rw [HR3.out]; rfl, HW1.out⟩
        · have e3 : decide ((ql.length : Int) ≤ 200) = false := by rw [decide_eq_false_iff_not]; omega
          have f3 : decide (ql.length ≤ 200) = false := by rw [decide_eq_false_iff_not]; exact t3
          have HR3 : Hid (R = false) := Lib.hid (by rw [HR.out, r0, r1, r2, f3]; simp)
          go_wp2
          go_ret
          exact ⟨by rw [HR3.out]; rfl, HW1.out⟩
      · have e2 : decide ((gl.length : Int) ≤ 100) = false := by rw [decide_eq_false_iff_not]; omega
        have f2 : decide (gl.length ≤ 100) = false := by rw [decide_eq_false_iff_not]; exact t2
        have HR3 : Hid (R = false) := Lib.hid (by rw [HR.out, r0, r1, f2]; simp)
        go_wp2
        go_ret
        exact ⟨by rw [HR3.out]; rfl, HW1.out⟩
    · have e1 : decide ((D : Int) ≤ 100) = false := by rw [decide_eq_false_iff_not]; omega
      have f1 : decide (D ≤ 100) = false := by rw [decide_eq_false_iff_not]; exact t1
      have HR3 : Hid (R = false) := Lib.hid (by rw [HR.out, r0, f1]; simp)
      go_wp2
      go_ret
      exact ⟨by rw [HR3.out]; rfl, HW1.out⟩
  · have e0 : decide ((N : Int) ≤ 2000) = false := by rw [decide_eq_false_iff_not]; omega
    have f0 : decide (N ≤ 2000) = false := by rw [decide_eq_false_iff_not]; exact t0
    have HR3 : Hid (R = false) := Lib.hid (by rw [HR.out, f0]; simp)
    go_wp2
    go_ret
    exact ⟨by rw [HR3.out]; rfl, HW1.out⟩

/-- The design of these signals alone. -/
def dOf (gl : List GT) (a : Option Addr) (c : Nat) : DT := ⟨a, c, gl, none, 0, [], none, 0, []⟩
theorem dOf_in {n : Nat} {W : World} {gl : List GT} {a : Option Addr} {c : Nat} (h : GsIn n W gl a) : (dOf gl a c).In n W := ⟨h, by unfold InRow; trivial, by unfold InRow; trivial⟩
theorem eqG_self : ∀ l : List GT, eqList sameG l l = true
  | [] => rfl
  | x :: r => by simp only [eqList, eqG_self r, (sameG_iff x x).2 rfl, Bool.and_self]
theorem same_dOf (gl : List GT) (a a' : Option Addr) (c c' : Nat) : sameD (dOf gl a c) (dOf gl a' c') = true := by
  simp [sameD, dOf, eqG_self, eqList]
set_option maxHeartbeats 8000000 in
set_option maxRecDepth 100000 in
theorem check0_any (gl : List GT) (hE : Easy gl) (hbk : 1 + GT.bkL gl ≤ 4500000) (n0 : Nat) (ga : Option Addr) (gc : Nat) (w : World) (hn0 : n0 ≤ w.heap.size) (hin : GsIn n0 w gl ga) : Calls Tryd.prog 15 #[.agg #[.slice ga gl.length gc, .slice none 0 0, .slice none 0 0]] w fun e w' => e = .returned (.int .i64 0) ∧ Below w.heap.size w w' := by
  have cz := fun (W : World) (h : Below w.heap.size w W) => size0_any gl hE n0 ga gc W (Nat.le_trans hn0 h.size) (hin.keep (Below.keptTo h hn0))
  have cs := fun (a : Option Addr) (c : Nat) (W : World) (h1 : Below w.heap.size w W) (h2 : GsIn W.heap.size W gl a) => same_any (dOf gl a c) (dOf gl ga gc) (by simp only [DT.bk, dOf, QT.bkL, KT.bkL]; omega) (by simp only [DT.bk, dOf, QT.bkL, KT.bkL]; omega) W.heap.size W (Nat.le_refl _) (dOf_in h2) (dOf_in (InRow.less (Nat.le_trans hn0 h1.size) (fun _ _ h => h) (GsIn.keep (Below.keptTo h1 hn0) hin)))
  simp only [same_dOf] at cs
  simp only [dOf, DT.val, DT.cells, List.length_nil] at cs
  have HS := Lib.hid cs
  obtain ⟨gx, hgx⟩ : ∃ gx, w.heap.size = gx := ⟨_, rfl⟩
  obtain ⟨wa, hwa⟩ : ∃ wa, w.alloc (.cells #[.slice ga gl.length gc, .slice none 0 0, .slice none 0 0] 26) = wa := ⟨_, rfl⟩
  have hba : Below w.heap.size w wa := by rw [← hwa]; exact (Below.refl _ _).alloc (Nat.le_refl _) _
  have BX : wa.heap[gx]? = some (.cells #[.slice ga gl.length gc, .slice none 0 0, .slice none 0 0] 26 (0, 0)) := by rw [← hwa, ← hgx]; exact World.alloc_heap_new w _
  have HW := Lib.hid (And.intro hba BX)
  obtain ⟨z0, z1, z2⟩ := opq3 BX
  have c0K := Lib.hid (cz wa hba)
  clear cz cs hba BX hin hE hbk
  go_enter Tryd.func15, Tryd.ntmps15
  go_upto_region 1 with (fail)
  (try rw [hwa])
  (try rw [hgx])
  clear hwa hgx
  go_wp2_with fail
  refine c0K.out.mono ?_
  clear c0K z0 z1 z2
  rintro e V1 ⟨a9, c9, rfl, hga, hb1⟩
  obtain ⟨b, hb⟩ : ∃ b, V1.heap.size = b := ⟨_, rfl⟩
  obtain ⟨V2, hV2⟩ : ∃ V2, V1.alloc (.cells #[.slice none 0 0, .slice none 0 0, .slice none 0 0] 26 (0, 0)) = V2 := ⟨_, rfl⟩
  have hb2 : Below V1.heap.size V1 V2 := by rw [← hV2]; exact (Below.refl _ _).alloc (Nat.le_refl _) _
  have hr2 : RowD V2 b (.slice none 0 0) (.slice none 0 0) (.slice none 0 0) := by unfold RowD; rw [← hV2, ← hb]; exact World.alloc_heap_new V1 _
  have hr3 := hr2.put (.slice a9 gl.length c9) (.slice none 0 0) (.slice none 0 0)
  have hb3 := below_put3 hb2 (show V1.heap.size ≤ b by omega) (.slice a9 gl.length c9) (.slice none 0 0) (.slice none 0 0)
  obtain ⟨V3, hV3⟩ : ∃ V3, (((V2.setCell ⟨b, 0, none⟩ (.slice a9 gl.length c9)).setCell ⟨b, 1, none⟩ (.slice none 0 0)).setCell ⟨b, 2, none⟩ (.slice none 0 0)) = V3 := ⟨_, rfl⟩
  rw [hV3] at hr3 hb3
  have hbw : Below w.heap.size w V3 := (HW.out.1.trans (hb1.mono HW.out.1.size)).trans (hb3.mono (by have := hb1.size; have := HW.out.1.size; omega))
  have BX3 := block_kept (block_kept HW.out.2 hb1) hb3
  have hgi : GsIn V3.heap.size V3 gl a9 := InRow.less hb3.size (fun _ _ h => h) (hga.keep (Below.keptTo hb3 (Nat.le_refl _)))
  have c1K := Lib.hid (HS.out a9 c9 V3 hbw hgi)
  have HBW := Lib.hid hbw
  obtain ⟨y0, y1, y2⟩ := opq3 (show V2.heap[b]? = _ from hr2)
  obtain ⟨p0, p1, p2⟩ := thaw3 (show V2.heap[b]? = _ from hr2)
  obtain ⟨t0, t1, t2⟩ := opq3 (show V3.heap[b]? = _ from hr3)
  obtain ⟨x0, x1, x2⟩ := opq3 BX3
  clear hga hb1 hb2 hr2 hr3 hb3 hbw BX3 hgi
  go_upto_region 2 with (fail)
  (try rw [hb])
  (try rw [hV2])
  (try rw [hV3])
  clear y0 y1 y2 p0 p1 p2 hV2 hV3 hb
  go_wp2_with fail
  refine c1K.out.mono ?_
  clear c1K t0 t1 t2 x0 x1 x2
  rintro e V4 ⟨rfl, hb4⟩
  have HB4 := Lib.hid (HBW.out.trans (hb4.mono HBW.out.size))
  clear hb4
  go_wp2_with fail
  refine (unchanged_any _ V4).mono ?_
  rintro e V5 ⟨rfl, rfl⟩
  go_wp2
  go_ret
  exact ⟨rfl, HB4.out⟩
/-- Expressions made. -/
def numT (v : Nat) : ET := .mk 1 0 v 0 0 0 0 none 0 []
def sigT (hi lo : Int) : ET := .mk 2 0 0 0 hi lo 0 none 0 []
def binT (op : Int) (g : Nat) (a b : ET) : ET := .mk 5 0 0 0 0 0 op (some ⟨g, 0, none⟩) 2 [a, b]
def oneG : List GT := [⟨[97], 8, 1, 0⟩]
theorem leaf_in (n : Nat) (W : World) (op wd : Int) (v : Nat) (sg uh ul xn : Int) : (ET.mk op wd v sg uh ul xn none 0 []).In n W := by rw [ET.In_mk]; unfold InRow; trivial
set_option maxHeartbeats 8000000 in
set_option maxRecDepth 100000 in
theorem num_any (v : Nat) (w : World) : Calls Tryd.prog 20 #[.int .u64 (v : Int)] w fun e w' => e = .returned (.agg #[.int .i64 1, .int .i64 0, .int .u64 (v : Int), .int .i64 0, .int .i64 0, .int .i64 0, .int .i64 0, .slice none 0 0]) ∧ Below w.heap.size w w' := by
  obtain ⟨gx, hgx⟩ : ∃ gx, w.heap.size = gx := ⟨_, rfl⟩
  obtain ⟨w1, hw1⟩ : ∃ w1, w.alloc (.cells #[.int .i64 0, .int .i64 0, .int .u64 0, .int .i64 0, .int .i64 0, .int .i64 0, .int .i64 0, .slice none 0 0] 30 (0, 0)) = w1 := ⟨_, rfl⟩
  have hb1 : Below w.heap.size w w1 := by rw [← hw1]; exact (Below.refl _ _).alloc (Nat.le_refl _) _
  have BY : RowM w1 gx ([] ++ ([.int .i64 0, .int .i64 0, .int .u64 0, .int .i64 0, .int .i64 0, .int .i64 0, .int .i64 0, .slice none 0 0] ++ [])) := by unfold RowM; rw [← hw1, ← hgx]; exact World.alloc_heap_new w _
  obtain ⟨y0, y1, y2, y3, y4, y5, y6, y7⟩ := RowM.cells BY 0 rfl
  obtain ⟨p0, p1, p2, p3, p4, p5, p6, p7⟩ := RowM.thaw BY 0
  have RZ := RowM.put BY 0 rfl (.int .i64 1) (.int .i64 0) (.int .u64 (v : Int)) (.int .i64 0) (.int .i64 0) (.int .i64 0) (.int .i64 0) (.slice none 0 0)
  have hbz := below_put hb1 (show w.heap.size ≤ gx by omega) 0 (.int .i64 1) (.int .i64 0) (.int .u64 (v : Int)) (.int .i64 0) (.int .i64 0) (.int .i64 0) (.int .i64 0) (.slice none 0 0)
  simp only [Nat.zero_add] at y1 y2 y3 y4 y5 y6 y7 p1 p2 p3 p4 p5 p6 p7 RZ hbz
  obtain ⟨wz, hwz⟩ : ∃ wz, ((((((((w1.setCell ⟨gx, 0, none⟩ (.int .i64 1)).setCell ⟨gx, 1, none⟩ (.int .i64 0)).setCell ⟨gx, 2, none⟩ (.int .u64 (v : Int))).setCell ⟨gx, 3, none⟩ (.int .i64 0)).setCell ⟨gx, 4, none⟩ (.int .i64 0)).setCell ⟨gx, 5, none⟩ (.int .i64 0)).setCell ⟨gx, 6, none⟩ (.int .i64 0)).setCell ⟨gx, 7, none⟩ (.slice none 0 0)) = wz := ⟨_, rfl⟩
  rw [hwz] at RZ hbz
  obtain ⟨t0, t1, t2, t3, t4, t5, t6, t7⟩ := RowM.cells RZ 0 rfl
  simp only [Nat.zero_add] at t1 t2 t3 t4 t5 t6 t7
  have HB := Lib.hid hbz
  clear hb1 BY RZ hbz
  go_enter Tryd.func20, Tryd.ntmps20
  go_upto_region 1 with (fail)
  (try rw [hw1])
  (try rw [hgx])
  go_wp2
  (try rw [hwz])
  have hu := Tryd.underlying30
  refine bodyPost_ret (v := .agg #[.int .i64 1, .int .i64 0, .int .u64 (v : Int), .int .i64 0, .int .i64 0, .int .i64 0, .int .i64 0, .slice none 0 0]) (by simp [results, Tryd.results20, go_sem, hu, t0, t1, t2, t3, t4, t5, t6, t7]) rfl (by exact ⟨rfl, by first | exact HB.out | (have h9 := HB.out; rw [hgx] at h9; exact h9)⟩)
set_option maxHeartbeats 8000000 in
set_option maxRecDepth 100000 in
theorem sig_any (hi lo : Int) (w : World) : Calls Tryd.prog 19 #[.int .i64 hi, .int .i64 lo] w fun e w' => e = .returned (.agg #[.int .i64 2, .int .i64 0, .int .u64 0, .int .i64 0, .int .i64 hi, .int .i64 lo, .int .i64 0, .slice none 0 0]) ∧ Below w.heap.size w w' := by
  obtain ⟨gx, hgx⟩ : ∃ gx, w.heap.size = gx := ⟨_, rfl⟩
  obtain ⟨w1, hw1⟩ : ∃ w1, w.alloc (.cells #[.int .i64 0, .int .i64 0, .int .u64 0, .int .i64 0, .int .i64 0, .int .i64 0, .int .i64 0, .slice none 0 0] 30 (0, 0)) = w1 := ⟨_, rfl⟩
  have hb1 : Below w.heap.size w w1 := by rw [← hw1]; exact (Below.refl _ _).alloc (Nat.le_refl _) _
  have BY : RowM w1 gx ([] ++ ([.int .i64 0, .int .i64 0, .int .u64 0, .int .i64 0, .int .i64 0, .int .i64 0, .int .i64 0, .slice none 0 0] ++ [])) := by unfold RowM; rw [← hw1, ← hgx]; exact World.alloc_heap_new w _
  obtain ⟨y0, y1, y2, y3, y4, y5, y6, y7⟩ := RowM.cells BY 0 rfl
  obtain ⟨p0, p1, p2, p3, p4, p5, p6, p7⟩ := RowM.thaw BY 0
  have RZ := RowM.put BY 0 rfl (.int .i64 2) (.int .i64 0) (.int .u64 0) (.int .i64 0) (.int .i64 hi) (.int .i64 lo) (.int .i64 0) (.slice none 0 0)
  have hbz := below_put hb1 (show w.heap.size ≤ gx by omega) 0 (.int .i64 2) (.int .i64 0) (.int .u64 0) (.int .i64 0) (.int .i64 hi) (.int .i64 lo) (.int .i64 0) (.slice none 0 0)
  simp only [Nat.zero_add] at y1 y2 y3 y4 y5 y6 y7 p1 p2 p3 p4 p5 p6 p7 RZ hbz
  obtain ⟨wz, hwz⟩ : ∃ wz, ((((((((w1.setCell ⟨gx, 0, none⟩ (.int .i64 2)).setCell ⟨gx, 1, none⟩ (.int .i64 0)).setCell ⟨gx, 2, none⟩ (.int .u64 0)).setCell ⟨gx, 3, none⟩ (.int .i64 0)).setCell ⟨gx, 4, none⟩ (.int .i64 hi)).setCell ⟨gx, 5, none⟩ (.int .i64 lo)).setCell ⟨gx, 6, none⟩ (.int .i64 0)).setCell ⟨gx, 7, none⟩ (.slice none 0 0)) = wz := ⟨_, rfl⟩
  rw [hwz] at RZ hbz
  obtain ⟨t0, t1, t2, t3, t4, t5, t6, t7⟩ := RowM.cells RZ 0 rfl
  simp only [Nat.zero_add] at t1 t2 t3 t4 t5 t6 t7
  have HB := Lib.hid hbz
  clear hb1 BY RZ hbz
  go_enter Tryd.func19, Tryd.ntmps19
  go_upto_region 1 with (fail)
  (try rw [hw1])
  (try rw [hgx])
  go_wp2
  (try rw [hwz])
  have hu := Tryd.underlying30
  refine bodyPost_ret (v := .agg #[.int .i64 2, .int .i64 0, .int .u64 0, .int .i64 0, .int .i64 hi, .int .i64 lo, .int .i64 0, .slice none 0 0]) (by simp [results, Tryd.results19, go_sem, hu, t0, t1, t2, t3, t4, t5, t6, t7]) rfl (by exact ⟨rfl, by first | exact HB.out | (have h9 := HB.out; rw [hgx] at h9; exact h9)⟩)
def OneP (w : World) : Ending → World → Prop := fun e w' => ∃ g : Nat, e = .returned (.agg #[.slice (some ⟨g, 0, none⟩) 1 1, .slice none 0 0, .slice none 0 0]) ∧ GsIn w'.heap.size w' oneG (some ⟨g, 0, none⟩) ∧ w.heap.size ≤ g ∧ Below w.heap.size w w'
set_option maxHeartbeats 8000000 in
set_option maxRecDepth 100000 in
theorem one_any (w : World) : Calls Tryd.prog 17 #[] w (OneP w) := by
  obtain ⟨gx, hgx⟩ : ∃ gx, w.heap.size = gx := ⟨_, rfl⟩
  obtain ⟨w1, hw1⟩ : ∃ w1, w.alloc (.cells #[.slice none 0 0, .slice none 0 0, .slice none 0 0] 26 (0, 0)) = w1 := ⟨_, rfl⟩
  have hb1 : Below w.heap.size w w1 := by rw [← hw1]; exact (Below.refl _ _).alloc (Nat.le_refl _) _
  have hs1 : w1.heap.size = gx + 1 := by rw [← hw1, World.size_alloc, hgx]
  have BY1 : RowD w1 gx (.slice none 0 0) (.slice none 0 0) (.slice none 0 0) := by unfold RowD; rw [← hw1, ← hgx]; exact World.alloc_heap_new w _
  obtain ⟨w2, hw2⟩ : ∃ w2, w1.alloc (.cells #[.string ⟨#[97]⟩, .int .i64 8, .int .i64 1, .int .u64 0] 71 (0, 0)) = w2 := ⟨_, rfl⟩
  have hb2 : Below w1.heap.size w1 w2 := by rw [← hw2]; exact (Below.refl _ _).alloc (Nat.le_refl _) _
  have BG : RowT 71 w2 (gx + 1) ([] ++ (flatG oneG ++ [])) := by unfold RowT; rw [← hw2, ← hs1]; exact World.alloc_heap_new w1 _
  have BY : RowD w2 gx (.slice none 0 0) (.slice none 0 0) (.slice none 0 0) := block_kept BY1 hb2
  have RZ := BY.put (.slice (some ⟨gx + 1, 0, none⟩) 1 1) (.slice none 0 0) (.slice none 0 0)
  have hbz := below_put3 (hb1.trans (hb2.mono hb1.size)) (show w.heap.size ≤ gx by omega) (.slice (some ⟨gx + 1, 0, none⟩) 1 1) (.slice none 0 0) (.slice none 0 0)
  have ho := fun k hk => put3_other w2 gx (.slice (some ⟨gx + 1, 0, none⟩) 1 1) (.slice none 0 0) (.slice none 0 0) k hk
  obtain ⟨wz, hwz⟩ : ∃ wz, (((w2.setCell ⟨gx, 0, none⟩ (.slice (some ⟨gx + 1, 0, none⟩) 1 1)).setCell ⟨gx, 1, none⟩ (.slice none 0 0)).setCell ⟨gx, 2, none⟩ (.slice none 0 0)) = wz := ⟨_, rfl⟩
  have hsz : wz.heap.size = w2.heap.size := by rw [← hwz]; simp only [World.size_setCell]
  rw [hwz] at RZ hbz
  simp only [hwz] at ho
  have hBG := BG.keep (ho (gx + 1) (by omega))
  have hgi : GsIn wz.heap.size wz oneG (some ⟨gx + 1, 0, none⟩) := rowT_in (k := 4) (by rw [hsz]; exact BG.lt) GT.cells (fun _ => rfl) (by decide) oneG [] [] 0 rfl hBG (fun _ _ => trivial)
  obtain ⟨y0, y1, y2⟩ := opq3 (show w2.heap[gx]? = _ from BY)
  obtain ⟨p0, p1, p2⟩ := thaw3 (show w2.heap[gx]? = _ from BY)
  obtain ⟨t0, t1, t2⟩ := opq3 (show wz.heap[gx]? = _ from RZ)
  have HP : Hid (OneP w (.returned (.agg #[.slice (some ⟨gx + 1, 0, none⟩) 1 1, .slice none 0 0, .slice none 0 0])) wz) := Lib.hid ⟨gx + 1, rfl, hgi, by omega, hbz⟩
  clear hb1 BY1 hb2 BG BY RZ hbz ho hsz hBG hgi
  go_enter Tryd.func17, Tryd.ntmps17
  go_upto_region 1 with (fail)
  (try rw [hw1])
  (try rw [hgx])
  go_wp2
  (try rw [hs1])
  (try rw [hw2])
  (try rw [hwz])
  have hu := Tryd.underlying26
  refine bodyPost_ret (v := .agg #[.slice (some ⟨gx + 1, 0, none⟩) 1 1, .slice none 0 0, .slice none 0 0]) (by simp [results, Tryd.results17, go_sem, hu, t0, t1, t2]) rfl HP.out
end Go.Proofs.YtbcgeglkmpcnpaaDoor
