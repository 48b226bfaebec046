/-
  sized: copyE: a copy shares no row with what it is of.
-/
import Derived.Test.YtbcgeglkmpcnpaaDoorEzJ
namespace Go.Proofs.YtbcgeglkmpcnpaaDoor
open Go Go.RowKit
set_option linter.unusedVariables false
set_option linter.unusedSimpArgs false
open Go.Sort
set_option maxHeartbeats 8000000 in
set_option maxRecDepth 100000 in
theorem copyE_any : ∀ x : ET, x.bk ≤ 4500000 → ∀ (n0 : Nat) (w : World), n0 ≤ w.heap.size → x.In n0 w → Calls Tryd.prog 30 #[x.val] w (CpE x w) := by
  refine ET.ind ?_
  intro op wd v sg uh ul xn xa xc xl ih hbk n0 w hn0 hin
  rw [ET.In_mk] at hin
  simp only [ET.bk] at hbk
  have hll := ET.bkL_len xl
  have hall := fun (w' : World) h1 h2 => copyAllE_any n0 xl (by omega) (fun y hy w2 g1 g2 => ih y hy (by have := ET.bkL_mem hy; omega) n0 w2 g1 g2) xa xc w' h1 h2
  simp only [ET.val, ET.cells]
  obtain ⟨gx, hgx⟩ : ∃ gx, w.heap.size = gx := ⟨_, rfl⟩
  obtain ⟨wa, hwa⟩ : ∃ wa, w.alloc (.cells #[.int .i64 op, .int .i64 wd, .int .u64 (v : Int), .int .i64 sg, .int .i64 uh, .int .i64 ul, .int .i64 xn, .slice xa xl.length xc] 30) = wa := ⟨_, rfl⟩
  have hba : Below w.heap.size w wa := by rw [← hwa]; exact (Below.refl _ _).alloc (Nat.le_refl _) _
  have BX : wa.heap[gx]? = some (.cells #[.int .i64 op, .int .i64 wd, .int .u64 (v : Int), .int .i64 sg, .int .i64 uh, .int .i64 ul, .int .i64 xn, .slice xa xl.length xc] 30) := by rw [← hwa, ← hgx]; exact World.alloc_heap_new w _
  have hsa : wa.heap.size = gx + 1 := by rw [← hwa, World.size_alloc, hgx]
  obtain ⟨w1, hw1⟩ : ∃ w1, wa.alloc (.cells #[.int .i64 0, .int .i64 0, .int .u64 0, .int .i64 0, .int .i64 0, .int .i64 0, .int .i64 0, .slice none 0 0] 30 (0, 0)) = w1 := ⟨_, rfl⟩
  have hb1 : Below wa.heap.size wa w1 := by rw [← hw1]; exact (Below.refl _ _).alloc (Nat.le_refl _) _
  have hbw : Below w.heap.size w w1 := hba.trans (hb1.mono hba.size)
  have BX1 := block_kept BX hb1
  have BY : w1.heap[gx + 1]? = some (.cells #[.int .i64 0, .int .i64 0, .int .u64 0, .int .i64 0, .int .i64 0, .int .i64 0, .int .i64 0, .slice none 0 0] 30 (0, 0)) := by rw [← hw1, ← hsa]; exact World.alloc_heap_new wa _
  have hs1 : w1.heap.size = gx + 2 := by rw [← hw1, World.size_alloc, hsa]
  obtain ⟨z0, z1, z2, z3, z4, z5, z6, z7⟩ := ope8 BX1
  have c0 := hall w1 (Nat.le_trans hn0 hbw.size) (hin.keep (Below.keptTo hbw hn0) (fun x _ => ET.In.keep (Below.keptTo hbw hn0) x))
  have HB := Lib.hid (And.intro hbw (And.intro BX1 (And.intro BY hs1)))
  have HG := Lib.hid hgx
  clear ih hbk hin hall hba BX hb1 hbw BX1 BY hs1 hll hn0
  go_enter Tryd.func30, Tryd.ntmps30
  go_upto_region 1 with (fail)
  (try rw [hwa])
  (try rw [hgx])
  (try rw [hw1])
  (try rw [hsa])
  go_wp2_with fail
  refine c0.mono ?_
  clear c0 z0 z1 z2 z3 z4 z5 z6 z7
  rintro e W1 ⟨a9, c9, ys, rfl, hyn, hyo, hbk⟩
  have hs1 := HB.out.2.2.2
  have RX : RowM W1 gx ([] ++ ([.int .i64 op, .int .i64 wd, .int .u64 (v : Int), .int .i64 sg, .int .i64 uh, .int .i64 ul, .int .i64 xn, .slice xa xl.length xc] ++ [])) := by
    show W1.heap[gx]? = _
    rw [hbk.block gx (by omega)]
    exact HB.out.2.1
  have RY : RowM W1 (gx + 1) ([] ++ ([.int .i64 0, .int .i64 0, .int .u64 0, .int .i64 0, .int .i64 0, .int .i64 0, .int .i64 0, .slice none 0 0] ++ [])) := by
    show W1.heap[gx + 1]? = _
    rw [hbk.block (gx + 1) (by omega)]
    exact HB.out.2.2.1
  obtain ⟨m0, m1, m2, m3, m4, m5, m6, m7⟩ := RowM.cells RX 0 rfl
  obtain ⟨q0, q1, q2, q3, q4, q5, q6, q7⟩ := RowM.thaw RX 0
  obtain ⟨y0, y1, y2, y3, y4, y5, y6, y7⟩ := RowM.cells RY 0 rfl
  obtain ⟨p0, p1, p2, p3, p4, p5, p6, p7⟩ := RowM.thaw RY 0
  simp only [Nat.zero_add] at m1 m2 m3 m4 m5 m6 m7 q1 q2 q3 q4 q5 q6 q7 y1 y2 y3 y4 y5 y6 y7 p1 p2 p3 p4 p5 p6 p7
  have hne : gx ≠ gx + 1 := by omega
  have hgs := HB.out.2.2.2
  obtain ⟨W2, hW2⟩ : ∃ W2, W1.setCell ⟨gx, 7, none⟩ (.slice a9 ys.length c9) = W2 := ⟨_, rfl⟩
  have ho2 : ∀ b, b ≠ gx → W2.heap[b]? = W1.heap[b]? := fun b hb => by rw [← hW2]; exact Below.heap_setCell W1 ⟨gx, 7, none⟩ _ b hb
  have hs2 : W2.heap.size = W1.heap.size := by rw [← hW2, World.size_setCell]
  have RY2 := RY.keep (ho2 (gx + 1) (by omega))
  have RX2 : RowM W2 gx ([] ++ ([.int .i64 op, .int .i64 wd, .int .u64 (v : Int), .int .i64 sg, .int .i64 uh, .int .i64 ul, .int .i64 xn, .slice a9 ys.length c9] ++ [])) := by
    have h9 : W1.heap[gx]? = some (.cells #[.int .i64 op, .int .i64 wd, .int .u64 (v : Int), .int .i64 sg, .int .i64 uh, .int .i64 ul, .int .i64 xn, .slice xa xl.length xc] 30) := RX
    show W2.heap[gx]? = _
    rw [← hW2]
    simp [World.setCell, Array.getElem?_modify, h9]
  clear m0 m1 m2 m3 m4 m5 m6 m7 q0 q1 q2 q3 q4 q5 q6 y0 y1 y2 y3 y4 y5 y6 y7 p0 p1 p2 p3 p4 p5 p6 p7
  obtain ⟨m0, m1, m2, m3, m4, m5, m6, m7⟩ := RowM.cells RX2 0 rfl
  obtain ⟨y0, y1, y2, y3, y4, y5, y6, y7⟩ := RowM.cells RY2 0 rfl
  obtain ⟨p0, p1, p2, p3, p4, p5, p6, p7⟩ := RowM.thaw RY2 0
  obtain ⟨k0, k1, k2, k3, k4, k5, k6, k7⟩ := RowM.cells RX 0 rfl
  simp only [Nat.zero_add] at m1 m2 m3 m4 m5 m6 m7 y1 y2 y3 y4 y5 y6 y7 p1 p2 p3 p4 p5 p6 p7 k7
  clear k0 k1 k2 k3 k4 k5 k6 RX2
  have RZ := RowM.put RY2 0 rfl (.int .i64 op) (.int .i64 wd) (.int .u64 (v : Int)) (.int .i64 sg) (.int .i64 uh) (.int .i64 ul) (.int .i64 xn) (.slice a9 ys.length c9)
  have hoz := fun b hb => put_other W2 (gx + 1) 0 (.int .i64 op) (.int .i64 wd) (.int .u64 (v : Int)) (.int .i64 sg) (.int .i64 uh) (.int .i64 ul) (.int .i64 xn) (.slice a9 ys.length c9) b hb
  have hbW := HB.out.1.trans (hbk.mono HB.out.1.size)
  have hb2 : Below w.heap.size w W2 := by rw [← hW2]; exact hbW.setCell (p := ⟨gx, 7, none⟩) (show w.heap.size ≤ gx by omega) _
  have hbz := below_put hb2 (show w.heap.size ≤ gx + 1 by omega) 0 (.int .i64 op) (.int .i64 wd) (.int .u64 (v : Int)) (.int .i64 sg) (.int .i64 uh) (.int .i64 ul) (.int .i64 xn) (.slice a9 ys.length c9)
  simp only [Nat.zero_add] at RZ hoz hbz
  obtain ⟨wz, hwz⟩ : ∃ wz, ((((((((W2.setCell ⟨gx + 1, 0, none⟩ (.int .i64 op)).setCell ⟨gx + 1, 1, none⟩ (.int .i64 wd)).setCell ⟨gx + 1, 2, none⟩ (.int .u64 (v : Int))).setCell ⟨gx + 1, 3, none⟩ (.int .i64 sg)).setCell ⟨gx + 1, 4, none⟩ (.int .i64 uh)).setCell ⟨gx + 1, 5, none⟩ (.int .i64 ul)).setCell ⟨gx + 1, 6, none⟩ (.int .i64 xn)).setCell ⟨gx + 1, 7, none⟩ (.slice a9 ys.length c9)) = wz := ⟨_, rfl⟩
  have hsz : wz.heap.size = W1.heap.size := by rw [← hwz]; simp only [World.size_setCell]; exact hs2
  rw [hwz] at RZ hbz
  simp only [hwz] at hoz
  obtain ⟨t0, t1, t2, t3, t4, t5, t6, t7⟩ := RowM.cells RZ 0 rfl
  simp only [Nat.zero_add] at t1 t2 t3 t4 t5 t6 t7
  have HP : Hid (CpE (.mk op wd v sg uh ul xn xa xc xl) w (.returned (ET.mk op wd v sg uh ul xn a9 c9 ys).val) wz) := Lib.hid (by
    refine ⟨_, rfl, by rw [nrmE, nrmE, hyn], ?_, hbz⟩
    rw [ET.own_mk, hsz]
    have hk : SameOn w1.heap.size W1.heap.size W1 wz := fun b h1 h2 => (hoz b (by omega)).trans (ho2 b (by omega))
    exact (hyo.keep hk).wider (by omega) (Nat.le_refl _))
  simp only [ET.val, ET.cells] at HP
  clear hyn hyo hbk hs1 RX RY RY2 RZ hoz hbW hb2 hbz ho2 hs2 hsz hgs HB
  go_wp2
  (try rw [hW2])
  (try rw [hwz])
  have hu := Tryd.underlying30
  refine bodyPost_ret (v := .agg #[.int .i64 op, .int .i64 wd, .int .u64 (v : Int), .int .i64 sg, .int .i64 uh, .int .i64 ul, .int .i64 xn, .slice a9 ys.length c9]) (by simp [results, Tryd.results30, go_sem, hu, t0, t1, t2, t3, t4, t5, t6, t7]) rfl HP.out
end Go.Proofs.YtbcgeglkmpcnpaaDoor
