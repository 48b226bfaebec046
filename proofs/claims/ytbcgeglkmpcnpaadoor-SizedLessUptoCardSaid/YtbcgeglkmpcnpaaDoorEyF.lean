/-
  The laws of sized: two expressions joined.
-/
import Derived.Test.YtbcgeglkmpcnpaaDoorEyE
namespace Go.Proofs.YtbcgeglkmpcnpaaDoor
open Go Go.RowKit
set_option linter.unusedVariables false
set_option linter.unusedSimpArgs false
open Go.Sort

theorem made_in {W : World} {g n c : Nat} {op wd : Int} {v : Nat} {sg uh ul xn : Int} {l : List ET} (hg : g < n) (h : RowM W g (flatE l)) (hl : ∀ x ∈ l, x.In n W) : (ET.mk op wd v sg uh ul xn (some ⟨g, 0, none⟩) c l).In n W := by
  rw [ET.In_mk]
  exact rowM_in hg l [] [] 0 rfl (by simpa using h) hl
def BinP (bo : Int) (x y : ET) (w : World) : Ending → World → Prop := fun e w' => ∃ g : Nat, e = .returned (.agg #[.int .i64 5, .int .i64 0, .int .u64 0, .int .i64 0, .int .i64 0, .int .i64 0, .int .i64 bo, .slice (some ⟨g, 0, none⟩) 2 2]) ∧ (binT bo g x y).In w'.heap.size w' ∧ Below w.heap.size w w'
set_option maxHeartbeats 8000000 in
set_option maxRecDepth 100000 in
theorem bin_any (bo : Int) (x y : ET) (n0 : Nat) (w : World) (hn0 : n0 ≤ w.heap.size) (hx : x.In n0 w) (hy : y.In n0 w) : Calls Tryd.prog 18 #[.int .i64 bo, x.val, y.val] w (BinP bo x y w) := by
  obtain ⟨op, wd, v, sg, uh, ul, xn, xa, xc, xl⟩ := x
  obtain ⟨op2, wd2, v2, sg2, uh2, ul2, xn2, xa2, xc2, xl2⟩ := y
  simp only [ET.val, ET.cells]
  obtain ⟨gx, hgx⟩ : ∃ gx, w.heap.size = gx := ⟨_, rfl⟩
  obtain ⟨wa, hwa⟩ : ∃ wa, w.alloc (.cells #[.int .i64 op, .int .i64 wd, .int .u64 (v : Int), .int .i64 sg, .int .i64 uh, .int .i64 ul, .int .i64 xn, .slice xa xl.length xc] 30) = wa := ⟨_, rfl⟩
  have hba : Below w.heap.size w wa := by rw [← hwa]; exact (Below.refl _ _).alloc (Nat.le_refl _) _
  have hsa : wa.heap.size = gx + 1 := by rw [← hwa, World.size_alloc, hgx]
  have BA : wa.heap[gx]? = some (.cells #[.int .i64 op, .int .i64 wd, .int .u64 (v : Int), .int .i64 sg, .int .i64 uh, .int .i64 ul, .int .i64 xn, .slice xa xl.length xc] 30 (0, 0)) := by rw [← hwa, ← hgx]; exact World.alloc_heap_new w _
  obtain ⟨wb, hwb⟩ : ∃ wb, wa.alloc (.cells #[.int .i64 op2, .int .i64 wd2, .int .u64 (v2 : Int), .int .i64 sg2, .int .i64 uh2, .int .i64 ul2, .int .i64 xn2, .slice xa2 xl2.length xc2] 30) = wb := ⟨_, rfl⟩
  have hbb : Below wa.heap.size wa wb := by rw [← hwb]; exact (Below.refl _ _).alloc (Nat.le_refl _) _
  have hsb : wb.heap.size = gx + 2 := by rw [← hwb, World.size_alloc, hsa]
  have BB : wb.heap[gx + 1]? = some (.cells #[.int .i64 op2, .int .i64 wd2, .int .u64 (v2 : Int), .int .i64 sg2, .int .i64 uh2, .int .i64 ul2, .int .i64 xn2, .slice xa2 xl2.length xc2] 30 (0, 0)) := by rw [← hwb, ← hsa]; exact World.alloc_heap_new wa _
  obtain ⟨w3, hw3⟩ : ∃ w3, wb.alloc (.cells #[.int .i64 0, .int .i64 0, .int .u64 0, .int .i64 0, .int .i64 0, .int .i64 0, .int .i64 0, .slice none 0 0] 30 (0, 0)) = w3 := ⟨_, rfl⟩
  have hb3 : Below wb.heap.size wb w3 := by rw [← hw3]; exact (Below.refl _ _).alloc (Nat.le_refl _) _
  have hs3 : w3.heap.size = gx + 3 := by rw [← hw3, World.size_alloc, hsb]
  have BZ3 : RowM w3 (gx + 2) ([] ++ ([.int .i64 0, .int .i64 0, .int .u64 0, .int .i64 0, .int .i64 0, .int .i64 0, .int .i64 0, .slice none 0 0] ++ [])) := by show w3.heap[gx + 2]? = _; rw [← hw3, ← hsb]; exact World.alloc_heap_new wb _
  have BA3 := block_kept (block_kept BA hbb) hb3
  have BB3 := block_kept BB hb3
  obtain ⟨w4, hw4⟩ : ∃ w4, w3.alloc (.cells #[.int .i64 op, .int .i64 wd, .int .u64 (v : Int), .int .i64 sg, .int .i64 uh, .int .i64 ul, .int .i64 xn, .slice xa xl.length xc, .int .i64 op2, .int .i64 wd2, .int .u64 (v2 : Int), .int .i64 sg2, .int .i64 uh2, .int .i64 ul2, .int .i64 xn2, .slice xa2 xl2.length xc2] 30 (0, 0)) = w4 := ⟨_, rfl⟩
  have hb4 : Below w3.heap.size w3 w4 := by rw [← hw4]; exact (Below.refl _ _).alloc (Nat.le_refl _) _
  have hbw : Below w.heap.size w w4 := ((hba.trans (hbb.mono hba.size)).trans (hb3.mono (by omega))).trans (hb4.mono (by omega))
  have BG : RowM w4 (gx + 3) (flatE [(ET.mk op wd v sg uh ul xn xa xc xl), (ET.mk op2 wd2 v2 sg2 uh2 ul2 xn2 xa2 xc2 xl2)]) := by show w4.heap[gx + 3]? = _; rw [← hw4, ← hs3]; exact World.alloc_heap_new w3 _
  have BZ : RowM w4 (gx + 2) ([] ++ ([.int .i64 0, .int .i64 0, .int .u64 0, .int .i64 0, .int .i64 0, .int .i64 0, .int .i64 0, .slice none 0 0] ++ [])) := BZ3.keep (hb4.block (gx + 2) (by omega))
  have RZ := RowM.put BZ 0 rfl (.int .i64 5) (.int .i64 0) (.int .u64 0) (.int .i64 0) (.int .i64 0) (.int .i64 0) (.int .i64 bo) (.slice (some ⟨gx + 3, 0, none⟩) 2 2)
  have ho := fun k hk => put_other w4 (gx + 2) 0 (.int .i64 5) (.int .i64 0) (.int .u64 0) (.int .i64 0) (.int .i64 0) (.int .i64 0) (.int .i64 bo) (.slice (some ⟨gx + 3, 0, none⟩) 2 2) k hk
  have hbz := below_put hbw (show w.heap.size ≤ gx + 2 by omega) 0 (.int .i64 5) (.int .i64 0) (.int .u64 0) (.int .i64 0) (.int .i64 0) (.int .i64 0) (.int .i64 bo) (.slice (some ⟨gx + 3, 0, none⟩) 2 2)
  simp only [Nat.zero_add] at RZ ho hbz
  obtain ⟨wz, hwz⟩ : ∃ wz, ((((((((w4.setCell ⟨gx + 2, 0, none⟩ (.int .i64 5)).setCell ⟨gx + 2, 1, none⟩ (.int .i64 0)).setCell ⟨gx + 2, 2, none⟩ (.int .u64 0)).setCell ⟨gx + 2, 3, none⟩ (.int .i64 0)).setCell ⟨gx + 2, 4, none⟩ (.int .i64 0)).setCell ⟨gx + 2, 5, none⟩ (.int .i64 0)).setCell ⟨gx + 2, 6, none⟩ (.int .i64 bo)).setCell ⟨gx + 2, 7, none⟩ (.slice (some ⟨gx + 3, 0, none⟩) 2 2)) = wz := ⟨_, rfl⟩
  have hsz : wz.heap.size = w4.heap.size := by rw [← hwz]; simp only [World.size_setCell]
  rw [hwz] at RZ hbz
  simp only [hwz] at ho
  have hs4 : w4.heap.size = gx + 4 := by rw [← hw4, World.size_alloc, hs3]
  have hIn : (binT bo (gx + 3) (ET.mk op wd v sg uh ul xn xa xc xl) (ET.mk op2 wd2 v2 sg2 uh2 ul2 xn2 xa2 xc2 xl2)).In wz.heap.size wz := made_in (by omega) (BG.keep (ho (gx + 3) (by omega))) (fun z hz => by
    have hkk : n0 ≤ wz.heap.size := by omega
    rcases List.mem_cons.1 hz with e | e
    · subst e; exact ET.In.less hkk _ (hx.keep (Below.keptTo hbz hn0))
    · obtain rfl : z = _ := by simpa using e
      exact ET.In.less hkk _ (hy.keep (Below.keptTo hbz hn0)))
  have HP : Hid (BinP bo (ET.mk op wd v sg uh ul xn xa xc xl) (ET.mk op2 wd2 v2 sg2 uh2 ul2 xn2 xa2 xc2 xl2) w (.returned (.agg #[.int .i64 5, .int .i64 0, .int .u64 0, .int .i64 0, .int .i64 0, .int .i64 0, .int .i64 bo, .slice (some ⟨gx + 3, 0, none⟩) 2 2])) wz) := Lib.hid ⟨gx + 3, rfl, hIn, hbz⟩
  obtain ⟨z0, z1, z2, z3, z4, z5, z6, z7⟩ := ope8 BA3
  obtain ⟨y0, y1, y2, y3, y4, y5, y6, y7⟩ := ope8 BB3
  obtain ⟨u0, u1, u2, u3, u4, u5, u6, u7⟩ := RowM.cells BZ 0 rfl
  obtain ⟨p0, p1, p2, p3, p4, p5, p6, p7⟩ := RowM.thaw BZ 0
  obtain ⟨t0, t1, t2, t3, t4, t5, t6, t7⟩ := RowM.cells RZ 0 rfl
  simp only [Nat.zero_add] at u1 u2 u3 u4 u5 u6 u7 p1 p2 p3 p4 p5 p6 p7 t1 t2 t3 t4 t5 t6 t7
  clear hba BA hbb BB hb3 BZ3 BA3 BB3 hb4 hbw BG BZ RZ ho hbz hsz hs4 hIn hx hy
  go_enter Tryd.func18, Tryd.ntmps18
  go_upto_region 1 with (fail)
  (try rw [hwa])
  (try rw [hgx])
  (try rw [hwb])
  (try rw [hsa])
  (try rw [hw3])
  (try rw [hsb])
  go_wp2
  (try rw [hs3])
  (try rw [hw4])
  (try rw [hwz])
  have hu := Tryd.underlying30
  refine bodyPost_ret (v := .agg #[.int .i64 5, .int .i64 0, .int .u64 0, .int .i64 0, .int .i64 0, .int .i64 0, .int .i64 bo, .slice (some ⟨gx + 3, 0, none⟩) 2 2]) (by simp [results, Tryd.results18, go_sem, hu, t0, t1, t2, t3, t4, t5, t6, t7]) rfl HP.out
end Go.Proofs.YtbcgeglkmpcnpaaDoor
