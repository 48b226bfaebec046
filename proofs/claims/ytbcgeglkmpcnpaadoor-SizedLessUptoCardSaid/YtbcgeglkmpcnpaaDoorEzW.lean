/-
  sized: CheckE: has an expression the widths that it should have?
-/
import Derived.Test.YtbcgeglkmpcnpaaDoorEzV
namespace Go.Proofs.YtbcgeglkmpcnpaaDoor
open Go Go.RowKit
set_option linter.unusedVariables false
set_option linter.unusedSimpArgs false
open Go.Sort

/-- What CheckE tells. -/
def checkES (gl : List GT) (x : ET) : Int := if (exprS gl x x.wd).2 = 0 then (if sameE (exprS gl x x.wd).1 x = true then 0 else 90) else (exprS gl x x.wd).2
theorem szE_bk (x : ET) (w0 f : Int) : (szE x w0 f).1.bk = x.bk := (szE_meas x w0 f).2.2.1
theorem exprS_bk (gl : List GT) (x : ET) (w0 : Int) : (exprS gl x w0).1.bk ≤ x.bk := by
  have h1 := ET.bk_pos x
  have hz : zeroE.bk = 1 := rfl
  unfold exprS
  split
  · split
    · split
      · simp only [szE_bk]; exact Nat.le_refl _
      · simp only [hz]; exact h1
    · simp only [hz]; exact h1
  · simp only [hz]; exact h1
theorem bk_of_nrm {x y : ET} (h : nrmE x = nrmE y) : x.bk = y.bk := by rw [← (meas_nrm x).2.2, ← (meas_nrm y).2.2, h]
theorem sameE_of_nrm {x x' y : ET} (h : nrmE x = nrmE x') : sameE x y = sameE x' y := by
  rw [Bool.eq_iff_iff, sameE_iff, sameE_iff, h]
theorem below_alloc_put {W : World} (o : Obj) (v0 v1 v2 v3 v4 v5 v6 v7 : Value) : Below W.heap.size W ((((((((((W.alloc o).setCell ⟨W.heap.size, 0, none⟩ (v0)).setCell ⟨W.heap.size, 1, none⟩ (v1)).setCell ⟨W.heap.size, 2, none⟩ (v2)).setCell ⟨W.heap.size, 3, none⟩ (v3)).setCell ⟨W.heap.size, 4, none⟩ (v4)).setCell ⟨W.heap.size, 5, none⟩ (v5)).setCell ⟨W.heap.size, 6, none⟩ (v6)).setCell ⟨W.heap.size, 7, none⟩ (v7))) := by
  have h := below_put (B := W.heap.size) ((Below.refl W.heap.size W).alloc (Nat.le_refl _) o) (Nat.le_refl _) 0 v0 v1 v2 v3 v4 v5 v6 v7
  simpa using h
set_option maxHeartbeats 8000000 in
set_option maxRecDepth 100000 in
theorem checkE_any (gl : List GT) (ga : Option Addr) (gc : Nat) (qa : Option Addr) (qn qc : Nat) (ka : Option Addr) (kn kc : Nat) (hgl : gl.length ≤ 9000000) (hnl : ∀ g ∈ gl, g.nm.length ≤ 12000000) (x : ET) (hbk : x.bk ≤ 4500000) (hwf : x.Wf) (n0 : Nat) (w : World) (hn0 : n0 ≤ w.heap.size) (hz : EnvZ w) (hg : GsIn n0 w gl ga) (hin : x.In n0 w) :
    Calls Tryd.prog 12 #[.agg #[.slice ga gl.length gc, .slice qa qn qc, .slice ka kn kc], x.val] w fun e w' => e = .returned (.int .i64 (checkES gl x)) ∧ Below w.heap.size w w' := by
  have ce := fun (W : World) (h1 : Below w.heap.size w W) => expr_any gl ga gc qa qn qc ka kn kc hgl hnl x hbk hwf x.wd n0 W (Nat.le_trans hn0 h1.size) (hz.keep h1) (hg.keep (Below.keptTo h1 hn0)) (hin.keep (Below.keptTo h1 hn0))
  have cs := fun (y : ET) (hy : nrmE y = nrmE (exprS gl x x.wd).1) (W : World) (h1 : Below w.heap.size w W) (h2 : y.In W.heap.size W) => sameE_any y (by rw [bk_of_nrm hy]; exact Nat.le_trans (exprS_bk gl x x.wd) hbk) x hbk W.heap.size W (Nat.le_refl _) h2 (ET.In.less (Nat.le_trans hn0 h1.size) _ (hin.keep (Below.keptTo h1 hn0)))
  obtain ⟨R, hR⟩ : ∃ R, exprS gl x x.wd = R := ⟨_, rfl⟩
  have HE0 : Hid (checkES gl x = if R.2 = 0 then (if sameE R.1 x = true then 0 else 90) else R.2) := Lib.hid (by rw [checkES, hR])
  have HEP : Hid (∀ W, ExprP gl x x.wd W = fun e w' => ∃ y : ET, e = .returned (.tuple #[y.val, .int .i64 R.2]) ∧ nrmE y = nrmE R.1 ∧ y.Own w' W.heap.size w'.heap.size ∧ Below W.heap.size W w') := Lib.hid (fun W => by unfold ExprP; rw [hR])
  simp only [HEP.out] at ce
  rw [hR] at cs
  have HC := Lib.hid ce
  have HS := Lib.hid cs
  generalize checkES gl x = C at HE0 ⊢
  obtain ⟨op, wd, v, sg, uh, ul, xn, xa, xc, xl⟩ := x
  obtain ⟨gx, hgx⟩ : ∃ gx, w.heap.size = gx := ⟨_, rfl⟩
  obtain ⟨wa, hwa⟩ : ∃ wa, w.alloc (.cells #[.slice ga gl.length gc, .slice qa qn qc, .slice ka kn kc] 26) = wa := ⟨_, rfl⟩
  have hba : Below w.heap.size w wa := by rw [← hwa]; exact (Below.refl _ _).alloc (Nat.le_refl _) _
  have hsa : wa.heap.size = gx + 1 := by rw [← hwa, World.size_alloc, hgx]
  have BD : wa.heap[gx]? = some (.cells #[.slice ga gl.length gc, .slice qa qn qc, .slice ka kn kc] 26 (0, 0)) := by rw [← hwa, ← hgx]; exact World.alloc_heap_new w _
  obtain ⟨w1, hw1⟩ : ∃ w1, wa.alloc (.cells #[.int .i64 op, .int .i64 wd, .int .u64 (v : Int), .int .i64 sg, .int .i64 uh, .int .i64 ul, .int .i64 xn, .slice xa xl.length xc] 30) = w1 := ⟨_, rfl⟩
  have hbb : Below wa.heap.size wa w1 := by rw [← hw1]; exact (Below.refl _ _).alloc (Nat.le_refl _) _
  have hs1 : w1.heap.size = gx + 2 := by rw [← hw1, World.size_alloc, hsa]
  have BX : w1.heap[gx + 1]? = some (.cells #[.int .i64 op, .int .i64 wd, .int .u64 (v : Int), .int .i64 sg, .int .i64 uh, .int .i64 ul, .int .i64 xn, .slice xa xl.length xc] 30 (0, 0)) := by rw [← hw1, ← hsa]; exact World.alloc_heap_new wa _
  have hW : Below w.heap.size w w1 := hba.trans (hbb.mono hba.size)
  obtain ⟨d0, d1, d2⟩ := ope3 (block_kept BD hbb)
  obtain ⟨z0, z1, z2, z3, z4, z5, z6, z7⟩ := ope8 BX
  have HW := Lib.hid (And.intro hW BX)
  have HG := Lib.hid (And.intro hgx hs1)
  clear hz hg hin hn0 hgl hnl hbk hwf hR HEP ce cs hba hbb BD BX hW hs1
  simp only [ET.val, ET.cells]
  simp only [ET.val, ET.cells, ET.wd] at HC HS
  have c0 := HC.out w1 HW.out.1
  have c0K := Lib.hid c0
  clear c0
  go_enter Tryd.func12, Tryd.ntmps12
  go_upto_region 1 with (fail)
  (try rw [hwa])
  (try rw [hgx])
  (try rw [hw1])
  (try rw [hsa])
  clear hwa hw1 hsa hgx
  go_wp2_with fail
  refine c0K.out.mono ?_
  clear c0K d0 d1 d2 z0 z1 z2 z3 z4 z5 z6 z7
  rintro e V1 ⟨y, rfl, hyn, hyo, hb1⟩
  have hS := fun (W : World) h1 h2 => HS.out y hyn W h1 h2
  have HYN : Hid (sameE R.1 (ET.mk op wd v sg uh ul xn xa xc xl) = sameE y (ET.mk op wd v sg uh ul xn xa xc xl)) := Lib.hid (sameE_of_nrm hyn).symm
  obtain ⟨op7, wd7, v7, sg7, uh7, ul7, xn7, xa7, xc7, xl7⟩ := y
  obtain ⟨b, hb⟩ : ∃ b, V1.heap.size = b := ⟨_, rfl⟩
  obtain ⟨V2, hV2⟩ : ∃ V2, V1.alloc (.cells #[.int .i64 0, .int .i64 0, .int .u64 0, .int .i64 0, .int .i64 0, .int .i64 0, .int .i64 0, .slice none 0 0] 30 (0, 0)) = V2 := ⟨_, rfl⟩
  have hs2 : V2.heap.size = b + 1 := by rw [← hV2, World.size_alloc, hb]
  have hr2 : RowM V2 b ([] ++ ([.int .i64 0, .int .i64 0, .int .u64 0, .int .i64 0, .int .i64 0, .int .i64 0, .int .i64 0, .slice none 0 0] ++ [])) := by
    show V2.heap[b]? = _
    rw [← hV2, ← hb]; exact World.alloc_heap_new V1 _
  have hr3 := RowM.put hr2 0 rfl (.int .i64 op7) (.int .i64 wd7) (.int .u64 (v7 : Int)) (.int .i64 sg7) (.int .i64 uh7) (.int .i64 ul7) (.int .i64 xn7) (.slice xa7 xl7.length xc7)
  have hb3 := below_alloc_put (W := V1) (.cells #[.int .i64 0, .int .i64 0, .int .u64 0, .int .i64 0, .int .i64 0, .int .i64 0, .int .i64 0, .slice none 0 0] 30 (0, 0)) (.int .i64 op7) (.int .i64 wd7) (.int .u64 (v7 : Int)) (.int .i64 sg7) (.int .i64 uh7) (.int .i64 ul7) (.int .i64 xn7) (.slice xa7 xl7.length xc7)
  simp only [Nat.zero_add] at hr3
  rw [hb, hV2] at hb3
  obtain ⟨V3, hV3⟩ : ∃ V3, ((((((((V2.setCell ⟨b, 0, none⟩ (.int .i64 op7)).setCell ⟨b, 1, none⟩ (.int .i64 wd7)).setCell ⟨b, 2, none⟩ (.int .u64 (v7 : Int))).setCell ⟨b, 3, none⟩ (.int .i64 sg7)).setCell ⟨b, 4, none⟩ (.int .i64 uh7)).setCell ⟨b, 5, none⟩ (.int .i64 ul7)).setCell ⟨b, 6, none⟩ (.int .i64 xn7)).setCell ⟨b, 7, none⟩ (.slice xa7 xl7.length xc7)) = V3 := ⟨_, rfl⟩
  rw [hV3] at hr3 hb3
  have hs3 : V3.heap.size = b + 1 := by rw [← hV3]; simp only [World.size_setCell]; exact hs2
  rw [← hb] at hb3
  have hbw : Below w.heap.size w V3 := (HW.out.1.trans (hb1.mono HW.out.1.size)).trans (hb3.mono (by have := hb1.size; have := HW.out.1.size; omega))
  have BX3 := block_kept (block_kept HW.out.2 hb1) hb3
  have hyi : ((ET.mk op7 wd7 v7 sg7 uh7 ul7 xn7 xa7 xc7 xl7) : ET).In V3.heap.size V3 := ET.In.less hb3.size _ (ET.In.keep (Below.keptTo hb3 (Nat.le_refl _)) _ (hyo.inn _ _ _))
  have c1 := hS V3 hbw hyi
  obtain ⟨SB, hSB⟩ : ∃ b, sameE (ET.mk op7 wd7 v7 sg7 uh7 ul7 xn7 xa7 xc7 xl7) (ET.mk op wd v sg uh ul xn xa xc xl) = b := ⟨_, rfl⟩
  rw [hSB] at c1 HYN
  have c1K := Lib.hid c1
  have HBW := Lib.hid hbw
  have H3 := Lib.hid (And.intro hr3 BX3)
  obtain ⟨y0, y1, y2, y3, y4, y5, y6, y7⟩ := RowM.cells hr2 0 rfl
  obtain ⟨p0, p1, p2, p3, p4, p5, p6, p7⟩ := RowM.thaw hr2 0
  simp only [Nat.zero_add] at y1 y2 y3 y4 y5 y6 y7 p1 p2 p3 p4 p5 p6 p7
  clear hyn hyo hb1 hS hr2 hr3 hb3 hs2 hs3 hbw BX3 hyi c1 hSB
  simp only [ET.val, ET.cells] at c1K
  simp only [ET.val, ET.cells]
  obtain ⟨R1, R2⟩ := R
  simp only at HE0 HYN
  by_cases t9 : R2 = 0
  · subst t9
    have e9 : ((0 : Int) != 0) = false := rfl
    obtain ⟨t0, t1, t2, t3, t4, t5, t6, t7⟩ := RowM.cells H3.out.1 0 rfl
    simp only [Nat.zero_add] at t1 t2 t3 t4 t5 t6 t7
    obtain ⟨x0, x1, x2, x3, x4, x5, x6, x7⟩ := ope8 H3.out.2
    have HX3 : Hid (C = if SB = true then 0 else 90) := Lib.hid (by rw [HE0.out, if_pos rfl, HYN.out])
    go_upto_region 2 with (fail)
    (try rw [hb])
    (try rw [hV2])
    (try rw [hV3])
    clear y0 y1 y2 y3 y4 y5 y6 y7 p0 p1 p2 p3 p4 p5 p6 p7 hV2 hV3 hb
    go_wp2_with fail
    refine c1K.out.mono ?_
    clear c1K t0 t1 t2 t3 t4 t5 t6 t7 x0 x1 x2 x3 x4 x5 x6 x7
    rintro e V4 ⟨rfl, hb4⟩
    have HB4 := Lib.hid (HBW.out.trans (hb4.mono HBW.out.size))
    clear hb4
    cases SB
    all_goals
      go_wp2_with fail
      refine (unchanged_any _ V4).mono ?_
      rintro e V5 ⟨rfl, rfl⟩
      go_wp2
      go_ret
      exact ⟨by rw [HX3.out]; rfl, HB4.out⟩
  · have e9 : (R2 != 0) = true := by rw [bne_iff_ne]; exact t9
    have HX3 : Hid (C = R2) := Lib.hid (by rw [HE0.out, if_neg t9])
    clear t9
    go_upto_region 2 with (fail)
    (try rw [hb])
    (try rw [hV2])
    (try rw [hV3])
    clear y0 y1 y2 y3 y4 y5 y6 y7 p0 p1 p2 p3 p4 p5 p6 p7 hV2 hV3 hb
    go_wp2
    go_ret
    exact ⟨by rw [HX3.out]; rfl, HBW.out⟩
end Go.Proofs.YtbcgeglkmpcnpaaDoor
