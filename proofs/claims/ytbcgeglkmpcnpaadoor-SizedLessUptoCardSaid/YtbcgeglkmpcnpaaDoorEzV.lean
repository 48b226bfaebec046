/-
  sized: Expr: an expression with its widths, or what is wrong.
-/
import Derived.Test.YtbcgeglkmpcnpaaDoorEzO
import Derived.Test.YtbcgeglkmpcnpaaDoorEzU
import Derived.Test.YtbcgeglkmpcnpaaDoorEzT
import Derived.Test.YtbcgeglkmpcnpaaDoorEzK
namespace Go.Proofs.YtbcgeglkmpcnpaaDoor
open Go Go.RowKit
set_option linter.unusedVariables false
set_option linter.unusedSimpArgs false
open Go.Sort

/-- What Expr tells: an expression, and what is wrong. -/
def exprS (gl : List GT) (x : ET) (want : Int) : ET × Int :=
  if sigsMay gl = true ∧ (want = 0 ∨ isW want = true) ∧ mayE gl x = true then
    (if okB 0 1 x.sz x.dp = true then (if (szE x want 0).2 = 0 then ((szE x want 0).1, 0) else (zeroE, (szE x want 0).2)) else (zeroE, 2))
  else (zeroE, 1)
def ExprP (gl : List GT) (x : ET) (want : Int) (w : World) : Ending → World → Prop := fun e w' => ∃ y : ET, e = .returned (.tuple #[y.val, .int .i64 (exprS gl x want).2]) ∧ nrmE y = nrmE (exprS gl x want).1 ∧ y.Own w' w.heap.size w'.heap.size ∧ Below w.heap.size w w'
theorem zeroE_in (n : Nat) (W : World) : zeroE.In n W := by unfold zeroE; rw [ET.In_mk]; unfold InRow; trivial
theorem zeroE_own (lo hi : Nat) (W : World) : zeroE.Own W lo hi := by unfold zeroE; rw [ET.own_mk]; exact Or.inl ⟨rfl, rfl, rfl⟩
theorem ope3 {w : World} {g : Nat} {v0 v1 v2 : Value} {t : TypeId} (h : w.heap[g]? = some (.cells #[v0, v1, v2] t (0, 0))) : w.cell? ⟨g, 0, none⟩ = some v0 ∧ w.cell? ⟨g, 1, none⟩ = some v1 ∧ w.cell? ⟨g, 2, none⟩ = some v2 := by
  simp [World.cell?, h]
/-- The boxes of a call of Expr: the design, the expression, the result. -/
def ExW (gx : Nat) (dv xv : Array Value) (w W : World) : Prop := Below w.heap.size w W ∧ W.heap[gx]? = some (.cells dv 26 (0, 0)) ∧ W.heap[gx + 1]? = some (.cells xv 30 (0, 0)) ∧ W.heap[gx + 2]? = some (.cells #[.int .i64 0, .int .i64 0, .int .u64 0, .int .i64 0, .int .i64 0, .int .i64 0, .int .i64 0, .slice none 0 0] 30 (0, 0))
theorem ExW.keep {gx : Nat} {dv xv : Array Value} {w W W' : World} (h : ExW gx dv xv w W) (hb : Below W.heap.size W W') : ExW gx dv xv w W' :=
  ⟨h.1.trans (hb.mono h.1.size), block_kept h.2.1 hb, block_kept h.2.2.1 hb, block_kept h.2.2.2 hb⟩
set_option maxHeartbeats 8000000 in
set_option maxRecDepth 100000 in
theorem expr_any (gl : List GT) (ga : Option Addr) (gc : Nat) (qa : Option Addr) (qn qc : Nat) (ka : Option Addr) (kn kc : Nat) (hgl : gl.length ≤ 9000000) (hnl : ∀ g ∈ gl, g.nm.length ≤ 12000000) (x : ET) (hbk : x.bk ≤ 4500000) (hwf : x.Wf) (want : Int) (n0 : Nat) (w : World) (hn0 : n0 ≤ w.heap.size) (hz : EnvZ w) (hg : GsIn n0 w gl ga) (hin : x.In n0 w) :
    Calls Tryd.prog 9 #[.agg #[.slice ga gl.length gc, .slice qa qn qc, .slice ka kn kc], x.val, .int .i64 want] w (ExprP gl x want w) := by
  obtain ⟨R, hR⟩ : ∃ R, exprS gl x want = R := ⟨_, rfl⟩
  have HR := Lib.hid hR
  obtain ⟨SM, hSM⟩ : ∃ b, sigsMay gl = b := ⟨_, rfl⟩
  obtain ⟨ME, hME⟩ : ∃ b, mayE gl x = b := ⟨_, rfl⟩
  obtain ⟨OB, hOB⟩ : ∃ b, okB 0 1 x.sz x.dp = b := ⟨_, rfl⟩
  have HF := Lib.hid (And.intro hSM (And.intro hME hOB))
  have cs := fun (W : World) (h1 : Below w.heap.size w W) => mayBeSignals_any n0 gl hgl hnl ga gc W (Nat.le_trans hn0 h1.size) (hg.keep (Below.keptTo h1 hn0))
  have cm := fun (W : World) (h1 : Below w.heap.size w W) => mayE_any gl ga gc x hbk hwf n0 W (Nat.le_trans hn0 h1.size) (hz.keep h1) (hg.keep (Below.keptTo h1 hn0)) (hin.keep (Below.keptTo h1 hn0))
  have cb := fun (W : World) (h1 : Below w.heap.size w W) => withinBounds_any x hbk n0 W (Nat.le_trans hn0 h1.size) (hin.keep (Below.keptTo h1 hn0))
  have cc := fun (W : World) (h1 : Below w.heap.size w W) => copyE_any x hbk n0 W (Nat.le_trans hn0 h1.size) (hin.keep (Below.keptTo h1 hn0))
  rw [hSM] at cs
  rw [hME] at cm
  rw [hOB] at cb
  have HS := Lib.hid cs
  have HM := Lib.hid cm
  have HBD := Lib.hid cb
  have HC := Lib.hid cc
  have HW9 := Lib.hid (And.intro hbk hwf)
  have HEP : Hid (ExprP gl x want w = fun e w' => ∃ y : ET, e = .returned (.tuple #[y.val, .int .i64 R.2]) ∧ nrmE y = nrmE R.1 ∧ y.Own w' w.heap.size w'.heap.size ∧ Below w.heap.size w w') := Lib.hid (by unfold ExprP; rw [hR])
  generalize ExprP gl x want w = EP at HEP ⊢
  obtain ⟨op, wd, v, sg, uh, ul, xn, xa, xc, xl⟩ := x
  obtain ⟨gx, hgx⟩ : ∃ gx, w.heap.size = gx := ⟨_, rfl⟩
  obtain ⟨wa, hwa⟩ : ∃ wa, w.alloc (.cells #[.slice ga gl.length gc, .slice qa qn qc, .slice ka kn kc] 26) = wa := ⟨_, rfl⟩
  have hba : Below w.heap.size w wa := by rw [← hwa]; exact (Below.refl _ _).alloc (Nat.le_refl _) _
  have hsa : wa.heap.size = gx + 1 := by rw [← hwa, World.size_alloc, hgx]
  have BD : wa.heap[gx]? = some (.cells #[.slice ga gl.length gc, .slice qa qn qc, .slice ka kn kc] 26 (0, 0)) := by rw [← hwa, ← hgx]; exact World.alloc_heap_new w _
  obtain ⟨wb, hwb⟩ : ∃ wb, wa.alloc (.cells #[.int .i64 op, .int .i64 wd, .int .u64 (v : Int), .int .i64 sg, .int .i64 uh, .int .i64 ul, .int .i64 xn, .slice xa xl.length xc] 30) = wb := ⟨_, rfl⟩
  have hbb : Below wa.heap.size wa wb := by rw [← hwb]; exact (Below.refl _ _).alloc (Nat.le_refl _) _
  have hsb : wb.heap.size = gx + 2 := by rw [← hwb, World.size_alloc, hsa]
  have BX : wb.heap[gx + 1]? = some (.cells #[.int .i64 op, .int .i64 wd, .int .u64 (v : Int), .int .i64 sg, .int .i64 uh, .int .i64 ul, .int .i64 xn, .slice xa xl.length xc] 30 (0, 0)) := by rw [← hwb, ← hsa]; exact World.alloc_heap_new wa _
  obtain ⟨w1, hw1⟩ : ∃ w1, wb.alloc (.cells #[.int .i64 0, .int .i64 0, .int .u64 0, .int .i64 0, .int .i64 0, .int .i64 0, .int .i64 0, .slice none 0 0] 30 (0, 0)) = w1 := ⟨_, rfl⟩
  have hb1 : Below wb.heap.size wb w1 := by rw [← hw1]; exact (Below.refl _ _).alloc (Nat.le_refl _) _
  have hs1 : w1.heap.size = gx + 3 := by rw [← hw1, World.size_alloc, hsb]
  have BR : w1.heap[gx + 2]? = some (.cells #[.int .i64 0, .int .i64 0, .int .u64 0, .int .i64 0, .int .i64 0, .int .i64 0, .int .i64 0, .slice none 0 0] 30 (0, 0)) := by rw [← hw1, ← hsb]; exact World.alloc_heap_new wb _
  have hW : ExW gx #[.slice ga gl.length gc, .slice qa qn qc, .slice ka kn kc] #[.int .i64 op, .int .i64 wd, .int .u64 (v : Int), .int .i64 sg, .int .i64 uh, .int .i64 ul, .int .i64 xn, .slice xa xl.length xc] w w1 := ⟨(hba.trans (hbb.mono hba.size)).trans (hb1.mono (by have := hba.size; have := hbb.size; omega)), block_kept (block_kept BD hbb) hb1, block_kept BX hb1, BR⟩
  have HW := Lib.hid hW
  have HG := Lib.hid (And.intro hgx hs1)
  obtain ⟨d0, d1, d2⟩ := ope3 hW.2.1
  obtain ⟨z0, z1, z2, z3, z4, z5, z6, z7⟩ := ope8 hW.2.2.1
  clear hz hg hin hn0 hgl hnl hbk hwf hR hSM hME hOB cs cm cb cc hba hbb hb1 BD BX BR hW hs1
  simp only [ET.val, ET.cells]
  go_enter Tryd.func9, Tryd.ntmps9
  go_upto_region 1 with (fail)
  (try rw [hwa])
  (try rw [hgx])
  (try rw [hwb])
  (try rw [hsa])
  (try rw [hw1])
  (try rw [hsb])
  clear hwa hwb hw1 hsa hsb hgx
  simp only [ET.val, ET.cells] at HM HBD HC
  cases SM with
  | false =>
    have c0 := HS.out w1 HW.out.1
    have c0K := Lib.hid c0
    clear c0
    go_wp2_with fail
    refine c0K.out.mono ?_
    clear c0K d0 d1 d2 z0 z1 z2 z3 z4 z5 z6 z7
    rintro e W2 ⟨rfl, hb9⟩
    have HW2 := Lib.hid (HW.out.keep hb9)
    obtain ⟨d0, d1, d2⟩ := ope3 HW2.out.2.1
    obtain ⟨z0, z1, z2, z3, z4, z5, z6, z7⟩ := ope8 HW2.out.2.2.1
    clear hb9
    have HE : Hid (R = (zeroE, 1)) := Lib.hid (by rw [← HR.out]; rw [exprS, if_neg (fun h => by have := HF.out.1; rw [h.1] at this; cases this)])
    have HBW := Lib.hid HW2.out.1
    have RY : RowM W2 (gx + 2) ([] ++ ([.int .i64 0, .int .i64 0, .int .u64 0, .int .i64 0, .int .i64 0, .int .i64 0, .int .i64 0, .slice none 0 0] ++ [])) := HW2.out.2.2.2
    obtain ⟨y0, y1, y2, y3, y4, y5, y6, y7⟩ := RowM.cells RY 0 rfl
    obtain ⟨p0, p1, p2, p3, p4, p5, p6, p7⟩ := RowM.thaw RY 0
    simp only [Nat.zero_add] at y1 y2 y3 y4 y5 y6 y7 p1 p2 p3 p4 p5 p6 p7
    have RZ := RowM.put RY 0 rfl (.int .i64 0) (.int .i64 0) (.int .u64 0) (.int .i64 0) (.int .i64 0) (.int .i64 0) (.int .i64 0) (.slice none 0 0)
    have hoz := fun b hb => put_other W2 (gx + 2) 0 (.int .i64 0) (.int .i64 0) (.int .u64 0) (.int .i64 0) (.int .i64 0) (.int .i64 0) (.int .i64 0) (.slice none 0 0) b hb
    simp only [Nat.zero_add] at RZ hoz
    obtain ⟨wz, hwz⟩ : ∃ wz, ((((((((W2.setCell ⟨gx + 2, 0, none⟩ (.int .i64 0)).setCell ⟨gx + 2, 1, none⟩ (.int .i64 0)).setCell ⟨gx + 2, 2, none⟩ (.int .u64 0)).setCell ⟨gx + 2, 3, none⟩ (.int .i64 0)).setCell ⟨gx + 2, 4, none⟩ (.int .i64 0)).setCell ⟨gx + 2, 5, none⟩ (.int .i64 0)).setCell ⟨gx + 2, 6, none⟩ (.int .i64 0)).setCell ⟨gx + 2, 7, none⟩ (.slice none 0 0)) = wz := ⟨_, rfl⟩
    have hsz : wz.heap.size = W2.heap.size := by rw [← hwz]; simp only [World.size_setCell]
    have hbz : Below w.heap.size w wz := by
      have h9 := below_put HBW.out (show w.heap.size ≤ gx + 2 by have := HG.out.1; omega) 0 (.int .i64 0) (.int .i64 0) (.int .u64 0) (.int .i64 0) (.int .i64 0) (.int .i64 0) (.int .i64 0) (.slice none 0 0)
      simp only [Nat.zero_add] at h9
      rw [hwz] at h9
      exact h9
    rw [hwz] at RZ
    simp only [hwz] at hoz
    obtain ⟨t0, t1, t2, t3, t4, t5, t6, t7⟩ := RowM.cells RZ 0 rfl
    simp only [Nat.zero_add] at t1 t2 t3 t4 t5 t6 t7
    have HP : Hid (EP (.returned (.tuple #[.agg #[.int .i64 0, .int .i64 0, .int .u64 0, .int .i64 0, .int .i64 0, .int .i64 0, .int .i64 0, .slice none 0 0], .int .i64 1])) wz) := Lib.hid (by
      rw [HEP.out, HE.out]
      exact ⟨zeroE, rfl, rfl, zeroE_own _ _ _, hbz⟩)
    clear d0 d1 d2 z0 z1 z2 z3 z4 z5 z6 z7
    clear RY RZ hoz hsz hbz
    go_wp2
    (try rw [hwz])
    have hu := Tryd.underlying30
    refine bodyPost_ret (v := .tuple #[.agg #[.int .i64 0, .int .i64 0, .int .u64 0, .int .i64 0, .int .i64 0, .int .i64 0, .int .i64 0, .slice none 0 0], .int .i64 1]) (by simp [results, Tryd.results9, go_sem, hu, t0, t1, t2, t3, t4, t5, t6, t7]) rfl HP.out
  | true =>
    have c0 := HS.out w1 HW.out.1
    have c0K := Lib.hid c0
    clear c0
    go_wp2_with fail
    refine c0K.out.mono ?_
    clear c0K d0 d1 d2 z0 z1 z2 z3 z4 z5 z6 z7
    rintro e W2 ⟨rfl, hb9⟩
    have HW2 := Lib.hid (HW.out.keep hb9)
    obtain ⟨d0, d1, d2⟩ := ope3 HW2.out.2.1
    obtain ⟨z0, z1, z2, z3, z4, z5, z6, z7⟩ := ope8 HW2.out.2.2.1
    clear hb9
    by_cases t1 : want = 0
    · have e1 : (want != 0) = false := by rw [t1]; rfl
      have HT := Lib.hid t1
      clear t1
      cases ME with
      | false =>
        have c0 := HM.out W2 HW2.out.1
        have c0K := Lib.hid c0
        clear c0
        go_wp2_with fail
        refine c0K.out.mono ?_
        clear c0K d0 d1 d2 z0 z1 z2 z3 z4 z5 z6 z7
        rintro e W3 ⟨rfl, hb9⟩
        have HW3 := Lib.hid (HW2.out.keep hb9)
        obtain ⟨d0, d1, d2⟩ := ope3 HW3.out.2.1
        obtain ⟨z0, z1, z2, z3, z4, z5, z6, z7⟩ := ope8 HW3.out.2.2.1
        clear hb9
        have HE : Hid (R = (zeroE, 1)) := Lib.hid (by rw [← HR.out]; rw [exprS, if_neg (fun h => by have := HF.out.2.1; rw [h.2.2] at this; cases this)])
        have HBW := Lib.hid HW3.out.1
        have RY : RowM W3 (gx + 2) ([] ++ ([.int .i64 0, .int .i64 0, .int .u64 0, .int .i64 0, .int .i64 0, .int .i64 0, .int .i64 0, .slice none 0 0] ++ [])) := HW3.out.2.2.2
        obtain ⟨y0, y1, y2, y3, y4, y5, y6, y7⟩ := RowM.cells RY 0 rfl
        obtain ⟨p0, p1, p2, p3, p4, p5, p6, p7⟩ := RowM.thaw RY 0
        simp only [Nat.zero_add] at y1 y2 y3 y4 y5 y6 y7 p1 p2 p3 p4 p5 p6 p7
        have RZ := RowM.put RY 0 rfl (.int .i64 0) (.int .i64 0) (.int .u64 0) (.int .i64 0) (.int .i64 0) (.int .i64 0) (.int .i64 0) (.slice none 0 0)
        have hoz := fun b hb => put_other W3 (gx + 2) 0 (.int .i64 0) (.int .i64 0) (.int .u64 0) (.int .i64 0) (.int .i64 0) (.int .i64 0) (.int .i64 0) (.slice none 0 0) b hb
        simp only [Nat.zero_add] at RZ hoz
        obtain ⟨wz, hwz⟩ : ∃ wz, ((((((((W3.setCell ⟨gx + 2, 0, none⟩ (.int .i64 0)).setCell ⟨gx + 2, 1, none⟩ (.int .i64 0)).setCell ⟨gx + 2, 2, none⟩ (.int .u64 0)).setCell ⟨gx + 2, 3, none⟩ (.int .i64 0)).setCell ⟨gx + 2, 4, none⟩ (.int .i64 0)).setCell ⟨gx + 2, 5, none⟩ (.int .i64 0)).setCell ⟨gx + 2, 6, none⟩ (.int .i64 0)).setCell ⟨gx + 2, 7, none⟩ (.slice none 0 0)) = wz := ⟨_, rfl⟩
        have hsz : wz.heap.size = W3.heap.size := by rw [← hwz]; simp only [World.size_setCell]
        have hbz : Below w.heap.size w wz := by
          have h9 := below_put HBW.out (show w.heap.size ≤ gx + 2 by have := HG.out.1; omega) 0 (.int .i64 0) (.int .i64 0) (.int .u64 0) (.int .i64 0) (.int .i64 0) (.int .i64 0) (.int .i64 0) (.slice none 0 0)
          simp only [Nat.zero_add] at h9
          rw [hwz] at h9
          exact h9
        rw [hwz] at RZ
        simp only [hwz] at hoz
        obtain ⟨t0, t1, t2, t3, t4, t5, t6, t7⟩ := RowM.cells RZ 0 rfl
        simp only [Nat.zero_add] at t1 t2 t3 t4 t5 t6 t7
        have HP : Hid (EP (.returned (.tuple #[.agg #[.int .i64 0, .int .i64 0, .int .u64 0, .int .i64 0, .int .i64 0, .int .i64 0, .int .i64 0, .slice none 0 0], .int .i64 1])) wz) := Lib.hid (by
          rw [HEP.out, HE.out]
          exact ⟨zeroE, rfl, rfl, zeroE_own _ _ _, hbz⟩)
        clear d0 d1 d2 z0 z1 z2 z3 z4 z5 z6 z7
        clear RY RZ hoz hsz hbz
        go_wp2
        (try rw [hwz])
        have hu := Tryd.underlying30
        refine bodyPost_ret (v := .tuple #[.agg #[.int .i64 0, .int .i64 0, .int .u64 0, .int .i64 0, .int .i64 0, .int .i64 0, .int .i64 0, .slice none 0 0], .int .i64 1]) (by simp [results, Tryd.results9, go_sem, hu, t0, t1, t2, t3, t4, t5, t6, t7]) rfl HP.out
      | true =>
        have c0 := HM.out W2 HW2.out.1
        have c0K := Lib.hid c0
        clear c0
        go_wp2_with fail
        refine c0K.out.mono ?_
        clear c0K d0 d1 d2 z0 z1 z2 z3 z4 z5 z6 z7
        rintro e W3 ⟨rfl, hb9⟩
        have HW3 := Lib.hid (HW2.out.keep hb9)
        obtain ⟨d0, d1, d2⟩ := ope3 HW3.out.2.1
        obtain ⟨z0, z1, z2, z3, z4, z5, z6, z7⟩ := ope8 HW3.out.2.2.1
        clear hb9
        cases OB with
        | false =>
          have c0 := HBD.out W3 HW3.out.1
          have c0K := Lib.hid c0
          clear c0
          go_wp2_with fail
          refine c0K.out.mono ?_
          clear c0K d0 d1 d2 z0 z1 z2 z3 z4 z5 z6 z7
          rintro e W4 ⟨rfl, hb9⟩
          have HW4 := Lib.hid (HW3.out.keep hb9)
          obtain ⟨d0, d1, d2⟩ := ope3 HW4.out.2.1
          obtain ⟨z0, z1, z2, z3, z4, z5, z6, z7⟩ := ope8 HW4.out.2.2.1
          clear hb9
          have HE : Hid (R = (zeroE, 2)) := Lib.hid (by rw [← HR.out]; rw [exprS, if_pos ⟨HF.out.1, (Or.inl HT.out), HF.out.2.1⟩, if_neg (by rw [HF.out.2.2]; decide)])
          have HBW := Lib.hid HW4.out.1
          have RY : RowM W4 (gx + 2) ([] ++ ([.int .i64 0, .int .i64 0, .int .u64 0, .int .i64 0, .int .i64 0, .int .i64 0, .int .i64 0, .slice none 0 0] ++ [])) := HW4.out.2.2.2
          obtain ⟨y0, y1, y2, y3, y4, y5, y6, y7⟩ := RowM.cells RY 0 rfl
          obtain ⟨p0, p1, p2, p3, p4, p5, p6, p7⟩ := RowM.thaw RY 0
          simp only [Nat.zero_add] at y1 y2 y3 y4 y5 y6 y7 p1 p2 p3 p4 p5 p6 p7
          have RZ := RowM.put RY 0 rfl (.int .i64 0) (.int .i64 0) (.int .u64 0) (.int .i64 0) (.int .i64 0) (.int .i64 0) (.int .i64 0) (.slice none 0 0)
          have hoz := fun b hb => put_other W4 (gx + 2) 0 (.int .i64 0) (.int .i64 0) (.int .u64 0) (.int .i64 0) (.int .i64 0) (.int .i64 0) (.int .i64 0) (.slice none 0 0) b hb
          simp only [Nat.zero_add] at RZ hoz
          obtain ⟨wz, hwz⟩ : ∃ wz, ((((((((W4.setCell ⟨gx + 2, 0, none⟩ (.int .i64 0)).setCell ⟨gx + 2, 1, none⟩ (.int .i64 0)).setCell ⟨gx + 2, 2, none⟩ (.int .u64 0)).setCell ⟨gx + 2, 3, none⟩ (.int .i64 0)).setCell ⟨gx + 2, 4, none⟩ (.int .i64 0)).setCell ⟨gx + 2, 5, none⟩ (.int .i64 0)).setCell ⟨gx + 2, 6, none⟩ (.int .i64 0)).setCell ⟨gx + 2, 7, none⟩ (.slice none 0 0)) = wz := ⟨_, rfl⟩
          have hsz : wz.heap.size = W4.heap.size := by rw [← hwz]; simp only [World.size_setCell]
          have hbz : Below w.heap.size w wz := by
            have h9 := below_put HBW.out (show w.heap.size ≤ gx + 2 by have := HG.out.1; omega) 0 (.int .i64 0) (.int .i64 0) (.int .u64 0) (.int .i64 0) (.int .i64 0) (.int .i64 0) (.int .i64 0) (.slice none 0 0)
            simp only [Nat.zero_add] at h9
            rw [hwz] at h9
            exact h9
          rw [hwz] at RZ
          simp only [hwz] at hoz
          obtain ⟨t0, t1, t2, t3, t4, t5, t6, t7⟩ := RowM.cells RZ 0 rfl
          simp only [Nat.zero_add] at t1 t2 t3 t4 t5 t6 t7
          have HP : Hid (EP (.returned (.tuple #[.agg #[.int .i64 0, .int .i64 0, .int .u64 0, .int .i64 0, .int .i64 0, .int .i64 0, .int .i64 0, .slice none 0 0], .int .i64 2])) wz) := Lib.hid (by
            rw [HEP.out, HE.out]
            exact ⟨zeroE, rfl, rfl, zeroE_own _ _ _, hbz⟩)
          clear d0 d1 d2 z0 z1 z2 z3 z4 z5 z6 z7
          clear RY RZ hoz hsz hbz
          go_wp2
          (try rw [hwz])
          have hu := Tryd.underlying30
          refine bodyPost_ret (v := .tuple #[.agg #[.int .i64 0, .int .i64 0, .int .u64 0, .int .i64 0, .int .i64 0, .int .i64 0, .int .i64 0, .slice none 0 0], .int .i64 2]) (by simp [results, Tryd.results9, go_sem, hu, t0, t1, t2, t3, t4, t5, t6, t7]) rfl HP.out
        | true =>
          have c0 := HBD.out W3 HW3.out.1
          have c0K := Lib.hid c0
          clear c0
          go_wp2_with fail
          refine c0K.out.mono ?_
          clear c0K d0 d1 d2 z0 z1 z2 z3 z4 z5 z6 z7
          rintro e W4 ⟨rfl, hb9⟩
          have HW4 := Lib.hid (HW3.out.keep hb9)
          obtain ⟨d0, d1, d2⟩ := ope3 HW4.out.2.1
          obtain ⟨z0, z1, z2, z3, z4, z5, z6, z7⟩ := ope8 HW4.out.2.2.1
          clear hb9
          have HWI : Hid (want = 0 ∨ isW want = true) := Lib.hid (Or.inl HT.out)
          have hyb := HC.out W4 HW4.out.1
          have hybK := Lib.hid hyb
          clear hyb
          go_wp2_with fail
          refine hybK.out.mono ?_
          clear hybK d0 d1 d2 z0 z1 z2 z3 z4 z5 z6 z7
          rintro e V1 ⟨y, rfl, hyn, hyo, hb9⟩
          obtain ⟨lo, hlo⟩ : ∃ lo, W4.heap.size = lo := ⟨_, rfl⟩
          obtain ⟨hi, hhi⟩ : ∃ hi, V1.heap.size = hi := ⟨_, rfl⟩
          have hWV := HW4.out.keep hb9
          rw [hlo, hhi] at hyo
          have hlh : lo ≤ hi := by have := hb9.size; omega
          have hgl : gx + 3 ≤ lo := by have := (Array.getElem?_eq_some_iff.1 HW4.out.2.2.2).1; omega
          have hq1 := HF.out.2.1
          have hybk : y.bk ≤ 4500000 := by rw [← (meas_nrm y).2.2, hyn, (meas_nrm _).2.2]; exact HW9.out.1
          have hywf : y.Wf := by rw [← wf_nrm y, hyn, wf_nrm]; exact HW9.out.2
          have hym : mayE gl y = true := by rw [← mayE_nrm, hyn, mayE_nrm]; exact hq1
          have hsz0 : nrmE (szE y want 0).1 = nrmE (szE (ET.mk op wd v sg uh ul xn xa xc xl) want 0).1 ∧ (szE y want 0).2 = (szE (ET.mk op wd v sg uh ul xn xa xc xl) want 0).2 := by
            have e1 := szE_nrm y want 0
            have e2 := szE_nrm (ET.mk op wd v sg uh ul xn xa xc xl) want 0
            rw [hyn, e2] at e1
            simp only [Prod.mk.injEq] at e1
            exact ⟨e1.1.symm, e1.2.symm⟩
          have hok := size_any (sigsMay_wd HF.out.1) y hybk hywf hym 30
          obtain ⟨Q, hQ⟩ : ∃ Q, szE y want 0 = Q := ⟨_, rfl⟩
          rw [hQ] at hsz0
          have HE0 : Hid (R = if Q.2 = 0 then ((szE (ET.mk op wd v sg uh ul xn xa xc xl) want 0).1, 0) else (zeroE, Q.2)) := Lib.hid (by rw [← HR.out, exprS, if_pos ⟨HF.out.1, HWI.out, HF.out.2.1⟩, if_pos HF.out.2.2, hsz0.2])
          obtain ⟨op7, wd7, v7, sg7, uh7, ul7, xn7, xa7, xc7, xl7⟩ := y
          obtain ⟨V2, hV2⟩ : ∃ V2, V1.alloc (.cells #[.int .i64 0] 61 (0, 0)) = V2 := ⟨_, rfl⟩
          have hs2 : V2.heap.size = hi + 1 := by rw [← hV2, World.size_alloc, hhi]
          have hb2 : Below V1.heap.size V1 V2 := by rw [← hV2]; exact (Below.refl _ _).alloc (Nat.le_refl _) _
          have hz2 : SzAt hi 0 V2 := by unfold SzAt; rw [← hV2, ← hhi]; exact World.alloc_heap_new V1 _
          obtain ⟨V3, hV3⟩ : ∃ V3, V2.alloc (.cells #[.int .i64 0, .int .i64 0, .int .u64 0, .int .i64 0, .int .i64 0, .int .i64 0, .int .i64 0, .slice none 0 0] 30 (0, 0)) = V3 := ⟨_, rfl⟩
          have hs3 : V3.heap.size = hi + 2 := by rw [← hV3, World.size_alloc, hs2]
          have hb3 : Below V2.heap.size V2 V3 := by rw [← hV3]; exact (Below.refl _ _).alloc (Nat.le_refl _) _
          have hz3 : SzAt hi 0 V3 := block_kept hz2 hb3
          have hr3 : RowM V3 (hi + 1) ([] ++ ([.int .i64 0, .int .i64 0, .int .u64 0, .int .i64 0, .int .i64 0, .int .i64 0, .int .i64 0, .slice none 0 0] ++ [])) := by
            show V3.heap[hi + 1]? = _
            rw [← hV3, ← hs2]; exact World.alloc_heap_new V2 _
          obtain ⟨V4, hV4⟩ : ∃ V4, V3.setCell ⟨hi, 0, none⟩ (.int .i64 0) = V4 := ⟨_, rfl⟩
          have hz4 : SzAt hi 0 V4 := by rw [← hV4]; exact hz3.set 0
          have ho4 : ∀ k, k ≠ hi → V4.heap[k]? = V3.heap[k]? := fun k hk => by rw [← hV4]; exact Below.heap_setCell V3 ⟨hi, 0, none⟩ _ k hk
          have hr4 := hr3.keep (ho4 (hi + 1) (by omega))
          have hr5 := RowM.put hr4 0 rfl (.int .i64 op7) (.int .i64 wd7) (.int .u64 (v7 : Int)) (.int .i64 sg7) (.int .i64 uh7) (.int .i64 ul7) (.int .i64 xn7) (.slice xa7 xl7.length xc7)
          have ho5 := fun b hb => put_other V4 (hi + 1) 0 (.int .i64 op7) (.int .i64 wd7) (.int .u64 (v7 : Int)) (.int .i64 sg7) (.int .i64 uh7) (.int .i64 ul7) (.int .i64 xn7) (.slice xa7 xl7.length xc7) b hb
          simp only [Nat.zero_add] at hr5 ho5
          obtain ⟨V5, hV5⟩ : ∃ V5, ((((((((V4.setCell ⟨hi + 1, 0, none⟩ (.int .i64 op7)).setCell ⟨hi + 1, 1, none⟩ (.int .i64 wd7)).setCell ⟨hi + 1, 2, none⟩ (.int .u64 (v7 : Int))).setCell ⟨hi + 1, 3, none⟩ (.int .i64 sg7)).setCell ⟨hi + 1, 4, none⟩ (.int .i64 uh7)).setCell ⟨hi + 1, 5, none⟩ (.int .i64 ul7)).setCell ⟨hi + 1, 6, none⟩ (.int .i64 xn7)).setCell ⟨hi + 1, 7, none⟩ (.slice xa7 xl7.length xc7)) = V5 := ⟨_, rfl⟩
          have hs5 : V5.heap.size = hi + 2 := by rw [← hV5]; simp only [World.size_setCell]; rw [← hV4, World.size_setCell, hs3]
          rw [hV5] at hr5
          simp only [hV5] at ho5
          have hz5 : SzAt hi 0 V5 := hz4.keep (ho5 hi (by omega))
          have hk5 : ∀ k, k < hi → V5.heap[k]? = V1.heap[k]? := fun k hk => by rw [ho5 k (by omega), ho4 k (by omega), hb3.block k (by omega), hb2.block k (by omega)]
          have hb5 : Below V1.heap.size V1 V5 := by
            have a1 := hb2.trans (hb3.mono hb2.size)
            have a2 : Below V1.heap.size V1 V4 := by rw [← hV4]; exact a1.setCell (p := ⟨hi, 0, none⟩) (show V1.heap.size ≤ hi by omega) _
            have a3 := below_put a2 (show V1.heap.size ≤ hi + 1 by omega) 0 (.int .i64 op7) (.int .i64 wd7) (.int .u64 (v7 : Int)) (.int .i64 sg7) (.int .i64 uh7) (.int .i64 ul7) (.int .i64 xn7) (.slice xa7 xl7.length xc7)
            simp only [Nat.zero_add] at a3
            rw [hV5] at a3
            exact a3
          have hyo5 : ((ET.mk op7 wd7 v7 sg7 uh7 ul7 xn7 xa7 xc7 xl7) : ET).Own V5 lo hi := hyo.keep _ _ _ (fun k _ h2 => hk5 k h2)
          have hW5 := hWV.keep hb5
          have c1 := hok want hi (hi + 1) 0 lo hi [] [] 0 V5 rfl (by omega) hlh (by omega) (by omega) (by omega) hr5 hyo5 hz5
          rw [hQ] at c1
          have c1K := Lib.hid c1
          have HW5 := Lib.hid (And.intro hW5 (And.intro hs5 (And.intro hlh hgl)))
          have HNR := Lib.hid (And.intro hsz0.1 hQ)
          have HH := Lib.hid (And.intro hhi hs2)
          obtain ⟨u0, u1, u2, u3, u4, u5, u6, u7⟩ := RowM.cells hr4 0 rfl
          obtain ⟨m0, m1, m2, m3, m4, m5, m6, m7⟩ := RowM.thaw hr4 0
          simp only [Nat.zero_add] at u1 u2 u3 u4 u5 u6 u7 m1 m2 m3 m4 m5 m6 m7
          have v0 := hz3.cell
          have v1 := hz3.frozen
          clear hyn hyo hb9 hWV hlh hgl hq1 hybk hywf hym hsz0 hok hQ hb2 hz2 hs3 hb3 hz3 hr3 hz4 ho4 hr4 hr5 ho5 hs5 hz5 hk5 hb5 hyo5 hW5 c1
          simp only [ET.val, ET.cells]
          go_upto_region 6 with (fail)
          (try rw [hV2])
          (try rw [hhi])
          (try rw [hV3])
          (try rw [hs2])
          (try rw [hV4])
          (try rw [hV5])
          clear hV2 hV3 hV4 hV5 hhi hs2 u0 u1 u2 u3 u4 u5 u6 u7 m0 m1 m2 m3 m4 m5 m6 m7 v0 v1 hlo
          go_wp2_with fail
          refine c1K.out.mono ?_
          clear c1K
          rintro e V6 ⟨rfl, k6, r6, o6, s6⟩
          have hb6 : Below w.heap.size w V6 := HW5.out.1.1.trans ⟨k6.os, k6.tape, k6.output, k6.size, fun k hk => k6.block k (by have := HW5.out.1.1.size; omega) (by unfold Chg; have := HW5.out.2.2; have := HG.out.1; omega)⟩
          have hrr : V6.heap[gx + 2]? = some (.cells #[.int .i64 0, .int .i64 0, .int .u64 0, .int .i64 0, .int .i64 0, .int .i64 0, .int .i64 0, .slice none 0 0] 30 (0, 0)) := (k6.block (gx + 2) (by have := HW5.out.2; omega) (by unfold Chg; have := HW5.out.2.2; omega)).trans HW5.out.1.2.2.2
          have HBW := Lib.hid hb6
          have f0 := s6.cell
          have HO6 := Lib.hid (And.intro o6 (And.intro hrr s6))
          have hs6 : hi ≤ V6.heap.size := by have := k6.size; have := HW5.out.2; omega
          have HS6 := Lib.hid hs6
          obtain ⟨Q1, Q2⟩ := Q
          obtain ⟨op9, wd9, v9, sg9, uh9, ul9, xn9, xa9, xc9, xl9⟩ := Q1
          simp only at f0 r6 HE0 HNR HO6 s6
          simp only [ET.cells] at r6
          obtain ⟨n0, n1, n2, n3, n4, n5, n6, n7⟩ := RowM.cells r6 0 rfl
          simp only [Nat.zero_add] at n1 n2 n3 n4 n5 n6 n7
          clear k6 r6 o6 s6 hb6 hrr hs6
          by_cases t9 : Q2 = 0
          · subst t9
            have e9 : ((0 : Int) != 0) = false := rfl
            have HE : Hid (R = ((szE (ET.mk op wd v sg uh ul xn xa xc xl) want 0).1, 0)) := Lib.hid (by rw [HE0.out, if_pos rfl])
            have RY : RowM V6 (gx + 2) ([] ++ ([.int .i64 0, .int .i64 0, .int .u64 0, .int .i64 0, .int .i64 0, .int .i64 0, .int .i64 0, .slice none 0 0] ++ [])) := HO6.out.2.1
            obtain ⟨y0, y1, y2, y3, y4, y5, y6, y7⟩ := RowM.cells RY 0 rfl
            obtain ⟨p0, p1, p2, p3, p4, p5, p6, p7⟩ := RowM.thaw RY 0
            simp only [Nat.zero_add] at y1 y2 y3 y4 y5 y6 y7 p1 p2 p3 p4 p5 p6 p7
            have RZ := RowM.put RY 0 rfl (.int .i64 op9) (.int .i64 wd9) (.int .u64 (v9 : Int)) (.int .i64 sg9) (.int .i64 uh9) (.int .i64 ul9) (.int .i64 xn9) (.slice xa9 xl9.length xc9)
            have hoz := fun b hb => put_other V6 (gx + 2) 0 (.int .i64 op9) (.int .i64 wd9) (.int .u64 (v9 : Int)) (.int .i64 sg9) (.int .i64 uh9) (.int .i64 ul9) (.int .i64 xn9) (.slice xa9 xl9.length xc9) b hb
            simp only [Nat.zero_add] at RZ hoz
            obtain ⟨wz, hwz⟩ : ∃ wz, ((((((((V6.setCell ⟨gx + 2, 0, none⟩ (.int .i64 op9)).setCell ⟨gx + 2, 1, none⟩ (.int .i64 wd9)).setCell ⟨gx + 2, 2, none⟩ (.int .u64 (v9 : Int))).setCell ⟨gx + 2, 3, none⟩ (.int .i64 sg9)).setCell ⟨gx + 2, 4, none⟩ (.int .i64 uh9)).setCell ⟨gx + 2, 5, none⟩ (.int .i64 ul9)).setCell ⟨gx + 2, 6, none⟩ (.int .i64 xn9)).setCell ⟨gx + 2, 7, none⟩ (.slice xa9 xl9.length xc9)) = wz := ⟨_, rfl⟩
            have hsz : wz.heap.size = V6.heap.size := by rw [← hwz]; simp only [World.size_setCell]
            have hbz : Below w.heap.size w wz := by
              have h9 := below_put HBW.out (show w.heap.size ≤ gx + 2 by have := HG.out.1; omega) 0 (.int .i64 op9) (.int .i64 wd9) (.int .u64 (v9 : Int)) (.int .i64 sg9) (.int .i64 uh9) (.int .i64 ul9) (.int .i64 xn9) (.slice xa9 xl9.length xc9)
              simp only [Nat.zero_add] at h9
              rw [hwz] at h9
              exact h9
            rw [hwz] at RZ
            simp only [hwz] at hoz
            obtain ⟨t0, t1, t2, t3, t4, t5, t6, t7⟩ := RowM.cells RZ 0 rfl
            simp only [Nat.zero_add] at t1 t2 t3 t4 t5 t6 t7
            have HP : Hid (EP (.returned (.tuple #[.agg #[.int .i64 op9, .int .i64 wd9, .int .u64 (v9 : Int), .int .i64 sg9, .int .i64 uh9, .int .i64 ul9, .int .i64 xn9, .slice xa9 xl9.length xc9], .int .i64 0])) wz) := Lib.hid (by
              rw [HEP.out, HE.out]
              refine ⟨(ET.mk op9 wd9 v9 sg9 uh9 ul9 xn9 xa9 xc9 xl9), rfl, HNR.out.1, ?_, hbz⟩
              have h1 : ((ET.mk op9 wd9 v9 sg9 uh9 ul9 xn9 xa9 xc9 xl9) : ET).Own wz lo hi := HO6.out.1.keep _ _ _ (fun k h1 h2 => hoz k (by have := HW5.out.2.2; omega))
              exact h1.wider (by have := HW5.out.2.2; have := HG.out.1; omega) (by rw [hsz]; exact HS6.out))
            clear RY RZ hoz hsz hbz
            go_wp2
            (try rw [hwz])
            have hu := Tryd.underlying30
            refine bodyPost_ret (v := .tuple #[.agg #[.int .i64 op9, .int .i64 wd9, .int .u64 (v9 : Int), .int .i64 sg9, .int .i64 uh9, .int .i64 ul9, .int .i64 xn9, .slice xa9 xl9.length xc9], .int .i64 0]) (by simp [results, Tryd.results9, go_sem, hu, t0, t1, t2, t3, t4, t5, t6, t7]) rfl HP.out
          · have e9 : (Q2 != 0) = true := by rw [bne_iff_ne]; exact t9
            have HE : Hid (R = (zeroE, Q2)) := Lib.hid (by rw [HE0.out, if_neg t9])
            have RY : RowM V6 (gx + 2) ([] ++ ([.int .i64 0, .int .i64 0, .int .u64 0, .int .i64 0, .int .i64 0, .int .i64 0, .int .i64 0, .slice none 0 0] ++ [])) := HO6.out.2.1
            obtain ⟨y0, y1, y2, y3, y4, y5, y6, y7⟩ := RowM.cells RY 0 rfl
            obtain ⟨p0, p1, p2, p3, p4, p5, p6, p7⟩ := RowM.thaw RY 0
            simp only [Nat.zero_add] at y1 y2 y3 y4 y5 y6 y7 p1 p2 p3 p4 p5 p6 p7
            have RZ := RowM.put RY 0 rfl (.int .i64 0) (.int .i64 0) (.int .u64 0) (.int .i64 0) (.int .i64 0) (.int .i64 0) (.int .i64 0) (.slice none 0 0)
            have hoz := fun b hb => put_other V6 (gx + 2) 0 (.int .i64 0) (.int .i64 0) (.int .u64 0) (.int .i64 0) (.int .i64 0) (.int .i64 0) (.int .i64 0) (.slice none 0 0) b hb
            simp only [Nat.zero_add] at RZ hoz
            obtain ⟨wz, hwz⟩ : ∃ wz, ((((((((V6.setCell ⟨gx + 2, 0, none⟩ (.int .i64 0)).setCell ⟨gx + 2, 1, none⟩ (.int .i64 0)).setCell ⟨gx + 2, 2, none⟩ (.int .u64 0)).setCell ⟨gx + 2, 3, none⟩ (.int .i64 0)).setCell ⟨gx + 2, 4, none⟩ (.int .i64 0)).setCell ⟨gx + 2, 5, none⟩ (.int .i64 0)).setCell ⟨gx + 2, 6, none⟩ (.int .i64 0)).setCell ⟨gx + 2, 7, none⟩ (.slice none 0 0)) = wz := ⟨_, rfl⟩
            have hsz : wz.heap.size = V6.heap.size := by rw [← hwz]; simp only [World.size_setCell]
            have hbz : Below w.heap.size w wz := by
              have h9 := below_put HBW.out (show w.heap.size ≤ gx + 2 by have := HG.out.1; omega) 0 (.int .i64 0) (.int .i64 0) (.int .u64 0) (.int .i64 0) (.int .i64 0) (.int .i64 0) (.int .i64 0) (.slice none 0 0)
              simp only [Nat.zero_add] at h9
              rw [hwz] at h9
              exact h9
            rw [hwz] at RZ
            simp only [hwz] at hoz
            obtain ⟨t0, t1, t2, t3, t4, t5, t6, t7⟩ := RowM.cells RZ 0 rfl
            simp only [Nat.zero_add] at t1 t2 t3 t4 t5 t6 t7
            have f1 : wz.cell? ⟨hi, 0, none⟩ = some (.int .i64 Q2) := (HO6.out.2.2.keep (hoz hi (by have := HW5.out.2.2; omega))).cell
            have HP : Hid (EP (.returned (.tuple #[.agg #[.int .i64 0, .int .i64 0, .int .u64 0, .int .i64 0, .int .i64 0, .int .i64 0, .int .i64 0, .slice none 0 0], .int .i64 Q2])) wz.drew) := Lib.hid (by
              rw [HEP.out, HE.out]
              exact ⟨zeroE, rfl, rfl, zeroE_own _ _ _, ⟨hbz.os, hbz.tape, hbz.output, hbz.size, hbz.block⟩⟩)
            clear t9
            clear RY RZ hoz hsz hbz
            go_upto_region 8 with (fail)
            go_region
            all_goals go_wp2
            (try rw [hwz])
            have hu := Tryd.underlying30
            refine bodyPost_ret (v := .tuple #[.agg #[.int .i64 0, .int .i64 0, .int .u64 0, .int .i64 0, .int .i64 0, .int .i64 0, .int .i64 0, .slice none 0 0], .int .i64 Q2]) (by simp [results, Tryd.results9, go_sem, hu, t0, t1, t2, t3, t4, t5, t6, t7]) rfl HP.out
    · have e1 : (want != 0) = true := by rw [bne_iff_ne]; exact t1
      have ci := isWidth_any want W2
      obtain ⟨IW, hIW⟩ : ∃ b, isW want = b := ⟨_, rfl⟩
      rw [hIW] at ci
      have HI := Lib.hid (And.intro t1 hIW)
      clear t1 hIW
      cases IW with
      | false =>
        go_wp2_with fail
        refine ci.mono ?_
        clear ci
        rintro e W9 ⟨rfl, rfl⟩
        have HE : Hid (R = (zeroE, 1)) := Lib.hid (by rw [← HR.out]; rw [exprS, if_neg (fun h => by rcases h.2.1 with q | q; exact HI.out.1 q; rw [HI.out.2] at q; cases q)])
        have HBW := Lib.hid HW2.out.1
        have RY : RowM W2 (gx + 2) ([] ++ ([.int .i64 0, .int .i64 0, .int .u64 0, .int .i64 0, .int .i64 0, .int .i64 0, .int .i64 0, .slice none 0 0] ++ [])) := HW2.out.2.2.2
        obtain ⟨y0, y1, y2, y3, y4, y5, y6, y7⟩ := RowM.cells RY 0 rfl
        obtain ⟨p0, p1, p2, p3, p4, p5, p6, p7⟩ := RowM.thaw RY 0
        simp only [Nat.zero_add] at y1 y2 y3 y4 y5 y6 y7 p1 p2 p3 p4 p5 p6 p7
        have RZ := RowM.put RY 0 rfl (.int .i64 0) (.int .i64 0) (.int .u64 0) (.int .i64 0) (.int .i64 0) (.int .i64 0) (.int .i64 0) (.slice none 0 0)
        have hoz := fun b hb => put_other W2 (gx + 2) 0 (.int .i64 0) (.int .i64 0) (.int .u64 0) (.int .i64 0) (.int .i64 0) (.int .i64 0) (.int .i64 0) (.slice none 0 0) b hb
        simp only [Nat.zero_add] at RZ hoz
        obtain ⟨wz, hwz⟩ : ∃ wz, ((((((((W2.setCell ⟨gx + 2, 0, none⟩ (.int .i64 0)).setCell ⟨gx + 2, 1, none⟩ (.int .i64 0)).setCell ⟨gx + 2, 2, none⟩ (.int .u64 0)).setCell ⟨gx + 2, 3, none⟩ (.int .i64 0)).setCell ⟨gx + 2, 4, none⟩ (.int .i64 0)).setCell ⟨gx + 2, 5, none⟩ (.int .i64 0)).setCell ⟨gx + 2, 6, none⟩ (.int .i64 0)).setCell ⟨gx + 2, 7, none⟩ (.slice none 0 0)) = wz := ⟨_, rfl⟩
        have hsz : wz.heap.size = W2.heap.size := by rw [← hwz]; simp only [World.size_setCell]
        have hbz : Below w.heap.size w wz := by
          have h9 := below_put HBW.out (show w.heap.size ≤ gx + 2 by have := HG.out.1; omega) 0 (.int .i64 0) (.int .i64 0) (.int .u64 0) (.int .i64 0) (.int .i64 0) (.int .i64 0) (.int .i64 0) (.slice none 0 0)
          simp only [Nat.zero_add] at h9
          rw [hwz] at h9
          exact h9
        rw [hwz] at RZ
        simp only [hwz] at hoz
        obtain ⟨t0, t1, t2, t3, t4, t5, t6, t7⟩ := RowM.cells RZ 0 rfl
        simp only [Nat.zero_add] at t1 t2 t3 t4 t5 t6 t7
        have HP : Hid (EP (.returned (.tuple #[.agg #[.int .i64 0, .int .i64 0, .int .u64 0, .int .i64 0, .int .i64 0, .int .i64 0, .int .i64 0, .slice none 0 0], .int .i64 1])) wz) := Lib.hid (by
          rw [HEP.out, HE.out]
          exact ⟨zeroE, rfl, rfl, zeroE_own _ _ _, hbz⟩)
        clear d0 d1 d2 z0 z1 z2 z3 z4 z5 z6 z7
        clear RY RZ hoz hsz hbz
        go_wp2
        (try rw [hwz])
        have hu := Tryd.underlying30
        refine bodyPost_ret (v := .tuple #[.agg #[.int .i64 0, .int .i64 0, .int .u64 0, .int .i64 0, .int .i64 0, .int .i64 0, .int .i64 0, .slice none 0 0], .int .i64 1]) (by simp [results, Tryd.results9, go_sem, hu, t0, t1, t2, t3, t4, t5, t6, t7]) rfl HP.out
      | true =>
        go_wp2_with fail
        refine ci.mono ?_
        clear ci
        rintro e W9 ⟨rfl, rfl⟩
        cases ME with
        | false =>
          have c0 := HM.out W2 HW2.out.1
          have c0K := Lib.hid c0
          clear c0
          go_wp2_with fail
          refine c0K.out.mono ?_
          clear c0K d0 d1 d2 z0 z1 z2 z3 z4 z5 z6 z7
          rintro e W3 ⟨rfl, hb9⟩
          have HW3 := Lib.hid (HW2.out.keep hb9)
          obtain ⟨d0, d1, d2⟩ := ope3 HW3.out.2.1
          obtain ⟨z0, z1, z2, z3, z4, z5, z6, z7⟩ := ope8 HW3.out.2.2.1
          clear hb9
          have HE : Hid (R = (zeroE, 1)) := Lib.hid (by rw [← HR.out]; rw [exprS, if_neg (fun h => by have := HF.out.2.1; rw [h.2.2] at this; cases this)])
          have HBW := Lib.hid HW3.out.1
          have RY : RowM W3 (gx + 2) ([] ++ ([.int .i64 0, .int .i64 0, .int .u64 0, .int .i64 0, .int .i64 0, .int .i64 0, .int .i64 0, .slice none 0 0] ++ [])) := HW3.out.2.2.2
          obtain ⟨y0, y1, y2, y3, y4, y5, y6, y7⟩ := RowM.cells RY 0 rfl
          obtain ⟨p0, p1, p2, p3, p4, p5, p6, p7⟩ := RowM.thaw RY 0
          simp only [Nat.zero_add] at y1 y2 y3 y4 y5 y6 y7 p1 p2 p3 p4 p5 p6 p7
          have RZ := RowM.put RY 0 rfl (.int .i64 0) (.int .i64 0) (.int .u64 0) (.int .i64 0) (.int .i64 0) (.int .i64 0) (.int .i64 0) (.slice none 0 0)
          have hoz := fun b hb => put_other W3 (gx + 2) 0 (.int .i64 0) (.int .i64 0) (.int .u64 0) (.int .i64 0) (.int .i64 0) (.int .i64 0) (.int .i64 0) (.slice none 0 0) b hb
          simp only [Nat.zero_add] at RZ hoz
          obtain ⟨wz, hwz⟩ : ∃ wz, ((((((((W3.setCell ⟨gx + 2, 0, none⟩ (.int .i64 0)).setCell ⟨gx + 2, 1, none⟩ (.int .i64 0)).setCell ⟨gx + 2, 2, none⟩ (.int .u64 0)).setCell ⟨gx + 2, 3, none⟩ (.int .i64 0)).setCell ⟨gx + 2, 4, none⟩ (.int .i64 0)).setCell ⟨gx + 2, 5, none⟩ (.int .i64 0)).setCell ⟨gx + 2, 6, none⟩ (.int .i64 0)).setCell ⟨gx + 2, 7, none⟩ (.slice none 0 0)) = wz := ⟨_, rfl⟩
          have hsz : wz.heap.size = W3.heap.size := by rw [← hwz]; simp only [World.size_setCell]
          have hbz : Below w.heap.size w wz := by
            have h9 := below_put HBW.out (show w.heap.size ≤ gx + 2 by have := HG.out.1; omega) 0 (.int .i64 0) (.int .i64 0) (.int .u64 0) (.int .i64 0) (.int .i64 0) (.int .i64 0) (.int .i64 0) (.slice none 0 0)
            simp only [Nat.zero_add] at h9
            rw [hwz] at h9
            exact h9
          rw [hwz] at RZ
          simp only [hwz] at hoz
          obtain ⟨t0, t1, t2, t3, t4, t5, t6, t7⟩ := RowM.cells RZ 0 rfl
          simp only [Nat.zero_add] at t1 t2 t3 t4 t5 t6 t7
          have HP : Hid (EP (.returned (.tuple #[.agg #[.int .i64 0, .int .i64 0, .int .u64 0, .int .i64 0, .int .i64 0, .int .i64 0, .int .i64 0, .slice none 0 0], .int .i64 1])) wz) := Lib.hid (by
            rw [HEP.out, HE.out]
            exact ⟨zeroE, rfl, rfl, zeroE_own _ _ _, hbz⟩)
          clear d0 d1 d2 z0 z1 z2 z3 z4 z5 z6 z7
          clear RY RZ hoz hsz hbz
          go_wp2
          (try rw [hwz])
          have hu := Tryd.underlying30
          refine bodyPost_ret (v := .tuple #[.agg #[.int .i64 0, .int .i64 0, .int .u64 0, .int .i64 0, .int .i64 0, .int .i64 0, .int .i64 0, .slice none 0 0], .int .i64 1]) (by simp [results, Tryd.results9, go_sem, hu, t0, t1, t2, t3, t4, t5, t6, t7]) rfl HP.out
        | true =>
          have c0 := HM.out W2 HW2.out.1
          have c0K := Lib.hid c0
          clear c0
          go_wp2_with fail
          refine c0K.out.mono ?_
          clear c0K d0 d1 d2 z0 z1 z2 z3 z4 z5 z6 z7
          rintro e W3 ⟨rfl, hb9⟩
          have HW3 := Lib.hid (HW2.out.keep hb9)
          obtain ⟨d0, d1, d2⟩ := ope3 HW3.out.2.1
          obtain ⟨z0, z1, z2, z3, z4, z5, z6, z7⟩ := ope8 HW3.out.2.2.1
          clear hb9
          cases OB with
          | false =>
            have c0 := HBD.out W3 HW3.out.1
            have c0K := Lib.hid c0
            clear c0
            go_wp2_with fail
            refine c0K.out.mono ?_
            clear c0K d0 d1 d2 z0 z1 z2 z3 z4 z5 z6 z7
            rintro e W4 ⟨rfl, hb9⟩
            have HW4 := Lib.hid (HW3.out.keep hb9)
            obtain ⟨d0, d1, d2⟩ := ope3 HW4.out.2.1
            obtain ⟨z0, z1, z2, z3, z4, z5, z6, z7⟩ := ope8 HW4.out.2.2.1
            clear hb9
            have HE : Hid (R = (zeroE, 2)) := Lib.hid (by rw [← HR.out]; rw [exprS, if_pos ⟨HF.out.1, (Or.inr HI.out.2), HF.out.2.1⟩, if_neg (by rw [HF.out.2.2]; decide)])
            have HBW := Lib.hid HW4.out.1
            have RY : RowM W4 (gx + 2) ([] ++ ([.int .i64 0, .int .i64 0, .int .u64 0, .int .i64 0, .int .i64 0, .int .i64 0, .int .i64 0, .slice none 0 0] ++ [])) := HW4.out.2.2.2
            obtain ⟨y0, y1, y2, y3, y4, y5, y6, y7⟩ := RowM.cells RY 0 rfl
            obtain ⟨p0, p1, p2, p3, p4, p5, p6, p7⟩ := RowM.thaw RY 0
            simp only [Nat.zero_add] at y1 y2 y3 y4 y5 y6 y7 p1 p2 p3 p4 p5 p6 p7
            have RZ := RowM.put RY 0 rfl (.int .i64 0) (.int .i64 0) (.int .u64 0) (.int .i64 0) (.int .i64 0) (.int .i64 0) (.int .i64 0) (.slice none 0 0)
            have hoz := fun b hb => put_other W4 (gx + 2) 0 (.int .i64 0) (.int .i64 0) (.int .u64 0) (.int .i64 0) (.int .i64 0) (.int .i64 0) (.int .i64 0) (.slice none 0 0) b hb
            simp only [Nat.zero_add] at RZ hoz
            obtain ⟨wz, hwz⟩ : ∃ wz, ((((((((W4.setCell ⟨gx + 2, 0, none⟩ (.int .i64 0)).setCell ⟨gx + 2, 1, none⟩ (.int .i64 0)).setCell ⟨gx + 2, 2, none⟩ (.int .u64 0)).setCell ⟨gx + 2, 3, none⟩ (.int .i64 0)).setCell ⟨gx + 2, 4, none⟩ (.int .i64 0)).setCell ⟨gx + 2, 5, none⟩ (.int .i64 0)).setCell ⟨gx + 2, 6, none⟩ (.int .i64 0)).setCell ⟨gx + 2, 7, none⟩ (.slice none 0 0)) = wz := ⟨_, rfl⟩
            have hsz : wz.heap.size = W4.heap.size := by rw [← hwz]; simp only [World.size_setCell]
            have hbz : Below w.heap.size w wz := by
              have h9 := below_put HBW.out (show w.heap.size ≤ gx + 2 by have := HG.out.1; omega) 0 (.int .i64 0) (.int .i64 0) (.int .u64 0) (.int .i64 0) (.int .i64 0) (.int .i64 0) (.int .i64 0) (.slice none 0 0)
              simp only [Nat.zero_add] at h9
              rw [hwz] at h9
              exact h9
            rw [hwz] at RZ
            simp only [hwz] at hoz
            obtain ⟨t0, t1, t2, t3, t4, t5, t6, t7⟩ := RowM.cells RZ 0 rfl
            simp only [Nat.zero_add] at t1 t2 t3 t4 t5 t6 t7
            have HP : Hid (EP (.returned (.tuple #[.agg #[.int .i64 0, .int .i64 0, .int .u64 0, .int .i64 0, .int .i64 0, .int .i64 0, .int .i64 0, .slice none 0 0], .int .i64 2])) wz) := Lib.hid (by
              rw [HEP.out, HE.out]
              exact ⟨zeroE, rfl, rfl, zeroE_own _ _ _, hbz⟩)
            clear d0 d1 d2 z0 z1 z2 z3 z4 z5 z6 z7
            clear RY RZ hoz hsz hbz
            go_wp2
            (try rw [hwz])
            have hu := Tryd.underlying30
            refine bodyPost_ret (v := .tuple #[.agg #[.int .i64 0, .int .i64 0, .int .u64 0, .int .i64 0, .int .i64 0, .int .i64 0, .int .i64 0, .slice none 0 0], .int .i64 2]) (by simp [results, Tryd.results9, go_sem, hu, t0, t1, t2, t3, t4, t5, t6, t7]) rfl HP.out
          | true =>
            have c0 := HBD.out W3 HW3.out.1
            have c0K := Lib.hid c0
            clear c0
            go_wp2_with fail
            refine c0K.out.mono ?_
            clear c0K d0 d1 d2 z0 z1 z2 z3 z4 z5 z6 z7
            rintro e W4 ⟨rfl, hb9⟩
            have HW4 := Lib.hid (HW3.out.keep hb9)
            obtain ⟨d0, d1, d2⟩ := ope3 HW4.out.2.1
            obtain ⟨z0, z1, z2, z3, z4, z5, z6, z7⟩ := ope8 HW4.out.2.2.1
            clear hb9
            have HWI : Hid (want = 0 ∨ isW want = true) := Lib.hid (Or.inr HI.out.2)
            have hyb := HC.out W4 HW4.out.1
            have hybK := Lib.hid hyb
            clear hyb
            go_wp2_with fail
            refine hybK.out.mono ?_
            clear hybK d0 d1 d2 z0 z1 z2 z3 z4 z5 z6 z7
            rintro e V1 ⟨y, rfl, hyn, hyo, hb9⟩
            obtain ⟨lo, hlo⟩ : ∃ lo, W4.heap.size = lo := ⟨_, rfl⟩
            obtain ⟨hi, hhi⟩ : ∃ hi, V1.heap.size = hi := ⟨_, rfl⟩
            have hWV := HW4.out.keep hb9
            rw [hlo, hhi] at hyo
            have hlh : lo ≤ hi := by have := hb9.size; omega
            have hgl : gx + 3 ≤ lo := by have := (Array.getElem?_eq_some_iff.1 HW4.out.2.2.2).1; omega
            have hq1 := HF.out.2.1
            have hybk : y.bk ≤ 4500000 := by rw [← (meas_nrm y).2.2, hyn, (meas_nrm _).2.2]; exact HW9.out.1
            have hywf : y.Wf := by rw [← wf_nrm y, hyn, wf_nrm]; exact HW9.out.2
            have hym : mayE gl y = true := by rw [← mayE_nrm, hyn, mayE_nrm]; exact hq1
            have hsz0 : nrmE (szE y want 0).1 = nrmE (szE (ET.mk op wd v sg uh ul xn xa xc xl) want 0).1 ∧ (szE y want 0).2 = (szE (ET.mk op wd v sg uh ul xn xa xc xl) want 0).2 := by
              have e1 := szE_nrm y want 0
              have e2 := szE_nrm (ET.mk op wd v sg uh ul xn xa xc xl) want 0
              rw [hyn, e2] at e1
              simp only [Prod.mk.injEq] at e1
              exact ⟨e1.1.symm, e1.2.symm⟩
            have hok := size_any (sigsMay_wd HF.out.1) y hybk hywf hym 30
            obtain ⟨Q, hQ⟩ : ∃ Q, szE y want 0 = Q := ⟨_, rfl⟩
            rw [hQ] at hsz0
            have HE0 : Hid (R = if Q.2 = 0 then ((szE (ET.mk op wd v sg uh ul xn xa xc xl) want 0).1, 0) else (zeroE, Q.2)) := Lib.hid (by rw [← HR.out, exprS, if_pos ⟨HF.out.1, HWI.out, HF.out.2.1⟩, if_pos HF.out.2.2, hsz0.2])
            obtain ⟨op7, wd7, v7, sg7, uh7, ul7, xn7, xa7, xc7, xl7⟩ := y
            obtain ⟨V2, hV2⟩ : ∃ V2, V1.alloc (.cells #[.int .i64 0] 61 (0, 0)) = V2 := ⟨_, rfl⟩
            have hs2 : V2.heap.size = hi + 1 := by rw [← hV2, World.size_alloc, hhi]
            have hb2 : Below V1.heap.size V1 V2 := by rw [← hV2]; exact (Below.refl _ _).alloc (Nat.le_refl _) _
            have hz2 : SzAt hi 0 V2 := by unfold SzAt; rw [← hV2, ← hhi]; exact World.alloc_heap_new V1 _
            obtain ⟨V3, hV3⟩ : ∃ V3, V2.alloc (.cells #[.int .i64 0, .int .i64 0, .int .u64 0, .int .i64 0, .int .i64 0, .int .i64 0, .int .i64 0, .slice none 0 0] 30 (0, 0)) = V3 := ⟨_, rfl⟩
            have hs3 : V3.heap.size = hi + 2 := by rw [← hV3, World.size_alloc, hs2]
            have hb3 : Below V2.heap.size V2 V3 := by rw [← hV3]; exact (Below.refl _ _).alloc (Nat.le_refl _) _
            have hz3 : SzAt hi 0 V3 := block_kept hz2 hb3
            have hr3 : RowM V3 (hi + 1) ([] ++ ([.int .i64 0, .int .i64 0, .int .u64 0, .int .i64 0, .int .i64 0, .int .i64 0, .int .i64 0, .slice none 0 0] ++ [])) := by
              show V3.heap[hi + 1]? = _
              rw [← hV3, ← hs2]; exact World.alloc_heap_new V2 _
            obtain ⟨V4, hV4⟩ : ∃ V4, V3.setCell ⟨hi, 0, none⟩ (.int .i64 0) = V4 := ⟨_, rfl⟩
            have hz4 : SzAt hi 0 V4 := by rw [← hV4]; exact hz3.set 0
            have ho4 : ∀ k, k ≠ hi → V4.heap[k]? = V3.heap[k]? := fun k hk => by rw [← hV4]; exact Below.heap_setCell V3 ⟨hi, 0, none⟩ _ k hk
            have hr4 := hr3.keep (ho4 (hi + 1) (by omega))
            have hr5 := RowM.put hr4 0 rfl (.int .i64 op7) (.int .i64 wd7) (.int .u64 (v7 : Int)) (.int .i64 sg7) (.int .i64 uh7) (.int .i64 ul7) (.int .i64 xn7) (.slice xa7 xl7.length xc7)
            have ho5 := fun b hb => put_other V4 (hi + 1) 0 (.int .i64 op7) (.int .i64 wd7) (.int .u64 (v7 : Int)) (.int .i64 sg7) (.int .i64 uh7) (.int .i64 ul7) (.int .i64 xn7) (.slice xa7 xl7.length xc7) b hb
            simp only [Nat.zero_add] at hr5 ho5
            obtain ⟨V5, hV5⟩ : ∃ V5, ((((((((V4.setCell ⟨hi + 1, 0, none⟩ (.int .i64 op7)).setCell ⟨hi + 1, 1, none⟩ (.int .i64 wd7)).setCell ⟨hi + 1, 2, none⟩ (.int .u64 (v7 : Int))).setCell ⟨hi + 1, 3, none⟩ (.int .i64 sg7)).setCell ⟨hi + 1, 4, none⟩ (.int .i64 uh7)).setCell ⟨hi + 1, 5, none⟩ (.int .i64 ul7)).setCell ⟨hi + 1, 6, none⟩ (.int .i64 xn7)).setCell ⟨hi + 1, 7, none⟩ (.slice xa7 xl7.length xc7)) = V5 := ⟨_, rfl⟩
            have hs5 : V5.heap.size = hi + 2 := by rw [← hV5]; simp only [World.size_setCell]; rw [← hV4, World.size_setCell, hs3]
            rw [hV5] at hr5
            simp only [hV5] at ho5
            have hz5 : SzAt hi 0 V5 := hz4.keep (ho5 hi (by omega))
            have hk5 : ∀ k, k < hi → V5.heap[k]? = V1.heap[k]? := fun k hk => by rw [ho5 k (by omega), ho4 k (by omega), hb3.block k (by omega), hb2.block k (by omega)]
            have hb5 : Below V1.heap.size V1 V5 := by
              have a1 := hb2.trans (hb3.mono hb2.size)
              have a2 : Below V1.heap.size V1 V4 := by rw [← hV4]; exact a1.setCell (p := ⟨hi, 0, none⟩) (show V1.heap.size ≤ hi by omega) _
              have a3 := below_put a2 (show V1.heap.size ≤ hi + 1 by omega) 0 (.int .i64 op7) (.int .i64 wd7) (.int .u64 (v7 : Int)) (.int .i64 sg7) (.int .i64 uh7) (.int .i64 ul7) (.int .i64 xn7) (.slice xa7 xl7.length xc7)
              simp only [Nat.zero_add] at a3
              rw [hV5] at a3
              exact a3
            have hyo5 : ((ET.mk op7 wd7 v7 sg7 uh7 ul7 xn7 xa7 xc7 xl7) : ET).Own V5 lo hi := hyo.keep _ _ _ (fun k _ h2 => hk5 k h2)
            have hW5 := hWV.keep hb5
            have c1 := hok want hi (hi + 1) 0 lo hi [] [] 0 V5 rfl (by omega) hlh (by omega) (by omega) (by omega) hr5 hyo5 hz5
            rw [hQ] at c1
            have c1K := Lib.hid c1
            have HW5 := Lib.hid (And.intro hW5 (And.intro hs5 (And.intro hlh hgl)))
            have HNR := Lib.hid (And.intro hsz0.1 hQ)
            have HH := Lib.hid (And.intro hhi hs2)
            obtain ⟨u0, u1, u2, u3, u4, u5, u6, u7⟩ := RowM.cells hr4 0 rfl
            obtain ⟨m0, m1, m2, m3, m4, m5, m6, m7⟩ := RowM.thaw hr4 0
            simp only [Nat.zero_add] at u1 u2 u3 u4 u5 u6 u7 m1 m2 m3 m4 m5 m6 m7
            have v0 := hz3.cell
            have v1 := hz3.frozen
            clear hyn hyo hb9 hWV hlh hgl hq1 hybk hywf hym hsz0 hok hQ hb2 hz2 hs3 hb3 hz3 hr3 hz4 ho4 hr4 hr5 ho5 hs5 hz5 hk5 hb5 hyo5 hW5 c1
            simp only [ET.val, ET.cells]
            go_upto_region 6 with (fail)
            (try rw [hV2])
            (try rw [hhi])
            (try rw [hV3])
            (try rw [hs2])
            (try rw [hV4])
            (try rw [hV5])
            clear hV2 hV3 hV4 hV5 hhi hs2 u0 u1 u2 u3 u4 u5 u6 u7 m0 m1 m2 m3 m4 m5 m6 m7 v0 v1 hlo
            go_wp2_with fail
            refine c1K.out.mono ?_
            clear c1K
            rintro e V6 ⟨rfl, k6, r6, o6, s6⟩
            have hb6 : Below w.heap.size w V6 := HW5.out.1.1.trans ⟨k6.os, k6.tape, k6.output, k6.size, fun k hk => k6.block k (by have := HW5.out.1.1.size; omega) (by unfold Chg; have := HW5.out.2.2; have := HG.out.1; omega)⟩
            have hrr : V6.heap[gx + 2]? = some (.cells #[.int .i64 0, .int .i64 0, .int .u64 0, .int .i64 0, .int .i64 0, .int .i64 0, .int .i64 0, .slice none 0 0] 30 (0, 0)) := (k6.block (gx + 2) (by have := HW5.out.2; omega) (by unfold Chg; have := HW5.out.2.2; omega)).trans HW5.out.1.2.2.2
            have HBW := Lib.hid hb6
            have f0 := s6.cell
            have HO6 := Lib.hid (And.intro o6 (And.intro hrr s6))
            have hs6 : hi ≤ V6.heap.size := by have := k6.size; have := HW5.out.2; omega
            have HS6 := Lib.hid hs6
            obtain ⟨Q1, Q2⟩ := Q
            obtain ⟨op9, wd9, v9, sg9, uh9, ul9, xn9, xa9, xc9, xl9⟩ := Q1
            simp only at f0 r6 HE0 HNR HO6 s6
            simp only [ET.cells] at r6
            obtain ⟨n0, n1, n2, n3, n4, n5, n6, n7⟩ := RowM.cells r6 0 rfl
            simp only [Nat.zero_add] at n1 n2 n3 n4 n5 n6 n7
            clear k6 r6 o6 s6 hb6 hrr hs6
            by_cases t9 : Q2 = 0
            · subst t9
              have e9 : ((0 : Int) != 0) = false := rfl
              have HE : Hid (R = ((szE (ET.mk op wd v sg uh ul xn xa xc xl) want 0).1, 0)) := Lib.hid (by rw [HE0.out, if_pos rfl])
              have RY : RowM V6 (gx + 2) ([] ++ ([.int .i64 0, .int .i64 0, .int .u64 0, .int .i64 0, .int .i64 0, .int .i64 0, .int .i64 0, .slice none 0 0] ++ [])) := HO6.out.2.1
              obtain ⟨y0, y1, y2, y3, y4, y5, y6, y7⟩ := RowM.cells RY 0 rfl
              obtain ⟨p0, p1, p2, p3, p4, p5, p6, p7⟩ := RowM.thaw RY 0
              simp only [Nat.zero_add] at y1 y2 y3 y4 y5 y6 y7 p1 p2 p3 p4 p5 p6 p7
              have RZ := RowM.put RY 0 rfl (.int .i64 op9) (.int .i64 wd9) (.int .u64 (v9 : Int)) (.int .i64 sg9) (.int .i64 uh9) (.int .i64 ul9) (.int .i64 xn9) (.slice xa9 xl9.length xc9)
              have hoz := fun b hb => put_other V6 (gx + 2) 0 (.int .i64 op9) (.int .i64 wd9) (.int .u64 (v9 : Int)) (.int .i64 sg9) (.int .i64 uh9) (.int .i64 ul9) (.int .i64 xn9) (.slice xa9 xl9.length xc9) b hb
              simp only [Nat.zero_add] at RZ hoz
              obtain ⟨wz, hwz⟩ : ∃ wz, ((((((((V6.setCell ⟨gx + 2, 0, none⟩ (.int .i64 op9)).setCell ⟨gx + 2, 1, none⟩ (.int .i64 wd9)).setCell ⟨gx + 2, 2, none⟩ (.int .u64 (v9 : Int))).setCell ⟨gx + 2, 3, none⟩ (.int .i64 sg9)).setCell ⟨gx + 2, 4, none⟩ (.int .i64 uh9)).setCell ⟨gx + 2, 5, none⟩ (.int .i64 ul9)).setCell ⟨gx + 2, 6, none⟩ (.int .i64 xn9)).setCell ⟨gx + 2, 7, none⟩ (.slice xa9 xl9.length xc9)) = wz := ⟨_, rfl⟩
              have hsz : wz.heap.size = V6.heap.size := by rw [← hwz]; simp only [World.size_setCell]
              have hbz : Below w.heap.size w wz := by
                have h9 := below_put HBW.out (show w.heap.size ≤ gx + 2 by have := HG.out.1; omega) 0 (.int .i64 op9) (.int .i64 wd9) (.int .u64 (v9 : Int)) (.int .i64 sg9) (.int .i64 uh9) (.int .i64 ul9) (.int .i64 xn9) (.slice xa9 xl9.length xc9)
                simp only [Nat.zero_add] at h9
                rw [hwz] at h9
                exact h9
              rw [hwz] at RZ
              simp only [hwz] at hoz
              obtain ⟨t0, t1, t2, t3, t4, t5, t6, t7⟩ := RowM.cells RZ 0 rfl
              simp only [Nat.zero_add] at t1 t2 t3 t4 t5 t6 t7
              have HP : Hid (EP (.returned (.tuple #[.agg #[.int .i64 op9, .int .i64 wd9, .int .u64 (v9 : Int), .int .i64 sg9, .int .i64 uh9, .int .i64 ul9, .int .i64 xn9, .slice xa9 xl9.length xc9], .int .i64 0])) wz) := Lib.hid (by
                rw [HEP.out, HE.out]
                refine ⟨(ET.mk op9 wd9 v9 sg9 uh9 ul9 xn9 xa9 xc9 xl9), rfl, HNR.out.1, ?_, hbz⟩
                have h1 : ((ET.mk op9 wd9 v9 sg9 uh9 ul9 xn9 xa9 xc9 xl9) : ET).Own wz lo hi := HO6.out.1.keep _ _ _ (fun k h1 h2 => hoz k (by have := HW5.out.2.2; omega))
                exact h1.wider (by have := HW5.out.2.2; have := HG.out.1; omega) (by rw [hsz]; exact HS6.out))
              clear RY RZ hoz hsz hbz
              go_wp2
              (try rw [hwz])
              have hu := Tryd.underlying30
              refine bodyPost_ret (v := .tuple #[.agg #[.int .i64 op9, .int .i64 wd9, .int .u64 (v9 : Int), .int .i64 sg9, .int .i64 uh9, .int .i64 ul9, .int .i64 xn9, .slice xa9 xl9.length xc9], .int .i64 0]) (by simp [results, Tryd.results9, go_sem, hu, t0, t1, t2, t3, t4, t5, t6, t7]) rfl HP.out
            · have e9 : (Q2 != 0) = true := by rw [bne_iff_ne]; exact t9
              have HE : Hid (R = (zeroE, Q2)) := Lib.hid (by rw [HE0.out, if_neg t9])
              have RY : RowM V6 (gx + 2) ([] ++ ([.int .i64 0, .int .i64 0, .int .u64 0, .int .i64 0, .int .i64 0, .int .i64 0, .int .i64 0, .slice none 0 0] ++ [])) := HO6.out.2.1
              obtain ⟨y0, y1, y2, y3, y4, y5, y6, y7⟩ := RowM.cells RY 0 rfl
              obtain ⟨p0, p1, p2, p3, p4, p5, p6, p7⟩ := RowM.thaw RY 0
              simp only [Nat.zero_add] at y1 y2 y3 y4 y5 y6 y7 p1 p2 p3 p4 p5 p6 p7
              have RZ := RowM.put RY 0 rfl (.int .i64 0) (.int .i64 0) (.int .u64 0) (.int .i64 0) (.int .i64 0) (.int .i64 0) (.int .i64 0) (.slice none 0 0)
              have hoz := fun b hb => put_other V6 (gx + 2) 0 (.int .i64 0) (.int .i64 0) (.int .u64 0) (.int .i64 0) (.int .i64 0) (.int .i64 0) (.int .i64 0) (.slice none 0 0) b hb
              simp only [Nat.zero_add] at RZ hoz
              obtain ⟨wz, hwz⟩ : ∃ wz, ((((((((V6.setCell ⟨gx + 2, 0, none⟩ (.int .i64 0)).setCell ⟨gx + 2, 1, none⟩ (.int .i64 0)).setCell ⟨gx + 2, 2, none⟩ (.int .u64 0)).setCell ⟨gx + 2, 3, none⟩ (.int .i64 0)).setCell ⟨gx + 2, 4, none⟩ (.int .i64 0)).setCell ⟨gx + 2, 5, none⟩ (.int .i64 0)).setCell ⟨gx + 2, 6, none⟩ (.int .i64 0)).setCell ⟨gx + 2, 7, none⟩ (.slice none 0 0)) = wz := ⟨_, rfl⟩
              have hsz : wz.heap.size = V6.heap.size := by rw [← hwz]; simp only [World.size_setCell]
              have hbz : Below w.heap.size w wz := by
                have h9 := below_put HBW.out (show w.heap.size ≤ gx + 2 by have := HG.out.1; omega) 0 (.int .i64 0) (.int .i64 0) (.int .u64 0) (.int .i64 0) (.int .i64 0) (.int .i64 0) (.int .i64 0) (.slice none 0 0)
                simp only [Nat.zero_add] at h9
                rw [hwz] at h9
                exact h9
              rw [hwz] at RZ
              simp only [hwz] at hoz
              obtain ⟨t0, t1, t2, t3, t4, t5, t6, t7⟩ := RowM.cells RZ 0 rfl
              simp only [Nat.zero_add] at t1 t2 t3 t4 t5 t6 t7
              have f1 : wz.cell? ⟨hi, 0, none⟩ = some (.int .i64 Q2) := (HO6.out.2.2.keep (hoz hi (by have := HW5.out.2.2; omega))).cell
              have HP : Hid (EP (.returned (.tuple #[.agg #[.int .i64 0, .int .i64 0, .int .u64 0, .int .i64 0, .int .i64 0, .int .i64 0, .int .i64 0, .slice none 0 0], .int .i64 Q2])) wz.drew) := Lib.hid (by
                rw [HEP.out, HE.out]
                exact ⟨zeroE, rfl, rfl, zeroE_own _ _ _, ⟨hbz.os, hbz.tape, hbz.output, hbz.size, hbz.block⟩⟩)
              clear t9
              clear RY RZ hoz hsz hbz
              go_upto_region 8 with (fail)
              go_region
              all_goals go_wp2
              (try rw [hwz])
              have hu := Tryd.underlying30
              refine bodyPost_ret (v := .tuple #[.agg #[.int .i64 0, .int .i64 0, .int .u64 0, .int .i64 0, .int .i64 0, .int .i64 0, .int .i64 0, .slice none 0 0], .int .i64 Q2]) (by simp [results, Tryd.results9, go_sem, hu, t0, t1, t2, t3, t4, t5, t6, t7]) rfl HP.out
end Go.Proofs.YtbcgeglkmpcnpaaDoor
