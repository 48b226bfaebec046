/-
  SizedSame: whether designs and expressions are the same.
-/
import Derived.Test.YtglpkfeokojdkaaDoorExB
import Derived.Test.YtglpkfeokojdkaaDoorEyS
import Derived.Lib.QuietBelow
import Derived.BigQuiet
namespace Go.Proofs.YtglpkfeokojdkaaDoor
open Go Go.RowKit
set_option linter.unusedVariables false
set_option linter.unusedSimpArgs false
open Go.Sort

theorem eqList_self {α : Type} (p : α → α → Bool) : ∀ l : List α, (∀ x ∈ l, p x x = true) → eqList p l l = true
  | [], _ => rfl
  | x :: r, h => by rw [eqList, h x (by simp), eqList_self p r (fun y hy => h y (by simp [hy]))]; rfl
theorem sameT_self : ∀ x : TT, sameT x x = true := by
  refine TT.ind ?_
  intro op sg uh ul xa xc xl sa sc sl ih
  rw [sameT_mk, eqList_self sameE xl (fun x _ => sameE_self x), eqList_self sameT sl ih]
  simp
theorem sameD_self (d : DT) : sameD d d = true := by
  unfold sameD
  rw [eqList_self sameG d.gl (fun x _ => (sameG_iff x x).2 rfl), eqList_self sameQ d.ql (fun x _ => by obtain ⟨a, b, c, l⟩ := x; rw [sameQ, eqList_self sameT l (fun x _ => sameT_self x)]; simp), eqList_self sameK d.kl (fun x _ => by obtain ⟨a, b⟩ := x; rw [sameK, sameE_self]; simp)]
  rfl
theorem hs4 {n g1 g2 g3 g4 : Nat} {o1 o2 o3 o4 : Obj} {w V V' : World} (h : Below n w V ∧ V.heap[g1]? = some o1 ∧ V.heap[g2]? = some o2 ∧ V.heap[g3]? = some o3 ∧ V.heap[g4]? = some o4) (hb : Below V.heap.size V V') (hn : n ≤ V.heap.size) : Below n w V' ∧ V'.heap[g1]? = some o1 ∧ V'.heap[g2]? = some o2 ∧ V'.heap[g3]? = some o3 ∧ V'.heap[g4]? = some o4 := ⟨h.1.trans (hb.mono hn), block_kept h.2.1 hb, block_kept h.2.2.1 hb, block_kept h.2.2.2.1 hb, block_kept h.2.2.2.2 hb⟩
set_option maxHeartbeats 16000000 in
set_option maxRecDepth 100000 in
theorem same_law (d : DT) (hdk : d.bk ≤ 1100000) (f : DT) (hfk : f.bk ≤ 1100000) (a : ET) (hak : a.bk ≤ 1100000) (b : ET) (hbk : b.bk ≤ 1100000) (n0 : Nat) (w : World) (hn0 : n0 ≤ w.heap.size) (hz : EnvZ w) (hd : d.In n0 w) (hf : f.In n0 w) (ha : a.In n0 w) (hb : b.In n0 w) : Calls Tryd.prog 7 #[d.val, f.val, a.val, b.val] w fun e w' => e = .returned (.bool true) ∧ Below w.heap.size w w' := by
  have FL := Lib.hid (fun (W : World) (h : Below w.heap.size w W) => live_any W (hz.keep h))
  have F1 := Lib.hid (fun (W : World) (h : Below w.heap.size w W) => small_any d (by omega) n0 W (Nat.le_trans hn0 h.size) (hd.keep (Below.keptTo h hn0)))
  have F2 := Lib.hid (fun (W : World) (h : Below w.heap.size w W) => small_any f (by omega) n0 W (Nat.le_trans hn0 h.size) (hf.keep (Below.keptTo h hn0)))
  have F3 := Lib.hid (fun (W : World) (h : Below w.heap.size w W) => few_any a (by have := a.sz_bk; omega) n0 W (Nat.le_trans hn0 h.size) (ha.keep (Below.keptTo h hn0)))
  have F4 := Lib.hid (fun (W : World) (h : Below w.heap.size w W) => few_any b (by have := b.sz_bk; omega) n0 W (Nat.le_trans hn0 h.size) (hb.keep (Below.keptTo h hn0)))
  have G1 := Lib.hid (fun (W : World) (h : Below w.heap.size w W) => same_any d f (by omega) (by omega) n0 W (Nat.le_trans hn0 h.size) (hd.keep (Below.keptTo h hn0)) (hf.keep (Below.keptTo h hn0)))
  have G2 := Lib.hid (fun (W : World) (h : Below w.heap.size w W) => refSame_any d f (by omega) (by omega) n0 W (Nat.le_trans hn0 h.size) (hd.keep (Below.keptTo h hn0)) (hf.keep (Below.keptTo h hn0)))
  have G3 := Lib.hid (fun (W : World) (h : Below w.heap.size w W) => sameE_any a (by omega) b (by omega) n0 W (Nat.le_trans hn0 h.size) (ha.keep (Below.keptTo h hn0)) (hb.keep (Below.keptTo h hn0)))
  have G4 := Lib.hid (fun (W : World) (h : Below w.heap.size w W) => refSameE_any a (by omega) b (by omega) n0 W (Nat.le_trans hn0 h.size) (ha.keep (Below.keptTo h hn0)) (hb.keep (Below.keptTo h hn0)))
  have G5 := Lib.hid (fun (W : World) (h : Below w.heap.size w W) => same_any d d (by omega) (by omega) n0 W (Nat.le_trans hn0 h.size) (hd.keep (Below.keptTo h hn0)) (hd.keep (Below.keptTo h hn0)))
  have G6 := Lib.hid (fun (W : World) (h : Below w.heap.size w W) => sameE_any a (by omega) a (by omega) n0 W (Nat.le_trans hn0 h.size) (ha.keep (Below.keptTo h hn0)) (ha.keep (Below.keptTo h hn0)))
  rw [sameD_self] at G5
  rw [sameE_self] at G6
  obtain ⟨B1, hB1⟩ : ∃ x, smallD d = x := ⟨_, rfl⟩
  obtain ⟨B2, hB2⟩ : ∃ x, smallD f = x := ⟨_, rfl⟩
  obtain ⟨B3, hB3⟩ : ∃ x, fewE a = x := ⟨_, rfl⟩
  obtain ⟨B4, hB4⟩ : ∃ x, fewE b = x := ⟨_, rfl⟩
  obtain ⟨S1, hS1⟩ : ∃ x, sameD d f = x := ⟨_, rfl⟩
  obtain ⟨S2, hS2⟩ : ∃ x, sameE a b = x := ⟨_, rfl⟩
  rw [hB1] at F1
  rw [hB2] at F2
  rw [hB3] at F3
  rw [hB4] at F4
  rw [hS1] at G1 G2
  rw [hS2] at G3 G4
  clear hB1 hB2 hB3 hB4 hS1 hS2 hdk hfk hak hbk hd hf ha hb hz hn0
  obtain ⟨ga, gc, gl, qa, qc, ql, ka, kc, kl⟩ := d
  obtain ⟨ga2, gc2, gl2, qa2, qc2, ql2, ka2, kc2, kl2⟩ := f
  obtain ⟨op1, wd1, v1, sg1, uh1, ul1, xn1, xa1, xc1, xl1⟩ := a
  obtain ⟨op2, wd2, v2, sg2, uh2, ul2, xn2, xa2, xc2, xl2⟩ := b
  simp only [ET.val, ET.cells, DT.val, DT.cells] at F1 F2 F3 F4 G1 G2 G3 G4 G5 G6 ⊢
  obtain ⟨gx, hgx⟩ : ∃ gx, w.heap.size = gx := ⟨_, rfl⟩
  obtain ⟨wa, hwa⟩ : ∃ wa, w.alloc (.cells #[.slice ga gl.length gc, .slice qa ql.length qc, .slice ka kl.length kc] 26) = wa := ⟨_, rfl⟩
  have hba : Below w.heap.size w wa := by rw [← hwa]; exact (Below.refl _ _).alloc (Nat.le_refl _) _
  have hsa : wa.heap.size = gx + 1 := by rw [← hwa, World.size_alloc, hgx]
  have BD : wa.heap[gx]? = some (.cells #[.slice ga gl.length gc, .slice qa ql.length qc, .slice ka kl.length kc] 26 (0, 0)) := by rw [← hwa, ← hgx]; exact World.alloc_heap_new w _
  obtain ⟨wb, hwb⟩ : ∃ wb, wa.alloc (.cells #[.slice ga2 gl2.length gc2, .slice qa2 ql2.length qc2, .slice ka2 kl2.length kc2] 26) = wb := ⟨_, rfl⟩
  have hbb : Below wa.heap.size wa wb := by rw [← hwb]; exact (Below.refl _ _).alloc (Nat.le_refl _) _
  have hsb : wb.heap.size = gx + 2 := by rw [← hwb, World.size_alloc, hsa]
  have BF : wb.heap[gx + 1]? = some (.cells #[.slice ga2 gl2.length gc2, .slice qa2 ql2.length qc2, .slice ka2 kl2.length kc2] 26 (0, 0)) := by rw [← hwb, ← hsa]; exact World.alloc_heap_new wa _
  obtain ⟨wc, hwc⟩ : ∃ wc, wb.alloc (.cells #[.int .i64 op1, .int .i64 wd1, .int .u64 (v1 : Int), .int .i64 sg1, .int .i64 uh1, .int .i64 ul1, .int .i64 xn1, .slice xa1 xl1.length xc1] 30) = wc := ⟨_, rfl⟩
  have hbc : Below wb.heap.size wb wc := by rw [← hwc]; exact (Below.refl _ _).alloc (Nat.le_refl _) _
  have hsc : wc.heap.size = gx + 3 := by rw [← hwc, World.size_alloc, hsb]
  have BA : wc.heap[gx + 2]? = some (.cells #[.int .i64 op1, .int .i64 wd1, .int .u64 (v1 : Int), .int .i64 sg1, .int .i64 uh1, .int .i64 ul1, .int .i64 xn1, .slice xa1 xl1.length xc1] 30 (0, 0)) := by rw [← hwc, ← hsb]; exact World.alloc_heap_new wb _
  obtain ⟨w1, hw1⟩ : ∃ w1, wc.alloc (.cells #[.int .i64 op2, .int .i64 wd2, .int .u64 (v2 : Int), .int .i64 sg2, .int .i64 uh2, .int .i64 ul2, .int .i64 xn2, .slice xa2 xl2.length xc2] 30) = w1 := ⟨_, rfl⟩
  have hbd : Below wc.heap.size wc w1 := by rw [← hw1]; exact (Below.refl _ _).alloc (Nat.le_refl _) _
  have BB : w1.heap[gx + 3]? = some (.cells #[.int .i64 op2, .int .i64 wd2, .int .u64 (v2 : Int), .int .i64 sg2, .int .i64 uh2, .int .i64 ul2, .int .i64 xn2, .slice xa2 xl2.length xc2] 30 (0, 0)) := by rw [← hw1, ← hsc]; exact World.alloc_heap_new wc _
  have HS0 := Lib.hid (And.intro (((hba.trans (hbb.mono hba.size)).trans (hbc.mono (by omega))).trans (hbd.mono (by omega))) (And.intro (block_kept (block_kept (block_kept BD hbb) hbc) hbd) (And.intro (block_kept (block_kept BF hbc) hbd) (And.intro (block_kept BA hbd) BB))))
  clear hba hbb hbc hbd BD BF BA BB
  go_enter Tryd.func7, Tryd.ntmps7
  go_upto_region 1 with (fail)
  (try rw [hwa])
  (try rw [hgx])
  (try rw [hwb])
  (try rw [hsa])
  (try rw [hwc])
  (try rw [hsb])
  (try rw [hw1])
  (try rw [hsc])
  clear hwa hwb hwc hw1 hsa hsb hsc hgx
  obtain ⟨z0, z1, z2⟩ := opq3 HS0.out.2.1
  obtain ⟨f0, f1, f2⟩ := opq3 HS0.out.2.2.1
  obtain ⟨x0, x1, x2, x3, x4, x5, x6, x7⟩ := ope8 HS0.out.2.2.2.1
  obtain ⟨y0, y1, y2, y3, y4, y5, y6, y7⟩ := ope8 HS0.out.2.2.2.2
  have cK := Lib.hid (FL.out w1 HS0.out.1)
  go_wp2_with fail
  refine cK.out.mono ?_
  clear cK
  clear z0 z1 z2 f0 f1 f2 x0 x1 x2 x3 x4 x5 x6 x7 y0 y1 y2 y3 y4 y5 y6 y7
  rintro e w2 ⟨rfl, hb⟩
  have HS1 := Lib.hid (hs4 HS0.out hb HS0.out.1.size)
  clear hb
  obtain ⟨z0, z1, z2⟩ := opq3 HS1.out.2.1
  obtain ⟨f0, f1, f2⟩ := opq3 HS1.out.2.2.1
  obtain ⟨x0, x1, x2, x3, x4, x5, x6, x7⟩ := ope8 HS1.out.2.2.2.1
  obtain ⟨y0, y1, y2, y3, y4, y5, y6, y7⟩ := ope8 HS1.out.2.2.2.2
  have cK := Lib.hid (F1.out w2 HS1.out.1)
  go_wp2_with fail
  refine cK.out.mono ?_
  clear cK
  clear z0 z1 z2 f0 f1 f2 x0 x1 x2 x3 x4 x5 x6 x7 y0 y1 y2 y3 y4 y5 y6 y7
  rintro e w3 ⟨rfl, hb⟩
  have HS2 := Lib.hid (hs4 HS1.out hb HS1.out.1.size)
  clear hb
  cases B1 with
  | false =>
    go_wp2
    go_ret
    exact ⟨rfl, HS2.out.1⟩
  | true =>
    obtain ⟨z0, z1, z2⟩ := opq3 HS2.out.2.1
    obtain ⟨f0, f1, f2⟩ := opq3 HS2.out.2.2.1
    obtain ⟨x0, x1, x2, x3, x4, x5, x6, x7⟩ := ope8 HS2.out.2.2.2.1
    obtain ⟨y0, y1, y2, y3, y4, y5, y6, y7⟩ := ope8 HS2.out.2.2.2.2
    have cK := Lib.hid (F2.out w3 HS2.out.1)
    go_wp2_with fail
    refine cK.out.mono ?_
    clear cK
    clear z0 z1 z2 f0 f1 f2 x0 x1 x2 x3 x4 x5 x6 x7 y0 y1 y2 y3 y4 y5 y6 y7
    rintro e w4 ⟨rfl, hb⟩
    have HS3 := Lib.hid (hs4 HS2.out hb HS2.out.1.size)
    clear hb
    cases B2 with
    | false =>
      go_wp2
      go_ret
      exact ⟨rfl, HS3.out.1⟩
    | true =>
      obtain ⟨z0, z1, z2⟩ := opq3 HS3.out.2.1
      obtain ⟨f0, f1, f2⟩ := opq3 HS3.out.2.2.1
      obtain ⟨x0, x1, x2, x3, x4, x5, x6, x7⟩ := ope8 HS3.out.2.2.2.1
      obtain ⟨y0, y1, y2, y3, y4, y5, y6, y7⟩ := ope8 HS3.out.2.2.2.2
      have cK := Lib.hid (F3.out w4 HS3.out.1)
      go_wp2_with fail
      refine cK.out.mono ?_
      clear cK
      clear z0 z1 z2 f0 f1 f2 x0 x1 x2 x3 x4 x5 x6 x7 y0 y1 y2 y3 y4 y5 y6 y7
      rintro e w5 ⟨rfl, hb⟩
      have HS4 := Lib.hid (hs4 HS3.out hb HS3.out.1.size)
      clear hb
      cases B3 with
      | false =>
        go_wp2
        go_ret
        exact ⟨rfl, HS4.out.1⟩
      | true =>
        obtain ⟨z0, z1, z2⟩ := opq3 HS4.out.2.1
        obtain ⟨f0, f1, f2⟩ := opq3 HS4.out.2.2.1
        obtain ⟨x0, x1, x2, x3, x4, x5, x6, x7⟩ := ope8 HS4.out.2.2.2.1
        obtain ⟨y0, y1, y2, y3, y4, y5, y6, y7⟩ := ope8 HS4.out.2.2.2.2
        have cK := Lib.hid (F4.out w5 HS4.out.1)
        go_wp2_with fail
        refine cK.out.mono ?_
        clear cK
        clear z0 z1 z2 f0 f1 f2 x0 x1 x2 x3 x4 x5 x6 x7 y0 y1 y2 y3 y4 y5 y6 y7
        rintro e w6 ⟨rfl, hb⟩
        have HS5 := Lib.hid (hs4 HS4.out hb HS4.out.1.size)
        clear hb
        cases B4 with
        | false =>
          go_wp2
          go_ret
          exact ⟨rfl, HS5.out.1⟩
        | true =>
          have HSX := HS5
          clear HS0 HS1 HS2 HS3 HS4 HS5 F1 F2 F3 F4 FL
          go_upto_region 4 with (fail)
          have C1 := Lib.hid (fun (dq : Nat) (os : Array Obj) => G1.out (grow (redrawn w6 dq) os) (HSX.out.1.trans ((below_regrown w6 dq os).mono HSX.out.1.size)))
          have C2 := Lib.hid (fun (dq : Nat) (os : Array Obj) => G2.out (grow (redrawn w6 dq) os) (HSX.out.1.trans ((below_regrown w6 dq os).mono HSX.out.1.size)))
          have C3 := Lib.hid (fun (dq : Nat) (os : Array Obj) => G3.out (grow (redrawn w6 dq) os) (HSX.out.1.trans ((below_regrown w6 dq os).mono HSX.out.1.size)))
          have C4 := Lib.hid (fun (dq : Nat) (os : Array Obj) => G4.out (grow (redrawn w6 dq) os) (HSX.out.1.trans ((below_regrown w6 dq os).mono HSX.out.1.size)))
          have C5 := Lib.hid (fun (dq : Nat) (os : Array Obj) => G5.out (grow (redrawn w6 dq) os) (HSX.out.1.trans ((below_regrown w6 dq os).mono HSX.out.1.size)))
          have C6 := Lib.hid (fun (dq : Nat) (os : Array Obj) => G6.out (grow (redrawn w6 dq) os) (HSX.out.1.trans ((below_regrown w6 dq os).mono HSX.out.1.size)))
          clear G1 G2 G3 G4 G5 G6
          obtain ⟨z0, z1, z2⟩ := opq3 HSX.out.2.1
          obtain ⟨f0, f1, f2⟩ := opq3 HSX.out.2.2.1
          obtain ⟨x0, x1, x2, x3, x4, x5, x6, x7⟩ := ope8 HSX.out.2.2.2.1
          obtain ⟨y0, y1, y2, y3, y4, y5, y6, y7⟩ := ope8 HSX.out.2.2.2.2
          have z0R := cell_regrown z0
          have z1R := cell_regrown z1
          have z2R := cell_regrown z2
          have f0R := cell_regrown f0
          have f1R := cell_regrown f1
          have f2R := cell_regrown f2
          have x0R := cell_regrown x0
          have x1R := cell_regrown x1
          have x2R := cell_regrown x2
          have x3R := cell_regrown x3
          have x4R := cell_regrown x4
          have x5R := cell_regrown x5
          have x6R := cell_regrown x6
          have x7R := cell_regrown x7
          have y0R := cell_regrown y0
          have y1R := cell_regrown y1
          have y2R := cell_regrown y2
          have y3R := cell_regrown y3
          have y4R := cell_regrown y4
          have y5R := cell_regrown y5
          have y6R := cell_regrown y6
          have y7R := cell_regrown y7
          cases S1
          all_goals
            cases S2
            all_goals
              refine wp_region_quiet_below (by kernel_rfl) (by kernel_rfl) ?_
              repeat (go_big_quiet_step (first | (go_at_call_of 19 (Value.agg #[.slice ga2 gl2.length gc2, .slice qa2 ql2.length qc2, .slice ka2 kl2.length kc2]); exact Calls.regrown_of (C1.out _ _)) | (go_at_call 20; exact Calls.regrown_of (C2.out _ _)) | (go_at_call_of 21 (Value.agg #[.int .i64 op2, .int .i64 wd2, .int .u64 (v2 : Int), .int .i64 sg2, .int .i64 uh2, .int .i64 ul2, .int .i64 xn2, .slice xa2 xl2.length xc2]); exact Calls.regrown_of (C3.out _ _)) | (go_at_call 15; exact Calls.regrown_of (C4.out _ _)) | (go_at_call 19; exact Calls.regrown_of (C5.out _ _)) | (go_at_call 21; exact Calls.regrown_of (C6.out _ _))))
              refine wpQuiet_nil ?_
              intro _ hw'
              obtain ⟨⟨dq, osq⟩, hw''⟩ := hw'
              subst hw''
              have hbq := below_regrown w6 dq osq
              have HBQ := Lib.hid (HSX.out.1.trans (hbq.mono HSX.out.1.size))
              clear hbq
              go_wp2
              go_ret
              exact ⟨rfl, HBQ.out⟩
end Go.Proofs.YtglpkfeokojdkaaDoor
