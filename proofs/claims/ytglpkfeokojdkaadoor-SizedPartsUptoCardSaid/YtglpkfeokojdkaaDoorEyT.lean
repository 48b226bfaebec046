/-
  SizedParts: both operands are as wide.
-/
import Derived.Test.YtglpkfeokojdkaaDoorEyS
namespace Go.Proofs.YtglpkfeokojdkaaDoor
open Go Go.RowKit
set_option linter.unusedVariables false
set_option linter.unusedSimpArgs false
open Go.Sort

theorem parts_facts {gl : List GT} {a b : ET} (c1 : fewE a = true) (c2 : fewE b = true) (d1 : a.dp ≤ 60) (d2 : b.dp ≤ 60) (k1 : checkES gl a = 0) (k2 : checkES gl b = 0) : (∃ F, (∀ g, Tells gl (binT 14 g a b) 0 F a.wd) ∧ (F = 0 ↔ a.wd = b.wd)) ∧ (∃ F, (∀ g, Tells gl (binT 21 g a b) 0 F 1) ∧ (F = 0 ↔ a.wd = b.wd)) ∧ ∀ g, Tells gl (binT 17 g a b) 0 0 a.wd := by
  have s1 : a.sz ≤ 1000 := by unfold fewE at c1; simp at c1; exact c1.1
  have s2 : b.sz ≤ 1000 := by unfold fewE at c2; simp at c2; exact c2.1
  obtain ⟨F, t1, i1⟩ := bin_sum k1 s1 d1 k2 s2 d2 0
  obtain ⟨G, t2, i2⟩ := bin_cmp k1 s1 d1 k2 s2 d2 0
  exact ⟨⟨F, fun g => tells_same t1 (by rw [binT, binT, nrmE, nrmE]), i1⟩, ⟨G, fun g => tells_same t2 (by rw [binT, binT, nrmE, nrmE]), i2⟩, fun g => bin_shl k1 s1 d1 k2 s2 d2 g⟩
set_option maxHeartbeats 16000000 in
set_option maxRecDepth 100000 in
theorem parts_law (d : DT) (hdk : d.bk ≤ 1100000) (a b : ET) (hak : a.bk ≤ 1100000) (hbk : b.bk ≤ 1100000) (haw : a.Wf) (hbw : b.Wf) (n0 : Nat) (w : World) (h0 : In2 n0 d.gl d.ga a b w) (hd : d.In n0 w) : Calls Tryd.prog 6 #[d.val, a.val, b.val] w fun e w' => e = .returned (.bool true) ∧ Below w.heap.size w w' := by
  have HE := Lib.hid h0
  have F1 := Lib.hid (fun (W : World) (h : Below w.heap.size w W) => few_any a (by have := a.sz_bk; omega) n0 W (h0.keep h).n (h0.keep h).a)
  have F2 := Lib.hid (fun (W : World) (h : Below w.heap.size w W) => few_any b (by have := b.sz_bk; omega) n0 W (h0.keep h).n (h0.keep h).b)
  have F3 := Lib.hid (fun (W : World) (h : Below w.heap.size w W) => small_any d (by omega) n0 W (h0.keep h).n (hd.keep (Below.keptTo h h0.n)))
  have F4 := Lib.hid (fun (W : World) (h : Below w.heap.size w W) => refDeep_any a (by have := a.sz_bk; omega) n0 W (h0.keep h).n (h0.keep h).a)
  have F5 := Lib.hid (fun (W : World) (h : Below w.heap.size w W) => refDeep_any b (by have := b.sz_bk; omega) n0 W (h0.keep h).n (h0.keep h).b)
  obtain ⟨ga, gc, gl, qa, qc, ql, ka, kc, kl⟩ := d
  have hgl : gl.length ≤ 9000000 ∧ ∀ g ∈ gl, g.nm.length ≤ 12000000 := by
    simp only [DT.bk] at hdk
    have h1 := GT.bkL_len gl
    exact ⟨by omega, fun g hg => by have h2 := GT.bkL_mem hg; simp only [GT.bk] at h2; omega⟩
  simp only at h0 HE
  have F6 := Lib.hid (fun (W : World) (h : Below w.heap.size w W) => checkE_any gl ga gc qa ql.length qc ka kl.length kc hgl.1 hgl.2 a (by omega) haw n0 W (h0.keep h).n (h0.keep h).z (h0.keep h).g (h0.keep h).a)
  have F7 := Lib.hid (fun (W : World) (h : Below w.heap.size w W) => checkE_any gl ga gc qa ql.length qc ka kl.length kc hgl.1 hgl.2 b (by omega) hbw n0 W (h0.keep h).n (h0.keep h).z (h0.keep h).g (h0.keep h).b)
  have HX := Lib.hid (fun (xn : Int) (g' : Nat) (F wv : Int) (t : Tells gl (binT xn g' a b) 0 F wv) (W : World) (h : Below w.heap.size w W) (hi : (binT xn g' a b).In W.heap.size W) => xcall (gc := gc) (qa := qa) (qn := ql.length) (qc := qc) (ka := ka) (kn := kl.length) (kc := kc) hgl.1 hgl.2 t (by rw [binT_bk]; omega) (binT_wf xn g' haw hbw) (h0.keep h) hi)
  have HB := Lib.hid (fun (xn : Int) (W : World) (h : Below w.heap.size w W) => bin_any xn a b n0 W (h0.keep h).n (h0.keep h).a (h0.keep h).b)
  have HM1 := Lib.hid (fun (c1 : fewE a = true) (c2 : fewE b = true) (d1 : a.dp ≤ 60) (d2 : b.dp ≤ 60) (k1 : checkES gl a = 0) (k2 : checkES gl b = 0) => parts_facts c1 c2 d1 d2 k1 k2)
  obtain ⟨B1, hB1⟩ : ∃ x, fewE a = x := ⟨_, rfl⟩
  obtain ⟨B2, hB2⟩ : ∃ x, fewE b = x := ⟨_, rfl⟩
  obtain ⟨B3, hB3⟩ : ∃ x, smallD ⟨ga, gc, gl, qa, qc, ql, ka, kc, kl⟩ = x := ⟨_, rfl⟩
  obtain ⟨D1, hD1⟩ : ∃ x, a.dp = x := ⟨_, rfl⟩
  obtain ⟨D2, hD2⟩ : ∃ x, b.dp = x := ⟨_, rfl⟩
  obtain ⟨C1, hC1⟩ : ∃ x, checkES gl a = x := ⟨_, rfl⟩
  obtain ⟨C2, hC2⟩ : ∃ x, checkES gl b = x := ⟨_, rfl⟩
  have hdl : D1 ≤ 6000000 ∧ D2 ≤ 6000000 := by have h1 := a.dp_sz; have h2 := a.sz_bk; have h3 := b.dp_sz; have h4 := b.sz_bk; omega
  rw [hB1] at F1 HM1
  rw [hB2] at F2 HM1
  rw [hB3] at F3
  rw [hD1] at F4 HM1
  rw [hD2] at F5 HM1
  rw [hC1] at F6 HM1
  rw [hC2] at F7 HM1
  have HGL := Lib.hid hgl
  clear h0 hgl hB1 hB2 hB3 hD1 hD2 hC1 hC2 hdk hak hbk haw hbw hd
  obtain ⟨op1, wd1, v1, sg1, uh1, ul1, xn1, xa1, xc1, xl1⟩ := a
  obtain ⟨op2, wd2, v2, sg2, uh2, ul2, xn2, xa2, xc2, xl2⟩ := b
  simp only [ET.val, ET.cells, DT.val, DT.cells] at F1 F2 F3 F4 F5 F6 F7 HB ⊢
  obtain ⟨gx, hgx⟩ : ∃ gx, w.heap.size = gx := ⟨_, rfl⟩
  obtain ⟨wa, hwa⟩ : ∃ wa, w.alloc (.cells #[.slice ga gl.length gc, .slice qa ql.length qc, .slice ka kl.length kc] 26) = wa := ⟨_, rfl⟩
  have hba : Below w.heap.size w wa := by rw [← hwa]; exact (Below.refl _ _).alloc (Nat.le_refl _) _
  have hsa : wa.heap.size = gx + 1 := by rw [← hwa, World.size_alloc, hgx]
  have BD : wa.heap[gx]? = some (.cells #[.slice ga gl.length gc, .slice qa ql.length qc, .slice ka kl.length kc] 26 (0, 0)) := by rw [← hwa, ← hgx]; exact World.alloc_heap_new w _
  obtain ⟨wb, hwb⟩ : ∃ wb, wa.alloc (.cells #[.int .i64 op1, .int .i64 wd1, .int .u64 (v1 : Int), .int .i64 sg1, .int .i64 uh1, .int .i64 ul1, .int .i64 xn1, .slice xa1 xl1.length xc1] 30) = wb := ⟨_, rfl⟩
  have hbb : Below wa.heap.size wa wb := by rw [← hwb]; exact (Below.refl _ _).alloc (Nat.le_refl _) _
  have hsb : wb.heap.size = gx + 2 := by rw [← hwb, World.size_alloc, hsa]
  have BA : wb.heap[gx + 1]? = some (.cells #[.int .i64 op1, .int .i64 wd1, .int .u64 (v1 : Int), .int .i64 sg1, .int .i64 uh1, .int .i64 ul1, .int .i64 xn1, .slice xa1 xl1.length xc1] 30 (0, 0)) := by rw [← hwb, ← hsa]; exact World.alloc_heap_new wa _
  obtain ⟨w1, hw1⟩ : ∃ w1, wb.alloc (.cells #[.int .i64 op2, .int .i64 wd2, .int .u64 (v2 : Int), .int .i64 sg2, .int .i64 uh2, .int .i64 ul2, .int .i64 xn2, .slice xa2 xl2.length xc2] 30) = w1 := ⟨_, rfl⟩
  have hbc : Below wb.heap.size wb w1 := by rw [← hw1]; exact (Below.refl _ _).alloc (Nat.le_refl _) _
  have BB : w1.heap[gx + 2]? = some (.cells #[.int .i64 op2, .int .i64 wd2, .int .u64 (v2 : Int), .int .i64 sg2, .int .i64 uh2, .int .i64 ul2, .int .i64 xn2, .slice xa2 xl2.length xc2] 30 (0, 0)) := by rw [← hw1, ← hsb]; exact World.alloc_heap_new wb _
  have HS0 := Lib.hid (And.intro ((hba.trans (hbb.mono hba.size)).trans (hbc.mono (by omega))) (And.intro (block_kept (block_kept BD hbb) hbc) (And.intro (block_kept BA hbc) BB)))
  clear hba hbb hbc BD BA BB
  have FL := Lib.hid (fun (W : World) (h : Below w.heap.size w W) => live_any W (HE.out.keep h).z)
  go_enter Tryd.func6, Tryd.ntmps6
  go_upto_region 1 with (fail)
  (try rw [hwa])
  (try rw [hgx])
  (try rw [hwb])
  (try rw [hsa])
  (try rw [hw1])
  (try rw [hsb])
  clear hwa hwb hw1 hsa hsb hgx
  obtain ⟨z0, z1, z2⟩ := opq3 HS0.out.2.1
  obtain ⟨x0, x1, x2, x3, x4, x5, x6, x7⟩ := ope8 HS0.out.2.2.1
  obtain ⟨y0, y1, y2, y3, y4, y5, y6, y7⟩ := ope8 HS0.out.2.2.2
  have cK := Lib.hid (FL.out w1 HS0.out.1)
  go_wp2_with fail
  refine cK.out.mono ?_
  clear cK
  clear z0 z1 z2 x0 x1 x2 x3 x4 x5 x6 x7 y0 y1 y2 y3 y4 y5 y6 y7
  rintro e w2 ⟨rfl, hb⟩
  have HS1 := Lib.hid (hs3 HS0.out hb HS0.out.1.size)
  clear hb
  obtain ⟨z0, z1, z2⟩ := opq3 HS1.out.2.1
  obtain ⟨x0, x1, x2, x3, x4, x5, x6, x7⟩ := ope8 HS1.out.2.2.1
  obtain ⟨y0, y1, y2, y3, y4, y5, y6, y7⟩ := ope8 HS1.out.2.2.2
  have cK := Lib.hid (F1.out w2 HS1.out.1)
  go_wp2_with fail
  refine cK.out.mono ?_
  clear cK
  clear z0 z1 z2 x0 x1 x2 x3 x4 x5 x6 x7 y0 y1 y2 y3 y4 y5 y6 y7
  rintro e w3 ⟨rfl, hb⟩
  have HS2 := Lib.hid (hs3 HS1.out hb HS1.out.1.size)
  clear hb
  cases B1 with
  | false =>
    go_wp2
    go_ret
    exact ⟨rfl, HS2.out.1⟩
  | true =>
    obtain ⟨z0, z1, z2⟩ := opq3 HS2.out.2.1
    obtain ⟨x0, x1, x2, x3, x4, x5, x6, x7⟩ := ope8 HS2.out.2.2.1
    obtain ⟨y0, y1, y2, y3, y4, y5, y6, y7⟩ := ope8 HS2.out.2.2.2
    have cK := Lib.hid (F2.out w3 HS2.out.1)
    go_wp2_with fail
    refine cK.out.mono ?_
    clear cK
    clear z0 z1 z2 x0 x1 x2 x3 x4 x5 x6 x7 y0 y1 y2 y3 y4 y5 y6 y7
    rintro e w4 ⟨rfl, hb⟩
    have HS3 := Lib.hid (hs3 HS2.out hb HS2.out.1.size)
    clear hb
    cases B2 with
    | false =>
      go_wp2
      go_ret
      exact ⟨rfl, HS3.out.1⟩
    | true =>
      obtain ⟨z0, z1, z2⟩ := opq3 HS3.out.2.1
      obtain ⟨x0, x1, x2, x3, x4, x5, x6, x7⟩ := ope8 HS3.out.2.2.1
      obtain ⟨y0, y1, y2, y3, y4, y5, y6, y7⟩ := ope8 HS3.out.2.2.2
      have cK := Lib.hid (F3.out w4 HS3.out.1)
      go_wp2_with fail
      refine cK.out.mono ?_
      clear cK
      clear z0 z1 z2 x0 x1 x2 x3 x4 x5 x6 x7 y0 y1 y2 y3 y4 y5 y6 y7
      rintro e w5 ⟨rfl, hb⟩
      have HS4 := Lib.hid (hs3 HS3.out hb HS3.out.1.size)
      clear hb
      cases B3 with
      | false =>
        go_wp2
        go_ret
        exact ⟨rfl, HS4.out.1⟩
      | true =>
        obtain ⟨z0, z1, z2⟩ := opq3 HS4.out.2.1
        obtain ⟨x0, x1, x2, x3, x4, x5, x6, x7⟩ := ope8 HS4.out.2.2.1
        obtain ⟨y0, y1, y2, y3, y4, y5, y6, y7⟩ := ope8 HS4.out.2.2.2
        have cK := Lib.hid (F4.out w5 HS4.out.1)
        go_wp2_with fail
        refine cK.out.mono ?_
        clear cK
        clear z0 z1 z2 x0 x1 x2 x3 x4 x5 x6 x7 y0 y1 y2 y3 y4 y5 y6 y7
        rintro e w6 ⟨rfl, hb⟩
        have HS5 := Lib.hid (hs3 HS4.out hb HS4.out.1.size)
        clear hb
        by_cases tD1 : D1 ≤ 60
        · have eD1 : decide ((D1 : Int) > 60) = false := by rw [decide_eq_false_iff_not]; omega
          have eD1' : decide ((60 : Int) < (D1 : Int)) = false := by rw [decide_eq_false_iff_not]; omega
          obtain ⟨z0, z1, z2⟩ := opq3 HS5.out.2.1
          obtain ⟨x0, x1, x2, x3, x4, x5, x6, x7⟩ := ope8 HS5.out.2.2.1
          obtain ⟨y0, y1, y2, y3, y4, y5, y6, y7⟩ := ope8 HS5.out.2.2.2
          have cK := Lib.hid (F5.out w6 HS5.out.1)
          go_wp2_with fail
          refine cK.out.mono ?_
          clear cK
          clear z0 z1 z2 x0 x1 x2 x3 x4 x5 x6 x7 y0 y1 y2 y3 y4 y5 y6 y7
          rintro e w7 ⟨rfl, hb⟩
          have HS6 := Lib.hid (hs3 HS5.out hb HS5.out.1.size)
          clear hb
          by_cases tD2 : D2 ≤ 60
          · have eD2 : decide ((D2 : Int) > 60) = false := by rw [decide_eq_false_iff_not]; omega
            have eD2' : decide ((60 : Int) < (D2 : Int)) = false := by rw [decide_eq_false_iff_not]; omega
            obtain ⟨z0, z1, z2⟩ := opq3 HS6.out.2.1
            obtain ⟨x0, x1, x2, x3, x4, x5, x6, x7⟩ := ope8 HS6.out.2.2.1
            obtain ⟨y0, y1, y2, y3, y4, y5, y6, y7⟩ := ope8 HS6.out.2.2.2
            have cK := Lib.hid (F6.out w7 HS6.out.1)
            go_wp2_with fail
            refine cK.out.mono ?_
            clear cK
            clear z0 z1 z2 x0 x1 x2 x3 x4 x5 x6 x7 y0 y1 y2 y3 y4 y5 y6 y7
            rintro e w8 ⟨rfl, hb⟩
            have HS7 := Lib.hid (hs3 HS6.out hb HS6.out.1.size)
            clear hb
            by_cases tC1 : C1 = 0
            · subst tC1
              have eC1 : ((0 : Int) != 0) = false := rfl
              obtain ⟨z0, z1, z2⟩ := opq3 HS7.out.2.1
              obtain ⟨x0, x1, x2, x3, x4, x5, x6, x7⟩ := ope8 HS7.out.2.2.1
              obtain ⟨y0, y1, y2, y3, y4, y5, y6, y7⟩ := ope8 HS7.out.2.2.2
              have cK := Lib.hid (F7.out w8 HS7.out.1)
              go_wp2_with fail
              refine cK.out.mono ?_
              clear cK
              clear z0 z1 z2 x0 x1 x2 x3 x4 x5 x6 x7 y0 y1 y2 y3 y4 y5 y6 y7
              rintro e w9 ⟨rfl, hb⟩
              have HS8 := Lib.hid (hs3 HS7.out hb HS7.out.1.size)
              clear hb
              by_cases tC2 : C2 = 0
              · subst tC2
                have eC2 : ((0 : Int) != 0) = false := rfl
                have HSX := HS8
                clear HS0 HS1 HS2 HS3 HS4 HS5 HS6 HS7 HS8 F1 F2 F3 F4 F5 F6 F7 FL HE
                obtain ⟨⟨G1, T1, I1⟩, ⟨G2, T2, I2⟩, T3⟩ := HM1.out (by first | rfl | trivial) (by first | rfl | trivial) (by omega) (by omega) (by first | rfl | trivial) (by first | rfl | trivial)
                replace T1 := Lib.hid T1
                replace T2 := Lib.hid T2
                replace T3 := Lib.hid T3
                replace I1 := Lib.hid I1
                replace I2 := Lib.hid I2
                clear HM1
                go_upto_region 4 with (fail)
                refine wp_region_inv (fun (b : Nat → Bool) (a : Act) (W9 : World) => ∃ (u0 u1 u2 u3 u4 u5 u6 u7 u8 u9 u10 : Value) (yya : ET) (loa hia gga : Nat), a = { tmps := #[.agg #[.slice ga gl.length gc, .slice qa ql.length qc, .slice ka kl.length kc], .agg #[.int .i64 op1, .int .i64 wd1, .int .u64 (v1 : Int), .int .i64 sg1, .int .i64 uh1, .int .i64 ul1, .int .i64 xn1, .slice xa1 xl1.length xc1], .agg #[.int .i64 op2, .int .i64 wd2, .int .u64 (v2 : Int), .int .i64 sg2, .int .i64 uh2, .int .i64 ul2, .int .i64 xn2, .slice xa2 xl2.length xc2], .pointer (some ⟨gx, 0, none⟩), .pointer (some ⟨gx + 1, 0, none⟩), .pointer (some ⟨gx + 2, 0, none⟩), .bool false, .bool true, u8, u10, undef, undef, undef, undef, undef, .bool true, .agg #[.int .i64 op1, .int .i64 wd1, .int .u64 (v1 : Int), .int .i64 sg1, .int .i64 uh1, .int .i64 ul1, .int .i64 xn1, .slice xa1 xl1.length xc1], .bool true, .bool false, .bool false, .agg #[.int .i64 op2, .int .i64 wd2, .int .u64 (v2 : Int), .int .i64 sg2, .int .i64 uh2, .int .i64 ul2, .int .i64 xn2, .slice xa2 xl2.length xc2], .bool true, .bool false, .bool false, .bool false, .agg #[.slice ga gl.length gc, .slice qa ql.length qc, .slice ka kl.length kc], .bool true, .bool false, .bool false, .bool false, .agg #[.int .i64 op1, .int .i64 wd1, .int .u64 (v1 : Int), .int .i64 sg1, .int .i64 uh1, .int .i64 ul1, .int .i64 xn1, .slice xa1 xl1.length xc1], .int .i64 (D1 : Int), .bool false, .bool false, .bool false, .agg #[.int .i64 op2, .int .i64 wd2, .int .u64 (v2 : Int), .int .i64 sg2, .int .i64 uh2, .int .i64 ul2, .int .i64 xn2, .slice xa2 xl2.length xc2], .int .i64 (D2 : Int), .bool false, .bool false, .bool false, .agg #[.slice ga gl.length gc, .slice qa ql.length qc, .slice ka kl.length kc], .agg #[.int .i64 op1, .int .i64 wd1, .int .u64 (v1 : Int), .int .i64 sg1, .int .i64 uh1, .int .i64 ul1, .int .i64 xn1, .slice xa1 xl1.length xc1], .int .i64 0, .bool false, .bool false, .bool false, .agg #[.slice ga gl.length gc, .slice qa ql.length qc, .slice ka kl.length kc], .agg #[.int .i64 op2, .int .i64 wd2, .int .u64 (v2 : Int), .int .i64 sg2, .int .i64 uh2, .int .i64 ul2, .int .i64 xn2, .slice xa2 xl2.length xc2], .int .i64 0, .bool false, .bool false, undef, u5, u0, u1, u2, u3, u4, u6, u7, undef, undef, undef, undef, undef, undef, undef, undef, undef, undef, undef, undef, undef, undef, undef, undef, undef, undef, undef, undef, undef, undef, undef, undef, undef, undef, undef, undef, undef, undef, undef, undef, undef, undef, undef, undef, undef, undef, undef, undef, undef, undef, undef, undef, undef, undef, undef, undef, undef, undef, undef, undef, undef, undef, undef, undef, undef, undef, undef, undef, undef, undef, undef, undef, undef], defers := [] } ∧ (Below w9.heap.size w9 W9) ∧ (b 0 = true → u0 = .agg #[.slice ga gl.length gc, .slice qa ql.length qc, .slice ka kl.length kc]) ∧ (b 1 = true → u1 = .agg #[.int .i64 op1, .int .i64 wd1, .int .u64 (v1 : Int), .int .i64 sg1, .int .i64 uh1, .int .i64 ul1, .int .i64 xn1, .slice xa1 xl1.length xc1]) ∧ (b 2 = true → u2 = .agg #[.int .i64 op2, .int .i64 wd2, .int .u64 (v2 : Int), .int .i64 sg2, .int .i64 uh2, .int .i64 ul2, .int .i64 xn2, .slice xa2 xl2.length xc2]) ∧ (b 3 = true → (b 9 = false → ∃ g, u3 = .agg #[.int .i64 5, .int .i64 0, .int .u64 0, .int .i64 0, .int .i64 0, .int .i64 0, .int .i64 14, .slice (some ⟨g, 0, none⟩) 2 2] ∧ (binT 14 g (ET.mk op1 wd1 v1 sg1 uh1 ul1 xn1 xa1 xc1 xl1) (ET.mk op2 wd2 v2 sg2 uh2 ul2 xn2 xa2 xc2 xl2)).In W9.heap.size W9)) ∧ (b 4 = true → u4 = .tuple #[yya.val, .int .i64 G1] ∧ (G1 = 0 → yya.wd = wd1) ∧ yya.Own W9 loa hia ∧ w9.heap.size ≤ loa ∧ hia ≤ W9.heap.size) ∧ (b 5 = true → u5 = .tuple #[yya.val, .int .i64 G1]) ∧ (b 6 = true → u6 = yya.val) ∧ (b 7 = true → u7 = .int .i64 G1) ∧ (b 8 = true → u8 = .pointer (some ⟨gga, 0, none⟩) ∧ w9.heap.size ≤ gga ∧ gga < W9.heap.size ∧ (b 4 = true → gga < loa ∨ hia ≤ gga) ∧ (b 9 = false → W9.heap[gga]? = some (.cells #[.int .i64 0, .int .i64 0, .int .u64 0, .int .i64 0, .int .i64 0, .int .i64 0, .int .i64 0, .slice none 0 0] 30 (0, 0)))) ∧ (b 9 = true → W9.heap[gga]? = some (.cells yya.cells.toArray 30 (0, 0))) ∧ (b 10 = true → u10 = .int .i64 G1)) (by kernel_rfl) (by kernel_rfl) ?_ ?_ ?_
                · refine ⟨undef, undef, undef, undef, undef, undef, undef, undef, undef, undef, undef, zeroE, 0, 0, 0, rfl, below_drew' (Below.refl _ _), fun h => (by cases h), fun h => (by cases h), fun h => (by cases h), fun h => (by cases h), fun h => (by cases h), fun h => (by cases h), fun h => (by cases h), fun h => (by cases h), fun h => (by cases h), fun h => (by cases h), fun h => (by cases h)⟩
                · refine ⟨⟨rfl, ?_⟩, ⟨⟨rfl, ?_⟩, ⟨⟨rfl, ?_⟩, ⟨⟨rfl, ?_⟩, ⟨⟨rfl, ?_⟩, ⟨⟨rfl, ?_⟩, ⟨⟨rfl, ?_⟩, ⟨⟨rfl, ?_⟩, ⟨⟨rfl, ?_⟩, ⟨⟨rfl, ?_⟩, ⟨⟨rfl, ?_⟩, trivial⟩⟩⟩⟩⟩⟩⟩⟩⟩⟩⟩
                  · intro b a W9 hbk hd hcl hJ K hK
                    obtain ⟨u0, u1, u2, u3, u4, u5, u6, u7, u8, u9, u10, yya, loa, hia, gga, rfl, hC, f0, f1, f2, f3, f4, f5, f6, f7, f8, f9, f10⟩ := hJ
                    obtain ⟨z0, z1, z2⟩ := opq3 (block_kept HSX.out.2.1 hC)
                    go_simp
                    exact hK _ _ ⟨_, _, _, _, _, _, _, _, _, undef, _, yya, loa, hia, gga, rfl, hC, (fun _ => rfl), (f1), (f2), (f3), (f4), (f5), (f6), (f7), (f8), (f9), (f10)⟩
                  · intro b a W9 hbk hd hcl hJ K hK
                    obtain ⟨u0, u1, u2, u3, u4, u5, u6, u7, u8, u9, u10, yya, loa, hia, gga, rfl, hC, f0, f1, f2, f3, f4, f5, f6, f7, f8, f9, f10⟩ := hJ
                    obtain ⟨z0, z1, z2, z3, z4, z5, z6, z7⟩ := ope8 (block_kept HSX.out.2.2.1 hC)
                    go_simp
                    exact hK _ _ ⟨_, _, _, _, _, _, _, _, _, undef, _, yya, loa, hia, gga, rfl, hC, (f0), (fun _ => rfl), (f2), (f3), (f4), (f5), (f6), (f7), (f8), (f9), (f10)⟩
                  · intro b a W9 hbk hd hcl hJ K hK
                    obtain ⟨u0, u1, u2, u3, u4, u5, u6, u7, u8, u9, u10, yya, loa, hia, gga, rfl, hC, f0, f1, f2, f3, f4, f5, f6, f7, f8, f9, f10⟩ := hJ
                    obtain ⟨z0, z1, z2, z3, z4, z5, z6, z7⟩ := ope8 (block_kept HSX.out.2.2.2 hC)
                    go_simp
                    exact hK _ _ ⟨_, _, _, _, _, _, _, _, _, undef, _, yya, loa, hia, gga, rfl, hC, (f0), (f1), (fun _ => rfl), (f3), (f4), (f5), (f6), (f7), (f8), (f9), (f10)⟩
                  · intro b a W9 hbk hd hcl hJ K hK
                    obtain ⟨u0, u1, u2, u3, u4, u5, u6, u7, u8, u9, u10, yya, loa, hia, gga, rfl, hC, f0, f1, f2, f3, f4, f5, f6, f7, f8, f9, f10⟩ := hJ
                    have d1 := f1 (hd ⟨1, .data⟩ (by simp) rfl)
                    have d2 := f2 (hd ⟨2, .data⟩ (by simp) rfl)
                    subst d1
                    subst d2
                    go_simp
                    refine (HB.out 14 W9 (HSX.out.1.trans (hC.mono HSX.out.1.size))).mono ?_
                    rintro e W8 ⟨g', rfl, hia', hb⟩
                    have hC' := hC.trans (hb.mono hC.size)
                    exact hK _ _ ⟨_, _, _, _, _, _, _, _, _, undef, _, yya, loa, hia, gga, rfl, hC', (f0), (f1), (f2), (fun _ => fun _ => ⟨g', rfl, hia'⟩), (fun h => (keepF4 (f4 h) hb)), (f5), (f6), (f7), (fun h => (keepF8 (f8 h) hb)), (fun h => (block_kept (f9 h) hb)), (f10)⟩
                  · intro b a W9 hbk hd hcl hJ K hK
                    obtain ⟨u0, u1, u2, u3, u4, u5, u6, u7, u8, u9, u10, yya, loa, hia, gga, rfl, hC, f0, f1, f2, f3, f4, f5, f6, f7, f8, f9, f10⟩ := hJ
                    have d0 := f0 (hd ⟨0, .data⟩ (by simp) rfl)
                    have d3 := f3 (hd ⟨3, .data⟩ (by simp) rfl)
                    have n5 := (hcl.no 5 _ rfl ⟨4, .data⟩ (by simp) rfl rfl hbk)
                    have n6 := (hcl.no 6 _ rfl ⟨5, .data⟩ (by simp) rfl rfl n5)
                    have n9 := (hcl.no 9 _ rfl ⟨6, .data⟩ (by simp) rfl rfl n6)
                    obtain ⟨g', hg', hia'⟩ := d3 n9
                    subst hg'
                    subst d0
                    go_simp
                    refine (HX.out 14 g' G1 wd1 (T1.out g') W9 (HSX.out.1.trans (hC.mono HSX.out.1.size)) hia').mono ?_
                    rintro e W8 ⟨y', rfl, hyn, hyo, hb⟩
                    have hC' := hC.trans (hb.mono hC.size)
                    exact hK _ _ ⟨_, _, _, _, _, _, _, _, _, undef, _, y', W9.heap.size, W8.heap.size, gga, rfl, hC', (f0), (f1), (f2), (fun h => (keepF3 (k := fun g => .agg #[.int .i64 5, .int .i64 0, .int .u64 0, .int .i64 0, .int .i64 0, .int .i64 0, .int .i64 14, .slice (some ⟨g, 0, none⟩) 2 2]) (T := fun g => binT 14 g (ET.mk op1 wd1 v1 sg1 uh1 ul1 xn1 xa1 xc1 xl1) (ET.mk op2 wd2 v2 sg2 uh2 ul2 xn2 xa2 xc2 xl2)) (f3 h) hb)), (fun _ => ⟨rfl, hyn, hyo, hC.size, Nat.le_refl _⟩), (fun h => by rw [show b 5 = true from h] at n5; cases n5), (fun h => by rw [show b 6 = true from h] at n6; cases n6), (f7), (fun h => keepF8 (r := (_ → _ ∨ _)) ⟨(f8 h).1, (f8 h).2.1, (f8 h).2.2.1, fun _ => Or.inl (f8 h).2.2.1, (f8 h).2.2.2.2⟩ hb), (fun h => by rw [show b 9 = true from h] at n9; cases n9), (f10)⟩
                  · intro b a W9 hbk hd hcl hJ K hK
                    obtain ⟨u0, u1, u2, u3, u4, u5, u6, u7, u8, u9, u10, yya, loa, hia, gga, rfl, hC, f0, f1, f2, f3, f4, f5, f6, f7, f8, f9, f10⟩ := hJ
                    have d4 := f4 (hd ⟨4, .data⟩ (by simp) rfl)
                    obtain ⟨rfl, d4r⟩ := d4
                    go_simp
                    exact hK _ _ ⟨_, _, _, _, _, _, _, _, _, undef, _, yya, loa, hia, gga, rfl, hC, (f0), (f1), (f2), (f3), (f4), (fun _ => rfl), (f6), (f7), (f8), (f9), (f10)⟩
                  · intro b a W9 hbk hd hcl hJ K hK
                    obtain ⟨u0, u1, u2, u3, u4, u5, u6, u7, u8, u9, u10, yya, loa, hia, gga, rfl, hC, f0, f1, f2, f3, f4, f5, f6, f7, f8, f9, f10⟩ := hJ
                    have d5 := f5 (hd ⟨5, .data⟩ (by simp) rfl)
                    subst d5
                    go_simp
                    exact hK _ _ ⟨_, _, _, _, _, _, _, _, _, undef, _, yya, loa, hia, gga, rfl, hC, (f0), (f1), (f2), (f3), (f4), (f5), (fun _ => rfl), (f7), (f8), (f9), (f10)⟩
                  · intro b a W9 hbk hd hcl hJ K hK
                    obtain ⟨u0, u1, u2, u3, u4, u5, u6, u7, u8, u9, u10, yya, loa, hia, gga, rfl, hC, f0, f1, f2, f3, f4, f5, f6, f7, f8, f9, f10⟩ := hJ
                    have d5 := f5 (hd ⟨5, .data⟩ (by simp) rfl)
                    subst d5
                    go_simp
                    exact hK _ _ ⟨_, _, _, _, _, _, _, _, _, undef, _, yya, loa, hia, gga, rfl, hC, (f0), (f1), (f2), (f3), (f4), (f5), (f6), (fun _ => rfl), (f8), (f9), (f10)⟩
                  · intro b a W9 hbk hd hcl hJ K hK
                    obtain ⟨u0, u1, u2, u3, u4, u5, u6, u7, u8, u9, u10, yya, loa, hia, gga, rfl, hC, f0, f1, f2, f3, f4, f5, f6, f7, f8, f9, f10⟩ := hJ
                    have n9 := (hcl.no 9 _ rfl ⟨8, .data⟩ (by simp) rfl rfl hbk)
                    have hb : Below W9.heap.size W9 (W9.alloc (.cells #[.int .i64 0, .int .i64 0, .int .u64 0, .int .i64 0, .int .i64 0, .int .i64 0, .int .i64 0, .slice none 0 0] 30 (0, 0))) := (Below.refl _ _).alloc (Nat.le_refl _) _
                    have hC' := hC.trans (hb.mono hC.size)
                    go_simp
                    exact hK _ _ ⟨_, _, _, _, _, _, _, _, _, undef, _, yya, loa, hia, W9.heap.size, rfl, hC', (f0), (f1), (f2), (fun h => (keepF3 (k := fun g => .agg #[.int .i64 5, .int .i64 0, .int .u64 0, .int .i64 0, .int .i64 0, .int .i64 0, .int .i64 14, .slice (some ⟨g, 0, none⟩) 2 2]) (T := fun g => binT 14 g (ET.mk op1 wd1 v1 sg1 uh1 ul1 xn1 xa1 xc1 xl1) (ET.mk op2 wd2 v2 sg2 uh2 ul2 xn2 xa2 xc2 xl2)) (f3 h) hb)), (fun h => (keepF4 (f4 h) hb)), (f5), (f6), (f7), (fun _ => ⟨rfl, hC.size, by rw [World.size_alloc]; exact Nat.lt_succ_self _, fun h => Or.inr (f4 h).2.2.2.2, fun _ => World.alloc_heap_new W9 _⟩), (fun h => by rw [show b 9 = true from h] at n9; cases n9), (f10)⟩
                  · intro b a W9 hbk hd hcl hJ K hK
                    obtain ⟨u0, u1, u2, u3, u4, u5, u6, u7, u8, u9, u10, yya, loa, hia, gga, rfl, hC, f0, f1, f2, f3, f4, f5, f6, f7, f8, f9, f10⟩ := hJ
                    have d8 := f8 (hd ⟨8, .data⟩ (by simp) rfl)
                    have d6 := f6 (hd ⟨6, .data⟩ (by simp) rfl)
                    have d4 := f4 (hd ⟨4, .phase⟩ (by simp) rfl)
                    obtain ⟨rfl, k1, k2, k3, k4⟩ := d8
                    subst d6
                    obtain ⟨rfl, j1, j2, j3, j4⟩ := d4
                    obtain ⟨op7, wd7, v7, sg7, uh7, ul7, xn7, xa7, xc7, xl7⟩ := yya
                    have RY : RowM W9 gga ([] ++ ([.int .i64 0, .int .i64 0, .int .u64 0, .int .i64 0, .int .i64 0, .int .i64 0, .int .i64 0, .slice none 0 0] ++ [])) := k4 hbk
                    obtain ⟨y0, y1, y2, y3, y4, y5, y6, y7⟩ := RowM.cells RY 0 rfl
                    obtain ⟨p0, p1, p2, p3, p4, p5, p6, p7⟩ := RowM.thaw RY 0
                    have RZ := RowM.put RY 0 rfl (.int .i64 op7) (.int .i64 wd7) (.int .u64 (v7 : Int)) (.int .i64 sg7) (.int .i64 uh7) (.int .i64 ul7) (.int .i64 xn7) (.slice xa7 xl7.length xc7)
                    have ho := fun k hk => put_other W9 gga 0 (.int .i64 op7) (.int .i64 wd7) (.int .u64 (v7 : Int)) (.int .i64 sg7) (.int .i64 uh7) (.int .i64 ul7) (.int .i64 xn7) (.slice xa7 xl7.length xc7) k hk
                    have hC' := below_put hC k1 0 (.int .i64 op7) (.int .i64 wd7) (.int .u64 (v7 : Int)) (.int .i64 sg7) (.int .i64 uh7) (.int .i64 ul7) (.int .i64 xn7) (.slice xa7 xl7.length xc7)
                    simp only [Nat.zero_add] at y1 y2 y3 y4 y5 y6 y7 p1 p2 p3 p4 p5 p6 p7 RZ ho hC'
                    obtain ⟨W8, hW8⟩ : ∃ W8, ((((((((W9.setCell ⟨gga, 0, none⟩ (.int .i64 op7)).setCell ⟨gga, 1, none⟩ (.int .i64 wd7)).setCell ⟨gga, 2, none⟩ (.int .u64 (v7 : Int))).setCell ⟨gga, 3, none⟩ (.int .i64 sg7)).setCell ⟨gga, 4, none⟩ (.int .i64 uh7)).setCell ⟨gga, 5, none⟩ (.int .i64 ul7)).setCell ⟨gga, 6, none⟩ (.int .i64 xn7)).setCell ⟨gga, 7, none⟩ (.slice xa7 xl7.length xc7)) = W8 := ⟨_, rfl⟩
                    have hsz : W8.heap.size = W9.heap.size := by rw [← hW8]; simp only [World.size_setCell]
                    rw [hW8] at RZ hC'
                    simp only [hW8] at ho
                    have k3' := k3 (hd ⟨4, .phase⟩ (by simp) rfl)
                    have hown := ET.Own.keep (ET.mk op7 wd7 v7 sg7 uh7 ul7 xn7 xa7 xc7 xl7) loa hia (fun k h1 h2 => ho k (by omega)) j2
                    simp only [ET.val, ET.cells]
                    go_simp
                    (try rw [hW8])
                    exact hK _ _ ⟨_, _, _, _, _, _, _, _, _, undef, _, (ET.mk op7 wd7 v7 sg7 uh7 ul7 xn7 xa7 xc7 xl7), loa, hia, gga, rfl, hC', (f0), (f1), (f2), (fun _ h => by cases h), (fun _ => ⟨rfl, j1, hown, j3, by rw [hsz]; exact j4⟩), (f5), (f6), (f7), (fun _ => ⟨rfl, k1, by rw [hsz]; exact k2, fun _ => k3', fun h => by cases h⟩), (fun _ => RZ), (f10)⟩
                  · intro b a W9 hbk hd hcl hJ K hK
                    obtain ⟨u0, u1, u2, u3, u4, u5, u6, u7, u8, u9, u10, yya, loa, hia, gga, rfl, hC, f0, f1, f2, f3, f4, f5, f6, f7, f8, f9, f10⟩ := hJ
                    have d7 := f7 (hd ⟨7, .data⟩ (by simp) rfl)
                    subst d7
                    go_simp
                    exact hK _ _ ⟨_, _, _, _, _, _, _, _, _, undef, _, yya, loa, hia, gga, rfl, hC, (f0), (f1), (f2), (f3), (f4), (f5), (f6), (f7), (f8), (f9), (fun _ => rfl)⟩
                · intro b a V4 hb hJ
                  obtain ⟨p0, p1, p2, p3, p4, p5, p6, p7, p8, p9, p10, yya, loa, hia, gga, rfl, hC, f0, f1, f2, f3, f4, f5, f6, f7, f8, f9, f10⟩ := hJ
                  replace f0 := f0 (hb 0 (by decide))
                  replace f1 := f1 (hb 1 (by decide))
                  replace f2 := f2 (hb 2 (by decide))
                  replace f3 := f3 (hb 3 (by decide))
                  replace f4 := f4 (hb 4 (by decide))
                  replace f5 := f5 (hb 5 (by decide))
                  replace f6 := f6 (hb 6 (by decide))
                  replace f7 := f7 (hb 7 (by decide))
                  replace f8 := f8 (hb 8 (by decide))
                  replace f9 := f9 (hb 9 (by decide))
                  replace f10 := f10 (hb 10 (by decide))
                  obtain ⟨rfl, k1, k2, k3, k4⟩ := f8
                  subst f10
                  obtain ⟨hp4, j1, j2, j3, j4⟩ := f4
                  clear hp4
                  have HYa : Hid (V4.heap[gga]? = some (.cells yya.cells.toArray 30 (0, 0)) ∧ (G1 = 0 → yya.wd = wd1) ∧ yya.In V4.heap.size V4) := Lib.hid ⟨f9, j1, ET.In.less j4 _ (j2.inn _ _ _)⟩
                  clear f0 f1 f2 f3 f5 f6 f7 f9 k1 k2 k3 k4 j1 j2 j3 j4
                  have HSY := Lib.hid (hs3 HSX.out hC HSX.out.1.size)
                  clear HSX hC
                  have HSX := HSY
                  clear HSY
                  go_upto_region 5 with (fail)
                  refine wp_region_inv (fun (b : Nat → Bool) (a : Act) (W9 : World) => ∃ (u0 u1 u2 u3 u4 u5 u6 u7 u8 u9 u10 : Value) (yyb : ET) (lob hib ggb : Nat), a = { tmps := #[.agg #[.slice ga gl.length gc, .slice qa ql.length qc, .slice ka kl.length kc], .agg #[.int .i64 op1, .int .i64 wd1, .int .u64 (v1 : Int), .int .i64 sg1, .int .i64 uh1, .int .i64 ul1, .int .i64 xn1, .slice xa1 xl1.length xc1], .agg #[.int .i64 op2, .int .i64 wd2, .int .u64 (v2 : Int), .int .i64 sg2, .int .i64 uh2, .int .i64 ul2, .int .i64 xn2, .slice xa2 xl2.length xc2], .pointer (some ⟨gx, 0, none⟩), .pointer (some ⟨gx + 1, 0, none⟩), .pointer (some ⟨gx + 2, 0, none⟩), .bool false, .bool true, .pointer (some ⟨gga, 0, none⟩), .int .i64 G1, u8, u10, undef, undef, undef, .bool true, .agg #[.int .i64 op1, .int .i64 wd1, .int .u64 (v1 : Int), .int .i64 sg1, .int .i64 uh1, .int .i64 ul1, .int .i64 xn1, .slice xa1 xl1.length xc1], .bool true, .bool false, .bool false, .agg #[.int .i64 op2, .int .i64 wd2, .int .u64 (v2 : Int), .int .i64 sg2, .int .i64 uh2, .int .i64 ul2, .int .i64 xn2, .slice xa2 xl2.length xc2], .bool true, .bool false, .bool false, .bool false, .agg #[.slice ga gl.length gc, .slice qa ql.length qc, .slice ka kl.length kc], .bool true, .bool false, .bool false, .bool false, .agg #[.int .i64 op1, .int .i64 wd1, .int .u64 (v1 : Int), .int .i64 sg1, .int .i64 uh1, .int .i64 ul1, .int .i64 xn1, .slice xa1 xl1.length xc1], .int .i64 (D1 : Int), .bool false, .bool false, .bool false, .agg #[.int .i64 op2, .int .i64 wd2, .int .u64 (v2 : Int), .int .i64 sg2, .int .i64 uh2, .int .i64 ul2, .int .i64 xn2, .slice xa2 xl2.length xc2], .int .i64 (D2 : Int), .bool false, .bool false, .bool false, .agg #[.slice ga gl.length gc, .slice qa ql.length qc, .slice ka kl.length kc], .agg #[.int .i64 op1, .int .i64 wd1, .int .u64 (v1 : Int), .int .i64 sg1, .int .i64 uh1, .int .i64 ul1, .int .i64 xn1, .slice xa1 xl1.length xc1], .int .i64 0, .bool false, .bool false, .bool false, .agg #[.slice ga gl.length gc, .slice qa ql.length qc, .slice ka kl.length kc], .agg #[.int .i64 op2, .int .i64 wd2, .int .u64 (v2 : Int), .int .i64 sg2, .int .i64 uh2, .int .i64 ul2, .int .i64 xn2, .slice xa2 xl2.length xc2], .int .i64 0, .bool false, .bool false, undef, p5, p0, p1, p2, p3, p4, p6, p7, u5, u0, u1, u2, u3, u4, u6, u7, undef, undef, undef, undef, undef, undef, undef, undef, undef, undef, undef, undef, undef, undef, undef, undef, undef, undef, undef, undef, undef, undef, undef, undef, undef, undef, undef, undef, undef, undef, undef, undef, undef, undef, undef, undef, undef, undef, undef, undef, undef, undef, undef, undef, undef, undef, undef, undef, undef, undef, undef, undef, undef, undef, undef, undef, undef], defers := [] } ∧ (Below V4.heap.size V4 W9) ∧ (b 0 = true → u0 = .agg #[.slice ga gl.length gc, .slice qa ql.length qc, .slice ka kl.length kc]) ∧ (b 1 = true → u1 = .agg #[.int .i64 op1, .int .i64 wd1, .int .u64 (v1 : Int), .int .i64 sg1, .int .i64 uh1, .int .i64 ul1, .int .i64 xn1, .slice xa1 xl1.length xc1]) ∧ (b 2 = true → u2 = .agg #[.int .i64 op2, .int .i64 wd2, .int .u64 (v2 : Int), .int .i64 sg2, .int .i64 uh2, .int .i64 ul2, .int .i64 xn2, .slice xa2 xl2.length xc2]) ∧ (b 3 = true → (b 9 = false → ∃ g, u3 = .agg #[.int .i64 5, .int .i64 0, .int .u64 0, .int .i64 0, .int .i64 0, .int .i64 0, .int .i64 21, .slice (some ⟨g, 0, none⟩) 2 2] ∧ (binT 21 g (ET.mk op1 wd1 v1 sg1 uh1 ul1 xn1 xa1 xc1 xl1) (ET.mk op2 wd2 v2 sg2 uh2 ul2 xn2 xa2 xc2 xl2)).In W9.heap.size W9)) ∧ (b 4 = true → u4 = .tuple #[yyb.val, .int .i64 G2] ∧ (G2 = 0 → yyb.wd = 1) ∧ yyb.Own W9 lob hib ∧ V4.heap.size ≤ lob ∧ hib ≤ W9.heap.size) ∧ (b 5 = true → u5 = .tuple #[yyb.val, .int .i64 G2]) ∧ (b 6 = true → u6 = yyb.val) ∧ (b 7 = true → u7 = .int .i64 G2) ∧ (b 8 = true → u8 = .pointer (some ⟨ggb, 0, none⟩) ∧ V4.heap.size ≤ ggb ∧ ggb < W9.heap.size ∧ (b 4 = true → ggb < lob ∨ hib ≤ ggb) ∧ (b 9 = false → W9.heap[ggb]? = some (.cells #[.int .i64 0, .int .i64 0, .int .u64 0, .int .i64 0, .int .i64 0, .int .i64 0, .int .i64 0, .slice none 0 0] 30 (0, 0)))) ∧ (b 9 = true → W9.heap[ggb]? = some (.cells yyb.cells.toArray 30 (0, 0))) ∧ (b 10 = true → u10 = .int .i64 G2)) (by kernel_rfl) (by kernel_rfl) ?_ ?_ ?_
                  · refine ⟨undef, undef, undef, undef, undef, undef, undef, undef, undef, undef, undef, zeroE, 0, 0, 0, rfl, below_drew' (Below.refl _ _), fun h => (by cases h), fun h => (by cases h), fun h => (by cases h), fun h => (by cases h), fun h => (by cases h), fun h => (by cases h), fun h => (by cases h), fun h => (by cases h), fun h => (by cases h), fun h => (by cases h), fun h => (by cases h)⟩
                  · refine ⟨⟨rfl, ?_⟩, ⟨⟨rfl, ?_⟩, ⟨⟨rfl, ?_⟩, ⟨⟨rfl, ?_⟩, ⟨⟨rfl, ?_⟩, ⟨⟨rfl, ?_⟩, ⟨⟨rfl, ?_⟩, ⟨⟨rfl, ?_⟩, ⟨⟨rfl, ?_⟩, ⟨⟨rfl, ?_⟩, ⟨⟨rfl, ?_⟩, trivial⟩⟩⟩⟩⟩⟩⟩⟩⟩⟩⟩
                    · intro b a W9 hbk hd hcl hJ K hK
                      obtain ⟨u0, u1, u2, u3, u4, u5, u6, u7, u8, u9, u10, yyb, lob, hib, ggb, rfl, hC, f0, f1, f2, f3, f4, f5, f6, f7, f8, f9, f10⟩ := hJ
                      obtain ⟨z0, z1, z2⟩ := opq3 (block_kept HSX.out.2.1 hC)
                      go_simp
                      exact hK _ _ ⟨_, _, _, _, _, _, _, _, _, undef, _, yyb, lob, hib, ggb, rfl, hC, (fun _ => rfl), (f1), (f2), (f3), (f4), (f5), (f6), (f7), (f8), (f9), (f10)⟩
                    · intro b a W9 hbk hd hcl hJ K hK
                      obtain ⟨u0, u1, u2, u3, u4, u5, u6, u7, u8, u9, u10, yyb, lob, hib, ggb, rfl, hC, f0, f1, f2, f3, f4, f5, f6, f7, f8, f9, f10⟩ := hJ
                      obtain ⟨z0, z1, z2, z3, z4, z5, z6, z7⟩ := ope8 (block_kept HSX.out.2.2.1 hC)
                      go_simp
                      exact hK _ _ ⟨_, _, _, _, _, _, _, _, _, undef, _, yyb, lob, hib, ggb, rfl, hC, (f0), (fun _ => rfl), (f2), (f3), (f4), (f5), (f6), (f7), (f8), (f9), (f10)⟩
                    · intro b a W9 hbk hd hcl hJ K hK
                      obtain ⟨u0, u1, u2, u3, u4, u5, u6, u7, u8, u9, u10, yyb, lob, hib, ggb, rfl, hC, f0, f1, f2, f3, f4, f5, f6, f7, f8, f9, f10⟩ := hJ
                      obtain ⟨z0, z1, z2, z3, z4, z5, z6, z7⟩ := ope8 (block_kept HSX.out.2.2.2 hC)
                      go_simp
                      exact hK _ _ ⟨_, _, _, _, _, _, _, _, _, undef, _, yyb, lob, hib, ggb, rfl, hC, (f0), (f1), (fun _ => rfl), (f3), (f4), (f5), (f6), (f7), (f8), (f9), (f10)⟩
                    · intro b a W9 hbk hd hcl hJ K hK
                      obtain ⟨u0, u1, u2, u3, u4, u5, u6, u7, u8, u9, u10, yyb, lob, hib, ggb, rfl, hC, f0, f1, f2, f3, f4, f5, f6, f7, f8, f9, f10⟩ := hJ
                      have d1 := f1 (hd ⟨1, .data⟩ (by simp) rfl)
                      have d2 := f2 (hd ⟨2, .data⟩ (by simp) rfl)
                      subst d1
                      subst d2
                      go_simp
                      refine (HB.out 21 W9 (HSX.out.1.trans (hC.mono HSX.out.1.size))).mono ?_
                      rintro e W8 ⟨g', rfl, hib', hb⟩
                      have hC' := hC.trans (hb.mono hC.size)
                      exact hK _ _ ⟨_, _, _, _, _, _, _, _, _, undef, _, yyb, lob, hib, ggb, rfl, hC', (f0), (f1), (f2), (fun _ => fun _ => ⟨g', rfl, hib'⟩), (fun h => (keepF4 (f4 h) hb)), (f5), (f6), (f7), (fun h => (keepF8 (f8 h) hb)), (fun h => (block_kept (f9 h) hb)), (f10)⟩
                    · intro b a W9 hbk hd hcl hJ K hK
                      obtain ⟨u0, u1, u2, u3, u4, u5, u6, u7, u8, u9, u10, yyb, lob, hib, ggb, rfl, hC, f0, f1, f2, f3, f4, f5, f6, f7, f8, f9, f10⟩ := hJ
                      have d0 := f0 (hd ⟨0, .data⟩ (by simp) rfl)
                      have d3 := f3 (hd ⟨3, .data⟩ (by simp) rfl)
                      have n5 := (hcl.no 5 _ rfl ⟨4, .data⟩ (by simp) rfl rfl hbk)
                      have n6 := (hcl.no 6 _ rfl ⟨5, .data⟩ (by simp) rfl rfl n5)
                      have n9 := (hcl.no 9 _ rfl ⟨6, .data⟩ (by simp) rfl rfl n6)
                      obtain ⟨g', hg', hib'⟩ := d3 n9
                      subst hg'
                      subst d0
                      go_simp
                      refine (HX.out 21 g' G2 1 (T2.out g') W9 (HSX.out.1.trans (hC.mono HSX.out.1.size)) hib').mono ?_
                      rintro e W8 ⟨y', rfl, hyn, hyo, hb⟩
                      have hC' := hC.trans (hb.mono hC.size)
                      exact hK _ _ ⟨_, _, _, _, _, _, _, _, _, undef, _, y', W9.heap.size, W8.heap.size, ggb, rfl, hC', (f0), (f1), (f2), (fun h => (keepF3 (k := fun g => .agg #[.int .i64 5, .int .i64 0, .int .u64 0, .int .i64 0, .int .i64 0, .int .i64 0, .int .i64 21, .slice (some ⟨g, 0, none⟩) 2 2]) (T := fun g => binT 21 g (ET.mk op1 wd1 v1 sg1 uh1 ul1 xn1 xa1 xc1 xl1) (ET.mk op2 wd2 v2 sg2 uh2 ul2 xn2 xa2 xc2 xl2)) (f3 h) hb)), (fun _ => ⟨rfl, hyn, hyo, hC.size, Nat.le_refl _⟩), (fun h => by rw [show b 5 = true from h] at n5; cases n5), (fun h => by rw [show b 6 = true from h] at n6; cases n6), (f7), (fun h => keepF8 (r := (_ → _ ∨ _)) ⟨(f8 h).1, (f8 h).2.1, (f8 h).2.2.1, fun _ => Or.inl (f8 h).2.2.1, (f8 h).2.2.2.2⟩ hb), (fun h => by rw [show b 9 = true from h] at n9; cases n9), (f10)⟩
                    · intro b a W9 hbk hd hcl hJ K hK
                      obtain ⟨u0, u1, u2, u3, u4, u5, u6, u7, u8, u9, u10, yyb, lob, hib, ggb, rfl, hC, f0, f1, f2, f3, f4, f5, f6, f7, f8, f9, f10⟩ := hJ
                      have d4 := f4 (hd ⟨4, .data⟩ (by simp) rfl)
                      obtain ⟨rfl, d4r⟩ := d4
                      go_simp
                      exact hK _ _ ⟨_, _, _, _, _, _, _, _, _, undef, _, yyb, lob, hib, ggb, rfl, hC, (f0), (f1), (f2), (f3), (f4), (fun _ => rfl), (f6), (f7), (f8), (f9), (f10)⟩
                    · intro b a W9 hbk hd hcl hJ K hK
                      obtain ⟨u0, u1, u2, u3, u4, u5, u6, u7, u8, u9, u10, yyb, lob, hib, ggb, rfl, hC, f0, f1, f2, f3, f4, f5, f6, f7, f8, f9, f10⟩ := hJ
                      have d5 := f5 (hd ⟨5, .data⟩ (by simp) rfl)
                      subst d5
                      go_simp
                      exact hK _ _ ⟨_, _, _, _, _, _, _, _, _, undef, _, yyb, lob, hib, ggb, rfl, hC, (f0), (f1), (f2), (f3), (f4), (f5), (fun _ => rfl), (f7), (f8), (f9), (f10)⟩
                    · intro b a W9 hbk hd hcl hJ K hK
                      obtain ⟨u0, u1, u2, u3, u4, u5, u6, u7, u8, u9, u10, yyb, lob, hib, ggb, rfl, hC, f0, f1, f2, f3, f4, f5, f6, f7, f8, f9, f10⟩ := hJ
                      have d5 := f5 (hd ⟨5, .data⟩ (by simp) rfl)
                      subst d5
                      go_simp
                      exact hK _ _ ⟨_, _, _, _, _, _, _, _, _, undef, _, yyb, lob, hib, ggb, rfl, hC, (f0), (f1), (f2), (f3), (f4), (f5), (f6), (fun _ => rfl), (f8), (f9), (f10)⟩
                    · intro b a W9 hbk hd hcl hJ K hK
                      obtain ⟨u0, u1, u2, u3, u4, u5, u6, u7, u8, u9, u10, yyb, lob, hib, ggb, rfl, hC, f0, f1, f2, f3, f4, f5, f6, f7, f8, f9, f10⟩ := hJ
                      have n9 := (hcl.no 9 _ rfl ⟨8, .data⟩ (by simp) rfl rfl hbk)
                      have hb : Below W9.heap.size W9 (W9.alloc (.cells #[.int .i64 0, .int .i64 0, .int .u64 0, .int .i64 0, .int .i64 0, .int .i64 0, .int .i64 0, .slice none 0 0] 30 (0, 0))) := (Below.refl _ _).alloc (Nat.le_refl _) _
                      have hC' := hC.trans (hb.mono hC.size)
                      go_simp
                      exact hK _ _ ⟨_, _, _, _, _, _, _, _, _, undef, _, yyb, lob, hib, W9.heap.size, rfl, hC', (f0), (f1), (f2), (fun h => (keepF3 (k := fun g => .agg #[.int .i64 5, .int .i64 0, .int .u64 0, .int .i64 0, .int .i64 0, .int .i64 0, .int .i64 21, .slice (some ⟨g, 0, none⟩) 2 2]) (T := fun g => binT 21 g (ET.mk op1 wd1 v1 sg1 uh1 ul1 xn1 xa1 xc1 xl1) (ET.mk op2 wd2 v2 sg2 uh2 ul2 xn2 xa2 xc2 xl2)) (f3 h) hb)), (fun h => (keepF4 (f4 h) hb)), (f5), (f6), (f7), (fun _ => ⟨rfl, hC.size, by rw [World.size_alloc]; exact Nat.lt_succ_self _, fun h => Or.inr (f4 h).2.2.2.2, fun _ => World.alloc_heap_new W9 _⟩), (fun h => by rw [show b 9 = true from h] at n9; cases n9), (f10)⟩
                    · intro b a W9 hbk hd hcl hJ K hK
                      obtain ⟨u0, u1, u2, u3, u4, u5, u6, u7, u8, u9, u10, yyb, lob, hib, ggb, rfl, hC, f0, f1, f2, f3, f4, f5, f6, f7, f8, f9, f10⟩ := hJ
                      have d8 := f8 (hd ⟨8, .data⟩ (by simp) rfl)
                      have d6 := f6 (hd ⟨6, .data⟩ (by simp) rfl)
                      have d4 := f4 (hd ⟨4, .phase⟩ (by simp) rfl)
                      obtain ⟨rfl, k1, k2, k3, k4⟩ := d8
                      subst d6
                      obtain ⟨rfl, j1, j2, j3, j4⟩ := d4
                      obtain ⟨op7, wd7, v7, sg7, uh7, ul7, xn7, xa7, xc7, xl7⟩ := yyb
                      have RY : RowM W9 ggb ([] ++ ([.int .i64 0, .int .i64 0, .int .u64 0, .int .i64 0, .int .i64 0, .int .i64 0, .int .i64 0, .slice none 0 0] ++ [])) := k4 hbk
                      obtain ⟨y0, y1, y2, y3, y4, y5, y6, y7⟩ := RowM.cells RY 0 rfl
                      obtain ⟨p0, p1, p2, p3, p4, p5, p6, p7⟩ := RowM.thaw RY 0
                      have RZ := RowM.put RY 0 rfl (.int .i64 op7) (.int .i64 wd7) (.int .u64 (v7 : Int)) (.int .i64 sg7) (.int .i64 uh7) (.int .i64 ul7) (.int .i64 xn7) (.slice xa7 xl7.length xc7)
                      have ho := fun k hk => put_other W9 ggb 0 (.int .i64 op7) (.int .i64 wd7) (.int .u64 (v7 : Int)) (.int .i64 sg7) (.int .i64 uh7) (.int .i64 ul7) (.int .i64 xn7) (.slice xa7 xl7.length xc7) k hk
                      have hC' := below_put hC k1 0 (.int .i64 op7) (.int .i64 wd7) (.int .u64 (v7 : Int)) (.int .i64 sg7) (.int .i64 uh7) (.int .i64 ul7) (.int .i64 xn7) (.slice xa7 xl7.length xc7)
                      simp only [Nat.zero_add] at y1 y2 y3 y4 y5 y6 y7 p1 p2 p3 p4 p5 p6 p7 RZ ho hC'
                      obtain ⟨W8, hW8⟩ : ∃ W8, ((((((((W9.setCell ⟨ggb, 0, none⟩ (.int .i64 op7)).setCell ⟨ggb, 1, none⟩ (.int .i64 wd7)).setCell ⟨ggb, 2, none⟩ (.int .u64 (v7 : Int))).setCell ⟨ggb, 3, none⟩ (.int .i64 sg7)).setCell ⟨ggb, 4, none⟩ (.int .i64 uh7)).setCell ⟨ggb, 5, none⟩ (.int .i64 ul7)).setCell ⟨ggb, 6, none⟩ (.int .i64 xn7)).setCell ⟨ggb, 7, none⟩ (.slice xa7 xl7.length xc7)) = W8 := ⟨_, rfl⟩
                      have hsz : W8.heap.size = W9.heap.size := by rw [← hW8]; simp only [World.size_setCell]
                      rw [hW8] at RZ hC'
                      simp only [hW8] at ho
                      have k3' := k3 (hd ⟨4, .phase⟩ (by simp) rfl)
                      have hown := ET.Own.keep (ET.mk op7 wd7 v7 sg7 uh7 ul7 xn7 xa7 xc7 xl7) lob hib (fun k h1 h2 => ho k (by omega)) j2
                      simp only [ET.val, ET.cells]
                      go_simp
                      (try rw [hW8])
                      exact hK _ _ ⟨_, _, _, _, _, _, _, _, _, undef, _, (ET.mk op7 wd7 v7 sg7 uh7 ul7 xn7 xa7 xc7 xl7), lob, hib, ggb, rfl, hC', (f0), (f1), (f2), (fun _ h => by cases h), (fun _ => ⟨rfl, j1, hown, j3, by rw [hsz]; exact j4⟩), (f5), (f6), (f7), (fun _ => ⟨rfl, k1, by rw [hsz]; exact k2, fun _ => k3', fun h => by cases h⟩), (fun _ => RZ), (f10)⟩
                    · intro b a W9 hbk hd hcl hJ K hK
                      obtain ⟨u0, u1, u2, u3, u4, u5, u6, u7, u8, u9, u10, yyb, lob, hib, ggb, rfl, hC, f0, f1, f2, f3, f4, f5, f6, f7, f8, f9, f10⟩ := hJ
                      have d7 := f7 (hd ⟨7, .data⟩ (by simp) rfl)
                      subst d7
                      go_simp
                      exact hK _ _ ⟨_, _, _, _, _, _, _, _, _, undef, _, yyb, lob, hib, ggb, rfl, hC, (f0), (f1), (f2), (f3), (f4), (f5), (f6), (f7), (f8), (f9), (fun _ => rfl)⟩
                  · intro b a V5 hb hJ
                    obtain ⟨q0, q1, q2, q3, q4, q5, q6, q7, q8, q9, q10, yyb, lob, hib, ggb, rfl, hC, f0, f1, f2, f3, f4, f5, f6, f7, f8, f9, f10⟩ := hJ
                    replace f0 := f0 (hb 0 (by decide))
                    replace f1 := f1 (hb 1 (by decide))
                    replace f2 := f2 (hb 2 (by decide))
                    replace f3 := f3 (hb 3 (by decide))
                    replace f4 := f4 (hb 4 (by decide))
                    replace f5 := f5 (hb 5 (by decide))
                    replace f6 := f6 (hb 6 (by decide))
                    replace f7 := f7 (hb 7 (by decide))
                    replace f8 := f8 (hb 8 (by decide))
                    replace f9 := f9 (hb 9 (by decide))
                    replace f10 := f10 (hb 10 (by decide))
                    obtain ⟨rfl, k1, k2, k3, k4⟩ := f8
                    subst f10
                    obtain ⟨hp4, j1, j2, j3, j4⟩ := f4
                    clear hp4
                    have HYb : Hid (V5.heap[ggb]? = some (.cells yyb.cells.toArray 30 (0, 0)) ∧ (G2 = 0 → yyb.wd = 1) ∧ yyb.In V5.heap.size V5) := Lib.hid ⟨f9, j1, ET.In.less j4 _ (j2.inn _ _ _)⟩
                    clear f0 f1 f2 f3 f5 f6 f7 f9 k1 k2 k3 k4 j1 j2 j3 j4
                    have HSY := Lib.hid (hs3 HSX.out hC HSX.out.1.size)
                    have HYK := Lib.hid (And.intro (block_kept HYa.out.1 hC) HYa.out.2.1)
                    clear HYa
                    have HYa := HYK
                    clear HYK
                    clear HSX hC
                    have HSX := HSY
                    clear HSY
                    go_upto_region 6 with (fail)
                    refine wp_region_inv (fun (b : Nat → Bool) (a : Act) (W9 : World) => ∃ (u0 u1 u2 u3 u4 u5 u6 u7 u8 u9 u10 : Value) (yyc : ET) (loc hic ggc : Nat), a = { tmps := #[.agg #[.slice ga gl.length gc, .slice qa ql.length qc, .slice ka kl.length kc], .agg #[.int .i64 op1, .int .i64 wd1, .int .u64 (v1 : Int), .int .i64 sg1, .int .i64 uh1, .int .i64 ul1, .int .i64 xn1, .slice xa1 xl1.length xc1], .agg #[.int .i64 op2, .int .i64 wd2, .int .u64 (v2 : Int), .int .i64 sg2, .int .i64 uh2, .int .i64 ul2, .int .i64 xn2, .slice xa2 xl2.length xc2], .pointer (some ⟨gx, 0, none⟩), .pointer (some ⟨gx + 1, 0, none⟩), .pointer (some ⟨gx + 2, 0, none⟩), .bool false, .bool true, .pointer (some ⟨gga, 0, none⟩), .int .i64 G1, .pointer (some ⟨ggb, 0, none⟩), .int .i64 G2, u8, u10, undef, .bool true, .agg #[.int .i64 op1, .int .i64 wd1, .int .u64 (v1 : Int), .int .i64 sg1, .int .i64 uh1, .int .i64 ul1, .int .i64 xn1, .slice xa1 xl1.length xc1], .bool true, .bool false, .bool false, .agg #[.int .i64 op2, .int .i64 wd2, .int .u64 (v2 : Int), .int .i64 sg2, .int .i64 uh2, .int .i64 ul2, .int .i64 xn2, .slice xa2 xl2.length xc2], .bool true, .bool false, .bool false, .bool false, .agg #[.slice ga gl.length gc, .slice qa ql.length qc, .slice ka kl.length kc], .bool true, .bool false, .bool false, .bool false, .agg #[.int .i64 op1, .int .i64 wd1, .int .u64 (v1 : Int), .int .i64 sg1, .int .i64 uh1, .int .i64 ul1, .int .i64 xn1, .slice xa1 xl1.length xc1], .int .i64 (D1 : Int), .bool false, .bool false, .bool false, .agg #[.int .i64 op2, .int .i64 wd2, .int .u64 (v2 : Int), .int .i64 sg2, .int .i64 uh2, .int .i64 ul2, .int .i64 xn2, .slice xa2 xl2.length xc2], .int .i64 (D2 : Int), .bool false, .bool false, .bool false, .agg #[.slice ga gl.length gc, .slice qa ql.length qc, .slice ka kl.length kc], .agg #[.int .i64 op1, .int .i64 wd1, .int .u64 (v1 : Int), .int .i64 sg1, .int .i64 uh1, .int .i64 ul1, .int .i64 xn1, .slice xa1 xl1.length xc1], .int .i64 0, .bool false, .bool false, .bool false, .agg #[.slice ga gl.length gc, .slice qa ql.length qc, .slice ka kl.length kc], .agg #[.int .i64 op2, .int .i64 wd2, .int .u64 (v2 : Int), .int .i64 sg2, .int .i64 uh2, .int .i64 ul2, .int .i64 xn2, .slice xa2 xl2.length xc2], .int .i64 0, .bool false, .bool false, undef, p5, p0, p1, p2, p3, p4, p6, p7, q5, q0, q1, q2, q3, q4, q6, q7, u5, u0, u1, u2, u3, u4, u6, u7, undef, undef, undef, undef, undef, undef, undef, undef, undef, undef, undef, undef, undef, undef, undef, undef, undef, undef, undef, undef, undef, undef, undef, undef, undef, undef, undef, undef, undef, undef, undef, undef, undef, undef, undef, undef, undef, undef, undef, undef, undef, undef, undef, undef, undef, undef, undef, undef, undef], defers := [] } ∧ (Below V5.heap.size V5 W9) ∧ (b 0 = true → u0 = .agg #[.slice ga gl.length gc, .slice qa ql.length qc, .slice ka kl.length kc]) ∧ (b 1 = true → u1 = .agg #[.int .i64 op1, .int .i64 wd1, .int .u64 (v1 : Int), .int .i64 sg1, .int .i64 uh1, .int .i64 ul1, .int .i64 xn1, .slice xa1 xl1.length xc1]) ∧ (b 2 = true → u2 = .agg #[.int .i64 op2, .int .i64 wd2, .int .u64 (v2 : Int), .int .i64 sg2, .int .i64 uh2, .int .i64 ul2, .int .i64 xn2, .slice xa2 xl2.length xc2]) ∧ (b 3 = true → (b 9 = false → ∃ g, u3 = .agg #[.int .i64 5, .int .i64 0, .int .u64 0, .int .i64 0, .int .i64 0, .int .i64 0, .int .i64 17, .slice (some ⟨g, 0, none⟩) 2 2] ∧ (binT 17 g (ET.mk op1 wd1 v1 sg1 uh1 ul1 xn1 xa1 xc1 xl1) (ET.mk op2 wd2 v2 sg2 uh2 ul2 xn2 xa2 xc2 xl2)).In W9.heap.size W9)) ∧ (b 4 = true → u4 = .tuple #[yyc.val, .int .i64 (0 : Int)] ∧ ((0 : Int) = 0 → yyc.wd = wd1) ∧ yyc.Own W9 loc hic ∧ V5.heap.size ≤ loc ∧ hic ≤ W9.heap.size) ∧ (b 5 = true → u5 = .tuple #[yyc.val, .int .i64 (0 : Int)]) ∧ (b 6 = true → u6 = yyc.val) ∧ (b 7 = true → u7 = .int .i64 (0 : Int)) ∧ (b 8 = true → u8 = .pointer (some ⟨ggc, 0, none⟩) ∧ V5.heap.size ≤ ggc ∧ ggc < W9.heap.size ∧ (b 4 = true → ggc < loc ∨ hic ≤ ggc) ∧ (b 9 = false → W9.heap[ggc]? = some (.cells #[.int .i64 0, .int .i64 0, .int .u64 0, .int .i64 0, .int .i64 0, .int .i64 0, .int .i64 0, .slice none 0 0] 30 (0, 0)))) ∧ (b 9 = true → W9.heap[ggc]? = some (.cells yyc.cells.toArray 30 (0, 0))) ∧ (b 10 = true → u10 = .int .i64 (0 : Int))) (by kernel_rfl) (by kernel_rfl) ?_ ?_ ?_
                    · refine ⟨undef, undef, undef, undef, undef, undef, undef, undef, undef, undef, undef, zeroE, 0, 0, 0, rfl, below_drew' (Below.refl _ _), fun h => (by cases h), fun h => (by cases h), fun h => (by cases h), fun h => (by cases h), fun h => (by cases h), fun h => (by cases h), fun h => (by cases h), fun h => (by cases h), fun h => (by cases h), fun h => (by cases h), fun h => (by cases h)⟩
                    · refine ⟨⟨rfl, ?_⟩, ⟨⟨rfl, ?_⟩, ⟨⟨rfl, ?_⟩, ⟨⟨rfl, ?_⟩, ⟨⟨rfl, ?_⟩, ⟨⟨rfl, ?_⟩, ⟨⟨rfl, ?_⟩, ⟨⟨rfl, ?_⟩, ⟨⟨rfl, ?_⟩, ⟨⟨rfl, ?_⟩, ⟨⟨rfl, ?_⟩, trivial⟩⟩⟩⟩⟩⟩⟩⟩⟩⟩⟩
                      · intro b a W9 hbk hd hcl hJ K hK
                        obtain ⟨u0, u1, u2, u3, u4, u5, u6, u7, u8, u9, u10, yyc, loc, hic, ggc, rfl, hC, f0, f1, f2, f3, f4, f5, f6, f7, f8, f9, f10⟩ := hJ
                        obtain ⟨z0, z1, z2⟩ := opq3 (block_kept HSX.out.2.1 hC)
                        go_simp
                        exact hK _ _ ⟨_, _, _, _, _, _, _, _, _, undef, _, yyc, loc, hic, ggc, rfl, hC, (fun _ => rfl), (f1), (f2), (f3), (f4), (f5), (f6), (f7), (f8), (f9), (f10)⟩
                      · intro b a W9 hbk hd hcl hJ K hK
                        obtain ⟨u0, u1, u2, u3, u4, u5, u6, u7, u8, u9, u10, yyc, loc, hic, ggc, rfl, hC, f0, f1, f2, f3, f4, f5, f6, f7, f8, f9, f10⟩ := hJ
                        obtain ⟨z0, z1, z2, z3, z4, z5, z6, z7⟩ := ope8 (block_kept HSX.out.2.2.1 hC)
                        go_simp
                        exact hK _ _ ⟨_, _, _, _, _, _, _, _, _, undef, _, yyc, loc, hic, ggc, rfl, hC, (f0), (fun _ => rfl), (f2), (f3), (f4), (f5), (f6), (f7), (f8), (f9), (f10)⟩
                      · intro b a W9 hbk hd hcl hJ K hK
                        obtain ⟨u0, u1, u2, u3, u4, u5, u6, u7, u8, u9, u10, yyc, loc, hic, ggc, rfl, hC, f0, f1, f2, f3, f4, f5, f6, f7, f8, f9, f10⟩ := hJ
                        obtain ⟨z0, z1, z2, z3, z4, z5, z6, z7⟩ := ope8 (block_kept HSX.out.2.2.2 hC)
                        go_simp
                        exact hK _ _ ⟨_, _, _, _, _, _, _, _, _, undef, _, yyc, loc, hic, ggc, rfl, hC, (f0), (f1), (fun _ => rfl), (f3), (f4), (f5), (f6), (f7), (f8), (f9), (f10)⟩
                      · intro b a W9 hbk hd hcl hJ K hK
                        obtain ⟨u0, u1, u2, u3, u4, u5, u6, u7, u8, u9, u10, yyc, loc, hic, ggc, rfl, hC, f0, f1, f2, f3, f4, f5, f6, f7, f8, f9, f10⟩ := hJ
                        have d1 := f1 (hd ⟨1, .data⟩ (by simp) rfl)
                        have d2 := f2 (hd ⟨2, .data⟩ (by simp) rfl)
                        subst d1
                        subst d2
                        go_simp
                        refine (HB.out 17 W9 (HSX.out.1.trans (hC.mono HSX.out.1.size))).mono ?_
                        rintro e W8 ⟨g', rfl, hic', hb⟩
                        have hC' := hC.trans (hb.mono hC.size)
                        exact hK _ _ ⟨_, _, _, _, _, _, _, _, _, undef, _, yyc, loc, hic, ggc, rfl, hC', (f0), (f1), (f2), (fun _ => fun _ => ⟨g', rfl, hic'⟩), (fun h => (keepF4 (f4 h) hb)), (f5), (f6), (f7), (fun h => (keepF8 (f8 h) hb)), (fun h => (block_kept (f9 h) hb)), (f10)⟩
                      · intro b a W9 hbk hd hcl hJ K hK
                        obtain ⟨u0, u1, u2, u3, u4, u5, u6, u7, u8, u9, u10, yyc, loc, hic, ggc, rfl, hC, f0, f1, f2, f3, f4, f5, f6, f7, f8, f9, f10⟩ := hJ
                        have d0 := f0 (hd ⟨0, .data⟩ (by simp) rfl)
                        have d3 := f3 (hd ⟨3, .data⟩ (by simp) rfl)
                        have n5 := (hcl.no 5 _ rfl ⟨4, .data⟩ (by simp) rfl rfl hbk)
                        have n6 := (hcl.no 6 _ rfl ⟨5, .data⟩ (by simp) rfl rfl n5)
                        have n9 := (hcl.no 9 _ rfl ⟨6, .data⟩ (by simp) rfl rfl n6)
                        obtain ⟨g', hg', hic'⟩ := d3 n9
                        subst hg'
                        subst d0
                        go_simp
                        refine (HX.out 17 g' (0 : Int) wd1 (T3.out g') W9 (HSX.out.1.trans (hC.mono HSX.out.1.size)) hic').mono ?_
                        rintro e W8 ⟨y', rfl, hyn, hyo, hb⟩
                        have hC' := hC.trans (hb.mono hC.size)
                        exact hK _ _ ⟨_, _, _, _, _, _, _, _, _, undef, _, y', W9.heap.size, W8.heap.size, ggc, rfl, hC', (f0), (f1), (f2), (fun h => (keepF3 (k := fun g => .agg #[.int .i64 5, .int .i64 0, .int .u64 0, .int .i64 0, .int .i64 0, .int .i64 0, .int .i64 17, .slice (some ⟨g, 0, none⟩) 2 2]) (T := fun g => binT 17 g (ET.mk op1 wd1 v1 sg1 uh1 ul1 xn1 xa1 xc1 xl1) (ET.mk op2 wd2 v2 sg2 uh2 ul2 xn2 xa2 xc2 xl2)) (f3 h) hb)), (fun _ => ⟨rfl, hyn, hyo, hC.size, Nat.le_refl _⟩), (fun h => by rw [show b 5 = true from h] at n5; cases n5), (fun h => by rw [show b 6 = true from h] at n6; cases n6), (f7), (fun h => keepF8 (r := (_ → _ ∨ _)) ⟨(f8 h).1, (f8 h).2.1, (f8 h).2.2.1, fun _ => Or.inl (f8 h).2.2.1, (f8 h).2.2.2.2⟩ hb), (fun h => by rw [show b 9 = true from h] at n9; cases n9), (f10)⟩
                      · intro b a W9 hbk hd hcl hJ K hK
                        obtain ⟨u0, u1, u2, u3, u4, u5, u6, u7, u8, u9, u10, yyc, loc, hic, ggc, rfl, hC, f0, f1, f2, f3, f4, f5, f6, f7, f8, f9, f10⟩ := hJ
                        have d4 := f4 (hd ⟨4, .data⟩ (by simp) rfl)
                        obtain ⟨rfl, d4r⟩ := d4
                        go_simp
                        exact hK _ _ ⟨_, _, _, _, _, _, _, _, _, undef, _, yyc, loc, hic, ggc, rfl, hC, (f0), (f1), (f2), (f3), (f4), (fun _ => rfl), (f6), (f7), (f8), (f9), (f10)⟩
                      · intro b a W9 hbk hd hcl hJ K hK
                        obtain ⟨u0, u1, u2, u3, u4, u5, u6, u7, u8, u9, u10, yyc, loc, hic, ggc, rfl, hC, f0, f1, f2, f3, f4, f5, f6, f7, f8, f9, f10⟩ := hJ
                        have d5 := f5 (hd ⟨5, .data⟩ (by simp) rfl)
                        subst d5
                        go_simp
                        exact hK _ _ ⟨_, _, _, _, _, _, _, _, _, undef, _, yyc, loc, hic, ggc, rfl, hC, (f0), (f1), (f2), (f3), (f4), (f5), (fun _ => rfl), (f7), (f8), (f9), (f10)⟩
                      · intro b a W9 hbk hd hcl hJ K hK
                        obtain ⟨u0, u1, u2, u3, u4, u5, u6, u7, u8, u9, u10, yyc, loc, hic, ggc, rfl, hC, f0, f1, f2, f3, f4, f5, f6, f7, f8, f9, f10⟩ := hJ
                        have d5 := f5 (hd ⟨5, .data⟩ (by simp) rfl)
                        subst d5
                        go_simp
                        exact hK _ _ ⟨_, _, _, _, _, _, _, _, _, undef, _, yyc, loc, hic, ggc, rfl, hC, (f0), (f1), (f2), (f3), (f4), (f5), (f6), (fun _ => rfl), (f8), (f9), (f10)⟩
                      · intro b a W9 hbk hd hcl hJ K hK
                        obtain ⟨u0, u1, u2, u3, u4, u5, u6, u7, u8, u9, u10, yyc, loc, hic, ggc, rfl, hC, f0, f1, f2, f3, f4, f5, f6, f7, f8, f9, f10⟩ := hJ
                        have n9 := (hcl.no 9 _ rfl ⟨8, .data⟩ (by simp) rfl rfl hbk)
                        have hb : Below W9.heap.size W9 (W9.alloc (.cells #[.int .i64 0, .int .i64 0, .int .u64 0, .int .i64 0, .int .i64 0, .int .i64 0, .int .i64 0, .slice none 0 0] 30 (0, 0))) := (Below.refl _ _).alloc (Nat.le_refl _) _
                        have hC' := hC.trans (hb.mono hC.size)
                        go_simp
                        exact hK _ _ ⟨_, _, _, _, _, _, _, _, _, undef, _, yyc, loc, hic, W9.heap.size, rfl, hC', (f0), (f1), (f2), (fun h => (keepF3 (k := fun g => .agg #[.int .i64 5, .int .i64 0, .int .u64 0, .int .i64 0, .int .i64 0, .int .i64 0, .int .i64 17, .slice (some ⟨g, 0, none⟩) 2 2]) (T := fun g => binT 17 g (ET.mk op1 wd1 v1 sg1 uh1 ul1 xn1 xa1 xc1 xl1) (ET.mk op2 wd2 v2 sg2 uh2 ul2 xn2 xa2 xc2 xl2)) (f3 h) hb)), (fun h => (keepF4 (f4 h) hb)), (f5), (f6), (f7), (fun _ => ⟨rfl, hC.size, by rw [World.size_alloc]; exact Nat.lt_succ_self _, fun h => Or.inr (f4 h).2.2.2.2, fun _ => World.alloc_heap_new W9 _⟩), (fun h => by rw [show b 9 = true from h] at n9; cases n9), (f10)⟩
                      · intro b a W9 hbk hd hcl hJ K hK
                        obtain ⟨u0, u1, u2, u3, u4, u5, u6, u7, u8, u9, u10, yyc, loc, hic, ggc, rfl, hC, f0, f1, f2, f3, f4, f5, f6, f7, f8, f9, f10⟩ := hJ
                        have d8 := f8 (hd ⟨8, .data⟩ (by simp) rfl)
                        have d6 := f6 (hd ⟨6, .data⟩ (by simp) rfl)
                        have d4 := f4 (hd ⟨4, .phase⟩ (by simp) rfl)
                        obtain ⟨rfl, k1, k2, k3, k4⟩ := d8
                        subst d6
                        obtain ⟨rfl, j1, j2, j3, j4⟩ := d4
                        obtain ⟨op7, wd7, v7, sg7, uh7, ul7, xn7, xa7, xc7, xl7⟩ := yyc
                        have RY : RowM W9 ggc ([] ++ ([.int .i64 0, .int .i64 0, .int .u64 0, .int .i64 0, .int .i64 0, .int .i64 0, .int .i64 0, .slice none 0 0] ++ [])) := k4 hbk
                        obtain ⟨y0, y1, y2, y3, y4, y5, y6, y7⟩ := RowM.cells RY 0 rfl
                        obtain ⟨p0, p1, p2, p3, p4, p5, p6, p7⟩ := RowM.thaw RY 0
                        have RZ := RowM.put RY 0 rfl (.int .i64 op7) (.int .i64 wd7) (.int .u64 (v7 : Int)) (.int .i64 sg7) (.int .i64 uh7) (.int .i64 ul7) (.int .i64 xn7) (.slice xa7 xl7.length xc7)
                        have ho := fun k hk => put_other W9 ggc 0 (.int .i64 op7) (.int .i64 wd7) (.int .u64 (v7 : Int)) (.int .i64 sg7) (.int .i64 uh7) (.int .i64 ul7) (.int .i64 xn7) (.slice xa7 xl7.length xc7) k hk
                        have hC' := below_put hC k1 0 (.int .i64 op7) (.int .i64 wd7) (.int .u64 (v7 : Int)) (.int .i64 sg7) (.int .i64 uh7) (.int .i64 ul7) (.int .i64 xn7) (.slice xa7 xl7.length xc7)
                        simp only [Nat.zero_add] at y1 y2 y3 y4 y5 y6 y7 p1 p2 p3 p4 p5 p6 p7 RZ ho hC'
                        obtain ⟨W8, hW8⟩ : ∃ W8, ((((((((W9.setCell ⟨ggc, 0, none⟩ (.int .i64 op7)).setCell ⟨ggc, 1, none⟩ (.int .i64 wd7)).setCell ⟨ggc, 2, none⟩ (.int .u64 (v7 : Int))).setCell ⟨ggc, 3, none⟩ (.int .i64 sg7)).setCell ⟨ggc, 4, none⟩ (.int .i64 uh7)).setCell ⟨ggc, 5, none⟩ (.int .i64 ul7)).setCell ⟨ggc, 6, none⟩ (.int .i64 xn7)).setCell ⟨ggc, 7, none⟩ (.slice xa7 xl7.length xc7)) = W8 := ⟨_, rfl⟩
                        have hsz : W8.heap.size = W9.heap.size := by rw [← hW8]; simp only [World.size_setCell]
                        rw [hW8] at RZ hC'
                        simp only [hW8] at ho
                        have k3' := k3 (hd ⟨4, .phase⟩ (by simp) rfl)
                        have hown := ET.Own.keep (ET.mk op7 wd7 v7 sg7 uh7 ul7 xn7 xa7 xc7 xl7) loc hic (fun k h1 h2 => ho k (by omega)) j2
                        simp only [ET.val, ET.cells]
                        go_simp
                        (try rw [hW8])
                        exact hK _ _ ⟨_, _, _, _, _, _, _, _, _, undef, _, (ET.mk op7 wd7 v7 sg7 uh7 ul7 xn7 xa7 xc7 xl7), loc, hic, ggc, rfl, hC', (f0), (f1), (f2), (fun _ h => by cases h), (fun _ => ⟨rfl, j1, hown, j3, by rw [hsz]; exact j4⟩), (f5), (f6), (f7), (fun _ => ⟨rfl, k1, by rw [hsz]; exact k2, fun _ => k3', fun h => by cases h⟩), (fun _ => RZ), (f10)⟩
                      · intro b a W9 hbk hd hcl hJ K hK
                        obtain ⟨u0, u1, u2, u3, u4, u5, u6, u7, u8, u9, u10, yyc, loc, hic, ggc, rfl, hC, f0, f1, f2, f3, f4, f5, f6, f7, f8, f9, f10⟩ := hJ
                        have d7 := f7 (hd ⟨7, .data⟩ (by simp) rfl)
                        subst d7
                        go_simp
                        exact hK _ _ ⟨_, _, _, _, _, _, _, _, _, undef, _, yyc, loc, hic, ggc, rfl, hC, (f0), (f1), (f2), (f3), (f4), (f5), (f6), (f7), (f8), (f9), (fun _ => rfl)⟩
                    · intro b a V6 hb hJ
                      obtain ⟨r0, r1, r2, r3, r4, r5, r6, r7, r8, r9, r10, yyc, loc, hic, ggc, rfl, hC, f0, f1, f2, f3, f4, f5, f6, f7, f8, f9, f10⟩ := hJ
                      replace f0 := f0 (hb 0 (by decide))
                      replace f1 := f1 (hb 1 (by decide))
                      replace f2 := f2 (hb 2 (by decide))
                      replace f3 := f3 (hb 3 (by decide))
                      replace f4 := f4 (hb 4 (by decide))
                      replace f5 := f5 (hb 5 (by decide))
                      replace f6 := f6 (hb 6 (by decide))
                      replace f7 := f7 (hb 7 (by decide))
                      replace f8 := f8 (hb 8 (by decide))
                      replace f9 := f9 (hb 9 (by decide))
                      replace f10 := f10 (hb 10 (by decide))
                      obtain ⟨rfl, k1, k2, k3, k4⟩ := f8
                      subst f10
                      obtain ⟨hp4, j1, j2, j3, j4⟩ := f4
                      clear hp4
                      have HYc : Hid (V6.heap[ggc]? = some (.cells yyc.cells.toArray 30 (0, 0)) ∧ ((0 : Int) = 0 → yyc.wd = wd1) ∧ yyc.In V6.heap.size V6) := Lib.hid ⟨f9, j1, ET.In.less j4 _ (j2.inn _ _ _)⟩
                      clear f0 f1 f2 f3 f5 f6 f7 f9 k1 k2 k3 k4 j1 j2 j3 j4
                      have HSY := Lib.hid (hs3 HSX.out hC HSX.out.1.size)
                      have HYK := Lib.hid (And.intro (block_kept HYa.out.1 hC) HYa.out.2)
                      clear HYa
                      have HYa := HYK
                      clear HYK
                      have HYK := Lib.hid (And.intro (block_kept HYb.out.1 hC) HYb.out.2.1)
                      clear HYb
                      have HYb := HYK
                      clear HYK
                      clear HSX hC
                      have HSX := HSY
                      clear HSY
                      clear T1 T2 T3
                      go_upto_region 7 with (fail)
                      obtain ⟨op7, wd7, v7, sg7, uh7, ul7, xn7, xa7, xc7, xl7⟩ := yya
                      have ha1 : V6.cell? ⟨gga, 1, none⟩ = some (.int .i64 wd7) := by
                        have h9 := HYa.out.1
                        simp only [ET.cells] at h9
                        exact (ope8 h9).2.1
                      have ha2 := HYa.out.2
                      simp only [ET.wd] at ha2
                      obtain ⟨op8, wd8, v8, sg8, uh8, ul8, xn8, xa8, xc8, xl8⟩ := yyb
                      have hb1 : V6.cell? ⟨ggb, 1, none⟩ = some (.int .i64 wd8) := by
                        have h9 := HYb.out.1
                        simp only [ET.cells] at h9
                        exact (ope8 h9).2.1
                      have hb2 := HYb.out.2
                      simp only [ET.wd] at hb2
                      obtain ⟨op9, wd9, v9, sg9, uh9, ul9, xn9, xa9, xc9, xl9⟩ := yyc
                      have hc1 : V6.cell? ⟨ggc, 1, none⟩ = some (.int .i64 wd9) := by
                        have h9 := HYc.out.1
                        simp only [ET.cells] at h9
                        exact (ope8 h9).2.1
                      have hc2 := HYc.out.2.1
                      simp only [ET.wd] at hc2
                      obtain ⟨x0, x1, x2, x3, x4, x5, x6, x7⟩ := ope8 HSX.out.2.2.1
                      obtain ⟨y0, y1, y2, y3, y4, y5, y6, y7⟩ := ope8 HSX.out.2.2.2
                      have hc3 := hc2 (by first | rfl | trivial)
                      have r5 : (wd9 == wd1) = true := by rw [beq_iff_eq]; exact hc3
                      clear hc3
                      have g3 : ((0 : Int) == 0) = true := rfl
                      clear hc2
                      by_cases q9 : wd1 = wd2
                      · have e1 := I1.out.2 q9
                        have e2 := I2.out.2 q9
                        have r1 := ha2 e1
                        have r2 := hb2 e2
                        subst e1
                        subst e2
                        have r0 : (wd1 == wd2) = true := by rw [beq_iff_eq]; exact q9
                        have r6 : (wd7 == wd1) = true := by rw [beq_iff_eq]; exact r1
                        have r7 : (wd8 == 1) = true := by rw [beq_iff_eq]; exact r2
                        clear ha2 hb2 q9 I1 I2 r1 r2
                        go_wp2
                        go_ret
                        exact ⟨rfl, HSX.out.1⟩
                      · have e1 : (G1 == 0) = false := by rw [beq_eq_false_iff_ne]; exact fun h => q9 (I1.out.1 h)
                        have e2 : (G2 == 0) = false := by rw [beq_eq_false_iff_ne]; exact fun h => q9 (I2.out.1 h)
                        have r0 : (wd1 == wd2) = false := by rw [beq_eq_false_iff_ne]; exact q9
                        clear ha2 hb2 q9 I1 I2
                        go_wp2
                        go_ret
                        exact ⟨rfl, HSX.out.1⟩
              · have eC2 : (C2 != 0) = true := by rw [bne_iff_ne]; exact tC2
                go_wp2
                go_ret
                exact ⟨rfl, HS8.out.1⟩
            · have eC1 : (C1 != 0) = true := by rw [bne_iff_ne]; exact tC1
              go_wp2
              go_ret
              exact ⟨rfl, HS7.out.1⟩
          · have eD2 : decide ((D2 : Int) > 60) = true := by rw [decide_eq_true_eq]; omega
            have eD2' : decide ((60 : Int) < (D2 : Int)) = true := by rw [decide_eq_true_eq]; omega
            go_wp2
            go_ret
            exact ⟨rfl, HS6.out.1⟩
        · have eD1 : decide ((D1 : Int) > 60) = true := by rw [decide_eq_true_eq]; omega
          have eD1' : decide ((60 : Int) < (D1 : Int)) = true := by rw [decide_eq_true_eq]; omega
          go_wp2
          go_ret
          exact ⟨rfl, HS5.out.1⟩
end Go.Proofs.YtglpkfeokojdkaaDoor
