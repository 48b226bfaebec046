/-
  SizedBit: one bit is wanted.
-/
import Derived.Test.YtglpkfeokojdkaaDoorEyS
namespace Go.Proofs.YtglpkfeokojdkaaDoor
open Go Go.RowKit
set_option linter.unusedVariables false
set_option linter.unusedSimpArgs false
open Go.Sort

theorem hs2 {n g1 g2 : Nat} {o1 o2 : Obj} {w V V' : World} (h : Below n w V ∧ V.heap[g1]? = some o1 ∧ V.heap[g2]? = some o2) (hb : Below V.heap.size V V') (hn : n ≤ V.heap.size) : Below n w V' ∧ V'.heap[g1]? = some o1 ∧ V'.heap[g2]? = some o2 := ⟨h.1.trans (hb.mono hn), block_kept h.2.1 hb, block_kept h.2.2 hb⟩
theorem bit_facts {gl : List GT} {a : ET} (c1 : fewE a = true) (d1 : a.dp ≤ 60) (k1 : checkES gl a = 0) : (∀ g, Tells gl (unT 6 g a) 0 (if a.wd = 1 then 0 else 91) 1) ∧ (∀ g, Tells gl (condT g a (numT 1) (numT 0)) 5 (if a.wd = 1 then 0 else 91) 5) ∧ ∀ g, Tells gl (unT 3 g a) 0 0 1 := by
  have s1 : a.sz ≤ 1000 := by unfold fewE at c1; simp at c1; exact c1.1
  exact ⟨fun g => un_bit k1 s1 d1 g, fun g => cond_bit k1 s1 d1 g, fun g => un_all k1 s1 d1 g⟩
theorem unT_wf (xn : Int) (g : Nat) {a : ET} (h : a.Wf) : (unT xn g a).Wf := by rw [unT, ET.wf_mk]; exact ⟨by decide, fun x hx => by simp at hx; rw [hx]; exact h⟩
theorem condT_wf (g : Nat) {a b c : ET} (h : a.Wf) (hb : b.Wf) (hc : c.Wf) : (condT g a b c).Wf := by
  rw [condT, ET.wf_mk]
  refine ⟨by decide, fun x hx => ?_⟩
  simp at hx
  rcases hx with rfl | rfl | rfl
  · exact h
  · exact hb
  · exact hc
theorem unT_bk (xn : Int) (g : Nat) (a : ET) : (unT xn g a).bk = 1 + a.bk := by simp [unT, ET.bk, ET.bkL]
theorem condT_bk (g : Nat) (a : ET) : (condT g a (numT 1) (numT 0)).bk = 3 + a.bk := by simp [condT, numT, ET.bk, ET.bkL]; omega
theorem keepF4r {W W' : World} {u : Value} {b : Bool} {l : List ET} {k : Nat → Value} (h : b = false → ∃ g, u = k g ∧ g < W.heap.size ∧ RowM W g (flatE l)) (hb : Below W.heap.size W W') : b = false → ∃ g, u = k g ∧ g < W'.heap.size ∧ RowM W' g (flatE l) := fun q => by
  obtain ⟨g, h1, h2, h3⟩ := h q
  exact ⟨g, h1, Nat.lt_of_lt_of_le h2 hb.size, h3.keep (hb.block g h2)⟩
set_option maxHeartbeats 16000000 in
set_option maxRecDepth 100000 in
theorem bit_law (d : DT) (hdk : d.bk ≤ 1100000) (a : ET) (hak : a.bk ≤ 1100000) (haw : a.Wf) (n0 : Nat) (w : World) (h0 : In2 n0 d.gl d.ga a a w) (hd : d.In n0 w) : Calls Tryd.prog 4 #[d.val, a.val] w fun e w' => e = .returned (.bool true) ∧ Below w.heap.size w w' := by
  have HE := Lib.hid h0
  have F1 := Lib.hid (fun (W : World) (h : Below w.heap.size w W) => few_any a (by have := a.sz_bk; omega) n0 W (h0.keep h).n (h0.keep h).a)
  have F3 := Lib.hid (fun (W : World) (h : Below w.heap.size w W) => small_any d (by omega) n0 W (h0.keep h).n (hd.keep (Below.keptTo h h0.n)))
  have F4 := Lib.hid (fun (W : World) (h : Below w.heap.size w W) => refDeep_any a (by have := a.sz_bk; omega) n0 W (h0.keep h).n (h0.keep h).a)
  obtain ⟨ga, gc, gl, qa, qc, ql, ka, kc, kl⟩ := d
  have hgl : gl.length ≤ 9000000 ∧ ∀ g ∈ gl, g.nm.length ≤ 12000000 := by
    simp only [DT.bk] at hdk
    have h1 := GT.bkL_len gl
    exact ⟨by omega, fun g hg => by have h2 := GT.bkL_mem hg; simp only [GT.bk] at h2; omega⟩
  simp only at h0 HE
  have F6 := Lib.hid (fun (W : World) (h : Below w.heap.size w W) => checkE_any gl ga gc qa ql.length qc ka kl.length kc hgl.1 hgl.2 a (by omega) haw n0 W (h0.keep h).n (h0.keep h).z (h0.keep h).g (h0.keep h).a)
  have HX := Lib.hid (fun (xn : Int) (g' : Nat) (F wv : Int) (t : Tells gl (unT xn g' a) 0 F wv) (W : World) (h : Below w.heap.size w W) (hi : (unT xn g' a).In W.heap.size W) => xcall (gc := gc) (qa := qa) (qn := ql.length) (qc := qc) (ka := ka) (kn := kl.length) (kc := kc) hgl.1 hgl.2 t (by rw [unT_bk]; omega) (unT_wf xn g' haw) (h0.keep h) hi)
  have HXC := Lib.hid (fun (g' : Nat) (F wv : Int) (t : Tells gl (condT g' a (numT 1) (numT 0)) 5 F wv) (W : World) (h : Below w.heap.size w W) (hi : (condT g' a (numT 1) (numT 0)).In W.heap.size W) => xcall (gc := gc) (qa := qa) (qn := ql.length) (qc := qc) (ka := ka) (kn := kl.length) (kc := kc) hgl.1 hgl.2 t (by rw [condT_bk]; omega) (condT_wf g' haw (numT_wf 1 (by decide)) (numT_wf 0 (by decide))) (h0.keep h) hi)
  have HAI := Lib.hid (fun (W : World) (h : Below w.heap.size w W) => ET.In.less (h0.keep h).n _ (h0.keep h).a)
  have HM1 := Lib.hid (fun (c1 : fewE a = true) (d1 : a.dp ≤ 60) (k1 : checkES gl a = 0) => bit_facts c1 d1 k1)
  obtain ⟨B1, hB1⟩ : ∃ x, fewE a = x := ⟨_, rfl⟩
  obtain ⟨B3, hB3⟩ : ∃ x, smallD ⟨ga, gc, gl, qa, qc, ql, ka, kc, kl⟩ = x := ⟨_, rfl⟩
  obtain ⟨D1, hD1⟩ : ∃ x, a.dp = x := ⟨_, rfl⟩
  obtain ⟨C1, hC1⟩ : ∃ x, checkES gl a = x := ⟨_, rfl⟩
  obtain ⟨G1, hG1⟩ : ∃ x : Int, (if a.wd = 1 then 0 else 91) = x := ⟨_, rfl⟩
  have hdl : D1 ≤ 6000000 := by have h1 := a.dp_sz; have h2 := a.sz_bk; omega
  rw [hB1] at F1 HM1
  rw [hB3] at F3
  rw [hD1] at F4 HM1
  rw [hC1] at F6 HM1
  rw [hG1] at HM1
  have HG1 := Lib.hid hG1
  clear h0 hgl hB1 hB3 hD1 hC1 hG1 hdk hak haw hd
  obtain ⟨op1, wd1, v1, sg1, uh1, ul1, xn1, xa1, xc1, xl1⟩ := a
  simp only [ET.val, ET.cells, DT.val, DT.cells] at F1 F3 F4 F6 ⊢
  simp only [ET.wd] at HG1
  obtain ⟨gx, hgx⟩ : ∃ gx, w.heap.size = gx := ⟨_, rfl⟩
  obtain ⟨wa, hwa⟩ : ∃ wa, w.alloc (.cells #[.slice ga gl.length gc, .slice qa ql.length qc, .slice ka kl.length kc] 26) = wa := ⟨_, rfl⟩
  have hba : Below w.heap.size w wa := by rw [← hwa]; exact (Below.refl _ _).alloc (Nat.le_refl _) _
  have hsa : wa.heap.size = gx + 1 := by rw [← hwa, World.size_alloc, hgx]
  have BD : wa.heap[gx]? = some (.cells #[.slice ga gl.length gc, .slice qa ql.length qc, .slice ka kl.length kc] 26 (0, 0)) := by rw [← hwa, ← hgx]; exact World.alloc_heap_new w _
  obtain ⟨w1, hw1⟩ : ∃ w1, wa.alloc (.cells #[.int .i64 op1, .int .i64 wd1, .int .u64 (v1 : Int), .int .i64 sg1, .int .i64 uh1, .int .i64 ul1, .int .i64 xn1, .slice xa1 xl1.length xc1] 30) = w1 := ⟨_, rfl⟩
  have hbb : Below wa.heap.size wa w1 := by rw [← hw1]; exact (Below.refl _ _).alloc (Nat.le_refl _) _
  have BA : w1.heap[gx + 1]? = some (.cells #[.int .i64 op1, .int .i64 wd1, .int .u64 (v1 : Int), .int .i64 sg1, .int .i64 uh1, .int .i64 ul1, .int .i64 xn1, .slice xa1 xl1.length xc1] 30 (0, 0)) := by rw [← hw1, ← hsa]; exact World.alloc_heap_new wa _
  have HS0 := Lib.hid (And.intro (hba.trans (hbb.mono hba.size)) (And.intro (block_kept BD hbb) BA))
  clear hba hbb BD BA
  have FL := Lib.hid (fun (W : World) (h : Below w.heap.size w W) => live_any W (HE.out.keep h).z)
  go_enter Tryd.func4, Tryd.ntmps4
  go_upto_region 1 with (fail)
  (try rw [hwa])
  (try rw [hgx])
  (try rw [hw1])
  (try rw [hsa])
  clear hwa hw1 hsa hgx
  obtain ⟨z0, z1, z2⟩ := opq3 HS0.out.2.1
  obtain ⟨x0, x1, x2, x3, x4, x5, x6, x7⟩ := ope8 HS0.out.2.2
  have cK := Lib.hid (FL.out w1 HS0.out.1)
  go_wp2_with fail
  refine cK.out.mono ?_
  clear cK
  clear z0 z1 z2 x0 x1 x2 x3 x4 x5 x6 x7
  rintro e w2 ⟨rfl, hb⟩
  have HS1 := Lib.hid (hs2 HS0.out hb HS0.out.1.size)
  clear hb
  obtain ⟨z0, z1, z2⟩ := opq3 HS1.out.2.1
  obtain ⟨x0, x1, x2, x3, x4, x5, x6, x7⟩ := ope8 HS1.out.2.2
  have cK := Lib.hid (F1.out w2 HS1.out.1)
  go_wp2_with fail
  refine cK.out.mono ?_
  clear cK
  clear z0 z1 z2 x0 x1 x2 x3 x4 x5 x6 x7
  rintro e w3 ⟨rfl, hb⟩
  have HS2 := Lib.hid (hs2 HS1.out hb HS1.out.1.size)
  clear hb
  cases B1 with
  | false =>
    go_wp2
    go_ret
    exact ⟨rfl, HS2.out.1⟩
  | true =>
    obtain ⟨z0, z1, z2⟩ := opq3 HS2.out.2.1
    obtain ⟨x0, x1, x2, x3, x4, x5, x6, x7⟩ := ope8 HS2.out.2.2
    have cK := Lib.hid (F3.out w3 HS2.out.1)
    go_wp2_with fail
    refine cK.out.mono ?_
    clear cK
    clear z0 z1 z2 x0 x1 x2 x3 x4 x5 x6 x7
    rintro e w4 ⟨rfl, hb⟩
    have HS3 := Lib.hid (hs2 HS2.out hb HS2.out.1.size)
    clear hb
    cases B3 with
    | false =>
      go_wp2
      go_ret
      exact ⟨rfl, HS3.out.1⟩
    | true =>
      obtain ⟨z0, z1, z2⟩ := opq3 HS3.out.2.1
      obtain ⟨x0, x1, x2, x3, x4, x5, x6, x7⟩ := ope8 HS3.out.2.2
      have cK := Lib.hid (F4.out w4 HS3.out.1)
      go_wp2_with fail
      refine cK.out.mono ?_
      clear cK
      clear z0 z1 z2 x0 x1 x2 x3 x4 x5 x6 x7
      rintro e w5 ⟨rfl, hb⟩
      have HS4 := Lib.hid (hs2 HS3.out hb HS3.out.1.size)
      clear hb
      by_cases tD1 : D1 ≤ 60
      · have eD1 : decide ((D1 : Int) > 60) = false := by rw [decide_eq_false_iff_not]; omega
        have eD1' : decide ((60 : Int) < (D1 : Int)) = false := by rw [decide_eq_false_iff_not]; omega
        obtain ⟨z0, z1, z2⟩ := opq3 HS4.out.2.1
        obtain ⟨x0, x1, x2, x3, x4, x5, x6, x7⟩ := ope8 HS4.out.2.2
        have cK := Lib.hid (F6.out w5 HS4.out.1)
        go_wp2_with fail
        refine cK.out.mono ?_
        clear cK
        clear z0 z1 z2 x0 x1 x2 x3 x4 x5 x6 x7
        rintro e w6 ⟨rfl, hb⟩
        have HS5 := Lib.hid (hs2 HS4.out hb HS4.out.1.size)
        clear hb
        by_cases tC1 : C1 = 0
        · subst tC1
          have eC1 : ((0 : Int) != 0) = false := rfl
          have HSX := HS5
          clear HS0 HS1 HS2 HS3 HS4 HS5 F1 F3 F4 F6 FL HE
          obtain ⟨T1, T2, T3⟩ := HM1.out (by first | rfl | trivial) (by omega) (by first | rfl | trivial)
          replace T1 := Lib.hid T1
          replace T2 := Lib.hid T2
          replace T3 := Lib.hid T3
          clear HM1
          obtain ⟨gsa, hgsa⟩ : ∃ g, w6.heap.size = g := ⟨_, rfl⟩
          obtain ⟨Va, hVa⟩ : ∃ Va, w6.alloc (.cells #[.int .i64 op1, .int .i64 wd1, .int .u64 (v1 : Int), .int .i64 sg1, .int .i64 uh1, .int .i64 ul1, .int .i64 xn1, .slice xa1 xl1.length xc1] 30 (0, 0)) = Va := ⟨_, rfl⟩
          have hba : Below w6.heap.size w6 Va := by rw [← hVa]; exact (Below.refl _ _).alloc (Nat.le_refl _) _
          have hra : RowM Va gsa (flatE [(ET.mk op1 wd1 v1 sg1 uh1 ul1 xn1 xa1 xc1 xl1)]) := by show Va.heap[gsa]? = _; rw [← hVa, ← hgsa]; exact World.alloc_heap_new w6 _
          have hin : (unT 6 gsa (ET.mk op1 wd1 v1 sg1 uh1 ul1 xn1 xa1 xc1 xl1)).In Va.heap.size Va := made_in (Array.getElem?_eq_some_iff.1 hra).1 hra (fun z hz => by
            obtain rfl : z = _ := by simpa using hz
            exact HAI.out Va (HSX.out.1.trans (hba.mono HSX.out.1.size)))
          have cK := Lib.hid (HX.out 6 gsa G1 1 (T1.out gsa) Va (HSX.out.1.trans (hba.mono HSX.out.1.size)) hin)
          have HBA := Lib.hid hba
          clear hba hra hin
          obtain ⟨z0, z1, z2⟩ := opq3 HSX.out.2.1
          obtain ⟨x0, x1, x2, x3, x4, x5, x6, x7⟩ := ope8 HSX.out.2.2
          go_wp2_with fail
          (try rw [hgsa])
          (try rw [hVa])
          clear hVa hgsa
          refine cK.out.mono ?_
          clear cK
          clear z0 z1 z2 x0 x1 x2 x3 x4 x5 x6 x7
          rintro e Vb ⟨y, rfl, hyw, hyo, hb5⟩
          obtain ⟨op7, wd7, v7, sg7, uh7, ul7, xn7, xa7, xc7, xl7⟩ := y
          obtain ⟨gga, hh8⟩ : ∃ h8, Vb.heap.size = h8 := ⟨_, rfl⟩
          obtain ⟨VA, hVA⟩ : ∃ VA, Vb.alloc (.cells #[.int .i64 0, .int .i64 0, .int .u64 0, .int .i64 0, .int .i64 0, .int .i64 0, .int .i64 0, .slice none 0 0] 30 (0, 0)) = VA := ⟨_, rfl⟩
          have hbA : Below Vb.heap.size Vb VA := by rw [← hVA]; exact (Below.refl _ _).alloc (Nat.le_refl _) _
          have hrA : RowM VA gga ([] ++ ([.int .i64 0, .int .i64 0, .int .u64 0, .int .i64 0, .int .i64 0, .int .i64 0, .int .i64 0, .slice none 0 0] ++ [])) := by show VA.heap[gga]? = _; rw [← hVA, ← hh8]; exact World.alloc_heap_new Vb _
          have hr8 := RowM.put hrA 0 rfl (.int .i64 op7) (.int .i64 wd7) (.int .u64 (v7 : Int)) (.int .i64 sg7) (.int .i64 uh7) (.int .i64 ul7) (.int .i64 xn7) (.slice xa7 xl7.length xc7)
          have hb8 := below_alloc_put (W := Vb) (.cells #[.int .i64 0, .int .i64 0, .int .u64 0, .int .i64 0, .int .i64 0, .int .i64 0, .int .i64 0, .slice none 0 0] 30 (0, 0)) (.int .i64 op7) (.int .i64 wd7) (.int .u64 (v7 : Int)) (.int .i64 sg7) (.int .i64 uh7) (.int .i64 ul7) (.int .i64 xn7) (.slice xa7 xl7.length xc7)
          simp only [Nat.zero_add] at hr8
          rw [hh8, hVA] at hb8
          obtain ⟨V4, hV9⟩ : ∃ V9, ((((((((VA.setCell ⟨gga, 0, none⟩ (.int .i64 op7)).setCell ⟨gga, 1, none⟩ (.int .i64 wd7)).setCell ⟨gga, 2, none⟩ (.int .u64 (v7 : Int))).setCell ⟨gga, 3, none⟩ (.int .i64 sg7)).setCell ⟨gga, 4, none⟩ (.int .i64 uh7)).setCell ⟨gga, 5, none⟩ (.int .i64 ul7)).setCell ⟨gga, 6, none⟩ (.int .i64 xn7)).setCell ⟨gga, 7, none⟩ (.slice xa7 xl7.length xc7)) = V9 := ⟨_, rfl⟩
          rw [hV9] at hr8 hb8
          rw [← hh8] at hb8
          have hC := (HBA.out.trans (hb5.mono HBA.out.size)).trans (hb8.mono (Nat.le_trans HBA.out.size hb5.size))
          obtain ⟨u0, u1, u2, u3, u4, u5, u6, u7⟩ := RowM.cells hrA 0 rfl
          obtain ⟨p0q, p1q, p2q, p3q, p4q, p5q, p6q, p7q⟩ := RowM.thaw hrA 0
          simp only [Nat.zero_add] at u1 u2 u3 u4 u5 u6 u7 p1q p2q p3q p4q p5q p6q p7q
          have HYa := Lib.hid (And.intro (show V4.heap[gga]? = some (.cells #[.int .i64 op7, .int .i64 wd7, .int .u64 (v7 : Int), .int .i64 sg7, .int .i64 uh7, .int .i64 ul7, .int .i64 xn7, .slice xa7 xl7.length xc7] 30 (0, 0)) from hr8) hyw)
          have HSY := Lib.hid (hs2 HSX.out hC HSX.out.1.size)
          clear HSX hC
          have HSX := HSY
          clear HSY
          clear hyw hyo hb5 hbA hrA hr8 hb8 HBA
          simp only [ET.val, ET.cells]
          go_upto_region 5 with (fail)
          (try rw [hh8])
          (try rw [hVA])
          (try rw [hV9])
          clear hVA hV9 hh8 u0 u1 u2 u3 u4 u5 u6 u7 p0q p1q p2q p3q p4q p5q p6q p7q
          refine wp_region_inv (fun (b : Nat → Bool) (a : Act) (W9 : World) => ∃ (u0 u1 u2 u3 u4 u5 u6 u7 u8 u9 u10 u11 u12 : Value) (yyb : ET) (lob hib ggb : Nat), a = { tmps := #[.agg #[.slice ga gl.length gc, .slice qa ql.length qc, .slice ka kl.length kc], .agg #[.int .i64 op1, .int .i64 wd1, .int .u64 (v1 : Int), .int .i64 sg1, .int .i64 uh1, .int .i64 ul1, .int .i64 xn1, .slice xa1 xl1.length xc1], .pointer (some ⟨gx, 0, none⟩), .pointer (some ⟨gx + 1, 0, none⟩), .bool false, .bool true, .pointer (some ⟨gga, 0, none⟩), .int .i64 G1, u10, u12, undef, undef, .bool true, .agg #[.int .i64 op1, .int .i64 wd1, .int .u64 (v1 : Int), .int .i64 sg1, .int .i64 uh1, .int .i64 ul1, .int .i64 xn1, .slice xa1 xl1.length xc1], .bool true, .bool false, .bool false, .agg #[.slice ga gl.length gc, .slice qa ql.length qc, .slice ka kl.length kc], .bool true, .bool false, .bool false, .bool false, .agg #[.int .i64 op1, .int .i64 wd1, .int .u64 (v1 : Int), .int .i64 sg1, .int .i64 uh1, .int .i64 ul1, .int .i64 xn1, .slice xa1 xl1.length xc1], .int .i64 (D1 : Int), .bool false, .bool false, .bool false, .agg #[.slice ga gl.length gc, .slice qa ql.length qc, .slice ka kl.length kc], .agg #[.int .i64 op1, .int .i64 wd1, .int .u64 (v1 : Int), .int .i64 sg1, .int .i64 uh1, .int .i64 ul1, .int .i64 xn1, .slice xa1 xl1.length xc1], .int .i64 0, .bool false, .bool false, undef, .tuple #[.agg #[.int .i64 op7, .int .i64 wd7, .int .u64 (v7 : Int), .int .i64 sg7, .int .i64 uh7, .int .i64 ul7, .int .i64 xn7, .slice xa7 xl7.length xc7], .int .i64 G1], .agg #[.slice ga gl.length gc, .slice qa ql.length qc, .slice ka kl.length kc], .agg #[.int .i64 op1, .int .i64 wd1, .int .u64 (v1 : Int), .int .i64 sg1, .int .i64 uh1, .int .i64 ul1, .int .i64 xn1, .slice xa1 xl1.length xc1], .slice (some ⟨gsa, 0, none⟩) 1 1, .agg #[.int .i64 4, .int .i64 0, .int .u64 0, .int .i64 0, .int .i64 0, .int .i64 0, .int .i64 6, .slice (some ⟨gsa, 0, none⟩) 1 1], .tuple #[.agg #[.int .i64 op7, .int .i64 wd7, .int .u64 (v7 : Int), .int .i64 sg7, .int .i64 uh7, .int .i64 ul7, .int .i64 xn7, .slice xa7 xl7.length xc7], .int .i64 G1], .agg #[.int .i64 op7, .int .i64 wd7, .int .u64 (v7 : Int), .int .i64 sg7, .int .i64 uh7, .int .i64 ul7, .int .i64 xn7, .slice xa7 xl7.length xc7], .int .i64 G1, u7, u0, u1, u2, u3, u4, u5, u6, u8, u9, undef, undef, undef, undef, undef, undef, undef, undef, undef, undef, undef, undef, undef, undef, undef, undef, undef, undef, undef, undef, undef, undef, undef, undef, undef, undef, undef, undef, undef, undef, undef, undef, undef, undef, undef, undef, undef, undef, undef, undef, undef, undef, undef, undef, undef, undef, undef, undef, undef, undef, undef, undef, undef, undef, undef, undef, undef], defers := [] } ∧ (Below V4.heap.size V4 W9) ∧ (b 0 = true → u0 = .agg #[.slice ga gl.length gc, .slice qa ql.length qc, .slice ka kl.length kc]) ∧ (b 1 = true → u1 = .agg #[.int .i64 op1, .int .i64 wd1, .int .u64 (v1 : Int), .int .i64 sg1, .int .i64 uh1, .int .i64 ul1, .int .i64 xn1, .slice xa1 xl1.length xc1]) ∧ (b 2 = true → u2 = .agg #[.int .i64 1, .int .i64 0, .int .u64 1, .int .i64 0, .int .i64 0, .int .i64 0, .int .i64 0, .slice none 0 0]) ∧ (b 3 = true → u3 = .agg #[.int .i64 1, .int .i64 0, .int .u64 0, .int .i64 0, .int .i64 0, .int .i64 0, .int .i64 0, .slice none 0 0]) ∧ (b 4 = true → (b 11 = false → ∃ g, u4 = .slice (some ⟨g, 0, none⟩) 3 3 ∧ g < W9.heap.size ∧ RowM W9 g (flatE [(ET.mk op1 wd1 v1 sg1 uh1 ul1 xn1 xa1 xc1 xl1), numT 1, numT 0]))) ∧ (b 5 = true → (b 11 = false → ∃ g, u5 = .agg #[.int .i64 6, .int .i64 0, .int .u64 0, .int .i64 0, .int .i64 0, .int .i64 0, .int .i64 0, .slice (some ⟨g, 0, none⟩) 3 3] ∧ (condT g (ET.mk op1 wd1 v1 sg1 uh1 ul1 xn1 xa1 xc1 xl1) (numT 1) (numT 0)).In W9.heap.size W9)) ∧ (b 6 = true → u6 = .tuple #[yyb.val, .int .i64 G1] ∧ (G1 = 0 → yyb.wd = 5) ∧ yyb.Own W9 lob hib ∧ V4.heap.size ≤ lob ∧ hib ≤ W9.heap.size) ∧ (b 7 = true → u7 = .tuple #[yyb.val, .int .i64 G1]) ∧ (b 8 = true → u8 = yyb.val) ∧ (b 9 = true → u9 = .int .i64 G1) ∧ (b 10 = true → u10 = .pointer (some ⟨ggb, 0, none⟩) ∧ V4.heap.size ≤ ggb ∧ ggb < W9.heap.size ∧ (b 6 = true → ggb < lob ∨ hib ≤ ggb) ∧ (b 11 = false → W9.heap[ggb]? = some (.cells #[.int .i64 0, .int .i64 0, .int .u64 0, .int .i64 0, .int .i64 0, .int .i64 0, .int .i64 0, .slice none 0 0] 30 (0, 0)))) ∧ (b 11 = true → W9.heap[ggb]? = some (.cells yyb.cells.toArray 30 (0, 0))) ∧ (b 12 = true → u12 = .int .i64 G1)) (by kernel_rfl) (by kernel_rfl) ?_ ?_ ?_
          · refine ⟨undef, undef, undef, undef, undef, undef, undef, undef, undef, undef, undef, undef, undef, zeroE, 0, 0, 0, rfl, below_drew' (Below.refl _ _), fun h => (by cases h), fun h => (by cases h), fun h => (by cases h), fun h => (by cases h), fun h => (by cases h), fun h => (by cases h), fun h => (by cases h), fun h => (by cases h), fun h => (by cases h), fun h => (by cases h), fun h => (by cases h), fun h => (by cases h), fun h => (by cases h)⟩
          · refine ⟨⟨rfl, ?_⟩, ⟨⟨rfl, ?_⟩, ⟨⟨rfl, ?_⟩, ⟨⟨rfl, ?_⟩, ⟨⟨rfl, ?_⟩, ⟨⟨rfl, ?_⟩, ⟨⟨rfl, ?_⟩, ⟨⟨rfl, ?_⟩, ⟨⟨rfl, ?_⟩, ⟨⟨rfl, ?_⟩, ⟨⟨rfl, ?_⟩, ⟨⟨rfl, ?_⟩, ⟨⟨rfl, ?_⟩, trivial⟩⟩⟩⟩⟩⟩⟩⟩⟩⟩⟩⟩⟩
            · intro b a W9 hbk hd hcl hJ K hK
              obtain ⟨u0, u1, u2, u3, u4, u5, u6, u7, u8, u9, u10, u11, u12, yyb, lob, hib, ggb, rfl, hC, f0, f1, f2, f3, f4, f5, f6, f7, f8, f9, f10, f11, f12⟩ := hJ
              obtain ⟨z0, z1, z2⟩ := opq3 (block_kept HSX.out.2.1 hC)
              go_simp
              exact hK _ _ ⟨_, _, _, _, _, _, _, _, _, _, _, undef, _, yyb, lob, hib, ggb, rfl, hC, (fun _ => rfl), (f1), (f2), (f3), (f4), (f5), (f6), (f7), (f8), (f9), (f10), (f11), (f12)⟩
            · intro b a W9 hbk hd hcl hJ K hK
              obtain ⟨u0, u1, u2, u3, u4, u5, u6, u7, u8, u9, u10, u11, u12, yyb, lob, hib, ggb, rfl, hC, f0, f1, f2, f3, f4, f5, f6, f7, f8, f9, f10, f11, f12⟩ := hJ
              obtain ⟨z0, z1, z2, z3, z4, z5, z6, z7⟩ := ope8 (block_kept HSX.out.2.2 hC)
              go_simp
              exact hK _ _ ⟨_, _, _, _, _, _, _, _, _, _, _, undef, _, yyb, lob, hib, ggb, rfl, hC, (f0), (fun _ => rfl), (f2), (f3), (f4), (f5), (f6), (f7), (f8), (f9), (f10), (f11), (f12)⟩
            · intro b a W9 hbk hd hcl hJ K hK
              obtain ⟨u0, u1, u2, u3, u4, u5, u6, u7, u8, u9, u10, u11, u12, yyb, lob, hib, ggb, rfl, hC, f0, f1, f2, f3, f4, f5, f6, f7, f8, f9, f10, f11, f12⟩ := hJ
              go_simp
              refine (lnum 1 W9).mono ?_
              rintro e W8 ⟨rfl, hb⟩
              have hC' := hC.trans (hb.mono hC.size)
              exact hK _ _ ⟨_, _, _, _, _, _, _, _, _, _, _, undef, _, yyb, lob, hib, ggb, rfl, hC', (f0), (f1), (fun _ => rfl), (f3), (fun h => (keepF4r (k := fun g => .slice (some ⟨g, 0, none⟩) 3 3) (f4 h) hb)), (fun h => (keepF3 (k := fun g => .agg #[.int .i64 6, .int .i64 0, .int .u64 0, .int .i64 0, .int .i64 0, .int .i64 0, .int .i64 0, .slice (some ⟨g, 0, none⟩) 3 3]) (T := fun g => condT g (ET.mk op1 wd1 v1 sg1 uh1 ul1 xn1 xa1 xc1 xl1) (numT 1) (numT 0)) (f5 h) hb)), (fun h => (keepF4 (f6 h) hb)), (f7), (f8), (f9), (fun h => (keepF8 (f10 h) hb)), (fun h => (block_kept (f11 h) hb)), (f12)⟩
            · intro b a W9 hbk hd hcl hJ K hK
              obtain ⟨u0, u1, u2, u3, u4, u5, u6, u7, u8, u9, u10, u11, u12, yyb, lob, hib, ggb, rfl, hC, f0, f1, f2, f3, f4, f5, f6, f7, f8, f9, f10, f11, f12⟩ := hJ
              go_simp
              refine (lnum 0 W9).mono ?_
              rintro e W8 ⟨rfl, hb⟩
              have hC' := hC.trans (hb.mono hC.size)
              exact hK _ _ ⟨_, _, _, _, _, _, _, _, _, _, _, undef, _, yyb, lob, hib, ggb, rfl, hC', (f0), (f1), (f2), (fun _ => rfl), (fun h => (keepF4r (k := fun g => .slice (some ⟨g, 0, none⟩) 3 3) (f4 h) hb)), (fun h => (keepF3 (k := fun g => .agg #[.int .i64 6, .int .i64 0, .int .u64 0, .int .i64 0, .int .i64 0, .int .i64 0, .int .i64 0, .slice (some ⟨g, 0, none⟩) 3 3]) (T := fun g => condT g (ET.mk op1 wd1 v1 sg1 uh1 ul1 xn1 xa1 xc1 xl1) (numT 1) (numT 0)) (f5 h) hb)), (fun h => (keepF4 (f6 h) hb)), (f7), (f8), (f9), (fun h => (keepF8 (f10 h) hb)), (fun h => (block_kept (f11 h) hb)), (f12)⟩
            · intro b a W9 hbk hd hcl hJ K hK
              obtain ⟨u0, u1, u2, u3, u4, u5, u6, u7, u8, u9, u10, u11, u12, yyb, lob, hib, ggb, rfl, hC, f0, f1, f2, f3, f4, f5, f6, f7, f8, f9, f10, f11, f12⟩ := hJ
              have d1 := f1 (hd ⟨1, .data⟩ (by simp) rfl)
              have d2 := f2 (hd ⟨2, .data⟩ (by simp) rfl)
              have d3 := f3 (hd ⟨3, .data⟩ (by simp) rfl)
              subst d1
              subst d2
              subst d3
              have hb : Below W9.heap.size W9 (W9.alloc (.cells #[.int .i64 op1, .int .i64 wd1, .int .u64 (v1 : Int), .int .i64 sg1, .int .i64 uh1, .int .i64 ul1, .int .i64 xn1, .slice xa1 xl1.length xc1, .int .i64 1, .int .i64 0, .int .u64 1, .int .i64 0, .int .i64 0, .int .i64 0, .int .i64 0, .slice none 0 0, .int .i64 1, .int .i64 0, .int .u64 0, .int .i64 0, .int .i64 0, .int .i64 0, .int .i64 0, .slice none 0 0] 30 (0, 0))) := (Below.refl _ _).alloc (Nat.le_refl _) _
              have hC' := hC.trans (hb.mono hC.size)
              go_simp
              exact hK _ _ ⟨_, _, _, _, _, _, _, _, _, _, _, undef, _, yyb, lob, hib, ggb, rfl, hC', (f0), (f1), (f2), (f3), (fun _ => fun _ => ⟨W9.heap.size, rfl, by rw [World.size_alloc]; exact Nat.lt_succ_self _, World.alloc_heap_new W9 _⟩), (fun h => (keepF3 (k := fun g => .agg #[.int .i64 6, .int .i64 0, .int .u64 0, .int .i64 0, .int .i64 0, .int .i64 0, .int .i64 0, .slice (some ⟨g, 0, none⟩) 3 3]) (T := fun g => condT g (ET.mk op1 wd1 v1 sg1 uh1 ul1 xn1 xa1 xc1 xl1) (numT 1) (numT 0)) (f5 h) hb)), (fun h => (keepF4 (f6 h) hb)), (f7), (f8), (f9), (fun h => (keepF8 (f10 h) hb)), (fun h => (block_kept (f11 h) hb)), (f12)⟩
            · intro b a W9 hbk hd hcl hJ K hK
              obtain ⟨u0, u1, u2, u3, u4, u5, u6, u7, u8, u9, u10, u11, u12, yyb, lob, hib, ggb, rfl, hC, f0, f1, f2, f3, f4, f5, f6, f7, f8, f9, f10, f11, f12⟩ := hJ
              have d4 := f4 (hd ⟨4, .data⟩ (by simp) rfl)
              have n6 := (hcl.no 6 _ rfl ⟨5, .data⟩ (by simp) rfl rfl hbk)
              have n7 := (hcl.no 7 _ rfl ⟨6, .data⟩ (by simp) rfl rfl n6)
              have n8 := (hcl.no 8 _ rfl ⟨7, .data⟩ (by simp) rfl rfl n7)
              have n11 := (hcl.no 11 _ rfl ⟨8, .data⟩ (by simp) rfl rfl n8)
              obtain ⟨g', hg', hlt, hrow⟩ := d4 n11
              subst hg'
              have hin' : (condT g' (ET.mk op1 wd1 v1 sg1 uh1 ul1 xn1 xa1 xc1 xl1) (numT 1) (numT 0)).In W9.heap.size W9 := made_in hlt hrow (fun z hz => by
                simp at hz
                rcases hz with rfl | rfl | rfl
                · exact HAI.out W9 (HSX.out.1.trans (hC.mono HSX.out.1.size))
                · exact leaf_in ..
                · exact leaf_in ..)
              go_simp
              exact hK _ _ ⟨_, _, _, _, _, _, _, _, _, _, _, undef, _, yyb, lob, hib, ggb, rfl, hC, (f0), (f1), (f2), (f3), (f4), (fun _ => fun _ => ⟨g', rfl, hin'⟩), (f6), (f7), (f8), (f9), (f10), (f11), (f12)⟩
            · intro b a W9 hbk hd hcl hJ K hK
              obtain ⟨u0, u1, u2, u3, u4, u5, u6, u7, u8, u9, u10, u11, u12, yyb, lob, hib, ggb, rfl, hC, f0, f1, f2, f3, f4, f5, f6, f7, f8, f9, f10, f11, f12⟩ := hJ
              have d0 := f0 (hd ⟨0, .data⟩ (by simp) rfl)
              have d5 := f5 (hd ⟨5, .data⟩ (by simp) rfl)
              have n7 := (hcl.no 7 _ rfl ⟨6, .data⟩ (by simp) rfl rfl hbk)
              have n8 := (hcl.no 8 _ rfl ⟨7, .data⟩ (by simp) rfl rfl n7)
              have n11 := (hcl.no 11 _ rfl ⟨8, .data⟩ (by simp) rfl rfl n8)
              obtain ⟨g', hg', hib'⟩ := d5 n11
              subst hg'
              subst d0
              go_simp
              refine (HXC.out g' G1 5 (T2.out g') W9 (HSX.out.1.trans (hC.mono HSX.out.1.size)) hib').mono ?_
              rintro e W8 ⟨y', rfl, hyn, hyo, hb⟩
              have hC' := hC.trans (hb.mono hC.size)
              exact hK _ _ ⟨_, _, _, _, _, _, _, _, _, _, _, undef, _, y', W9.heap.size, W8.heap.size, ggb, rfl, hC', (f0), (f1), (f2), (f3), (fun h => (keepF4r (k := fun g => .slice (some ⟨g, 0, none⟩) 3 3) (f4 h) hb)), (fun h => (keepF3 (k := fun g => .agg #[.int .i64 6, .int .i64 0, .int .u64 0, .int .i64 0, .int .i64 0, .int .i64 0, .int .i64 0, .slice (some ⟨g, 0, none⟩) 3 3]) (T := fun g => condT g (ET.mk op1 wd1 v1 sg1 uh1 ul1 xn1 xa1 xc1 xl1) (numT 1) (numT 0)) (f5 h) hb)), (fun _ => ⟨rfl, hyn, hyo, hC.size, Nat.le_refl _⟩), (fun h => by rw [show b 7 = true from h] at n7; cases n7), (fun h => by rw [show b 8 = true from h] at n8; cases n8), (f9), (fun h => keepF8 (r := (_ → _ ∨ _)) ⟨(f10 h).1, (f10 h).2.1, (f10 h).2.2.1, fun _ => Or.inl (f10 h).2.2.1, (f10 h).2.2.2.2⟩ hb), (fun h => by rw [show b 11 = true from h] at n11; cases n11), (f12)⟩
            · intro b a W9 hbk hd hcl hJ K hK
              obtain ⟨u0, u1, u2, u3, u4, u5, u6, u7, u8, u9, u10, u11, u12, yyb, lob, hib, ggb, rfl, hC, f0, f1, f2, f3, f4, f5, f6, f7, f8, f9, f10, f11, f12⟩ := hJ
              have d6 := f6 (hd ⟨6, .data⟩ (by simp) rfl)
              obtain ⟨rfl, d4r⟩ := d6
              go_simp
              exact hK _ _ ⟨_, _, _, _, _, _, _, _, _, _, _, undef, _, yyb, lob, hib, ggb, rfl, hC, (f0), (f1), (f2), (f3), (f4), (f5), (f6), (fun _ => rfl), (f8), (f9), (f10), (f11), (f12)⟩
            · intro b a W9 hbk hd hcl hJ K hK
              obtain ⟨u0, u1, u2, u3, u4, u5, u6, u7, u8, u9, u10, u11, u12, yyb, lob, hib, ggb, rfl, hC, f0, f1, f2, f3, f4, f5, f6, f7, f8, f9, f10, f11, f12⟩ := hJ
              have d7 := f7 (hd ⟨7, .data⟩ (by simp) rfl)
              subst d7
              go_simp
              exact hK _ _ ⟨_, _, _, _, _, _, _, _, _, _, _, undef, _, yyb, lob, hib, ggb, rfl, hC, (f0), (f1), (f2), (f3), (f4), (f5), (f6), (f7), (fun _ => rfl), (f9), (f10), (f11), (f12)⟩
            · intro b a W9 hbk hd hcl hJ K hK
              obtain ⟨u0, u1, u2, u3, u4, u5, u6, u7, u8, u9, u10, u11, u12, yyb, lob, hib, ggb, rfl, hC, f0, f1, f2, f3, f4, f5, f6, f7, f8, f9, f10, f11, f12⟩ := hJ
              have d7 := f7 (hd ⟨7, .data⟩ (by simp) rfl)
              subst d7
              go_simp
              exact hK _ _ ⟨_, _, _, _, _, _, _, _, _, _, _, undef, _, yyb, lob, hib, ggb, rfl, hC, (f0), (f1), (f2), (f3), (f4), (f5), (f6), (f7), (f8), (fun _ => rfl), (f10), (f11), (f12)⟩
            · intro b a W9 hbk hd hcl hJ K hK
              obtain ⟨u0, u1, u2, u3, u4, u5, u6, u7, u8, u9, u10, u11, u12, yyb, lob, hib, ggb, rfl, hC, f0, f1, f2, f3, f4, f5, f6, f7, f8, f9, f10, f11, f12⟩ := hJ
              have n11 := (hcl.no 11 _ rfl ⟨10, .data⟩ (by simp) rfl rfl hbk)
              have hb : Below W9.heap.size W9 (W9.alloc (.cells #[.int .i64 0, .int .i64 0, .int .u64 0, .int .i64 0, .int .i64 0, .int .i64 0, .int .i64 0, .slice none 0 0] 30 (0, 0))) := (Below.refl _ _).alloc (Nat.le_refl _) _
              have hC' := hC.trans (hb.mono hC.size)
              go_simp
              exact hK _ _ ⟨_, _, _, _, _, _, _, _, _, _, _, undef, _, yyb, lob, hib, W9.heap.size, rfl, hC', (f0), (f1), (f2), (f3), (fun h => (keepF4r (k := fun g => .slice (some ⟨g, 0, none⟩) 3 3) (f4 h) hb)), (fun h => (keepF3 (k := fun g => .agg #[.int .i64 6, .int .i64 0, .int .u64 0, .int .i64 0, .int .i64 0, .int .i64 0, .int .i64 0, .slice (some ⟨g, 0, none⟩) 3 3]) (T := fun g => condT g (ET.mk op1 wd1 v1 sg1 uh1 ul1 xn1 xa1 xc1 xl1) (numT 1) (numT 0)) (f5 h) hb)), (fun h => (keepF4 (f6 h) hb)), (f7), (f8), (f9), (fun _ => ⟨rfl, hC.size, by rw [World.size_alloc]; exact Nat.lt_succ_self _, fun h => Or.inr (f6 h).2.2.2.2, fun _ => World.alloc_heap_new W9 _⟩), (fun h => by rw [show b 11 = true from h] at n11; cases n11), (f12)⟩
            · intro b a W9 hbk hd hcl hJ K hK
              obtain ⟨u0, u1, u2, u3, u4, u5, u6, u7, u8, u9, u10, u11, u12, yyb, lob, hib, ggb, rfl, hC, f0, f1, f2, f3, f4, f5, f6, f7, f8, f9, f10, f11, f12⟩ := hJ
              have d10 := f10 (hd ⟨10, .data⟩ (by simp) rfl)
              have d8 := f8 (hd ⟨8, .data⟩ (by simp) rfl)
              have d6 := f6 (hd ⟨6, .phase⟩ (by simp) rfl)
              obtain ⟨rfl, k1, k2, k3, k4⟩ := d10
              subst d8
              obtain ⟨rfl, j1, j2, j3, j4⟩ := d6
              obtain ⟨op7, wd7, v7, sg7, uh7, ul7, xn7, xa7, xc7, xl7⟩ := yyb
              have RY : RowM W9 ggb ([] ++ ([.int .i64 0, .int .i64 0, .int .u64 0, .int .i64 0, .int .i64 0, .int .i64 0, .int .i64 0, .slice none 0 0] ++ [])) := k4 hbk
              obtain ⟨y0, y1, y2, y3, y4, y5, y6, y7⟩ := RowM.cells RY 0 rfl
              obtain ⟨p0, p1, p2, p3, p4, p5, p6, p7⟩ := RowM.thaw RY 0
              have RZ := RowM.put RY 0 rfl (.int .i64 op7) (.int .i64 wd7) (.int .u64 (v7 : Int)) (.int .i64 sg7) (.int .i64 uh7) (.int .i64 ul7) (.int .i64 xn7) (.slice xa7 xl7.length xc7)
              have ho := fun k hk => put_other W9 ggb 0 (.int .i64 op7) (.int .i64 wd7) (.int .u64 (v7 : Int)) (.int .i64 sg7) (.int .i64 uh7) (.int .i64 ul7) (.int .i64 xn7) (.slice xa7 xl7.length xc7) k hk
              have hC' := below_put hC k1 0 (.int .i64 op7) (.int .i64 wd7) (.int .u64 (v7 : Int)) (.int .i64 sg7) (.int .i64 uh7) (.int .i64 ul7) (.int .i64 xn7) (.slice xa7 xl7.length xc7)
              simp only [Nat.zero_add] at y1 y2 y3 y4 y5 y6 y7 p1 p2 p3 p4 p5 p6 p7 RZ ho hC'
              obtain ⟨W8, hW8⟩ : ∃ W8, ((((((((W9.setCell ⟨ggb, 0, none⟩ (.int .i64 op7)).setCell ⟨ggb, 1, none⟩ (.int .i64 wd7)).setCell ⟨ggb, 2, none⟩ (.int .u64 (v7 : Int))).setCell ⟨ggb, 3, none⟩ (.int .i64 sg7)).setCell ⟨ggb, 4, none⟩ (.int .i64 uh7)).setCell ⟨ggb, 5, none⟩ (.int .i64 ul7)).setCell ⟨ggb, 6, none⟩ (.int .i64 xn7)).setCell ⟨ggb, 7, none⟩ (.slice xa7 xl7.length xc7)) = W8 := ⟨_, rfl⟩
              have hsz : W8.heap.size = W9.heap.size := by rw [← hW8]; simp only [World.size_setCell]
              rw [hW8] at RZ hC'
              simp only [hW8] at ho
              have k3' := k3 (hd ⟨6, .phase⟩ (by simp) rfl)
              have hown := ET.Own.keep (ET.mk op7 wd7 v7 sg7 uh7 ul7 xn7 xa7 xc7 xl7) lob hib (fun k h1 h2 => ho k (by omega)) j2
              simp only [ET.val, ET.cells]
              go_simp
              (try rw [hW8])
              exact hK _ _ ⟨_, _, _, _, _, _, _, _, _, _, _, undef, _, (ET.mk op7 wd7 v7 sg7 uh7 ul7 xn7 xa7 xc7 xl7), lob, hib, ggb, rfl, hC', (f0), (f1), (f2), (f3), (fun _ h => by cases h), (fun _ h => by cases h), (fun _ => ⟨rfl, j1, hown, j3, by rw [hsz]; exact j4⟩), (f7), (f8), (f9), (fun _ => ⟨rfl, k1, by rw [hsz]; exact k2, fun _ => k3', fun h => by cases h⟩), (fun _ => RZ), (f12)⟩
            · intro b a W9 hbk hd hcl hJ K hK
              obtain ⟨u0, u1, u2, u3, u4, u5, u6, u7, u8, u9, u10, u11, u12, yyb, lob, hib, ggb, rfl, hC, f0, f1, f2, f3, f4, f5, f6, f7, f8, f9, f10, f11, f12⟩ := hJ
              have d9 := f9 (hd ⟨9, .data⟩ (by simp) rfl)
              subst d9
              go_simp
              exact hK _ _ ⟨_, _, _, _, _, _, _, _, _, _, _, undef, _, yyb, lob, hib, ggb, rfl, hC, (f0), (f1), (f2), (f3), (f4), (f5), (f6), (f7), (f8), (f9), (f10), (f11), (fun _ => rfl)⟩
          · intro b a V5 hb hJ
            obtain ⟨q0, q1, q2, q3, q4, q5, q6, q7, q8, q9, q10, q11, q12, yyb, lob, hib, ggb, rfl, hC, f0, f1, f2, f3, f4, f5, f6, f7, f8, f9, f10, f11, f12⟩ := hJ
            replace f0 := f0 (hb 0 (by decide))
            replace f1 := f1 (hb 1 (by decide))
            replace f2 := f2 (hb 2 (by decide))
            replace f3 := f3 (hb 3 (by decide))
            replace f4 := f4 (hb 4 (by decide))
            replace f5 := f5 (hb 5 (by decide))
            replace f6 := f6 (hb 6 (by decide))
            replace f7 := f7 (hb 7 (by decide))
            replace f8 := f8 (hb 8 (by decide))
            replace f9 := f9 (hb 9 (by decide))
            replace f10 := f10 (hb 10 (by decide))
            replace f11 := f11 (hb 11 (by decide))
            replace f12 := f12 (hb 12 (by decide))
            obtain ⟨rfl, k1, k2, k3, k4⟩ := f10
            subst f12
            obtain ⟨hp4, j1, j2, j3, j4⟩ := f6
            clear hp4
            have HYb : Hid (V5.heap[ggb]? = some (.cells yyb.cells.toArray 30 (0, 0)) ∧ (G1 = 0 → yyb.wd = 5) ∧ yyb.In V5.heap.size V5) := Lib.hid ⟨f11, j1, ET.In.less j4 _ (j2.inn _ _ _)⟩
            clear f0 f1 f2 f3 f4 f5 f7 f8 f9 f11 k1 k2 k3 k4 j1 j2 j3 j4
            have HSY := Lib.hid (hs2 HSX.out hC HSX.out.1.size)
            have HYK := Lib.hid (And.intro (block_kept HYa.out.1 hC) HYa.out.2)
            clear HYa
            have HYa := HYK
            clear HYK
            clear HSX hC
            have HSX := HSY
            clear HSY
            have HYK := Lib.hid (And.intro HYb.out.1 HYb.out.2.1)
            clear HYb
            have HYb := HYK
            clear HYK T1 T2
            obtain ⟨gsc, hgsc⟩ : ∃ g, V5.heap.size = g := ⟨_, rfl⟩
            obtain ⟨Va, hVa⟩ : ∃ Va, V5.alloc (.cells #[.int .i64 op1, .int .i64 wd1, .int .u64 (v1 : Int), .int .i64 sg1, .int .i64 uh1, .int .i64 ul1, .int .i64 xn1, .slice xa1 xl1.length xc1] 30 (0, 0)) = Va := ⟨_, rfl⟩
            have hba : Below V5.heap.size V5 Va := by rw [← hVa]; exact (Below.refl _ _).alloc (Nat.le_refl _) _
            have hra : RowM Va gsc (flatE [(ET.mk op1 wd1 v1 sg1 uh1 ul1 xn1 xa1 xc1 xl1)]) := by show Va.heap[gsc]? = _; rw [← hVa, ← hgsc]; exact World.alloc_heap_new V5 _
            have hin : (unT 3 gsc (ET.mk op1 wd1 v1 sg1 uh1 ul1 xn1 xa1 xc1 xl1)).In Va.heap.size Va := made_in (Array.getElem?_eq_some_iff.1 hra).1 hra (fun z hz => by
              obtain rfl : z = _ := by simpa using hz
              exact HAI.out Va (HSX.out.1.trans (hba.mono HSX.out.1.size)))
            have cK := Lib.hid (HX.out 3 gsc (0 : Int) 1 (T3.out gsc) Va (HSX.out.1.trans (hba.mono HSX.out.1.size)) hin)
            have HBA := Lib.hid hba
            clear hba hra hin
            obtain ⟨z0, z1, z2⟩ := opq3 HSX.out.2.1
            obtain ⟨x0, x1, x2, x3, x4, x5, x6, x7⟩ := ope8 HSX.out.2.2
            go_wp2_with fail
            (try rw [hgsc])
            (try rw [hVa])
            clear hVa hgsc
            refine cK.out.mono ?_
            clear cK
            clear z0 z1 z2 x0 x1 x2 x3 x4 x5 x6 x7
            rintro e Vb ⟨y, rfl, hyw, hyo, hb5⟩
            obtain ⟨op9, wd9, v9, sg9, uh9, ul9, xn9, xa9, xc9, xl9⟩ := y
            obtain ⟨ggc, hh8⟩ : ∃ h8, Vb.heap.size = h8 := ⟨_, rfl⟩
            obtain ⟨VA, hVA⟩ : ∃ VA, Vb.alloc (.cells #[.int .i64 0, .int .i64 0, .int .u64 0, .int .i64 0, .int .i64 0, .int .i64 0, .int .i64 0, .slice none 0 0] 30 (0, 0)) = VA := ⟨_, rfl⟩
            have hbA : Below Vb.heap.size Vb VA := by rw [← hVA]; exact (Below.refl _ _).alloc (Nat.le_refl _) _
            have hrA : RowM VA ggc ([] ++ ([.int .i64 0, .int .i64 0, .int .u64 0, .int .i64 0, .int .i64 0, .int .i64 0, .int .i64 0, .slice none 0 0] ++ [])) := by show VA.heap[ggc]? = _; rw [← hVA, ← hh8]; exact World.alloc_heap_new Vb _
            have hr8 := RowM.put hrA 0 rfl (.int .i64 op9) (.int .i64 wd9) (.int .u64 (v9 : Int)) (.int .i64 sg9) (.int .i64 uh9) (.int .i64 ul9) (.int .i64 xn9) (.slice xa9 xl9.length xc9)
            have hb8 := below_alloc_put (W := Vb) (.cells #[.int .i64 0, .int .i64 0, .int .u64 0, .int .i64 0, .int .i64 0, .int .i64 0, .int .i64 0, .slice none 0 0] 30 (0, 0)) (.int .i64 op9) (.int .i64 wd9) (.int .u64 (v9 : Int)) (.int .i64 sg9) (.int .i64 uh9) (.int .i64 ul9) (.int .i64 xn9) (.slice xa9 xl9.length xc9)
            simp only [Nat.zero_add] at hr8
            rw [hh8, hVA] at hb8
            obtain ⟨V6, hV9⟩ : ∃ V9, ((((((((VA.setCell ⟨ggc, 0, none⟩ (.int .i64 op9)).setCell ⟨ggc, 1, none⟩ (.int .i64 wd9)).setCell ⟨ggc, 2, none⟩ (.int .u64 (v9 : Int))).setCell ⟨ggc, 3, none⟩ (.int .i64 sg9)).setCell ⟨ggc, 4, none⟩ (.int .i64 uh9)).setCell ⟨ggc, 5, none⟩ (.int .i64 ul9)).setCell ⟨ggc, 6, none⟩ (.int .i64 xn9)).setCell ⟨ggc, 7, none⟩ (.slice xa9 xl9.length xc9)) = V9 := ⟨_, rfl⟩
            rw [hV9] at hr8 hb8
            rw [← hh8] at hb8
            have hC := (HBA.out.trans (hb5.mono HBA.out.size)).trans (hb8.mono (Nat.le_trans HBA.out.size hb5.size))
            obtain ⟨u0, u1, u2, u3, u4, u5, u6, u7⟩ := RowM.cells hrA 0 rfl
            obtain ⟨p0q, p1q, p2q, p3q, p4q, p5q, p6q, p7q⟩ := RowM.thaw hrA 0
            simp only [Nat.zero_add] at u1 u2 u3 u4 u5 u6 u7 p1q p2q p3q p4q p5q p6q p7q
            have HYc := Lib.hid (And.intro (show V6.heap[ggc]? = some (.cells #[.int .i64 op9, .int .i64 wd9, .int .u64 (v9 : Int), .int .i64 sg9, .int .i64 uh9, .int .i64 ul9, .int .i64 xn9, .slice xa9 xl9.length xc9] 30 (0, 0)) from hr8) hyw)
            have HSY := Lib.hid (hs2 HSX.out hC HSX.out.1.size)
            have HYK := Lib.hid (And.intro (block_kept HYa.out.1 hC) HYa.out.2)
            clear HYa
            have HYa := HYK
            clear HYK
            have HYK := Lib.hid (And.intro (block_kept HYb.out.1 hC) HYb.out.2)
            clear HYb
            have HYb := HYK
            clear HYK
            clear HSX hC
            have HSX := HSY
            clear HSY
            clear hyw hyo hb5 hbA hrA hr8 hb8 HBA
            simp only [ET.val, ET.cells]
            go_upto_region 7 with (fail)
            (try rw [hh8])
            (try rw [hVA])
            (try rw [hV9])
            clear hVA hV9 hh8 u0 u1 u2 u3 u4 u5 u6 u7 p0q p1q p2q p3q p4q p5q p6q p7q
            obtain ⟨op8, wd8, v8, sg8, uh8, ul8, xn8, xa8, xc8, xl8⟩ := yyb
            have hb1 : V6.cell? ⟨ggb, 1, none⟩ = some (.int .i64 wd8) := by
              have h9 := HYb.out.1
              simp only [ET.cells] at h9
              exact (ope8 h9).2.1
            have hb2 := HYb.out.2
            simp only [ET.wd] at hb2
            have ha1 := (ope8 HYa.out.1).2.1
            have ha2 := HYa.out.2
            have hc1 := (ope8 HYc.out.1).2.1
            have hc2 := HYc.out.2
            simp only [ET.wd] at ha2 hc2
            obtain ⟨x0, x1, x2, x3, x4, x5, x6, x7⟩ := ope8 HSX.out.2.2
            have hc3 := hc2 (by first | rfl | trivial)
            have r5 : (wd9 == 1) = true := by rw [beq_iff_eq]; exact hc3
            have g3 : ((0 : Int) == 0) = true := rfl
            clear hc2 hc3
            by_cases q9 : wd1 = 1
            · have e1 : (0 : Int) = G1 := by
                have h := HG1.out
                simpa [q9] using h
              have r1 := ha2 e1.symm
              have r2 := hb2 e1.symm
              subst e1
              have r0 : (wd1 != 1) = false := by rw [q9]; rfl
              have r6 : (wd7 == 1) = true := by rw [beq_iff_eq]; exact r1
              have r7 : (wd8 == 5) = true := by rw [beq_iff_eq]; exact r2
              clear ha2 hb2 q9 r1 r2 HG1
              go_wp2
              go_ret
              exact ⟨rfl, HSX.out.1⟩
            · have e1 : (91 : Int) = G1 := by
                have h := HG1.out
                simpa [q9] using h
              subst e1
              have r0 : (wd1 != 1) = true := by rw [bne_iff_ne]; exact q9
              have r6 : ((91 : Int) == 91) = true := rfl
              clear ha2 hb2 q9 HG1
              go_wp2
              go_ret
              exact ⟨rfl, HSX.out.1⟩
        · have eC1 : (C1 != 0) = true := by rw [bne_iff_ne]; exact tC1
          go_wp2
          go_ret
          exact ⟨rfl, HS5.out.1⟩
      · have eD1 : decide ((D1 : Int) > 60) = true := by rw [decide_eq_true_eq]; omega
        have eD1' : decide ((60 : Int) < (D1 : Int)) = true := by rw [decide_eq_true_eq]; omega
        go_wp2
        go_ret
        exact ⟨rfl, HS4.out.1⟩
end Go.Proofs.YtglpkfeokojdkaaDoor
