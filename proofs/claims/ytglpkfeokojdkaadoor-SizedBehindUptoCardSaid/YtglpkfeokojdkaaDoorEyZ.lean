/-
  SizedBehind: as wide as all parts.
-/
import Derived.Test.YtglpkfeokojdkaaDoorEyX
import Derived.Test.YtglpkfeokojdkaaDoorEyW
import Derived.Lib.QuietBelow
import Derived.BigQuiet
namespace Go.Proofs.YtglpkfeokojdkaaDoor
open Go Go.RowKit
set_option linter.unusedVariables false
set_option linter.unusedSimpArgs false
open Go.Sort

theorem keepC {g : Nat} {o : Obj} {P : Prop} {V V' : World} (h : V.heap[g]? = some o ∧ P) (hb : Below V.heap.size V V') : V'.heap[g]? = some o ∧ P := ⟨block_kept h.1 hb, h.2⟩
theorem behind_facts {gl : List GT} {a b : ET} {wv : Int} (c1 : fewE a = true) (c2 : fewE b = true) (d1 : a.dp ≤ 60) (d2 : b.dp ≤ 60) (k1 : checkES gl a = 0) (k2 : checkES gl b = 0) (w1 : 1 ≤ wv) (w2 : wv ≤ 64) : (∃ F, (∀ g, (exprS gl (catT g a b) 0).2 = F ∧ (F = 0 → nrmE (exprS gl (catT g a b) 0).1 = nrmE (catW a b))) ∧ (F = 0 ↔ a.wd + b.wd ≤ 64)) ∧ (∃ F, (∀ g, Tells gl (extT 32 wv g a) 0 F wv) ∧ (F = 0 ↔ a.wd ≤ wv)) ∧ (∃ F, (∀ g, Tells gl (extT 33 wv g a) 0 F wv) ∧ (F = 0 ↔ wv ≤ a.wd)) ∧ (1 ≤ a.wd ∧ a.wd ≤ 64) ∧ (1 ≤ b.wd ∧ b.wd ≤ 64) := by
  have s1 : a.sz ≤ 1000 := by unfold fewE at c1; simp at c1; exact c1.1
  have s2 : b.sz ≤ 1000 := by unfold fewE at c2; simp at c2; exact c2.1
  have hw := isW_of w1 w2
  refine ⟨cat_fits k1 s1 d1 k2 s2 d2, ?_, ?_, isW_le (ck_szd k1).2.2.2.1, isW_le (ck_szd k2).2.2.2.1⟩
  · have h := ext_fits k1 s1 d1 (Or.inl (rfl : (32 : Int) = 32)) hw
    simpa using h
  · have h := ext_fits k1 s1 d1 (Or.inr (rfl : (33 : Int) = 33)) hw
    simpa using h
theorem catT_wf (g : Nat) {a b : ET} (h : a.Wf) (hb : b.Wf) : (catT g a b).Wf := by
  rw [catT, ET.wf_mk]
  refine ⟨by decide, fun x hx => ?_⟩
  simp at hx
  rcases hx with rfl | rfl
  · exact h
  · exact hb
theorem extT_wf (xn w : Int) (g : Nat) {a : ET} (h : a.Wf) : (extT xn w g a).Wf := by rw [extT, ET.wf_mk]; exact ⟨by decide, fun x hx => by simp at hx; rw [hx]; exact h⟩
theorem catT_bk (g : Nat) (a b : ET) : (catT g a b).bk = 1 + (a.bk + b.bk) := by simp [catT, ET.bk, ET.bkL]
theorem extT_bk (xn w : Int) (g : Nat) (a : ET) : (extT xn w g a).bk = 1 + a.bk := by simp [extT, ET.bk, ET.bkL]
/-- What Expr leaves of one expression behind the other. -/
def XcP (F : Int) (N : ET) (W : World) : Ending → World → Prop := fun e w' => ∃ y : ET, e = .returned (.tuple #[y.val, .int .i64 F]) ∧ (F = 0 → nrmE y = N) ∧ y.Own w' W.heap.size w'.heap.size ∧ Below W.heap.size W w'
theorem ccall {gl : List GT} {ga : Option Addr} {gc : Nat} {qa : Option Addr} {qn qc : Nat} {ka : Option Addr} {kn kc : Nat} {a b x : ET} {w0 F : Int} {N : ET} (hgl : gl.length ≤ 9000000) (hnl : ∀ g ∈ gl, g.nm.length ≤ 12000000) (hF : (exprS gl x w0).2 = F ∧ (F = 0 → nrmE (exprS gl x w0).1 = N)) (hk : x.bk ≤ 4500000) (hw : x.Wf) {n0 : Nat} {W : World} (h : In2 n0 gl ga a b W) (hi : x.In W.heap.size W) :
    Calls Tryd.prog 14 #[.agg #[.slice ga gl.length gc, .slice qa qn qc, .slice ka kn kc], x.val, .int .i64 w0] W (XcP F N W) :=
  (expr_any gl ga gc qa qn qc ka kn kc hgl hnl x hk hw w0 W.heap.size W (Nat.le_refl _) h.z (InRow.less h.n (fun _ _ h => h) h.g) hi).mono (fun e w' h => by
    obtain ⟨y, h1, h2, h3, h4⟩ := h
    exact ⟨y, by rw [h1, hF.1], fun q => by rw [h2, hF.2 q], h3, h4⟩)
theorem cat_shape {y a b : ET} (h : nrmE y = nrmE (catW a b)) : ∃ ya yc p q, y = .mk 7 (a.wd + b.wd) 0 0 0 0 0 ya yc [p, q] ∧ nrmE p = nrmE a ∧ nrmE q = nrmE b := by
  obtain ⟨op, wd, v, sg, uh, ul, xn, xa, xc, xl⟩ := y
  rw [nrmE, catW, nrmE] at h
  injection h with h1 h2 h3 h4 h5 h6 h7 _ _ h8
  subst h1 h2 h3 h4 h5 h6 h7
  have hl := congrArg List.length h8
  rw [nrmEL_map, List.length_map, nrmEL_map, List.length_map] at hl
  match xl, hl, h8 with
  | [p, q], _, h8 =>
    rw [nrmEL, nrmEL, nrmEL, nrmEL, nrmEL] at h8
    injection h8 with h9 h10
    injection h10 with h11 _
    exact ⟨xa, xc, p, q, rfl, h9, h11⟩
set_option maxHeartbeats 16000000 in
set_option maxRecDepth 100000 in
theorem behind_law (d : DT) (hdk : d.bk ≤ 1100000) (a b : ET) (hak : a.bk ≤ 1100000) (hbk : b.bk ≤ 1100000) (haw : a.Wf) (hbw : b.Wf) (wv : Int) (n0 : Nat) (w : World) (h0 : In2 n0 d.gl d.ga a b w) (hd : d.In n0 w) : Calls Tryd.prog 3 #[d.val, a.val, b.val, .int .i64 wv] w fun e w' => e = .returned (.bool true) ∧ Below w.heap.size w w' := by
  have HE := Lib.hid h0
  have F1 := Lib.hid (fun (W : World) (h : Below w.heap.size w W) => few_any a (by have := a.sz_bk; omega) n0 W (h0.keep h).n (h0.keep h).a)
  have F2 := Lib.hid (fun (W : World) (h : Below w.heap.size w W) => few_any b (by have := b.sz_bk; omega) n0 W (h0.keep h).n (h0.keep h).b)
  have F3 := Lib.hid (fun (W : World) (h : Below w.heap.size w W) => small_any d (by omega) n0 W (h0.keep h).n (hd.keep (Below.keptTo h h0.n)))
  have F4 := Lib.hid (fun (W : World) (h : Below w.heap.size w W) => refDeep_any a (by have := a.sz_bk; omega) n0 W (h0.keep h).n (h0.keep h).a)
  have F5 := Lib.hid (fun (W : World) (h : Below w.heap.size w W) => refDeep_any b (by have := b.sz_bk; omega) n0 W (h0.keep h).n (h0.keep h).b)
  obtain ⟨ga, gc, gl, qa, qc, ql, ka, kc, kl⟩ := d
  have hgl : gl.length ≤ 9000000 ∧ ∀ g ∈ gl, g.nm.length ≤ 12000000 := by
    simp only [DT.bk] at hdk
    have h1 := GT.bkL_len gl
    exact ⟨by omega, fun g hg => by have h2 := GT.bkL_mem hg; simp only [GT.bk] at h2; omega⟩
  simp only at h0 HE
  have F6 := Lib.hid (fun (W : World) (h : Below w.heap.size w W) => checkE_any gl ga gc qa ql.length qc ka kl.length kc hgl.1 hgl.2 a (by omega) haw n0 W (h0.keep h).n (h0.keep h).z (h0.keep h).g (h0.keep h).a)
  have F7 := Lib.hid (fun (W : World) (h : Below w.heap.size w W) => checkE_any gl ga gc qa ql.length qc ka kl.length kc hgl.1 hgl.2 b (by omega) hbw n0 W (h0.keep h).n (h0.keep h).z (h0.keep h).g (h0.keep h).b)
  have HXC := Lib.hid (fun (g' : Nat) (F : Int) (t : (exprS gl (catT g' a b) 0).2 = F ∧ (F = 0 → nrmE (exprS gl (catT g' a b) 0).1 = nrmE (catW a b))) (W : World) (h : Below w.heap.size w W) (hi : (catT g' a b).In W.heap.size W) => ccall (gc := gc) (qa := qa) (qn := ql.length) (qc := qc) (ka := ka) (kn := kl.length) (kc := kc) hgl.1 hgl.2 t (by rw [catT_bk]; omega) (catT_wf g' haw hbw) (h0.keep h) hi)
  have HXE := Lib.hid (fun (xn : Int) (g' : Nat) (F : Int) (t : Tells gl (extT xn wv g' a) 0 F wv) (W : World) (h : Below w.heap.size w W) (hi : (extT xn wv g' a).In W.heap.size W) => xcall (gc := gc) (qa := qa) (qn := ql.length) (qc := qc) (ka := ka) (kn := kl.length) (kc := kc) hgl.1 hgl.2 t (by rw [extT_bk]; omega) (extT_wf xn wv g' haw) (h0.keep h) hi)
  have HAI := Lib.hid (fun (W : World) (h : Below w.heap.size w W) => ET.In.less (h0.keep h).n _ (h0.keep h).a)
  have HBI := Lib.hid (fun (W : World) (h : Below w.heap.size w W) => ET.In.less (h0.keep h).n _ (h0.keep h).b)
  have HAK := Lib.hid (show a.bk ≤ 1100000 ∧ b.bk ≤ 1100000 from ⟨hak, hbk⟩)
  have HM1 := Lib.hid (fun (c1 : fewE a = true) (c2 : fewE b = true) (d1 : a.dp ≤ 60) (d2 : b.dp ≤ 60) (k1 : checkES gl a = 0) (k2 : checkES gl b = 0) (w1 : 1 ≤ wv) (w2 : wv ≤ 64) => behind_facts c1 c2 d1 d2 k1 k2 w1 w2)
  obtain ⟨B1, hB1⟩ : ∃ x, fewE a = x := ⟨_, rfl⟩
  obtain ⟨B2, hB2⟩ : ∃ x, fewE b = x := ⟨_, rfl⟩
  obtain ⟨B3, hB3⟩ : ∃ x, smallD ⟨ga, gc, gl, qa, qc, ql, ka, kc, kl⟩ = x := ⟨_, rfl⟩
  obtain ⟨D1, hD1⟩ : ∃ x, a.dp = x := ⟨_, rfl⟩
  obtain ⟨D2, hD2⟩ : ∃ x, b.dp = x := ⟨_, rfl⟩
  obtain ⟨C1, hC1⟩ : ∃ x, checkES gl a = x := ⟨_, rfl⟩
  obtain ⟨C2, hC2⟩ : ∃ x, checkES gl b = x := ⟨_, rfl⟩
  have hdl : D1 ≤ 6000000 ∧ D2 ≤ 6000000 := by have h1 := a.dp_sz; have h2 := a.sz_bk; have h3 := b.dp_sz; have h4 := b.sz_bk; omega
  rw [hB1] at F1 HM1
  rw [hB2] at F2 HM1
  rw [hB3] at F3
  rw [hD1] at F4 HM1
  rw [hD2] at F5 HM1
  rw [hC1] at F6 HM1
  rw [hC2] at F7 HM1
  clear h0 hgl hB1 hB2 hB3 hD1 hD2 hC1 hC2 hdk hak hbk haw hbw hd
  obtain ⟨op1, wd1, v1, sg1, uh1, ul1, xn1, xa1, xc1, xl1⟩ := a
  obtain ⟨op2, wd2, v2, sg2, uh2, ul2, xn2, xa2, xc2, xl2⟩ := b
  simp only [ET.val, ET.cells, DT.val, DT.cells] at F1 F2 F3 F4 F5 F6 F7 ⊢
  obtain ⟨gx, hgx⟩ : ∃ gx, w.heap.size = gx := ⟨_, rfl⟩
  obtain ⟨wa, hwa⟩ : ∃ wa, w.alloc (.cells #[.slice ga gl.length gc, .slice qa ql.length qc, .slice ka kl.length kc] 26) = wa := ⟨_, rfl⟩
  have hba : Below w.heap.size w wa := by rw [← hwa]; exact (Below.refl _ _).alloc (Nat.le_refl _) _
  have hsa : wa.heap.size = gx + 1 := by rw [← hwa, World.size_alloc, hgx]
  have BD : wa.heap[gx]? = some (.cells #[.slice ga gl.length gc, .slice qa ql.length qc, .slice ka kl.length kc] 26 (0, 0)) := by rw [← hwa, ← hgx]; exact World.alloc_heap_new w _
  obtain ⟨wb, hwb⟩ : ∃ wb, wa.alloc (.cells #[.int .i64 op1, .int .i64 wd1, .int .u64 (v1 : Int), .int .i64 sg1, .int .i64 uh1, .int .i64 ul1, .int .i64 xn1, .slice xa1 xl1.length xc1] 30) = wb := ⟨_, rfl⟩
  have hbb : Below wa.heap.size wa wb := by rw [← hwb]; exact (Below.refl _ _).alloc (Nat.le_refl _) _
  have hsb : wb.heap.size = gx + 2 := by rw [← hwb, World.size_alloc, hsa]
  have BA : wb.heap[gx + 1]? = some (.cells #[.int .i64 op1, .int .i64 wd1, .int .u64 (v1 : Int), .int .i64 sg1, .int .i64 uh1, .int .i64 ul1, .int .i64 xn1, .slice xa1 xl1.length xc1] 30 (0, 0)) := by rw [← hwb, ← hsa]; exact World.alloc_heap_new wa _
  obtain ⟨w1, hw1⟩ : ∃ w1, wb.alloc (.cells #[.int .i64 op2, .int .i64 wd2, .int .u64 (v2 : Int), .int .i64 sg2, .int .i64 uh2, .int .i64 ul2, .int .i64 xn2, .slice xa2 xl2.length xc2] 30) = w1 := ⟨_, rfl⟩
  have hbc : Below wb.heap.size wb w1 := by rw [← hw1]; exact (Below.refl _ _).alloc (Nat.le_refl _) _
  have BB : w1.heap[gx + 2]? = some (.cells #[.int .i64 op2, .int .i64 wd2, .int .u64 (v2 : Int), .int .i64 sg2, .int .i64 uh2, .int .i64 ul2, .int .i64 xn2, .slice xa2 xl2.length xc2] 30 (0, 0)) := by rw [← hw1, ← hsb]; exact World.alloc_heap_new wb _
  have HS0 := Lib.hid (And.intro ((hba.trans (hbb.mono hba.size)).trans (hbc.mono (by omega))) (And.intro (block_kept (block_kept BD hbb) hbc) (And.intro (block_kept BA hbc) BB)))
  clear hba hbb hbc BD BA BB
  have FL := Lib.hid (fun (W : World) (h : Below w.heap.size w W) => live_any W (HE.out.keep h).z)
  go_enter Tryd.func3, Tryd.ntmps3
  go_upto_region 1 with (fail)
  (try rw [hwa])
  (try rw [hgx])
  (try rw [hwb])
  (try rw [hsa])
  (try rw [hw1])
  (try rw [hsb])
  clear hwa hwb hw1 hsa hsb hgx
  obtain ⟨z0, z1, z2⟩ := opq3 HS0.out.2.1
  obtain ⟨x0, x1, x2, x3, x4, x5, x6, x7⟩ := ope8 HS0.out.2.2.1
  obtain ⟨y0, y1, y2, y3, y4, y5, y6, y7⟩ := ope8 HS0.out.2.2.2
  have cK := Lib.hid (FL.out w1 HS0.out.1)
  go_wp2_with fail
  refine cK.out.mono ?_
  clear cK
  clear z0 z1 z2 x0 x1 x2 x3 x4 x5 x6 x7 y0 y1 y2 y3 y4 y5 y6 y7
  rintro e w2 ⟨rfl, hb⟩
  have HS1 := Lib.hid (hs3 HS0.out hb HS0.out.1.size)
  clear hb
  obtain ⟨z0, z1, z2⟩ := opq3 HS1.out.2.1
  obtain ⟨x0, x1, x2, x3, x4, x5, x6, x7⟩ := ope8 HS1.out.2.2.1
  obtain ⟨y0, y1, y2, y3, y4, y5, y6, y7⟩ := ope8 HS1.out.2.2.2
  have cK := Lib.hid (F1.out w2 HS1.out.1)
  go_wp2_with fail
  refine cK.out.mono ?_
  clear cK
  clear z0 z1 z2 x0 x1 x2 x3 x4 x5 x6 x7 y0 y1 y2 y3 y4 y5 y6 y7
  rintro e w3 ⟨rfl, hb⟩
  have HS2 := Lib.hid (hs3 HS1.out hb HS1.out.1.size)
  clear hb
  cases B1 with
  | false =>
    go_wp2
    go_ret
    exact ⟨rfl, HS2.out.1⟩
  | true =>
    obtain ⟨z0, z1, z2⟩ := opq3 HS2.out.2.1
    obtain ⟨x0, x1, x2, x3, x4, x5, x6, x7⟩ := ope8 HS2.out.2.2.1
    obtain ⟨y0, y1, y2, y3, y4, y5, y6, y7⟩ := ope8 HS2.out.2.2.2
    have cK := Lib.hid (F2.out w3 HS2.out.1)
    go_wp2_with fail
    refine cK.out.mono ?_
    clear cK
    clear z0 z1 z2 x0 x1 x2 x3 x4 x5 x6 x7 y0 y1 y2 y3 y4 y5 y6 y7
    rintro e w4 ⟨rfl, hb⟩
    have HS3 := Lib.hid (hs3 HS2.out hb HS2.out.1.size)
    clear hb
    cases B2 with
    | false =>
      go_wp2
      go_ret
      exact ⟨rfl, HS3.out.1⟩
    | true =>
      obtain ⟨z0, z1, z2⟩ := opq3 HS3.out.2.1
      obtain ⟨x0, x1, x2, x3, x4, x5, x6, x7⟩ := ope8 HS3.out.2.2.1
      obtain ⟨y0, y1, y2, y3, y4, y5, y6, y7⟩ := ope8 HS3.out.2.2.2
      have cK := Lib.hid (F3.out w4 HS3.out.1)
      go_wp2_with fail
      refine cK.out.mono ?_
      clear cK
      clear z0 z1 z2 x0 x1 x2 x3 x4 x5 x6 x7 y0 y1 y2 y3 y4 y5 y6 y7
      rintro e w5 ⟨rfl, hb⟩
      have HS4 := Lib.hid (hs3 HS3.out hb HS3.out.1.size)
      clear hb
      cases B3 with
      | false =>
        go_wp2
        go_ret
        exact ⟨rfl, HS4.out.1⟩
      | true =>
        obtain ⟨z0, z1, z2⟩ := opq3 HS4.out.2.1
        obtain ⟨x0, x1, x2, x3, x4, x5, x6, x7⟩ := ope8 HS4.out.2.2.1
        obtain ⟨y0, y1, y2, y3, y4, y5, y6, y7⟩ := ope8 HS4.out.2.2.2
        have cK := Lib.hid (F4.out w5 HS4.out.1)
        go_wp2_with fail
        refine cK.out.mono ?_
        clear cK
        clear z0 z1 z2 x0 x1 x2 x3 x4 x5 x6 x7 y0 y1 y2 y3 y4 y5 y6 y7
        rintro e w6 ⟨rfl, hb⟩
        have HS5 := Lib.hid (hs3 HS4.out hb HS4.out.1.size)
        clear hb
        by_cases tD1 : D1 ≤ 60
        · have eD1 : decide ((D1 : Int) > 60) = false := by rw [decide_eq_false_iff_not]; omega
          have eD1' : decide ((60 : Int) < (D1 : Int)) = false := by rw [decide_eq_false_iff_not]; omega
          obtain ⟨z0, z1, z2⟩ := opq3 HS5.out.2.1
          obtain ⟨x0, x1, x2, x3, x4, x5, x6, x7⟩ := ope8 HS5.out.2.2.1
          obtain ⟨y0, y1, y2, y3, y4, y5, y6, y7⟩ := ope8 HS5.out.2.2.2
          have cK := Lib.hid (F5.out w6 HS5.out.1)
          go_wp2_with fail
          refine cK.out.mono ?_
          clear cK
          clear z0 z1 z2 x0 x1 x2 x3 x4 x5 x6 x7 y0 y1 y2 y3 y4 y5 y6 y7
          rintro e w7 ⟨rfl, hb⟩
          have HS6 := Lib.hid (hs3 HS5.out hb HS5.out.1.size)
          clear hb
          by_cases tD2 : D2 ≤ 60
          · have eD2 : decide ((D2 : Int) > 60) = false := by rw [decide_eq_false_iff_not]; omega
            have eD2' : decide ((60 : Int) < (D2 : Int)) = false := by rw [decide_eq_false_iff_not]; omega
            by_cases ew1 : 1 ≤ wv
            · have fw1 : decide (wv < 1) = false := by rw [decide_eq_false_iff_not]; omega
              by_cases ew2 : wv ≤ 64
              · have fw2 : decide (wv > 64) = false := by rw [decide_eq_false_iff_not]; omega
                have fw2' : decide ((64 : Int) < wv) = false := by rw [decide_eq_false_iff_not]; omega
                obtain ⟨z0, z1, z2⟩ := opq3 HS6.out.2.1
                obtain ⟨x0, x1, x2, x3, x4, x5, x6, x7⟩ := ope8 HS6.out.2.2.1
                obtain ⟨y0, y1, y2, y3, y4, y5, y6, y7⟩ := ope8 HS6.out.2.2.2
                have cK := Lib.hid (F6.out w7 HS6.out.1)
                go_wp2_with fail
                refine cK.out.mono ?_
                clear cK
                clear z0 z1 z2 x0 x1 x2 x3 x4 x5 x6 x7 y0 y1 y2 y3 y4 y5 y6 y7
                rintro e w8 ⟨rfl, hb⟩
                have HS7 := Lib.hid (hs3 HS6.out hb HS6.out.1.size)
                clear hb
                by_cases tC1 : C1 = 0
                · subst tC1
                  have eC1 : ((0 : Int) != 0) = false := rfl
                  obtain ⟨z0, z1, z2⟩ := opq3 HS7.out.2.1
                  obtain ⟨x0, x1, x2, x3, x4, x5, x6, x7⟩ := ope8 HS7.out.2.2.1
                  obtain ⟨y0, y1, y2, y3, y4, y5, y6, y7⟩ := ope8 HS7.out.2.2.2
                  have cK := Lib.hid (F7.out w8 HS7.out.1)
                  go_wp2_with fail
                  refine cK.out.mono ?_
                  clear cK
                  clear z0 z1 z2 x0 x1 x2 x3 x4 x5 x6 x7 y0 y1 y2 y3 y4 y5 y6 y7
                  rintro e w9 ⟨rfl, hb⟩
                  have HS8 := Lib.hid (hs3 HS7.out hb HS7.out.1.size)
                  clear hb
                  by_cases tC2 : C2 = 0
                  · subst tC2
                    have eC2 : ((0 : Int) != 0) = false := rfl
                    have HSX := HS8
                    clear HS0 HS1 HS2 HS3 HS4 HS5 HS6 HS7 HS8 F1 F2 F3 F4 F5 F6 F7 FL HE
                    obtain ⟨⟨G1, T1, I1⟩, ⟨G2, T2, I2⟩, ⟨G3, T3, I3⟩, W1, W2⟩ := HM1.out (by first | rfl | trivial) (by first | rfl | trivial) (by omega) (by omega) (by first | rfl | trivial) (by first | rfl | trivial) ew1 ew2
                    replace T1 := Lib.hid T1
                    replace T2 := Lib.hid T2
                    replace T3 := Lib.hid T3
                    replace I1 := Lib.hid I1
                    replace I2 := Lib.hid I2
                    replace I3 := Lib.hid I3
                    simp only [ET.wd] at W1 W2
                    clear HM1
                    obtain ⟨gsa, hgsa⟩ : ∃ g, w9.heap.size = g := ⟨_, rfl⟩
                    obtain ⟨Va, hVa⟩ : ∃ Va, w9.alloc (.cells #[.int .i64 op1, .int .i64 wd1, .int .u64 (v1 : Int), .int .i64 sg1, .int .i64 uh1, .int .i64 ul1, .int .i64 xn1, .slice xa1 xl1.length xc1, .int .i64 op2, .int .i64 wd2, .int .u64 (v2 : Int), .int .i64 sg2, .int .i64 uh2, .int .i64 ul2, .int .i64 xn2, .slice xa2 xl2.length xc2] 30 (0, 0)) = Va := ⟨_, rfl⟩
                    have hba : Below w9.heap.size w9 Va := by rw [← hVa]; exact (Below.refl _ _).alloc (Nat.le_refl _) _
                    have hra : RowM Va gsa (flatE [(ET.mk op1 wd1 v1 sg1 uh1 ul1 xn1 xa1 xc1 xl1), (ET.mk op2 wd2 v2 sg2 uh2 ul2 xn2 xa2 xc2 xl2)]) := by show Va.heap[gsa]? = _; rw [← hVa, ← hgsa]; exact World.alloc_heap_new w9 _
                    have hin : (catT gsa (ET.mk op1 wd1 v1 sg1 uh1 ul1 xn1 xa1 xc1 xl1) (ET.mk op2 wd2 v2 sg2 uh2 ul2 xn2 xa2 xc2 xl2)).In Va.heap.size Va := made_in (Array.getElem?_eq_some_iff.1 hra).1 hra (fun z hz => by
                      simp at hz
                      rcases hz with rfl | rfl
                      · exact HAI.out Va (HSX.out.1.trans (hba.mono HSX.out.1.size))
                      · exact HBI.out Va (HSX.out.1.trans (hba.mono HSX.out.1.size)))
                    have cK := Lib.hid (HXC.out gsa G1 (T1.out gsa) Va (HSX.out.1.trans (hba.mono HSX.out.1.size)) hin)
                    have HBA := Lib.hid hba
                    clear hba hra hin
                    obtain ⟨z0, z1, z2⟩ := opq3 HSX.out.2.1
                    obtain ⟨x0, x1, x2, x3, x4, x5, x6, x7⟩ := ope8 HSX.out.2.2.1
                    obtain ⟨y0, y1, y2, y3, y4, y5, y6, y7⟩ := ope8 HSX.out.2.2.2
                    go_wp2_with fail
                    (try rw [hgsa])
                    (try rw [hVa])
                    clear hVa hgsa
                    refine cK.out.mono ?_
                    clear cK
                    clear z0 z1 z2 x0 x1 x2 x3 x4 x5 x6 x7 y0 y1 y2 y3 y4 y5 y6 y7
                    rintro e Vb ⟨y, rfl, hyw, hyo, hb5⟩
                    have hyi := hyo.inn _ _ _
                    obtain ⟨op7, wd7, v7, sg7, uh7, ul7, xn7, xa7, xc7, xl7⟩ := y
                    obtain ⟨gga, hh8⟩ : ∃ h8, Vb.heap.size = h8 := ⟨_, rfl⟩
                    obtain ⟨VA, hVA⟩ : ∃ VA, Vb.alloc (.cells #[.int .i64 0, .int .i64 0, .int .u64 0, .int .i64 0, .int .i64 0, .int .i64 0, .int .i64 0, .slice none 0 0] 30 (0, 0)) = VA := ⟨_, rfl⟩
                    have hbA : Below Vb.heap.size Vb VA := by rw [← hVA]; exact (Below.refl _ _).alloc (Nat.le_refl _) _
                    have hrA : RowM VA gga ([] ++ ([.int .i64 0, .int .i64 0, .int .u64 0, .int .i64 0, .int .i64 0, .int .i64 0, .int .i64 0, .slice none 0 0] ++ [])) := by show VA.heap[gga]? = _; rw [← hVA, ← hh8]; exact World.alloc_heap_new Vb _
                    have hr8 := RowM.put hrA 0 rfl (.int .i64 op7) (.int .i64 wd7) (.int .u64 (v7 : Int)) (.int .i64 sg7) (.int .i64 uh7) (.int .i64 ul7) (.int .i64 xn7) (.slice xa7 xl7.length xc7)
                    have hb8 := below_alloc_put (W := Vb) (.cells #[.int .i64 0, .int .i64 0, .int .u64 0, .int .i64 0, .int .i64 0, .int .i64 0, .int .i64 0, .slice none 0 0] 30 (0, 0)) (.int .i64 op7) (.int .i64 wd7) (.int .u64 (v7 : Int)) (.int .i64 sg7) (.int .i64 uh7) (.int .i64 ul7) (.int .i64 xn7) (.slice xa7 xl7.length xc7)
                    simp only [Nat.zero_add] at hr8
                    rw [hh8, hVA] at hb8
                    obtain ⟨V4, hV9⟩ : ∃ V9, ((((((((VA.setCell ⟨gga, 0, none⟩ (.int .i64 op7)).setCell ⟨gga, 1, none⟩ (.int .i64 wd7)).setCell ⟨gga, 2, none⟩ (.int .u64 (v7 : Int))).setCell ⟨gga, 3, none⟩ (.int .i64 sg7)).setCell ⟨gga, 4, none⟩ (.int .i64 uh7)).setCell ⟨gga, 5, none⟩ (.int .i64 ul7)).setCell ⟨gga, 6, none⟩ (.int .i64 xn7)).setCell ⟨gga, 7, none⟩ (.slice xa7 xl7.length xc7)) = V9 := ⟨_, rfl⟩
                    rw [hV9] at hr8 hb8
                    rw [← hh8] at hb8
                    have hC := (HBA.out.trans (hb5.mono HBA.out.size)).trans (hb8.mono (Nat.le_trans HBA.out.size hb5.size))
                    obtain ⟨u0, u1, u2, u3, u4, u5, u6, u7⟩ := RowM.cells hrA 0 rfl
                    obtain ⟨p0q, p1q, p2q, p3q, p4q, p5q, p6q, p7q⟩ := RowM.thaw hrA 0
                    simp only [Nat.zero_add] at u1 u2 u3 u4 u5 u6 u7 p1q p2q p3q p4q p5q p6q p7q
                    have HYa := Lib.hid (And.intro (show V4.heap[gga]? = some (.cells #[.int .i64 op7, .int .i64 wd7, .int .u64 (v7 : Int), .int .i64 sg7, .int .i64 uh7, .int .i64 ul7, .int .i64 xn7, .slice xa7 xl7.length xc7] 30 (0, 0)) from hr8) (And.intro hyw (show (ET.mk op7 wd7 v7 sg7 uh7 ul7 xn7 xa7 xc7 xl7).In V4.heap.size V4 from ET.In.less hb8.size _ (hyi.keep (Below.keptTo hb8 (Nat.le_refl _))))))
                    have HSY := Lib.hid (hs3 HSX.out hC HSX.out.1.size)
                    clear HSX hC
                    have HSX := HSY
                    clear HSY
                    clear hyw hyo hyi hb5 hbA hrA hr8 hb8 HBA
                    simp only [ET.val, ET.cells]
                    go_upto_region 5 with (fail)
                    (try rw [hh8])
                    (try rw [hVA])
                    (try rw [hV9])
                    clear hVA hV9 hh8 u0 u1 u2 u3 u4 u5 u6 u7 p0q p1q p2q p3q p4q p5q p6q p7q
                    obtain ⟨gsb, hgsb⟩ : ∃ g, V4.heap.size = g := ⟨_, rfl⟩
                    obtain ⟨Va, hVa⟩ : ∃ Va, V4.alloc (.cells #[.int .i64 op1, .int .i64 wd1, .int .u64 (v1 : Int), .int .i64 sg1, .int .i64 uh1, .int .i64 ul1, .int .i64 xn1, .slice xa1 xl1.length xc1] 30 (0, 0)) = Va := ⟨_, rfl⟩
                    have hba : Below V4.heap.size V4 Va := by rw [← hVa]; exact (Below.refl _ _).alloc (Nat.le_refl _) _
                    have hra : RowM Va gsb (flatE [(ET.mk op1 wd1 v1 sg1 uh1 ul1 xn1 xa1 xc1 xl1)]) := by show Va.heap[gsb]? = _; rw [← hVa, ← hgsb]; exact World.alloc_heap_new V4 _
                    have hin : (extT 32 wv gsb (ET.mk op1 wd1 v1 sg1 uh1 ul1 xn1 xa1 xc1 xl1)).In Va.heap.size Va := made_in (Array.getElem?_eq_some_iff.1 hra).1 hra (fun z hz => by
                      obtain rfl : z = _ := by simpa using hz
                      exact HAI.out Va (HSX.out.1.trans (hba.mono HSX.out.1.size)))
                    have cK := Lib.hid (HXE.out 32 gsb G2 (T2.out gsb) Va (HSX.out.1.trans (hba.mono HSX.out.1.size)) hin)
                    have HBA := Lib.hid hba
                    clear hba hra hin
                    obtain ⟨z0, z1, z2⟩ := opq3 HSX.out.2.1
                    obtain ⟨x0, x1, x2, x3, x4, x5, x6, x7⟩ := ope8 HSX.out.2.2.1
                    obtain ⟨y0, y1, y2, y3, y4, y5, y6, y7⟩ := ope8 HSX.out.2.2.2
                    go_wp2_with fail
                    (try rw [hgsb])
                    (try rw [hVa])
                    clear hVa hgsb
                    refine cK.out.mono ?_
                    clear cK
                    clear z0 z1 z2 x0 x1 x2 x3 x4 x5 x6 x7 y0 y1 y2 y3 y4 y5 y6 y7
                    rintro e Vb ⟨y, rfl, hyw, hyo, hb5⟩
                    have hyi := hyo.inn _ _ _
                    obtain ⟨op8, wd8, v8, sg8, uh8, ul8, xn8, xa8, xc8, xl8⟩ := y
                    obtain ⟨ggb, hh8⟩ : ∃ h8, Vb.heap.size = h8 := ⟨_, rfl⟩
                    obtain ⟨VA, hVA⟩ : ∃ VA, Vb.alloc (.cells #[.int .i64 0, .int .i64 0, .int .u64 0, .int .i64 0, .int .i64 0, .int .i64 0, .int .i64 0, .slice none 0 0] 30 (0, 0)) = VA := ⟨_, rfl⟩
                    have hbA : Below Vb.heap.size Vb VA := by rw [← hVA]; exact (Below.refl _ _).alloc (Nat.le_refl _) _
                    have hrA : RowM VA ggb ([] ++ ([.int .i64 0, .int .i64 0, .int .u64 0, .int .i64 0, .int .i64 0, .int .i64 0, .int .i64 0, .slice none 0 0] ++ [])) := by show VA.heap[ggb]? = _; rw [← hVA, ← hh8]; exact World.alloc_heap_new Vb _
                    have hr8 := RowM.put hrA 0 rfl (.int .i64 op8) (.int .i64 wd8) (.int .u64 (v8 : Int)) (.int .i64 sg8) (.int .i64 uh8) (.int .i64 ul8) (.int .i64 xn8) (.slice xa8 xl8.length xc8)
                    have hb8 := below_alloc_put (W := Vb) (.cells #[.int .i64 0, .int .i64 0, .int .u64 0, .int .i64 0, .int .i64 0, .int .i64 0, .int .i64 0, .slice none 0 0] 30 (0, 0)) (.int .i64 op8) (.int .i64 wd8) (.int .u64 (v8 : Int)) (.int .i64 sg8) (.int .i64 uh8) (.int .i64 ul8) (.int .i64 xn8) (.slice xa8 xl8.length xc8)
                    simp only [Nat.zero_add] at hr8
                    rw [hh8, hVA] at hb8
                    obtain ⟨V5, hV9⟩ : ∃ V9, ((((((((VA.setCell ⟨ggb, 0, none⟩ (.int .i64 op8)).setCell ⟨ggb, 1, none⟩ (.int .i64 wd8)).setCell ⟨ggb, 2, none⟩ (.int .u64 (v8 : Int))).setCell ⟨ggb, 3, none⟩ (.int .i64 sg8)).setCell ⟨ggb, 4, none⟩ (.int .i64 uh8)).setCell ⟨ggb, 5, none⟩ (.int .i64 ul8)).setCell ⟨ggb, 6, none⟩ (.int .i64 xn8)).setCell ⟨ggb, 7, none⟩ (.slice xa8 xl8.length xc8)) = V9 := ⟨_, rfl⟩
                    rw [hV9] at hr8 hb8
                    rw [← hh8] at hb8
                    have hC := (HBA.out.trans (hb5.mono HBA.out.size)).trans (hb8.mono (Nat.le_trans HBA.out.size hb5.size))
                    obtain ⟨u0, u1, u2, u3, u4, u5, u6, u7⟩ := RowM.cells hrA 0 rfl
                    obtain ⟨p0q, p1q, p2q, p3q, p4q, p5q, p6q, p7q⟩ := RowM.thaw hrA 0
                    simp only [Nat.zero_add] at u1 u2 u3 u4 u5 u6 u7 p1q p2q p3q p4q p5q p6q p7q
                    have HYb := Lib.hid (And.intro (show V5.heap[ggb]? = some (.cells #[.int .i64 op8, .int .i64 wd8, .int .u64 (v8 : Int), .int .i64 sg8, .int .i64 uh8, .int .i64 ul8, .int .i64 xn8, .slice xa8 xl8.length xc8] 30 (0, 0)) from hr8) (And.intro hyw (show (ET.mk op8 wd8 v8 sg8 uh8 ul8 xn8 xa8 xc8 xl8).In V5.heap.size V5 from ET.In.less hb8.size _ (hyi.keep (Below.keptTo hb8 (Nat.le_refl _))))))
                    have HSY := Lib.hid (hs3 HSX.out hC HSX.out.1.size)
                    have HYK := Lib.hid (keepY HYa.out hC)
                    clear HYa
                    have HYa := HYK
                    clear HYK
                    clear HSX hC
                    have HSX := HSY
                    clear HSY
                    clear hyw hyo hyi hb5 hbA hrA hr8 hb8 HBA
                    simp only [ET.val, ET.cells]
                    go_upto_region 6 with (fail)
                    (try rw [hh8])
                    (try rw [hVA])
                    (try rw [hV9])
                    clear hVA hV9 hh8 u0 u1 u2 u3 u4 u5 u6 u7 p0q p1q p2q p3q p4q p5q p6q p7q
                    obtain ⟨gsc, hgsc⟩ : ∃ g, V5.heap.size = g := ⟨_, rfl⟩
                    obtain ⟨Va, hVa⟩ : ∃ Va, V5.alloc (.cells #[.int .i64 op1, .int .i64 wd1, .int .u64 (v1 : Int), .int .i64 sg1, .int .i64 uh1, .int .i64 ul1, .int .i64 xn1, .slice xa1 xl1.length xc1] 30 (0, 0)) = Va := ⟨_, rfl⟩
                    have hba : Below V5.heap.size V5 Va := by rw [← hVa]; exact (Below.refl _ _).alloc (Nat.le_refl _) _
                    have hra : RowM Va gsc (flatE [(ET.mk op1 wd1 v1 sg1 uh1 ul1 xn1 xa1 xc1 xl1)]) := by show Va.heap[gsc]? = _; rw [← hVa, ← hgsc]; exact World.alloc_heap_new V5 _
                    have hin : (extT 33 wv gsc (ET.mk op1 wd1 v1 sg1 uh1 ul1 xn1 xa1 xc1 xl1)).In Va.heap.size Va := made_in (Array.getElem?_eq_some_iff.1 hra).1 hra (fun z hz => by
                      obtain rfl : z = _ := by simpa using hz
                      exact HAI.out Va (HSX.out.1.trans (hba.mono HSX.out.1.size)))
                    have cK := Lib.hid (HXE.out 33 gsc G3 (T3.out gsc) Va (HSX.out.1.trans (hba.mono HSX.out.1.size)) hin)
                    have HBA := Lib.hid hba
                    clear hba hra hin
                    obtain ⟨z0, z1, z2⟩ := opq3 HSX.out.2.1
                    obtain ⟨x0, x1, x2, x3, x4, x5, x6, x7⟩ := ope8 HSX.out.2.2.1
                    obtain ⟨y0, y1, y2, y3, y4, y5, y6, y7⟩ := ope8 HSX.out.2.2.2
                    go_wp2_with fail
                    (try rw [hgsc])
                    (try rw [hVa])
                    clear hVa hgsc
                    refine cK.out.mono ?_
                    clear cK
                    clear z0 z1 z2 x0 x1 x2 x3 x4 x5 x6 x7 y0 y1 y2 y3 y4 y5 y6 y7
                    rintro e Vb ⟨y, rfl, hyw, hyo, hb5⟩
                    have hyi := hyo.inn _ _ _
                    obtain ⟨op9, wd9, v9, sg9, uh9, ul9, xn9, xa9, xc9, xl9⟩ := y
                    obtain ⟨ggc, hh8⟩ : ∃ h8, Vb.heap.size = h8 := ⟨_, rfl⟩
                    obtain ⟨VA, hVA⟩ : ∃ VA, Vb.alloc (.cells #[.int .i64 0, .int .i64 0, .int .u64 0, .int .i64 0, .int .i64 0, .int .i64 0, .int .i64 0, .slice none 0 0] 30 (0, 0)) = VA := ⟨_, rfl⟩
                    have hbA : Below Vb.heap.size Vb VA := by rw [← hVA]; exact (Below.refl _ _).alloc (Nat.le_refl _) _
                    have hrA : RowM VA ggc ([] ++ ([.int .i64 0, .int .i64 0, .int .u64 0, .int .i64 0, .int .i64 0, .int .i64 0, .int .i64 0, .slice none 0 0] ++ [])) := by show VA.heap[ggc]? = _; rw [← hVA, ← hh8]; exact World.alloc_heap_new Vb _
                    have hr8 := RowM.put hrA 0 rfl (.int .i64 op9) (.int .i64 wd9) (.int .u64 (v9 : Int)) (.int .i64 sg9) (.int .i64 uh9) (.int .i64 ul9) (.int .i64 xn9) (.slice xa9 xl9.length xc9)
                    have hb8 := below_alloc_put (W := Vb) (.cells #[.int .i64 0, .int .i64 0, .int .u64 0, .int .i64 0, .int .i64 0, .int .i64 0, .int .i64 0, .slice none 0 0] 30 (0, 0)) (.int .i64 op9) (.int .i64 wd9) (.int .u64 (v9 : Int)) (.int .i64 sg9) (.int .i64 uh9) (.int .i64 ul9) (.int .i64 xn9) (.slice xa9 xl9.length xc9)
                    simp only [Nat.zero_add] at hr8
                    rw [hh8, hVA] at hb8
                    obtain ⟨V6, hV9⟩ : ∃ V9, ((((((((VA.setCell ⟨ggc, 0, none⟩ (.int .i64 op9)).setCell ⟨ggc, 1, none⟩ (.int .i64 wd9)).setCell ⟨ggc, 2, none⟩ (.int .u64 (v9 : Int))).setCell ⟨ggc, 3, none⟩ (.int .i64 sg9)).setCell ⟨ggc, 4, none⟩ (.int .i64 uh9)).setCell ⟨ggc, 5, none⟩ (.int .i64 ul9)).setCell ⟨ggc, 6, none⟩ (.int .i64 xn9)).setCell ⟨ggc, 7, none⟩ (.slice xa9 xl9.length xc9)) = V9 := ⟨_, rfl⟩
                    rw [hV9] at hr8 hb8
                    rw [← hh8] at hb8
                    have hC := (HBA.out.trans (hb5.mono HBA.out.size)).trans (hb8.mono (Nat.le_trans HBA.out.size hb5.size))
                    obtain ⟨u0, u1, u2, u3, u4, u5, u6, u7⟩ := RowM.cells hrA 0 rfl
                    obtain ⟨p0q, p1q, p2q, p3q, p4q, p5q, p6q, p7q⟩ := RowM.thaw hrA 0
                    simp only [Nat.zero_add] at u1 u2 u3 u4 u5 u6 u7 p1q p2q p3q p4q p5q p6q p7q
                    have HYc := Lib.hid (And.intro (show V6.heap[ggc]? = some (.cells #[.int .i64 op9, .int .i64 wd9, .int .u64 (v9 : Int), .int .i64 sg9, .int .i64 uh9, .int .i64 ul9, .int .i64 xn9, .slice xa9 xl9.length xc9] 30 (0, 0)) from hr8) (And.intro hyw (show (ET.mk op9 wd9 v9 sg9 uh9 ul9 xn9 xa9 xc9 xl9).In V6.heap.size V6 from ET.In.less hb8.size _ (hyi.keep (Below.keptTo hb8 (Nat.le_refl _))))))
                    have HSY := Lib.hid (hs3 HSX.out hC HSX.out.1.size)
                    have HYK := Lib.hid (keepY HYa.out hC)
                    clear HYa
                    have HYa := HYK
                    clear HYK
                    have HYK := Lib.hid (keepY HYb.out hC)
                    clear HYb
                    have HYb := HYK
                    clear HYK
                    clear HSX hC
                    have HSX := HSY
                    clear HSY
                    clear hyw hyo hyi hb5 hbA hrA hr8 hb8 HBA
                    simp only [ET.val, ET.cells]
                    go_upto_region 7 with (fail)
                    (try rw [hh8])
                    (try rw [hVA])
                    (try rw [hV9])
                    clear hVA hV9 hh8 u0 u1 u2 u3 u4 u5 u6 u7 p0q p1q p2q p3q p4q p5q p6q p7q
                    clear T1 T2 T3 HXC HXE
                    have hb8 := fun (dq : Nat) (os : Array Obj) => below_regrown V6 dq os
                    by_cases q9 : wd1 + wd2 ≤ 64
                    · have e1 := I1.out.2 q9
                      obtain ⟨ya, yc, yp, yq, hys, hp, hq⟩ := cat_shape (HYa.out.2.1 e1)
                      subst e1
                      have hys2 : (ET.mk op7 wd7 v7 sg7 uh7 ul7 xn7 xa7 xc7 xl7) = .mk 7 (wd1 + wd2) 0 0 0 0 0 ya yc [yp, yq] := hys
                      injection hys2 with k1 k2 k3 k4 k5 k6 k7 k8 k9 k10
                      subst k1 k2 k3 k4 k5 k6 k7 k8 k9 k10
                      clear hys
                      have hyi := HYa.out.2.2
                      rw [ET.In_mk] at hyi
                      obtain ⟨B, o, hBo, hB, hr1, hi1⟩ := InRow.at hyi (i := 0) (by simp)
                      obtain ⟨B', o', hBo', hB', hr2, hi2⟩ := InRow.at hyi (i := 1) (by simp)
                      subst hBo
                      injection hBo' with hBo'
                      injection hBo' with k1 k2
                      subst k1 k2
                      have C1 := Lib.hid (fun (dq : Nat) (os : Array Obj) => scall (x := yp) (y := (ET.mk op1 wd1 v1 sg1 uh1 ul1 xn1 xa1 xc1 xl1)) (by have := HAK.out.1; rw [bk_of_nrm hp]; omega) (by have := HAK.out.1; omega) (ET.In.less (hb8 dq os).size _ (ET.In.keep (Below.keptTo (hb8 dq os) (Nat.le_refl _)) _ hi1)) (HAI.out _ (HSX.out.1.trans ((hb8 dq os).mono HSX.out.1.size))) hp)
                      have C2 := Lib.hid (fun (dq : Nat) (os : Array Obj) => scall (x := yq) (y := (ET.mk op2 wd2 v2 sg2 uh2 ul2 xn2 xa2 xc2 xl2)) (by have := HAK.out.2; rw [bk_of_nrm hq]; omega) (by have := HAK.out.2; omega) (ET.In.less (hb8 dq os).size _ (ET.In.keep (Below.keptTo (hb8 dq os) (Nat.le_refl _)) _ hi2)) (HBI.out _ (HSX.out.1.trans ((hb8 dq os).mono HSX.out.1.size))) hq)
                      obtain ⟨op3, wd3, v3, sg3, uh3, ul3, xn3, xa3, xc3, xl3⟩ := yp
                      obtain ⟨op4, wd4, v4, sg4, uh4, ul4, xn4, xa4, xc4, xl4⟩ := yq
                      have m0 : V6.cell? ⟨B, o, none⟩ = some (.int .i64 op3) := hr1 0 _ rfl
                      have m1 : V6.cell? ⟨B, o + 1, none⟩ = some (.int .i64 wd3) := hr1 1 _ rfl
                      have m2 : V6.cell? ⟨B, o + 2, none⟩ = some (.int .u64 (v3 : Int)) := hr1 2 _ rfl
                      have m3 : V6.cell? ⟨B, o + 3, none⟩ = some (.int .i64 sg3) := hr1 3 _ rfl
                      have m4 : V6.cell? ⟨B, o + 4, none⟩ = some (.int .i64 uh3) := hr1 4 _ rfl
                      have m5 : V6.cell? ⟨B, o + 5, none⟩ = some (.int .i64 ul3) := hr1 5 _ rfl
                      have m6 : V6.cell? ⟨B, o + 6, none⟩ = some (.int .i64 xn3) := hr1 6 _ rfl
                      have m7 : V6.cell? ⟨B, o + 7, none⟩ = some (.slice xa3 xl3.length xc3) := hr1 7 _ rfl
                      have n0 : V6.cell? ⟨B, o + 8, none⟩ = some (.int .i64 op4) := hr2 0 _ rfl
                      have n1 : V6.cell? ⟨B, o + 9, none⟩ = some (.int .i64 wd4) := hr2 1 _ rfl
                      have n2 : V6.cell? ⟨B, o + 10, none⟩ = some (.int .u64 (v4 : Int)) := hr2 2 _ rfl
                      have n3 : V6.cell? ⟨B, o + 11, none⟩ = some (.int .i64 sg4) := hr2 3 _ rfl
                      have n4 : V6.cell? ⟨B, o + 12, none⟩ = some (.int .i64 uh4) := hr2 4 _ rfl
                      have n5 : V6.cell? ⟨B, o + 13, none⟩ = some (.int .i64 ul4) := hr2 5 _ rfl
                      have n6 : V6.cell? ⟨B, o + 14, none⟩ = some (.int .i64 xn4) := hr2 6 _ rfl
                      have n7 : V6.cell? ⟨B, o + 15, none⟩ = some (.slice xa4 xl4.length xc4) := hr2 7 _ rfl
                      obtain ⟨a0, a1, a2, a3, a4, a5, a6, a7⟩ := ope8 (show V6.heap[gga]? = some (.cells #[.int .i64 7, .int .i64 (wd1 + wd2), .int .u64 0, .int .i64 0, .int .i64 0, .int .i64 0, .int .i64 0, .slice (some ⟨B, o, none⟩) 2 xc7] 30 (0, 0)) from HYa.out.1)
                      obtain ⟨z0, z1, z2⟩ := opq3 HSX.out.2.1
                      obtain ⟨x0, x1, x2, x3, x4, x5, x6, x7⟩ := ope8 HSX.out.2.2.1
                      obtain ⟨y0, y1, y2, y3, y4, y5, y6, y7⟩ := ope8 HSX.out.2.2.2
                      have x0R := cell_regrown x0
                      have x1R := cell_regrown x1
                      have x2R := cell_regrown x2
                      have x3R := cell_regrown x3
                      have x4R := cell_regrown x4
                      have x5R := cell_regrown x5
                      have x6R := cell_regrown x6
                      have x7R := cell_regrown x7
                      have y0R := cell_regrown y0
                      have y1R := cell_regrown y1
                      have y2R := cell_regrown y2
                      have y3R := cell_regrown y3
                      have y4R := cell_regrown y4
                      have y5R := cell_regrown y5
                      have y6R := cell_regrown y6
                      have y7R := cell_regrown y7
                      have a0R := cell_regrown a0
                      have a1R := cell_regrown a1
                      have a2R := cell_regrown a2
                      have a3R := cell_regrown a3
                      have a4R := cell_regrown a4
                      have a5R := cell_regrown a5
                      have a6R := cell_regrown a6
                      have a7R := cell_regrown a7
                      have m0R := cell_regrown m0
                      have m1R := cell_regrown m1
                      have m2R := cell_regrown m2
                      have m3R := cell_regrown m3
                      have m4R := cell_regrown m4
                      have m5R := cell_regrown m5
                      have m6R := cell_regrown m6
                      have m7R := cell_regrown m7
                      have n0R := cell_regrown n0
                      have n1R := cell_regrown n1
                      have n2R := cell_regrown n2
                      have n3R := cell_regrown n3
                      have n4R := cell_regrown n4
                      have n5R := cell_regrown n5
                      have n6R := cell_regrown n6
                      have n7R := cell_regrown n7
                      have r1 : decide (wd1 + wd2 ≤ 64) = true := by rw [decide_eq_true_eq]; exact q9
                      have r2 : (wd1 + wd2 != wd1 + wd2) = false := by simp
                      have g3 : ((0 : Int) == 0) = true := rfl
                      have jw1 := W1.1
                      have jw2 := W1.2
                      have jw3 := W2.1
                      have jw4 := W2.2
                      simp only [ET.val, ET.cells] at C1 C2
                      clear hp hq hyi hB hB' hr1 hr2 hi1 hi2 hb8 HYa HAI HBI HAK I1
                      refine wp_region_quiet_below (by kernel_rfl) (by kernel_rfl) ?_
                      repeat (go_big_quiet_step (first | (go_at_call_of 15 (Value.agg #[.int .i64 op1, .int .i64 wd1, .int .u64 (v1 : Int), .int .i64 sg1, .int .i64 uh1, .int .i64 ul1, .int .i64 xn1, .slice xa1 xl1.length xc1]); exact Calls.regrown_of (C1.out _ _)) | (go_at_call 15; exact Calls.regrown_of (C2.out _ _))))
                      clear x0 x0R x1 x1R x2 x2R x3 x3R x4 x4R x5 x5R x6 x6R x7 x7R y0 y0R y1 y1R y2 y2R y3 y3R y4 y4R y5 y5R y6 y6R y7 y7R a0 a0R a1 a1R a2 a2R a3 a3R a4 a4R a5 a5R a6 a6R a7 a7R m0 m0R m1 m1R m2 m2R m3 m3R m4 m4R m5 m5R m6 m6R m7 m7R n0 n0R n1 n1R n2 n2R n3 n3R n4 n4R n5 n5R n6 n6R n7 n7R z0 z1 z2 C1 C2
                      refine wpQuiet_nil ?_
                      intro _ hw'
                      obtain ⟨⟨dq, osq⟩, hw''⟩ := hw'
                      subst hw''
                      have hbq := below_regrown V6 dq osq
                      generalize grow (redrawn V6 dq) osq = V7 at *
                      have HSY := Lib.hid (hs3 HSX.out hbq HSX.out.1.size)
                      have HYK := Lib.hid (keepY HYb.out hbq)
                      clear HYb
                      have HYb := HYK
                      clear HYK
                      have HYK := Lib.hid (keepY HYc.out hbq)
                      clear HYc
                      have HYc := HYK
                      clear HYK
                      clear HSX hbq
                      have HSX := HSY
                      clear HSY
                      obtain ⟨x0, x1, x2, x3, x4, x5, x6, x7⟩ := ope8 HSX.out.2.2.1
                      obtain ⟨b0, b1, b2, b3, b4, b5, b6, b7⟩ := ope8 HYb.out.1
                      obtain ⟨c0, c1, c2, c3, c4, c5, c6, c7⟩ := ope8 HYc.out.1
                      have hb2 := HYb.out.2.1
                      have hc2 := HYc.out.2.1
                      simp only [ET.wd] at hb2 hc2
                      have g3 : ((0 : Int) == 0) = true := rfl
                      have g4 : ((0 : Int) != 0) = false := rfl
                      by_cases q2 : wd1 ≤ wv
                      · have eG2 := I2.out.2 q2
                        have rG2 := hb2 eG2
                        subst eG2
                        have sG2 : (wd8 == wv) = true := by rw [beq_iff_eq]; exact rG2
                        have tG2 : decide (wv ≥ wd1) = true := by rw [decide_eq_true_eq]; omega
                        have uG2 : decide (wd1 ≤ wv) = true := by rw [decide_eq_true_eq]; omega
                        clear rG2 I2 q2
                        by_cases q3 : wv ≤ wd1
                        · have eG3 := I3.out.2 q3
                          have rG3 := hc2 eG3
                          subst eG3
                          have sG3 : (wd9 == wv) = true := by rw [beq_iff_eq]; exact rG3
                          have tG3 : decide (wv ≤ wd1) = true := by rw [decide_eq_true_eq]; omega
                          have uG3 : decide (wd1 ≥ wv) = true := by rw [decide_eq_true_eq]; omega
                          clear rG3 I3 q3
                          clear hb2 hc2
                          go_wp2
                          go_ret
                          exact ⟨rfl, HSX.out.1⟩
                        · have sG3 : (G3 == 0) = false := by rw [beq_eq_false_iff_ne]; exact fun h => q3 (I3.out.1 h)
                          have rG3 : (G3 != 0) = true := by rw [bne_iff_ne]; exact fun h => q3 (I3.out.1 h)
                          have tG3 : decide (wv ≤ wd1) = false := by rw [decide_eq_false_iff_not]; omega
                          have uG3 : decide (wd1 ≥ wv) = false := by rw [decide_eq_false_iff_not]; omega
                          clear I3 q3
                          clear hb2 hc2
                          go_wp2
                          go_ret
                          exact ⟨rfl, HSX.out.1⟩
                      · have sG2 : (G2 == 0) = false := by rw [beq_eq_false_iff_ne]; exact fun h => q2 (I2.out.1 h)
                        have rG2 : (G2 != 0) = true := by rw [bne_iff_ne]; exact fun h => q2 (I2.out.1 h)
                        have tG2 : decide (wv ≥ wd1) = false := by rw [decide_eq_false_iff_not]; omega
                        have uG2 : decide (wd1 ≤ wv) = false := by rw [decide_eq_false_iff_not]; omega
                        clear I2 q2
                        by_cases q3 : wv ≤ wd1
                        · have eG3 := I3.out.2 q3
                          have rG3 := hc2 eG3
                          subst eG3
                          have sG3 : (wd9 == wv) = true := by rw [beq_iff_eq]; exact rG3
                          have tG3 : decide (wv ≤ wd1) = true := by rw [decide_eq_true_eq]; omega
                          have uG3 : decide (wd1 ≥ wv) = true := by rw [decide_eq_true_eq]; omega
                          clear rG3 I3 q3
                          clear hb2 hc2
                          go_wp2
                          go_ret
                          exact ⟨rfl, HSX.out.1⟩
                        · have sG3 : (G3 == 0) = false := by rw [beq_eq_false_iff_ne]; exact fun h => q3 (I3.out.1 h)
                          have rG3 : (G3 != 0) = true := by rw [bne_iff_ne]; exact fun h => q3 (I3.out.1 h)
                          have tG3 : decide (wv ≤ wd1) = false := by rw [decide_eq_false_iff_not]; omega
                          have uG3 : decide (wd1 ≥ wv) = false := by rw [decide_eq_false_iff_not]; omega
                          clear I3 q3
                          clear hb2 hc2
                          go_wp2
                          go_ret
                          exact ⟨rfl, HSX.out.1⟩
                    · have s1 : (G1 == 0) = false := by rw [beq_eq_false_iff_ne]; exact fun h => q9 (I1.out.1 h)
                      have r1 : decide (wd1 + wd2 ≤ 64) = false := by rw [decide_eq_false_iff_not]; exact q9
                      have jw1 := W1.1
                      have jw2 := W1.2
                      have jw3 := W2.1
                      have jw4 := W2.2
                      obtain ⟨z0, z1, z2⟩ := opq3 HSX.out.2.1
                      obtain ⟨x0, x1, x2, x3, x4, x5, x6, x7⟩ := ope8 HSX.out.2.2.1
                      obtain ⟨y0, y1, y2, y3, y4, y5, y6, y7⟩ := ope8 HSX.out.2.2.2
                      have x0R := cell_regrown x0
                      have x1R := cell_regrown x1
                      have x2R := cell_regrown x2
                      have x3R := cell_regrown x3
                      have x4R := cell_regrown x4
                      have x5R := cell_regrown x5
                      have x6R := cell_regrown x6
                      have x7R := cell_regrown x7
                      have y0R := cell_regrown y0
                      have y1R := cell_regrown y1
                      have y2R := cell_regrown y2
                      have y3R := cell_regrown y3
                      have y4R := cell_regrown y4
                      have y5R := cell_regrown y5
                      have y6R := cell_regrown y6
                      have y7R := cell_regrown y7
                      clear hb8 HYa HAI HBI HAK I1
                      refine wp_region_quiet_below (by kernel_rfl) (by kernel_rfl) ?_
                      repeat (go_big_quiet_step (fail))
                      clear x0 x0R x1 x1R x2 x2R x3 x3R x4 x4R x5 x5R x6 x6R x7 x7R y0 y0R y1 y1R y2 y2R y3 y3R y4 y4R y5 y5R y6 y6R y7 y7R z0 z1 z2
                      refine wpQuiet_nil ?_
                      intro _ hw'
                      obtain ⟨⟨dq, osq⟩, hw''⟩ := hw'
                      subst hw''
                      have hbq := below_regrown V6 dq osq
                      generalize grow (redrawn V6 dq) osq = V7 at *
                      have HSY := Lib.hid (hs3 HSX.out hbq HSX.out.1.size)
                      have HYK := Lib.hid (keepY HYb.out hbq)
                      clear HYb
                      have HYb := HYK
                      clear HYK
                      have HYK := Lib.hid (keepY HYc.out hbq)
                      clear HYc
                      have HYc := HYK
                      clear HYK
                      clear HSX hbq
                      have HSX := HSY
                      clear HSY
                      obtain ⟨x0, x1, x2, x3, x4, x5, x6, x7⟩ := ope8 HSX.out.2.2.1
                      obtain ⟨b0, b1, b2, b3, b4, b5, b6, b7⟩ := ope8 HYb.out.1
                      obtain ⟨c0, c1, c2, c3, c4, c5, c6, c7⟩ := ope8 HYc.out.1
                      have hb2 := HYb.out.2.1
                      have hc2 := HYc.out.2.1
                      simp only [ET.wd] at hb2 hc2
                      have g3 : ((0 : Int) == 0) = true := rfl
                      have g4 : ((0 : Int) != 0) = false := rfl
                      by_cases q2 : wd1 ≤ wv
                      · have eG2 := I2.out.2 q2
                        have rG2 := hb2 eG2
                        subst eG2
                        have sG2 : (wd8 == wv) = true := by rw [beq_iff_eq]; exact rG2
                        have tG2 : decide (wv ≥ wd1) = true := by rw [decide_eq_true_eq]; omega
                        have uG2 : decide (wd1 ≤ wv) = true := by rw [decide_eq_true_eq]; omega
                        clear rG2 I2 q2
                        by_cases q3 : wv ≤ wd1
                        · have eG3 := I3.out.2 q3
                          have rG3 := hc2 eG3
                          subst eG3
                          have sG3 : (wd9 == wv) = true := by rw [beq_iff_eq]; exact rG3
                          have tG3 : decide (wv ≤ wd1) = true := by rw [decide_eq_true_eq]; omega
                          have uG3 : decide (wd1 ≥ wv) = true := by rw [decide_eq_true_eq]; omega
                          clear rG3 I3 q3
                          clear hb2 hc2
                          go_wp2
                          go_ret
                          exact ⟨rfl, HSX.out.1⟩
                        · have sG3 : (G3 == 0) = false := by rw [beq_eq_false_iff_ne]; exact fun h => q3 (I3.out.1 h)
                          have rG3 : (G3 != 0) = true := by rw [bne_iff_ne]; exact fun h => q3 (I3.out.1 h)
                          have tG3 : decide (wv ≤ wd1) = false := by rw [decide_eq_false_iff_not]; omega
                          have uG3 : decide (wd1 ≥ wv) = false := by rw [decide_eq_false_iff_not]; omega
                          clear I3 q3
                          clear hb2 hc2
                          go_wp2
                          go_ret
                          exact ⟨rfl, HSX.out.1⟩
                      · have sG2 : (G2 == 0) = false := by rw [beq_eq_false_iff_ne]; exact fun h => q2 (I2.out.1 h)
                        have rG2 : (G2 != 0) = true := by rw [bne_iff_ne]; exact fun h => q2 (I2.out.1 h)
                        have tG2 : decide (wv ≥ wd1) = false := by rw [decide_eq_false_iff_not]; omega
                        have uG2 : decide (wd1 ≤ wv) = false := by rw [decide_eq_false_iff_not]; omega
                        clear I2 q2
                        by_cases q3 : wv ≤ wd1
                        · have eG3 := I3.out.2 q3
                          have rG3 := hc2 eG3
                          subst eG3
                          have sG3 : (wd9 == wv) = true := by rw [beq_iff_eq]; exact rG3
                          have tG3 : decide (wv ≤ wd1) = true := by rw [decide_eq_true_eq]; omega
                          have uG3 : decide (wd1 ≥ wv) = true := by rw [decide_eq_true_eq]; omega
                          clear rG3 I3 q3
                          clear hb2 hc2
                          go_wp2
                          go_ret
                          exact ⟨rfl, HSX.out.1⟩
                        · have sG3 : (G3 == 0) = false := by rw [beq_eq_false_iff_ne]; exact fun h => q3 (I3.out.1 h)
                          have rG3 : (G3 != 0) = true := by rw [bne_iff_ne]; exact fun h => q3 (I3.out.1 h)
                          have tG3 : decide (wv ≤ wd1) = false := by rw [decide_eq_false_iff_not]; omega
                          have uG3 : decide (wd1 ≥ wv) = false := by rw [decide_eq_false_iff_not]; omega
                          clear I3 q3
                          clear hb2 hc2
                          go_wp2
                          go_ret
                          exact ⟨rfl, HSX.out.1⟩
                  · have eC2 : (C2 != 0) = true := by rw [bne_iff_ne]; exact tC2
                    go_wp2
                    go_ret
                    exact ⟨rfl, HS8.out.1⟩
                · have eC1 : (C1 != 0) = true := by rw [bne_iff_ne]; exact tC1
                  go_wp2
                  go_ret
                  exact ⟨rfl, HS7.out.1⟩
              · have fw2 : decide (wv > 64) = true := by rw [decide_eq_true_eq]; omega
                have fw2' : decide ((64 : Int) < wv) = true := by rw [decide_eq_true_eq]; omega
                go_wp2
                go_ret
                exact ⟨rfl, HS6.out.1⟩
            · have fw1 : decide (wv < 1) = true := by rw [decide_eq_true_eq]; omega
              go_wp2
              go_ret
              exact ⟨rfl, HS6.out.1⟩
          · have eD2 : decide ((D2 : Int) > 60) = true := by rw [decide_eq_true_eq]; omega
            have eD2' : decide ((60 : Int) < (D2 : Int)) = true := by rw [decide_eq_true_eq]; omega
            go_wp2
            go_ret
            exact ⟨rfl, HS6.out.1⟩
        · have eD1 : decide ((D1 : Int) > 60) = true := by rw [decide_eq_true_eq]; omega
          have eD1' : decide ((60 : Int) < (D1 : Int)) = true := by rw [decide_eq_true_eq]; omega
          go_wp2
          go_ret
          exact ⟨rfl, HS5.out.1⟩
end Go.Proofs.YtglpkfeokojdkaaDoor
