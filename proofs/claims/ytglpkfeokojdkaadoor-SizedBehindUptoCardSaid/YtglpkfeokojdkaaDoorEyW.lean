/-
  SizedWant: as wide as is wanted.
-/
import Derived.Test.YtglpkfeokojdkaaDoorEyS
import Derived.Test.YtglpkfeokojdkaaDoorEyV
import Derived.Test.YtglpkfeokojdkaaDoorEzR
namespace Go.Proofs.YtglpkfeokojdkaaDoor
open Go Go.RowKit
set_option linter.unusedVariables false
set_option linter.unusedSimpArgs false
open Go.Sort

theorem zeroE_wf : zeroE.Wf := by
  unfold zeroE; rw [ET.wf_mk]; exact ⟨by decide, fun x hx => by cases hx⟩
theorem hs2w {n g1 g2 : Nat} {o1 o2 : Obj} {w V V' : World} (h : Below n w V ∧ V.heap[g1]? = some o1 ∧ V.heap[g2]? = some o2) (hb : Below V.heap.size V V') (hn : n ≤ V.heap.size) : Below n w V' ∧ V'.heap[g1]? = some o1 ∧ V'.heap[g2]? = some o2 := ⟨h.1.trans (hb.mono hn), block_kept h.2.1 hb, block_kept h.2.2 hb⟩
theorem keepY {g : Nat} {o : Obj} {P : Prop} {y : ET} {V V' : World} (h : V.heap[g]? = some o ∧ P ∧ y.In V.heap.size V) (hb : Below V.heap.size V V') : V'.heap[g]? = some o ∧ P ∧ y.In V'.heap.size V' := ⟨block_kept h.1 hb, h.2.1, ET.In.less hb.size _ (h.2.2.keep (Below.keptTo hb (Nat.le_refl _)))⟩
theorem want_more {gl : List GT} {a y : ET} {w0 : Int} (hG : (exprS gl a w0).2 = 0) (hn : nrmE y = nrmE (exprS gl a w0).1) : (w0 = 0 ∨ y.wd = w0) ∧ 1 ≤ y.wd ∧ y.wd ≤ 64 ∧ ((exprS gl y y.wd).2 = 0 ∧ nrmE (exprS gl y y.wd).1 = nrmE y) ∧ ((exprS gl y 0).2 = 0 ∧ nrmE (exprS gl y 0).1 = nrmE y) ∧ checkES gl y = 0 := by
  obtain ⟨x, e, f1, f2, f3, f4, f5, f6, f7, f8, f9, f10⟩ := want_facts hG
  rw [e] at hn
  have hw : y.wd = x.wd := same_wd hn
  obtain ⟨a1, a2⟩ := exprS_nrm gl y y.wd
  obtain ⟨b1, b2⟩ := exprS_nrm gl x y.wd
  obtain ⟨c1, c2⟩ := exprS_nrm gl y 0
  obtain ⟨d1, d2⟩ := exprS_nrm gl x 0
  rw [hn] at a1 a2 c1 c2
  rw [hw] at b1 b2
  have i1 : (exprS gl y y.wd).2 = 0 := by rw [← a1, hw, b1]; exact f6
  have i2 : nrmE (exprS gl y y.wd).1 = nrmE y := by rw [← a2, hw, b2, f7, hn]
  have i3 : (exprS gl y 0).2 = 0 := by rw [← c1, d1]; exact f8
  have i4 : nrmE (exprS gl y 0).1 = nrmE y := by rw [← c2, d2, f9, hn]
  have hl := isW_le f2
  refine ⟨by rw [hw]; exact f1, by rw [hw]; exact hl.1, by rw [hw]; exact hl.2, ⟨i1, i2⟩, ⟨i3, i4⟩, ?_⟩
  unfold checkES
  rw [if_pos i1, if_pos ((sameE_iff _ _).2 i2)]
theorem exprS_fit {gl : List GT} {a y : ET} {w0 : Int} (hn : nrmE y = nrmE (exprS gl a w0).1) (hk : a.bk ≤ 1100000) (hw : a.Wf) : y.bk ≤ 1100000 ∧ y.Wf := by
  have h1 : (exprS gl a w0).1.Wf := by
    by_cases q : (exprS gl a w0).2 = 0
    · unfold exprS at q ⊢
      split
      · split
        · split
          · exact (szE_meas a w0 0).2.2.2 hw
          · exact zeroE_wf
        · exact zeroE_wf
      · exact zeroE_wf
    · rw [want_none q]; exact zeroE_wf
  refine ⟨by rw [bk_of_nrm hn]; exact Nat.le_trans (exprS_bk gl a w0) hk, ?_⟩
  rw [← wf_nrm, hn, wf_nrm]; exact h1
/-- What a call of Expr leaves: the fault, and what the expression is. -/
def XrP (F : Int) (N : ET) (W : World) : Ending → World → Prop := fun e w' => ∃ y : ET, e = .returned (.tuple #[y.val, .int .i64 F]) ∧ nrmE y = N ∧ y.Own w' W.heap.size w'.heap.size ∧ Below W.heap.size W w'
theorem ycall {gl : List GT} {ga : Option Addr} {gc : Nat} {qa : Option Addr} {qn qc : Nat} {ka : Option Addr} {kn kc : Nat} {a b x : ET} {w0 F : Int} {N : ET} (hgl : gl.length ≤ 9000000) (hnl : ∀ g ∈ gl, g.nm.length ≤ 12000000) (hF : (exprS gl x w0).2 = F) (hN : nrmE (exprS gl x w0).1 = N) (hk : x.bk ≤ 4500000) (hw : x.Wf) {n0 : Nat} {W : World} (h : In2 n0 gl ga a b W) (hi : x.In W.heap.size W) :
    Calls Tryd.prog 14 #[.agg #[.slice ga gl.length gc, .slice qa qn qc, .slice ka kn kc], x.val, .int .i64 w0] W (XrP F N W) :=
  (expr_any gl ga gc qa qn qc ka kn kc hgl hnl x hk hw w0 W.heap.size W (Nat.le_refl _) h.z (InRow.less h.n (fun _ _ h => h) h.g) hi).mono (fun e w' h => by
    obtain ⟨y, h1, h2, h3, h4⟩ := h
    exact ⟨y, by rw [h1, hF], by rw [h2, hN], h3, h4⟩)
theorem kcall {gl : List GT} {ga : Option Addr} {gc : Nat} {qa : Option Addr} {qn qc : Nat} {ka : Option Addr} {kn kc : Nat} {a b x : ET} (hgl : gl.length ≤ 9000000) (hnl : ∀ g ∈ gl, g.nm.length ≤ 12000000) (hF : checkES gl x = 0) (hk : x.bk ≤ 4500000) (hw : x.Wf) {n0 : Nat} {W : World} (h : In2 n0 gl ga a b W) (hi : x.In W.heap.size W) :
    Calls Tryd.prog 13 #[.agg #[.slice ga gl.length gc, .slice qa qn qc, .slice ka kn kc], x.val] W fun e w' => e = .returned (.int .i64 0) ∧ Below W.heap.size W w' :=
  (checkE_any gl ga gc qa qn qc ka kn kc hgl hnl x hk hw W.heap.size W (Nat.le_refl _) h.z (InRow.less h.n (fun _ _ h => h) h.g) hi).mono (fun e w' h => by
    rw [hF] at h; exact h)
theorem scall {x y : ET} (hk : x.bk ≤ 4500000) (hk2 : y.bk ≤ 4500000) {W : World} (hi : x.In W.heap.size W) (hi2 : y.In W.heap.size W) (hn : nrmE x = nrmE y) :
    Calls Tryd.prog 15 #[x.val, y.val] W fun e w' => e = .returned (.bool true) ∧ Below W.heap.size W w' :=
  (refSameE_any x hk y hk2 W.heap.size W (Nat.le_refl _) hi hi2).mono (fun e w' h => by
    rw [(sameE_iff _ _).2 hn] at h; exact h)
set_option maxHeartbeats 16000000 in
set_option maxRecDepth 100000 in
theorem want_law (d : DT) (hdk : d.bk ≤ 1100000) (a : ET) (hak : a.bk ≤ 1100000) (haw : a.Wf) (wv : Int) (n0 : Nat) (w : World) (h0 : In2 n0 d.gl d.ga a a w) (hd : d.In n0 w) : Calls Tryd.prog 8 #[d.val, a.val, .int .i64 wv] w fun e w' => e = .returned (.bool true) ∧ Below w.heap.size w w' := by
  have HE := Lib.hid h0
  have F1 := Lib.hid (fun (W : World) (h : Below w.heap.size w W) => few_any a (by have := a.sz_bk; omega) n0 W (h0.keep h).n (h0.keep h).a)
  have F3 := Lib.hid (fun (W : World) (h : Below w.heap.size w W) => small_any d (by omega) n0 W (h0.keep h).n (hd.keep (Below.keptTo h h0.n)))
  obtain ⟨ga, gc, gl, qa, qc, ql, ka, kc, kl⟩ := d
  have hgl : gl.length ≤ 9000000 ∧ ∀ g ∈ gl, g.nm.length ≤ 12000000 := by
    simp only [DT.bk] at hdk
    have h1 := GT.bkL_len gl
    exact ⟨by omega, fun g hg => by have h2 := GT.bkL_mem hg; simp only [GT.bk] at h2; omega⟩
  simp only at h0 HE
  have HXA := Lib.hid (fun (W : World) (h : Below w.heap.size w W) => ycall (gc := gc) (qa := qa) (qn := ql.length) (qc := qc) (ka := ka) (kn := kl.length) (kc := kc) hgl.1 hgl.2 (x := a) (w0 := wv) rfl rfl (by omega) haw (h0.keep h) (ET.In.less (h0.keep h).n _ (h0.keep h).a))
  have HX := Lib.hid (fun (y : ET) (w0 : Int) (N : ET) (hk : y.bk ≤ 1100000 ∧ y.Wf) (hF : (exprS gl y w0).2 = 0 ∧ nrmE (exprS gl y w0).1 = N) (W : World) (h : Below w.heap.size w W) (hi : y.In W.heap.size W) => ycall (gc := gc) (qa := qa) (qn := ql.length) (qc := qc) (ka := ka) (kn := kl.length) (kc := kc) hgl.1 hgl.2 hF.1 hF.2 (by omega) hk.2 (h0.keep h) hi)
  have HK := Lib.hid (fun (y : ET) (hk : y.bk ≤ 1100000 ∧ y.Wf) (hF : checkES gl y = 0) (W : World) (h : Below w.heap.size w W) (hi : y.In W.heap.size W) => kcall (gc := gc) (qa := qa) (qn := ql.length) (qc := qc) (ka := ka) (kn := kl.length) (kc := kc) hgl.1 hgl.2 hF (by omega) hk.2 (h0.keep h) hi)
  have HM1 := Lib.hid (fun (h : (exprS gl a wv).2 = 0) (y : ET) (hn : nrmE y = nrmE (exprS gl a wv).1) => want_more h hn)
  have HMZ := Lib.hid (fun (h : (exprS gl a wv).2 ≠ 0) => congrArg nrmE (want_none h))
  have HMF := Lib.hid (fun (y : ET) (hn : nrmE y = nrmE (exprS gl a wv).1) => exprS_fit hn hak haw)
  obtain ⟨B1, hB1⟩ : ∃ x, fewE a = x := ⟨_, rfl⟩
  obtain ⟨B3, hB3⟩ : ∃ x, smallD ⟨ga, gc, gl, qa, qc, ql, ka, kc, kl⟩ = x := ⟨_, rfl⟩
  obtain ⟨G1, hG1⟩ : ∃ x, (exprS gl a wv).2 = x := ⟨_, rfl⟩
  obtain ⟨N1, hN1⟩ : ∃ x, nrmE (exprS gl a wv).1 = x := ⟨_, rfl⟩
  rw [hB1] at F1
  rw [hB3] at F3
  rw [hG1] at HXA HM1 HMZ
  rw [hN1] at HXA HM1 HMZ HMF
  clear h0 hgl hB1 hB3 hG1 hN1 hdk hak haw hd
  obtain ⟨op1, wd1, v1, sg1, uh1, ul1, xn1, xa1, xc1, xl1⟩ := a
  simp only [ET.val, ET.cells, DT.val, DT.cells] at F1 F3 HXA ⊢
  obtain ⟨gx, hgx⟩ : ∃ gx, w.heap.size = gx := ⟨_, rfl⟩
  obtain ⟨wa, hwa⟩ : ∃ wa, w.alloc (.cells #[.slice ga gl.length gc, .slice qa ql.length qc, .slice ka kl.length kc] 26) = wa := ⟨_, rfl⟩
  have hba : Below w.heap.size w wa := by rw [← hwa]; exact (Below.refl _ _).alloc (Nat.le_refl _) _
  have hsa : wa.heap.size = gx + 1 := by rw [← hwa, World.size_alloc, hgx]
  have BD : wa.heap[gx]? = some (.cells #[.slice ga gl.length gc, .slice qa ql.length qc, .slice ka kl.length kc] 26 (0, 0)) := by rw [← hwa, ← hgx]; exact World.alloc_heap_new w _
  obtain ⟨w1, hw1⟩ : ∃ w1, wa.alloc (.cells #[.int .i64 op1, .int .i64 wd1, .int .u64 (v1 : Int), .int .i64 sg1, .int .i64 uh1, .int .i64 ul1, .int .i64 xn1, .slice xa1 xl1.length xc1] 30) = w1 := ⟨_, rfl⟩
  have hbb : Below wa.heap.size wa w1 := by rw [← hw1]; exact (Below.refl _ _).alloc (Nat.le_refl _) _
  have BA : w1.heap[gx + 1]? = some (.cells #[.int .i64 op1, .int .i64 wd1, .int .u64 (v1 : Int), .int .i64 sg1, .int .i64 uh1, .int .i64 ul1, .int .i64 xn1, .slice xa1 xl1.length xc1] 30 (0, 0)) := by rw [← hw1, ← hsa]; exact World.alloc_heap_new wa _
  have HS0 := Lib.hid (And.intro (hba.trans (hbb.mono hba.size)) (And.intro (block_kept BD hbb) BA))
  clear hba hbb BD BA
  have FL := Lib.hid (fun (W : World) (h : Below w.heap.size w W) => live_any W (HE.out.keep h).z)
  go_enter Tryd.func8, Tryd.ntmps8
  go_upto_region 1 with (fail)
  (try rw [hwa])
  (try rw [hgx])
  (try rw [hw1])
  (try rw [hsa])
  clear hwa hw1 hsa hgx
  obtain ⟨z0, z1, z2⟩ := opq3 HS0.out.2.1
  obtain ⟨x0, x1, x2, x3, x4, x5, x6, x7⟩ := ope8 HS0.out.2.2
  have cK := Lib.hid (FL.out w1 HS0.out.1)
  go_wp2_with fail
  refine cK.out.mono ?_
  clear cK
  clear z0 z1 z2 x0 x1 x2 x3 x4 x5 x6 x7
  rintro e w2 ⟨rfl, hb⟩
  have HS1 := Lib.hid (hs2w HS0.out hb HS0.out.1.size)
  clear hb
  obtain ⟨z0, z1, z2⟩ := opq3 HS1.out.2.1
  obtain ⟨x0, x1, x2, x3, x4, x5, x6, x7⟩ := ope8 HS1.out.2.2
  have cK := Lib.hid (F1.out w2 HS1.out.1)
  go_wp2_with fail
  refine cK.out.mono ?_
  clear cK
  clear z0 z1 z2 x0 x1 x2 x3 x4 x5 x6 x7
  rintro e w3 ⟨rfl, hb⟩
  have HS2 := Lib.hid (hs2w HS1.out hb HS1.out.1.size)
  clear hb
  cases B1 with
  | false =>
    go_wp2
    go_ret
    exact ⟨rfl, HS2.out.1⟩
  | true =>
    obtain ⟨z0, z1, z2⟩ := opq3 HS2.out.2.1
    obtain ⟨x0, x1, x2, x3, x4, x5, x6, x7⟩ := ope8 HS2.out.2.2
    have cK := Lib.hid (F3.out w3 HS2.out.1)
    go_wp2_with fail
    refine cK.out.mono ?_
    clear cK
    clear z0 z1 z2 x0 x1 x2 x3 x4 x5 x6 x7
    rintro e w4 ⟨rfl, hb⟩
    have HS3 := Lib.hid (hs2w HS2.out hb HS2.out.1.size)
    clear hb
    cases B3 with
    | false =>
      go_wp2
      go_ret
      exact ⟨rfl, HS3.out.1⟩
    | true =>
      have HSX := HS3
      clear HS0 HS1 HS2 HS3 F1 F3 FL HE
      have cK := Lib.hid (HXA.out w4 HSX.out.1)
      obtain ⟨z0, z1, z2⟩ := opq3 HSX.out.2.1
      obtain ⟨x0, x1, x2, x3, x4, x5, x6, x7⟩ := ope8 HSX.out.2.2
      go_wp2_with fail
      refine cK.out.mono ?_
      clear cK
      clear z0 z1 z2 x0 x1 x2 x3 x4 x5 x6 x7
      rintro e Vb ⟨y, rfl, hyw, hyo, hb5⟩
      have hyi := hyo.inn _ _ _
      obtain ⟨op7, wd7, v7, sg7, uh7, ul7, xn7, xa7, xc7, xl7⟩ := y
      obtain ⟨gga, hh8⟩ : ∃ h8, Vb.heap.size = h8 := ⟨_, rfl⟩
      obtain ⟨VA, hVA⟩ : ∃ VA, Vb.alloc (.cells #[.int .i64 0, .int .i64 0, .int .u64 0, .int .i64 0, .int .i64 0, .int .i64 0, .int .i64 0, .slice none 0 0] 30 (0, 0)) = VA := ⟨_, rfl⟩
      have hbA : Below Vb.heap.size Vb VA := by rw [← hVA]; exact (Below.refl _ _).alloc (Nat.le_refl _) _
      have hrA : RowM VA gga ([] ++ ([.int .i64 0, .int .i64 0, .int .u64 0, .int .i64 0, .int .i64 0, .int .i64 0, .int .i64 0, .slice none 0 0] ++ [])) := by show VA.heap[gga]? = _; rw [← hVA, ← hh8]; exact World.alloc_heap_new Vb _
      have hr8 := RowM.put hrA 0 rfl (.int .i64 op7) (.int .i64 wd7) (.int .u64 (v7 : Int)) (.int .i64 sg7) (.int .i64 uh7) (.int .i64 ul7) (.int .i64 xn7) (.slice xa7 xl7.length xc7)
      have hb8 := below_alloc_put (W := Vb) (.cells #[.int .i64 0, .int .i64 0, .int .u64 0, .int .i64 0, .int .i64 0, .int .i64 0, .int .i64 0, .slice none 0 0] 30 (0, 0)) (.int .i64 op7) (.int .i64 wd7) (.int .u64 (v7 : Int)) (.int .i64 sg7) (.int .i64 uh7) (.int .i64 ul7) (.int .i64 xn7) (.slice xa7 xl7.length xc7)
      simp only [Nat.zero_add] at hr8
      rw [hh8, hVA] at hb8
      obtain ⟨V4, hV9⟩ : ∃ V9, ((((((((VA.setCell ⟨gga, 0, none⟩ (.int .i64 op7)).setCell ⟨gga, 1, none⟩ (.int .i64 wd7)).setCell ⟨gga, 2, none⟩ (.int .u64 (v7 : Int))).setCell ⟨gga, 3, none⟩ (.int .i64 sg7)).setCell ⟨gga, 4, none⟩ (.int .i64 uh7)).setCell ⟨gga, 5, none⟩ (.int .i64 ul7)).setCell ⟨gga, 6, none⟩ (.int .i64 xn7)).setCell ⟨gga, 7, none⟩ (.slice xa7 xl7.length xc7)) = V9 := ⟨_, rfl⟩
      rw [hV9] at hr8 hb8
      rw [← hh8] at hb8
      have hC := hb5.trans (hb8.mono hb5.size)
      obtain ⟨u0, u1, u2, u3, u4, u5, u6, u7⟩ := RowM.cells hrA 0 rfl
      obtain ⟨p0q, p1q, p2q, p3q, p4q, p5q, p6q, p7q⟩ := RowM.thaw hrA 0
      simp only [Nat.zero_add] at u1 u2 u3 u4 u5 u6 u7 p1q p2q p3q p4q p5q p6q p7q
      have HYa := Lib.hid (And.intro (show V4.heap[gga]? = some (.cells #[.int .i64 op7, .int .i64 wd7, .int .u64 (v7 : Int), .int .i64 sg7, .int .i64 uh7, .int .i64 ul7, .int .i64 xn7, .slice xa7 xl7.length xc7] 30 (0, 0)) from hr8) (And.intro hyw (show (ET.mk op7 wd7 v7 sg7 uh7 ul7 xn7 xa7 xc7 xl7).In V4.heap.size V4 from ET.In.less hb8.size _ (hyi.keep (Below.keptTo hb8 (Nat.le_refl _))))))
      have HSY := Lib.hid (hs2w HSX.out hC HSX.out.1.size)
      clear HSX hC
      have HSX := HSY
      clear HSY
      clear hyw hyo hyi hb5 hbA hrA hr8 hb8
      simp only [ET.val, ET.cells]
      go_upto_region 5 with (fail)
      (try rw [hh8])
      (try rw [hVA])
      (try rw [hV9])
      clear hVA hV9 hh8 u0 u1 u2 u3 u4 u5 u6 u7 p0q p1q p2q p3q p4q p5q p6q p7q
      have HF7 := Lib.hid (HMF.out _ HYa.out.2.1)
      by_cases q9 : G1 = 0
      · subst q9
        have r5 : ((0 : Int) != 0) = false := rfl
        obtain ⟨T1, T2, T3, T4, T5, T8⟩ := HM1.out rfl _ HYa.out.2.1
        replace T1 := Lib.hid T1
        replace T2 := Lib.hid T2
        replace T3 := Lib.hid T3
        replace T4 := Lib.hid T4
        replace T5 := Lib.hid T5
        replace T8 := Lib.hid T8
        clear HM1 HMZ
        have cK := Lib.hid (HX.out (ET.mk op7 wd7 v7 sg7 uh7 ul7 xn7 xa7 xc7 xl7) wd7 N1 HF7.out ⟨T4.out.1, T4.out.2.trans HYa.out.2.1⟩ V4 HSX.out.1 HYa.out.2.2)
        obtain ⟨z0, z1, z2⟩ := opq3 HSX.out.2.1
        obtain ⟨x0, x1, x2, x3, x4, x5, x6, x7⟩ := ope8 HSX.out.2.2
        obtain ⟨ya0, ya1, ya2, ya3, ya4, ya5, ya6, ya7⟩ := ope8 HYa.out.1
        go_wp2_with fail
        refine cK.out.mono ?_
        clear cK
        clear z0 z1 z2 x0 x1 x2 x3 x4 x5 x6 x7
        clear ya0 ya1 ya2 ya3 ya4 ya5 ya6 ya7
        rintro e Vb ⟨y, rfl, hyw, hyo, hb5⟩
        have hyi := hyo.inn _ _ _
        obtain ⟨op8, wd8, v8, sg8, uh8, ul8, xn8, xa8, xc8, xl8⟩ := y
        obtain ⟨ggb, hh8⟩ : ∃ h8, Vb.heap.size = h8 := ⟨_, rfl⟩
        obtain ⟨VA, hVA⟩ : ∃ VA, Vb.alloc (.cells #[.int .i64 0, .int .i64 0, .int .u64 0, .int .i64 0, .int .i64 0, .int .i64 0, .int .i64 0, .slice none 0 0] 30 (0, 0)) = VA := ⟨_, rfl⟩
        have hbA : Below Vb.heap.size Vb VA := by rw [← hVA]; exact (Below.refl _ _).alloc (Nat.le_refl _) _
        have hrA : RowM VA ggb ([] ++ ([.int .i64 0, .int .i64 0, .int .u64 0, .int .i64 0, .int .i64 0, .int .i64 0, .int .i64 0, .slice none 0 0] ++ [])) := by show VA.heap[ggb]? = _; rw [← hVA, ← hh8]; exact World.alloc_heap_new Vb _
        have hr8 := RowM.put hrA 0 rfl (.int .i64 op8) (.int .i64 wd8) (.int .u64 (v8 : Int)) (.int .i64 sg8) (.int .i64 uh8) (.int .i64 ul8) (.int .i64 xn8) (.slice xa8 xl8.length xc8)
        have hb8 := below_alloc_put (W := Vb) (.cells #[.int .i64 0, .int .i64 0, .int .u64 0, .int .i64 0, .int .i64 0, .int .i64 0, .int .i64 0, .slice none 0 0] 30 (0, 0)) (.int .i64 op8) (.int .i64 wd8) (.int .u64 (v8 : Int)) (.int .i64 sg8) (.int .i64 uh8) (.int .i64 ul8) (.int .i64 xn8) (.slice xa8 xl8.length xc8)
        simp only [Nat.zero_add] at hr8
        rw [hh8, hVA] at hb8
        obtain ⟨V5, hV9⟩ : ∃ V9, ((((((((VA.setCell ⟨ggb, 0, none⟩ (.int .i64 op8)).setCell ⟨ggb, 1, none⟩ (.int .i64 wd8)).setCell ⟨ggb, 2, none⟩ (.int .u64 (v8 : Int))).setCell ⟨ggb, 3, none⟩ (.int .i64 sg8)).setCell ⟨ggb, 4, none⟩ (.int .i64 uh8)).setCell ⟨ggb, 5, none⟩ (.int .i64 ul8)).setCell ⟨ggb, 6, none⟩ (.int .i64 xn8)).setCell ⟨ggb, 7, none⟩ (.slice xa8 xl8.length xc8)) = V9 := ⟨_, rfl⟩
        rw [hV9] at hr8 hb8
        rw [← hh8] at hb8
        have hC := hb5.trans (hb8.mono hb5.size)
        obtain ⟨u0, u1, u2, u3, u4, u5, u6, u7⟩ := RowM.cells hrA 0 rfl
        obtain ⟨p0q, p1q, p2q, p3q, p4q, p5q, p6q, p7q⟩ := RowM.thaw hrA 0
        simp only [Nat.zero_add] at u1 u2 u3 u4 u5 u6 u7 p1q p2q p3q p4q p5q p6q p7q
        have HYb := Lib.hid (And.intro (show V5.heap[ggb]? = some (.cells #[.int .i64 op8, .int .i64 wd8, .int .u64 (v8 : Int), .int .i64 sg8, .int .i64 uh8, .int .i64 ul8, .int .i64 xn8, .slice xa8 xl8.length xc8] 30 (0, 0)) from hr8) (And.intro hyw (show (ET.mk op8 wd8 v8 sg8 uh8 ul8 xn8 xa8 xc8 xl8).In V5.heap.size V5 from ET.In.less hb8.size _ (hyi.keep (Below.keptTo hb8 (Nat.le_refl _))))))
        have HSY := Lib.hid (hs2w HSX.out hC HSX.out.1.size)
        have HYK := Lib.hid (keepY HYa.out hC)
        clear HYa
        have HYa := HYK
        clear HYK
        clear HSX hC
        have HSX := HSY
        clear HSY
        clear hyw hyo hyi hb5 hbA hrA hr8 hb8
        simp only [ET.val, ET.cells]
        go_upto_region 8 with (fail)
        (try rw [hh8])
        (try rw [hVA])
        (try rw [hV9])
        clear hVA hV9 hh8 u0 u1 u2 u3 u4 u5 u6 u7 p0q p1q p2q p3q p4q p5q p6q p7q
        have cK := Lib.hid (HX.out (ET.mk op7 wd7 v7 sg7 uh7 ul7 xn7 xa7 xc7 xl7) 0 N1 HF7.out ⟨T5.out.1, T5.out.2.trans HYa.out.2.1⟩ V5 HSX.out.1 HYa.out.2.2)
        obtain ⟨z0, z1, z2⟩ := opq3 HSX.out.2.1
        obtain ⟨x0, x1, x2, x3, x4, x5, x6, x7⟩ := ope8 HSX.out.2.2
        obtain ⟨ya0, ya1, ya2, ya3, ya4, ya5, ya6, ya7⟩ := ope8 HYa.out.1
        go_wp2_with fail
        refine cK.out.mono ?_
        clear cK
        clear z0 z1 z2 x0 x1 x2 x3 x4 x5 x6 x7
        clear ya0 ya1 ya2 ya3 ya4 ya5 ya6 ya7
        rintro e Vb ⟨y, rfl, hyw, hyo, hb5⟩
        have hyi := hyo.inn _ _ _
        obtain ⟨op9, wd9, v9, sg9, uh9, ul9, xn9, xa9, xc9, xl9⟩ := y
        obtain ⟨ggc, hh8⟩ : ∃ h8, Vb.heap.size = h8 := ⟨_, rfl⟩
        obtain ⟨VA, hVA⟩ : ∃ VA, Vb.alloc (.cells #[.int .i64 0, .int .i64 0, .int .u64 0, .int .i64 0, .int .i64 0, .int .i64 0, .int .i64 0, .slice none 0 0] 30 (0, 0)) = VA := ⟨_, rfl⟩
        have hbA : Below Vb.heap.size Vb VA := by rw [← hVA]; exact (Below.refl _ _).alloc (Nat.le_refl _) _
        have hrA : RowM VA ggc ([] ++ ([.int .i64 0, .int .i64 0, .int .u64 0, .int .i64 0, .int .i64 0, .int .i64 0, .int .i64 0, .slice none 0 0] ++ [])) := by show VA.heap[ggc]? = _; rw [← hVA, ← hh8]; exact World.alloc_heap_new Vb _
        have hr8 := RowM.put hrA 0 rfl (.int .i64 op9) (.int .i64 wd9) (.int .u64 (v9 : Int)) (.int .i64 sg9) (.int .i64 uh9) (.int .i64 ul9) (.int .i64 xn9) (.slice xa9 xl9.length xc9)
        have hb8 := below_alloc_put (W := Vb) (.cells #[.int .i64 0, .int .i64 0, .int .u64 0, .int .i64 0, .int .i64 0, .int .i64 0, .int .i64 0, .slice none 0 0] 30 (0, 0)) (.int .i64 op9) (.int .i64 wd9) (.int .u64 (v9 : Int)) (.int .i64 sg9) (.int .i64 uh9) (.int .i64 ul9) (.int .i64 xn9) (.slice xa9 xl9.length xc9)
        simp only [Nat.zero_add] at hr8
        rw [hh8, hVA] at hb8
        obtain ⟨V6, hV9⟩ : ∃ V9, ((((((((VA.setCell ⟨ggc, 0, none⟩ (.int .i64 op9)).setCell ⟨ggc, 1, none⟩ (.int .i64 wd9)).setCell ⟨ggc, 2, none⟩ (.int .u64 (v9 : Int))).setCell ⟨ggc, 3, none⟩ (.int .i64 sg9)).setCell ⟨ggc, 4, none⟩ (.int .i64 uh9)).setCell ⟨ggc, 5, none⟩ (.int .i64 ul9)).setCell ⟨ggc, 6, none⟩ (.int .i64 xn9)).setCell ⟨ggc, 7, none⟩ (.slice xa9 xl9.length xc9)) = V9 := ⟨_, rfl⟩
        rw [hV9] at hr8 hb8
        rw [← hh8] at hb8
        have hC := hb5.trans (hb8.mono hb5.size)
        obtain ⟨u0, u1, u2, u3, u4, u5, u6, u7⟩ := RowM.cells hrA 0 rfl
        obtain ⟨p0q, p1q, p2q, p3q, p4q, p5q, p6q, p7q⟩ := RowM.thaw hrA 0
        simp only [Nat.zero_add] at u1 u2 u3 u4 u5 u6 u7 p1q p2q p3q p4q p5q p6q p7q
        have HYc := Lib.hid (And.intro (show V6.heap[ggc]? = some (.cells #[.int .i64 op9, .int .i64 wd9, .int .u64 (v9 : Int), .int .i64 sg9, .int .i64 uh9, .int .i64 ul9, .int .i64 xn9, .slice xa9 xl9.length xc9] 30 (0, 0)) from hr8) (And.intro hyw (show (ET.mk op9 wd9 v9 sg9 uh9 ul9 xn9 xa9 xc9 xl9).In V6.heap.size V6 from ET.In.less hb8.size _ (hyi.keep (Below.keptTo hb8 (Nat.le_refl _))))))
        have HSY := Lib.hid (hs2w HSX.out hC HSX.out.1.size)
        have HYK := Lib.hid (keepY HYa.out hC)
        clear HYa
        have HYa := HYK
        clear HYK
        have HYK := Lib.hid (keepY HYb.out hC)
        clear HYb
        have HYb := HYK
        clear HYK
        clear HSX hC
        have HSX := HSY
        clear HSY
        clear hyw hyo hyi hb5 hbA hrA hr8 hb8
        simp only [ET.val, ET.cells]
        go_upto_region 9 with (fail)
        (try rw [hh8])
        (try rw [hVA])
        (try rw [hV9])
        clear hVA hV9 hh8 u0 u1 u2 u3 u4 u5 u6 u7 p0q p1q p2q p3q p4q p5q p6q p7q
        have HF8 := Lib.hid (HMF.out _ HYb.out.2.1)
        have HF9 := Lib.hid (HMF.out _ HYc.out.2.1)
        have t1 := T1.out
        have t2 := T2.out
        have t3 := T3.out
        simp only [ET.wd] at t1 t2 t3
        have g3 : ((0 : Int) == 0) = true := rfl
        have r1 : decide (wd7 ≥ 1) = true := by rw [decide_eq_true_eq]; omega
        have r1' : decide (1 ≤ wd7) = true := by rw [decide_eq_true_eq]; omega
        have r2 : decide (wd7 ≤ 64) = true := by rw [decide_eq_true_eq]; omega
        clear T1 T2 T3 T4 T5 t2 t3 HMF HX HXA r5
        by_cases q8 : wv = 0
        · subst q8
          clear t1
          have cK := Lib.hid (scall (x := (ET.mk op7 wd7 v7 sg7 uh7 ul7 xn7 xa7 xc7 xl7)) (y := (ET.mk op8 wd8 v8 sg8 uh8 ul8 xn8 xa8 xc8 xl8)) (by have := HF7.out.1; omega) (by have := HF8.out.1; omega) HYa.out.2.2 HYb.out.2.2 (HYa.out.2.1.trans HYb.out.2.1.symm))
          obtain ⟨z0, z1, z2⟩ := opq3 HSX.out.2.1
          obtain ⟨x0, x1, x2, x3, x4, x5, x6, x7⟩ := ope8 HSX.out.2.2
          obtain ⟨ya0, ya1, ya2, ya3, ya4, ya5, ya6, ya7⟩ := ope8 HYa.out.1
          obtain ⟨yb0, yb1, yb2, yb3, yb4, yb5, yb6, yb7⟩ := ope8 HYb.out.1
          go_wp2_with fail
          refine cK.out.mono ?_
          clear cK
          clear z0 z1 z2 x0 x1 x2 x3 x4 x5 x6 x7
          clear ya0 ya1 ya2 ya3 ya4 ya5 ya6 ya7
          clear yb0 yb1 yb2 yb3 yb4 yb5 yb6 yb7
          rintro e V7 ⟨rfl, hb⟩
          have HSY := Lib.hid (hs2w HSX.out hb HSX.out.1.size)
          have HYK := Lib.hid (keepY HYa.out hb)
          clear HYa
          have HYa := HYK
          clear HYK
          have HYK := Lib.hid (keepY HYb.out hb)
          clear HYb
          have HYb := HYK
          clear HYK
          have HYK := Lib.hid (keepY HYc.out hb)
          clear HYc
          have HYc := HYK
          clear HYK
          clear HSX hb
          have HSX := HSY
          clear HSY
          have cK := Lib.hid (scall (x := (ET.mk op7 wd7 v7 sg7 uh7 ul7 xn7 xa7 xc7 xl7)) (y := (ET.mk op9 wd9 v9 sg9 uh9 ul9 xn9 xa9 xc9 xl9)) (by have := HF7.out.1; omega) (by have := HF9.out.1; omega) HYa.out.2.2 HYc.out.2.2 (HYa.out.2.1.trans HYc.out.2.1.symm))
          obtain ⟨z0, z1, z2⟩ := opq3 HSX.out.2.1
          obtain ⟨x0, x1, x2, x3, x4, x5, x6, x7⟩ := ope8 HSX.out.2.2
          obtain ⟨ya0, ya1, ya2, ya3, ya4, ya5, ya6, ya7⟩ := ope8 HYa.out.1
          obtain ⟨yc0, yc1, yc2, yc3, yc4, yc5, yc6, yc7⟩ := ope8 HYc.out.1
          go_wp2_with fail
          refine cK.out.mono ?_
          clear cK
          clear z0 z1 z2 x0 x1 x2 x3 x4 x5 x6 x7
          clear ya0 ya1 ya2 ya3 ya4 ya5 ya6 ya7
          clear yc0 yc1 yc2 yc3 yc4 yc5 yc6 yc7
          rintro e V8 ⟨rfl, hb⟩
          have HSY := Lib.hid (hs2w HSX.out hb HSX.out.1.size)
          have HYK := Lib.hid (keepY HYa.out hb)
          clear HYa
          have HYa := HYK
          clear HYK
          have HYK := Lib.hid (keepY HYb.out hb)
          clear HYb
          have HYb := HYK
          clear HYK
          have HYK := Lib.hid (keepY HYc.out hb)
          clear HYc
          have HYc := HYK
          clear HYK
          clear HSX hb
          have HSX := HSY
          clear HSY
          have cK := Lib.hid (HK.out (ET.mk op7 wd7 v7 sg7 uh7 ul7 xn7 xa7 xc7 xl7) HF7.out T8.out V8 HSX.out.1 HYa.out.2.2)
          obtain ⟨z0, z1, z2⟩ := opq3 HSX.out.2.1
          obtain ⟨x0, x1, x2, x3, x4, x5, x6, x7⟩ := ope8 HSX.out.2.2
          obtain ⟨ya0, ya1, ya2, ya3, ya4, ya5, ya6, ya7⟩ := ope8 HYa.out.1
          go_wp2_with fail
          refine cK.out.mono ?_
          clear cK
          clear z0 z1 z2 x0 x1 x2 x3 x4 x5 x6 x7
          clear ya0 ya1 ya2 ya3 ya4 ya5 ya6 ya7
          rintro e V9 ⟨rfl, hb⟩
          have HSY := Lib.hid (hs2w HSX.out hb HSX.out.1.size)
          have HYK := Lib.hid (keepY HYa.out hb)
          clear HYa
          have HYa := HYK
          clear HYK
          clear HSX hb
          have HSX := HSY
          clear HSY
          go_wp2
          go_ret
          exact ⟨rfl, HSX.out.1⟩
        · have rw0 : (wv == 0) = false := by rw [beq_eq_false_iff_ne]; exact q8
          have rw1 : (wd7 == wv) = true := by rw [beq_iff_eq]; exact t1.resolve_left q8
          clear t1 q8
          have cK := Lib.hid (scall (x := (ET.mk op7 wd7 v7 sg7 uh7 ul7 xn7 xa7 xc7 xl7)) (y := (ET.mk op8 wd8 v8 sg8 uh8 ul8 xn8 xa8 xc8 xl8)) (by have := HF7.out.1; omega) (by have := HF8.out.1; omega) HYa.out.2.2 HYb.out.2.2 (HYa.out.2.1.trans HYb.out.2.1.symm))
          obtain ⟨z0, z1, z2⟩ := opq3 HSX.out.2.1
          obtain ⟨x0, x1, x2, x3, x4, x5, x6, x7⟩ := ope8 HSX.out.2.2
          obtain ⟨ya0, ya1, ya2, ya3, ya4, ya5, ya6, ya7⟩ := ope8 HYa.out.1
          obtain ⟨yb0, yb1, yb2, yb3, yb4, yb5, yb6, yb7⟩ := ope8 HYb.out.1
          go_wp2_with fail
          refine cK.out.mono ?_
          clear cK
          clear z0 z1 z2 x0 x1 x2 x3 x4 x5 x6 x7
          clear ya0 ya1 ya2 ya3 ya4 ya5 ya6 ya7
          clear yb0 yb1 yb2 yb3 yb4 yb5 yb6 yb7
          rintro e V7 ⟨rfl, hb⟩
          have HSY := Lib.hid (hs2w HSX.out hb HSX.out.1.size)
          have HYK := Lib.hid (keepY HYa.out hb)
          clear HYa
          have HYa := HYK
          clear HYK
          have HYK := Lib.hid (keepY HYb.out hb)
          clear HYb
          have HYb := HYK
          clear HYK
          have HYK := Lib.hid (keepY HYc.out hb)
          clear HYc
          have HYc := HYK
          clear HYK
          clear HSX hb
          have HSX := HSY
          clear HSY
          have cK := Lib.hid (scall (x := (ET.mk op7 wd7 v7 sg7 uh7 ul7 xn7 xa7 xc7 xl7)) (y := (ET.mk op9 wd9 v9 sg9 uh9 ul9 xn9 xa9 xc9 xl9)) (by have := HF7.out.1; omega) (by have := HF9.out.1; omega) HYa.out.2.2 HYc.out.2.2 (HYa.out.2.1.trans HYc.out.2.1.symm))
          obtain ⟨z0, z1, z2⟩ := opq3 HSX.out.2.1
          obtain ⟨x0, x1, x2, x3, x4, x5, x6, x7⟩ := ope8 HSX.out.2.2
          obtain ⟨ya0, ya1, ya2, ya3, ya4, ya5, ya6, ya7⟩ := ope8 HYa.out.1
          obtain ⟨yc0, yc1, yc2, yc3, yc4, yc5, yc6, yc7⟩ := ope8 HYc.out.1
          go_wp2_with fail
          refine cK.out.mono ?_
          clear cK
          clear z0 z1 z2 x0 x1 x2 x3 x4 x5 x6 x7
          clear ya0 ya1 ya2 ya3 ya4 ya5 ya6 ya7
          clear yc0 yc1 yc2 yc3 yc4 yc5 yc6 yc7
          rintro e V8 ⟨rfl, hb⟩
          have HSY := Lib.hid (hs2w HSX.out hb HSX.out.1.size)
          have HYK := Lib.hid (keepY HYa.out hb)
          clear HYa
          have HYa := HYK
          clear HYK
          have HYK := Lib.hid (keepY HYb.out hb)
          clear HYb
          have HYb := HYK
          clear HYK
          have HYK := Lib.hid (keepY HYc.out hb)
          clear HYc
          have HYc := HYK
          clear HYK
          clear HSX hb
          have HSX := HSY
          clear HSY
          have cK := Lib.hid (HK.out (ET.mk op7 wd7 v7 sg7 uh7 ul7 xn7 xa7 xc7 xl7) HF7.out T8.out V8 HSX.out.1 HYa.out.2.2)
          obtain ⟨z0, z1, z2⟩ := opq3 HSX.out.2.1
          obtain ⟨x0, x1, x2, x3, x4, x5, x6, x7⟩ := ope8 HSX.out.2.2
          obtain ⟨ya0, ya1, ya2, ya3, ya4, ya5, ya6, ya7⟩ := ope8 HYa.out.1
          go_wp2_with fail
          refine cK.out.mono ?_
          clear cK
          clear z0 z1 z2 x0 x1 x2 x3 x4 x5 x6 x7
          clear ya0 ya1 ya2 ya3 ya4 ya5 ya6 ya7
          rintro e V9 ⟨rfl, hb⟩
          have HSY := Lib.hid (hs2w HSX.out hb HSX.out.1.size)
          have HYK := Lib.hid (keepY HYa.out hb)
          clear HYa
          have HYa := HYK
          clear HYK
          clear HSX hb
          have HSX := HSY
          clear HSY
          go_wp2
          go_ret
          exact ⟨rfl, HSX.out.1⟩
      · have r5 : (G1 != 0) = true := by rw [bne_iff_ne]; exact q9
        have HN := HYa.out.2.1.trans (HMZ.out q9)
        clear q9 HM1 HMZ HX HK HXA
        have cK := Lib.hid ((show Calls Tryd.prog 15 #[.agg #[.int .i64 op7, .int .i64 wd7, .int .u64 (v7 : Int), .int .i64 sg7, .int .i64 uh7, .int .i64 ul7, .int .i64 xn7, .slice xa7 xl7.length xc7], .agg #[.int .i64 0, .int .i64 0, .int .u64 0, .int .i64 0, .int .i64 0, .int .i64 0, .int .i64 0, .slice none 0 0]] V4 (fun e w' => e = .returned (.bool true) ∧ Below V4.heap.size V4 w') from scall (x := (ET.mk op7 wd7 v7 sg7 uh7 ul7 xn7 xa7 xc7 xl7)) (y := zeroE) (by have := HF7.out.1; omega) (by decide) HYa.out.2.2 (zeroE_in _ _) HN))
        obtain ⟨z0, z1, z2⟩ := opq3 HSX.out.2.1
        obtain ⟨x0, x1, x2, x3, x4, x5, x6, x7⟩ := ope8 HSX.out.2.2
        obtain ⟨ya0, ya1, ya2, ya3, ya4, ya5, ya6, ya7⟩ := ope8 HYa.out.1
        go_wp2_with fail
        refine cK.out.mono ?_
        clear cK
        clear z0 z1 z2 x0 x1 x2 x3 x4 x5 x6 x7
        clear ya0 ya1 ya2 ya3 ya4 ya5 ya6 ya7
        rintro e V5 ⟨rfl, hb⟩
        have HSY := Lib.hid (hs2w HSX.out hb HSX.out.1.size)
        have HYK := Lib.hid (keepY HYa.out hb)
        clear HYa
        have HYa := HYK
        clear HYK
        clear HSX hb
        have HSX := HSY
        clear HSY
        go_wp2
        go_ret
        exact ⟨rfl, HSX.out.1⟩
end Go.Proofs.YtglpkfeokojdkaaDoor
