/-
  The laws of sized: live, the chapter's example.
-/
import Derived.Test.YtbcgeglkmpcnpaaDoorEyF
import Derived.BigQuiet
import Derived.StillTailTactics
import Derived.Deep.RegionWith
namespace Go.Proofs.YtbcgeglkmpcnpaaDoor
open Go Go.RowKit
set_option linter.unusedVariables false
set_option linter.unusedSimpArgs false
open Go.Sort

theorem easy_one : Easy oneG := ⟨by decide, by decide, by decide, by decide, fun x hx => (by simp [oneG] at hx; subst hx; unfold GT.Wf; decide), fun x hx => (by simp [oneG] at hx; subst hx; decide)⟩
def N1 : ET := .mk 5 8 0 0 0 0 14 none 0 [.mk 2 8 0 0 7 0 0 none 0 [], .mk 1 8 1 0 0 0 0 none 0 []]
theorem ex_1 (g : Nat) : (exprS oneG (binT 14 g (sigT 7 0) (numT 1)) 0).2 = 0 ∧ nrmE (exprS oneG (binT 14 g (sigT 7 0) (numT 1)) 0).1 = N1 := ⟨by rfl, by rfl⟩
theorem ex_2 (g : Nat) : (exprS oneG (binT 19 g (sigT 7 0) (numT 300)) 0).2 = 92 ∧ nrmE (exprS oneG (binT 19 g (sigT 7 0) (numT 300)) 0).1 = nrmE zeroE := ⟨by rfl, by rfl⟩
theorem ex_3 (g : Nat) : (exprS oneG (binT 14 g (sigT 2 0) (sigT 7 0)) 0).2 = 90 ∧ nrmE (exprS oneG (binT 14 g (sigT 2 0) (sigT 7 0)) 0).1 = nrmE zeroE := ⟨by rfl, by rfl⟩
theorem sigT_wf (hi lo : Int) : (sigT hi lo).Wf := by simp [sigT, ET.wf_mk]
theorem numT_wf (v : Nat) (h : v < 18446744073709551616) : (numT v).Wf := by simp [numT, ET.wf_mk]; exact h
theorem binT_wf (op : Int) (g : Nat) {a b : ET} (ha : a.Wf) (hb : b.Wf) : (binT op g a b).Wf := by simp [binT, ET.wf_mk, ha, hb]
/-- Expr called upon two joined. -/
def LxP (n : Nat) (T : ET) (F : Int) (W : World) : Ending → World → Prop := fun e w' => ∃ y : ET, e = .returned (.tuple #[y.val, .int .i64 F]) ∧ nrmE y = T ∧ y.Own w' W.heap.size w'.heap.size ∧ Below W.heap.size W w'
theorem lexpr {op : Int} {g gs : Nat} {a b : ET} {T : ET} {F : Int} (ha : a.Wf) (hb : b.Wf) (hk : (binT op g a b).bk ≤ 4500000) (hT : nrmE (exprS oneG (binT op g a b) 0).1 = T) (hF : (exprS oneG (binT op g a b) 0).2 = F) (W : World) (he : EnvZ W) (hg : GsIn W.heap.size W oneG (some ⟨gs, 0, none⟩)) (hi : (binT op g a b).In W.heap.size W) :
    Calls Tryd.prog 9 #[.agg #[.slice (some ⟨gs, 0, none⟩) 1 1, .slice none 0 0, .slice none 0 0], .agg #[.int .i64 5, .int .i64 0, .int .u64 0, .int .i64 0, .int .i64 0, .int .i64 0, .int .i64 op, .slice (some ⟨g, 0, none⟩) 2 2], .int .i64 0] W (LxP 0 T F W) := by
  refine (expr_any oneG (some ⟨gs, 0, none⟩) 1 none 0 0 none 0 0 (by decide) (fun x hx => by simp [oneG] at hx; subst hx; decide) (binT op g a b) hk (binT_wf op g ha hb) 0 W.heap.size W (Nat.le_refl _) he hg hi).mono ?_
  rintro e w' ⟨y, h1, h2, h3, h4⟩
  exact ⟨y, by rw [h1, hF], h2.trans hT, h3, h4⟩
theorem lbin_1 (W : World) : Calls Tryd.prog 18 #[.int .i64 14, .agg #[.int .i64 2, .int .i64 0, .int .u64 0, .int .i64 0, .int .i64 7, .int .i64 0, .int .i64 0, .slice none 0 0], .agg #[.int .i64 1, .int .i64 0, .int .u64 1, .int .i64 0, .int .i64 0, .int .i64 0, .int .i64 0, .slice none 0 0]] W (BinP 14 (sigT 7 0) (numT 1) W) := bin_any 14 (sigT 7 0) (numT 1) 0 W (Nat.zero_le _) (leaf_in ..) (leaf_in ..)
theorem lbin_2 (W : World) : Calls Tryd.prog 18 #[.int .i64 19, .agg #[.int .i64 2, .int .i64 0, .int .u64 0, .int .i64 0, .int .i64 7, .int .i64 0, .int .i64 0, .slice none 0 0], .agg #[.int .i64 1, .int .i64 0, .int .u64 300, .int .i64 0, .int .i64 0, .int .i64 0, .int .i64 0, .slice none 0 0]] W (BinP 19 (sigT 7 0) (numT 300) W) := bin_any 19 (sigT 7 0) (numT 300) 0 W (Nat.zero_le _) (leaf_in ..) (leaf_in ..)
theorem lbin_3 (W : World) : Calls Tryd.prog 18 #[.int .i64 14, .agg #[.int .i64 2, .int .i64 0, .int .u64 0, .int .i64 0, .int .i64 2, .int .i64 0, .int .i64 0, .slice none 0 0], .agg #[.int .i64 2, .int .i64 0, .int .u64 0, .int .i64 0, .int .i64 7, .int .i64 0, .int .i64 0, .slice none 0 0]] W (BinP 14 (sigT 2 0) (sigT 7 0) W) := bin_any 14 (sigT 2 0) (sigT 7 0) 0 W (Nat.zero_le _) (leaf_in ..) (leaf_in ..)
theorem lnum (v : Nat) (W : World) : Calls Tryd.prog 20 #[.int .u64 (v : Int)] W fun e w' => e = .returned (.agg #[.int .i64 1, .int .i64 0, .int .u64 (v : Int), .int .i64 0, .int .i64 0, .int .i64 0, .int .i64 0, .slice none 0 0]) ∧ Below W.heap.size W w' := num_any v W
theorem keepF3 {W W' : World} {u : Value} {b : Bool} {k : Nat → Value} {T : Nat → ET} (h : b = false → ∃ g, u = k g ∧ (T g).In W.heap.size W) (hb : Below W.heap.size W W') : b = false → ∃ g, u = k g ∧ (T g).In W'.heap.size W' := fun q => by
  obtain ⟨g, h1, h2⟩ := h q
  exact ⟨g, h1, ET.In.less hb.size _ (h2.keep (Below.keptTo hb (Nat.le_refl _)))⟩
theorem keepF4 {W W' : World} {p q : Prop} {y : ET} {lo hi n : Nat} (h : p ∧ q ∧ y.Own W lo hi ∧ n ≤ lo ∧ hi ≤ W.heap.size) (hb : Below W.heap.size W W') : p ∧ q ∧ y.Own W' lo hi ∧ n ≤ lo ∧ hi ≤ W'.heap.size :=
  ⟨h.1, h.2.1, ET.Own.keep _ _ _ (fun k _ h2 => hb.block k (by have := h.2.2.2.2; omega)) h.2.2.1, h.2.2.2.1, Nat.le_trans h.2.2.2.2 hb.size⟩
theorem keepF8 {W W' : World} {p r : Prop} {g n : Nat} {b : Bool} {o : Obj} (h : p ∧ n ≤ g ∧ g < W.heap.size ∧ r ∧ (b = false → W.heap[g]? = some o)) (hb : Below W.heap.size W W') : p ∧ n ≤ g ∧ g < W'.heap.size ∧ r ∧ (b = false → W'.heap[g]? = some o) :=
  ⟨h.1, h.2.1, Nat.lt_of_lt_of_le h.2.2.1 hb.size, h.2.2.2.1, fun q => block_kept (h.2.2.2.2 q) hb⟩
theorem below_drew' {n : Nat} {a w : World} (h : Below n a w) : Below n a w.drew := ⟨h.os, h.tape, h.output, h.size, h.block⟩
theorem nrmL_nrm_of : ∀ l : List ET, (∀ x ∈ l, nrmE (nrmE x) = nrmE x) → nrmEL (nrmEL l) = nrmEL l
  | [], _ => by rw [nrmEL, nrmEL]
  | x :: r, h => by rw [nrmEL, nrmEL, h x (by simp), nrmL_nrm_of r (fun y hy => h y (by simp [hy]))]
theorem nrm_nrm : ∀ x : ET, nrmE (nrmE x) = nrmE x := by
  refine ET.ind ?_
  intro op wd v sg uh ul xn xa xc xl ih
  rw [nrmE, nrmE, nrmL_nrm_of xl ih]
theorem exprS_nrm (gl : List GT) (x : ET) (w0 : Int) : (exprS gl (nrmE x) w0).2 = (exprS gl x w0).2 ∧ nrmE (exprS gl (nrmE x) w0).1 = nrmE (exprS gl x w0).1 := by
  unfold exprS
  rw [mayE_nrm, (meas_nrm x).1, (meas_nrm x).2.1, szE_nrm]
  split
  · split
    · split
      all_goals (first | exact ⟨rfl, nrm_nrm _⟩ | exact ⟨rfl, rfl⟩)
    · exact ⟨rfl, rfl⟩
  · exact ⟨rfl, rfl⟩
theorem checkES_nrm (gl : List GT) (x : ET) : checkES gl (nrmE x) = checkES gl x := by
  obtain ⟨h1, h2⟩ := exprS_nrm gl x x.wd
  unfold checkES
  rw [nrm_wd, h1]
  have h3 : sameE (exprS gl (nrmE x) x.wd).1 (nrmE x) = sameE (exprS gl x x.wd).1 x := by
    rw [Bool.eq_iff_iff, sameE_iff, sameE_iff, nrm_nrm, h2]
  rw [h3]
theorem checkES_same (gl : List GT) {x y : ET} (h : nrmE x = nrmE y) : checkES gl x = checkES gl y := by rw [← checkES_nrm gl x, ← checkES_nrm gl y, h]
theorem ck_1 {y : ET} (h : nrmE y = N1) : checkES oneG y = 0 := by
  rw [checkES_same oneG (y := N1) (h.trans (by rfl))]; rfl
theorem ck_2 : checkES oneG (numT 1) = 90 := by rfl
theorem y_shape {y : ET} (h : nrmE y = N1) : ∃ ya yc p q, y = .mk 5 8 0 0 0 0 14 ya yc [p, q] ∧ q.wd = 8 := by
  obtain ⟨op, wd, v, sg, uh, ul, xn, xa, xc, xl⟩ := y
  rw [nrmE, N1] at h
  injection h with h1 h2 h3 h4 h5 h6 h7 _ _ h8
  subst h1 h2 h3 h4 h5 h6 h7
  have hl := congrArg List.length h8
  rw [nrmEL_map, List.length_map] at hl
  match xl, hl, h8 with
  | [p, q], _, h8 =>
    rw [nrmEL, nrmEL, nrmEL] at h8
    injection h8 with _ h9
    injection h9 with h9 _
    exact ⟨xa, xc, p, q, rfl, by rw [← nrm_wd q, h9]; rfl⟩
def LzP (W : World) : Ending → World → Prop := fun e w' => ∃ (a : Option Addr) (c : Nat), e = .returned (.tuple #[.agg #[.slice a 1 c, .slice none 0 0, .slice none 0 0], .int .i64 0]) ∧ Below W.heap.size W w'
theorem lsize (gs : Nat) (W : World) (hg : GsIn W.heap.size W oneG (some ⟨gs, 0, none⟩)) : Calls Tryd.prog 14 #[.agg #[.slice (some ⟨gs, 0, none⟩) 1 1, .slice none 0 0, .slice none 0 0]] W (LzP W) := by
  refine (size0_any oneG easy_one W.heap.size (some ⟨gs, 0, none⟩) 1 W (Nat.le_refl _) hg).mono ?_
  rintro e w' ⟨a, c, h1, _, h2⟩
  exact ⟨a, c, h1, h2⟩
theorem lcheck (gs : Nat) (W : World) (hg : GsIn W.heap.size W oneG (some ⟨gs, 0, none⟩)) : Calls Tryd.prog 15 #[.agg #[.slice (some ⟨gs, 0, none⟩) 1 1, .slice none 0 0, .slice none 0 0]] W fun e w' => e = .returned (.int .i64 0) ∧ Below W.heap.size W w' := check0_any oneG easy_one (by decide) W.heap.size (some ⟨gs, 0, none⟩) 1 W (Nat.le_refl _) hg
theorem lsame (gs : Nat) (W : World) (hg : GsIn W.heap.size W oneG (some ⟨gs, 0, none⟩)) : Calls Tryd.prog 22 #[.agg #[.slice (some ⟨gs, 0, none⟩) 1 1, .slice none 0 0, .slice none 0 0], .agg #[.slice (some ⟨gs, 0, none⟩) 1 1, .slice none 0 0, .slice none 0 0]] W fun e w' => e = .returned (.bool true) ∧ Below W.heap.size W w' := by
  have h := same_any (dOf oneG (some ⟨gs, 0, none⟩) 1) (dOf oneG (some ⟨gs, 0, none⟩) 1) (by simp [dOf, DT.bk, oneG, GT.bkL, GT.bk, QT.bkL, KT.bkL]) (by simp [dOf, DT.bk, oneG, GT.bkL, GT.bk, QT.bkL, KT.bkL]) W.heap.size W (Nat.le_refl _) (dOf_in hg) (dOf_in hg)
  rw [same_dOf] at h
  exact h
theorem lcheckE {x : ET} {r : Int} (hr : checkES oneG x = r) (hb : x.bk ≤ 4500000) (hw : x.Wf) (gs : Nat) (W : World) (he : EnvZ W) (hg : GsIn W.heap.size W oneG (some ⟨gs, 0, none⟩)) (hi : x.In W.heap.size W) : Calls Tryd.prog 12 #[.agg #[.slice (some ⟨gs, 0, none⟩) 1 1, .slice none 0 0, .slice none 0 0], x.val] W fun e w' => e = .returned (.int .i64 r) ∧ Below W.heap.size W w' := by
  rw [← hr]
  exact checkE_any oneG (some ⟨gs, 0, none⟩) 1 none 0 0 none 0 0 (by decide) (fun x hx => by simp [oneG] at hx; subst hx; decide) x hb hw W.heap.size W (Nat.le_refl _) he hg hi
theorem lsameE {x y : ET} {r : Bool} (hr : sameE x y = r) (hb : x.bk ≤ 4500000) (hb2 : y.bk ≤ 4500000) (W : World) (hi : x.In W.heap.size W) (hi2 : y.In W.heap.size W) : Calls Tryd.prog 21 #[x.val, y.val] W fun e w' => e = .returned (.bool r) ∧ Below W.heap.size W w' := by
  rw [← hr]
  exact sameE_any x hb y hb2 W.heap.size W (Nat.le_refl _) hi hi2
set_option maxHeartbeats 16000000 in
set_option maxRecDepth 100000 in
theorem live_any (w : World) (he : EnvZ w) : Calls Tryd.prog 6 #[] w fun e w' => e = .returned (.bool true) ∧ Below w.heap.size w w' := by
  have HE := Lib.hid he
  clear he
  go_enter Tryd.func6, Tryd.ntmps6
  go_wp2_with fail
  refine (one_any w).mono ?_
  rintro e W1 ⟨gs, rfl, hgi, hgs, hb1⟩
  obtain ⟨gd, hgd⟩ : ∃ gd, W1.heap.size = gd := ⟨_, rfl⟩
  obtain ⟨V2, hV2⟩ : ∃ V2, W1.alloc (.cells #[.slice none 0 0, .slice none 0 0, .slice none 0 0] 26 (0, 0)) = V2 := ⟨_, rfl⟩
  have hb2 : Below W1.heap.size W1 V2 := by rw [← hV2]; exact (Below.refl _ _).alloc (Nat.le_refl _) _
  have hr2 : RowD V2 gd (.slice none 0 0) (.slice none 0 0) (.slice none 0 0) := by unfold RowD; rw [← hV2, ← hgd]; exact World.alloc_heap_new W1 _
  have hr3 := hr2.put (.slice (some ⟨gs, 0, none⟩) 1 1) (.slice none 0 0) (.slice none 0 0)
  have hb3 := below_put3 hb2 (show W1.heap.size ≤ gd by omega) (.slice (some ⟨gs, 0, none⟩) 1 1) (.slice none 0 0) (.slice none 0 0)
  obtain ⟨V3, hV3⟩ : ∃ V3, (((V2.setCell ⟨gd, 0, none⟩ (.slice (some ⟨gs, 0, none⟩) 1 1)).setCell ⟨gd, 1, none⟩ (.slice none 0 0)).setCell ⟨gd, 2, none⟩ (.slice none 0 0)) = V3 := ⟨_, rfl⟩
  rw [hV3] at hr3 hb3
  have hC := hb1.trans (hb3.mono hb1.size)
  have HD0 : Hid (Below w.heap.size w V3 ∧ V3.heap[gd]? = some (.cells #[.slice (some ⟨gs, 0, none⟩) 1 1, .slice none 0 0, .slice none 0 0] 26 (0, 0)) ∧ GsIn V3.heap.size V3 oneG (some ⟨gs, 0, none⟩) ∧ EnvZ V3) := Lib.hid ⟨hC, hr3, InRow.less hb3.size (fun _ _ h => h) (GsIn.keep (Below.keptTo hb3 (Nat.le_refl _)) hgi), HE.out.keep hC⟩
  obtain ⟨y0, y1, y2⟩ := opq3 (show V2.heap[gd]? = _ from hr2)
  obtain ⟨p0, p1, p2⟩ := thaw3 (show V2.heap[gd]? = _ from hr2)
  clear hgi hgs hb1 hb2 hr2 hr3 hb3 hC
  go_upto_region 2 with (fail)
  (try rw [hgd])
  (try rw [hV2])
  (try rw [hV3])
  clear hV2 hV3 hgd y0 y1 y2 p0 p1 p2
  refine wp_region_inv (fun (b : Nat → Bool) (a : Act) (W9 : World) => ∃ (u0 u1 u2 u3 u4 u5 u6 u7 u8 u9 u10 : Value) (yy2 : ET) (lo2 hi2 gg2 : Nat), a = { tmps := #[.bool false, .pointer (some ⟨gd, 0, none⟩), u8, u10, undef, undef, undef, undef, undef, undef, .agg #[.slice (some ⟨gs, 0, none⟩) 1 1, .slice none 0 0, .slice none 0 0], u5, u0, u1, u2, u3, u4, u6, u7, undef, undef, undef, undef, undef, undef, undef, undef, undef, undef, undef, undef, undef, undef, undef, undef, undef, undef, undef, undef, undef, undef, undef, undef, undef, undef, undef, undef, undef, undef, undef, undef, undef, undef, undef, undef, undef, undef, undef, undef, undef, undef, undef, undef, undef, undef, undef, undef, undef, undef, undef, undef, undef, undef, undef, undef, undef, undef, undef, undef, undef, undef, undef, undef, undef, undef, undef, undef, undef, undef, undef, undef, undef, undef, undef, undef, undef, undef, undef, undef, undef, undef, undef, undef, undef, undef, undef, undef, undef, undef, undef], defers := [] } ∧ (Below V3.heap.size V3 W9) ∧ (b 0 = true → u0 = .agg #[.slice (some ⟨gs, 0, none⟩) 1 1, .slice none 0 0, .slice none 0 0]) ∧ (b 1 = true → u1 = .agg #[.int .i64 2, .int .i64 0, .int .u64 0, .int .i64 0, .int .i64 7, .int .i64 0, .int .i64 0, .slice none 0 0]) ∧ (b 2 = true → u2 = .agg #[.int .i64 1, .int .i64 0, .int .u64 1, .int .i64 0, .int .i64 0, .int .i64 0, .int .i64 0, .slice none 0 0]) ∧ (b 3 = true → (b 9 = false → ∃ g, u3 = .agg #[.int .i64 5, .int .i64 0, .int .u64 0, .int .i64 0, .int .i64 0, .int .i64 0, .int .i64 14, .slice (some ⟨g, 0, none⟩) 2 2] ∧ (binT 14 g (sigT 7 0) (numT 1)).In W9.heap.size W9)) ∧ (b 4 = true → u4 = .tuple #[yy2.val, .int .i64 0] ∧ nrmE yy2 = N1 ∧ yy2.Own W9 lo2 hi2 ∧ V3.heap.size ≤ lo2 ∧ hi2 ≤ W9.heap.size) ∧ (b 5 = true → u5 = .tuple #[yy2.val, .int .i64 0]) ∧ (b 6 = true → u6 = yy2.val) ∧ (b 7 = true → u7 = .int .i64 0) ∧ (b 8 = true → u8 = .pointer (some ⟨gg2, 0, none⟩) ∧ V3.heap.size ≤ gg2 ∧ gg2 < W9.heap.size ∧ (b 4 = true → gg2 < lo2 ∨ hi2 ≤ gg2) ∧ (b 9 = false → W9.heap[gg2]? = some (.cells #[.int .i64 0, .int .i64 0, .int .u64 0, .int .i64 0, .int .i64 0, .int .i64 0, .int .i64 0, .slice none 0 0] 30 (0, 0)))) ∧ (b 9 = true → W9.heap[gg2]? = some (.cells yy2.cells.toArray 30 (0, 0))) ∧ (b 10 = true → u10 = .int .i64 0)) (by kernel_rfl) (by kernel_rfl) ?_ ?_ ?_
  · refine ⟨undef, undef, undef, undef, undef, undef, undef, undef, undef, undef, undef, zeroE, 0, 0, 0, rfl, below_drew' (Below.refl _ _), fun h => (by cases h), fun h => (by cases h), fun h => (by cases h), fun h => (by cases h), fun h => (by cases h), fun h => (by cases h), fun h => (by cases h), fun h => (by cases h), fun h => (by cases h), fun h => (by cases h), fun h => (by cases h)⟩
  · refine ⟨⟨rfl, ?_⟩, ⟨⟨rfl, ?_⟩, ⟨⟨rfl, ?_⟩, ⟨⟨rfl, ?_⟩, ⟨⟨rfl, ?_⟩, ⟨⟨rfl, ?_⟩, ⟨⟨rfl, ?_⟩, ⟨⟨rfl, ?_⟩, ⟨⟨rfl, ?_⟩, ⟨⟨rfl, ?_⟩, ⟨⟨rfl, ?_⟩, trivial⟩⟩⟩⟩⟩⟩⟩⟩⟩⟩⟩
    · intro b a W9 hbk hd hcl hJ K hK
      obtain ⟨u0, u1, u2, u3, u4, u5, u6, u7, u8, u9, u10, yy2, lo2, hi2, gg2, rfl, hC, f0, f1, f2, f3, f4, f5, f6, f7, f8, f9, f10⟩ := hJ
      obtain ⟨z0, z1, z2⟩ := opq3 (block_kept HD0.out.2.1 hC)
      go_simp
      exact hK _ _ ⟨_, _, _, _, _, _, _, _, _, undef, _, yy2, lo2, hi2, gg2, rfl, hC, (fun _ => rfl), (f1), (f2), (f3), (f4), (f5), (f6), (f7), (f8), (f9), (f10)⟩
    · intro b a W9 hbk hd hcl hJ K hK
      obtain ⟨u0, u1, u2, u3, u4, u5, u6, u7, u8, u9, u10, yy2, lo2, hi2, gg2, rfl, hC, f0, f1, f2, f3, f4, f5, f6, f7, f8, f9, f10⟩ := hJ
      go_simp
      refine (sig_any 7 0 W9).mono ?_
      rintro e W8 ⟨rfl, hb⟩
      have hC' := hC.trans (hb.mono hC.size)
      exact hK _ _ ⟨_, _, _, _, _, _, _, _, _, undef, _, yy2, lo2, hi2, gg2, rfl, hC', (f0), (fun _ => rfl), (f2), (fun h => (keepF3 (k := fun g => .agg #[.int .i64 5, .int .i64 0, .int .u64 0, .int .i64 0, .int .i64 0, .int .i64 0, .int .i64 14, .slice (some ⟨g, 0, none⟩) 2 2]) (T := fun g => (binT 14 g (sigT 7 0) (numT 1))) (f3 h) hb)), (fun h => (keepF4 (f4 h) hb)), (f5), (f6), (f7), (fun h => (keepF8 (f8 h) hb)), (fun h => (block_kept (f9 h) hb)), (f10)⟩
    · intro b a W9 hbk hd hcl hJ K hK
      obtain ⟨u0, u1, u2, u3, u4, u5, u6, u7, u8, u9, u10, yy2, lo2, hi2, gg2, rfl, hC, f0, f1, f2, f3, f4, f5, f6, f7, f8, f9, f10⟩ := hJ
      go_simp
      refine (lnum 1 W9).mono ?_
      rintro e W8 ⟨rfl, hb⟩
      have hC' := hC.trans (hb.mono hC.size)
      exact hK _ _ ⟨_, _, _, _, _, _, _, _, _, undef, _, yy2, lo2, hi2, gg2, rfl, hC', (f0), (f1), (fun _ => rfl), (fun h => (keepF3 (k := fun g => .agg #[.int .i64 5, .int .i64 0, .int .u64 0, .int .i64 0, .int .i64 0, .int .i64 0, .int .i64 14, .slice (some ⟨g, 0, none⟩) 2 2]) (T := fun g => (binT 14 g (sigT 7 0) (numT 1))) (f3 h) hb)), (fun h => (keepF4 (f4 h) hb)), (f5), (f6), (f7), (fun h => (keepF8 (f8 h) hb)), (fun h => (block_kept (f9 h) hb)), (f10)⟩
    · intro b a W9 hbk hd hcl hJ K hK
      obtain ⟨u0, u1, u2, u3, u4, u5, u6, u7, u8, u9, u10, yy2, lo2, hi2, gg2, rfl, hC, f0, f1, f2, f3, f4, f5, f6, f7, f8, f9, f10⟩ := hJ
      have d1 := f1 (hd ⟨1, .data⟩ (by simp) rfl)
      have d2 := f2 (hd ⟨2, .data⟩ (by simp) rfl)
      subst d1
      subst d2
      go_simp
      refine (lbin_1 W9).mono ?_
      rintro e W8 ⟨g', rfl, hi2', hb⟩
      have hC' := hC.trans (hb.mono hC.size)
      exact hK _ _ ⟨_, _, _, _, _, _, _, _, _, undef, _, yy2, lo2, hi2, gg2, rfl, hC', (f0), (f1), (f2), (fun _ => fun _ => ⟨g', rfl, hi2'⟩), (fun h => (keepF4 (f4 h) hb)), (f5), (f6), (f7), (fun h => (keepF8 (f8 h) hb)), (fun h => (block_kept (f9 h) hb)), (f10)⟩
    · intro b a W9 hbk hd hcl hJ K hK
      obtain ⟨u0, u1, u2, u3, u4, u5, u6, u7, u8, u9, u10, yy2, lo2, hi2, gg2, rfl, hC, f0, f1, f2, f3, f4, f5, f6, f7, f8, f9, f10⟩ := hJ
      have d0 := f0 (hd ⟨0, .data⟩ (by simp) rfl)
      have d3 := f3 (hd ⟨3, .data⟩ (by simp) rfl)
      have n5 := (hcl.no 5 _ rfl ⟨4, .data⟩ (by simp) rfl rfl hbk)
      have n6 := (hcl.no 6 _ rfl ⟨5, .data⟩ (by simp) rfl rfl n5)
      have n9 := (hcl.no 9 _ rfl ⟨6, .data⟩ (by simp) rfl rfl n6)
      obtain ⟨g', hg', hi2'⟩ := d3 n9
      subst hg'
      subst d0
      go_simp
      refine (lexpr (T := N1) (F := 0) (sigT_wf _ _) (numT_wf _ (by decide)) (by simp [binT, sigT, numT, ET.bk, ET.bkL]) (ex_1 g').2 (ex_1 g').1 W9 (HD0.out.2.2.2.keep hC) (InRow.less hC.size (fun _ _ h => h) (GsIn.keep (Below.keptTo hC (Nat.le_refl _)) HD0.out.2.2.1)) hi2').mono ?_
      rintro e W8 ⟨y', rfl, hyn, hyo, hb⟩
      have hC' := hC.trans (hb.mono hC.size)
      exact hK _ _ ⟨_, _, _, _, _, _, _, _, _, undef, _, y', W9.heap.size, W8.heap.size, gg2, rfl, hC', (f0), (f1), (f2), (fun h => (keepF3 (k := fun g => .agg #[.int .i64 5, .int .i64 0, .int .u64 0, .int .i64 0, .int .i64 0, .int .i64 0, .int .i64 14, .slice (some ⟨g, 0, none⟩) 2 2]) (T := fun g => (binT 14 g (sigT 7 0) (numT 1))) (f3 h) hb)), (fun _ => ⟨rfl, hyn, hyo, hC.size, Nat.le_refl _⟩), (fun h => by rw [show b 5 = true from h] at n5; cases n5), (fun h => by rw [show b 6 = true from h] at n6; cases n6), (f7), (fun h => keepF8 (r := (_ → _ ∨ _)) ⟨(f8 h).1, (f8 h).2.1, (f8 h).2.2.1, fun _ => Or.inl (f8 h).2.2.1, (f8 h).2.2.2.2⟩ hb), (fun h => by rw [show b 9 = true from h] at n9; cases n9), (f10)⟩
    · intro b a W9 hbk hd hcl hJ K hK
      obtain ⟨u0, u1, u2, u3, u4, u5, u6, u7, u8, u9, u10, yy2, lo2, hi2, gg2, rfl, hC, f0, f1, f2, f3, f4, f5, f6, f7, f8, f9, f10⟩ := hJ
      have d4 := f4 (hd ⟨4, .data⟩ (by simp) rfl)
      obtain ⟨rfl, d4r⟩ := d4
      go_simp
      exact hK _ _ ⟨_, _, _, _, _, _, _, _, _, undef, _, yy2, lo2, hi2, gg2, rfl, hC, (f0), (f1), (f2), (f3), (f4), (fun _ => rfl), (f6), (f7), (f8), (f9), (f10)⟩
    · intro b a W9 hbk hd hcl hJ K hK
      obtain ⟨u0, u1, u2, u3, u4, u5, u6, u7, u8, u9, u10, yy2, lo2, hi2, gg2, rfl, hC, f0, f1, f2, f3, f4, f5, f6, f7, f8, f9, f10⟩ := hJ
      have d5 := f5 (hd ⟨5, .data⟩ (by simp) rfl)
      subst d5
      go_simp
      exact hK _ _ ⟨_, _, _, _, _, _, _, _, _, undef, _, yy2, lo2, hi2, gg2, rfl, hC, (f0), (f1), (f2), (f3), (f4), (f5), (fun _ => rfl), (f7), (f8), (f9), (f10)⟩
    · intro b a W9 hbk hd hcl hJ K hK
      obtain ⟨u0, u1, u2, u3, u4, u5, u6, u7, u8, u9, u10, yy2, lo2, hi2, gg2, rfl, hC, f0, f1, f2, f3, f4, f5, f6, f7, f8, f9, f10⟩ := hJ
      have d5 := f5 (hd ⟨5, .data⟩ (by simp) rfl)
      subst d5
      go_simp
      exact hK _ _ ⟨_, _, _, _, _, _, _, _, _, undef, _, yy2, lo2, hi2, gg2, rfl, hC, (f0), (f1), (f2), (f3), (f4), (f5), (f6), (fun _ => rfl), (f8), (f9), (f10)⟩
    · intro b a W9 hbk hd hcl hJ K hK
      obtain ⟨u0, u1, u2, u3, u4, u5, u6, u7, u8, u9, u10, yy2, lo2, hi2, gg2, rfl, hC, f0, f1, f2, f3, f4, f5, f6, f7, f8, f9, f10⟩ := hJ
      have n9 := (hcl.no 9 _ rfl ⟨8, .data⟩ (by simp) rfl rfl hbk)
      have hb : Below W9.heap.size W9 (W9.alloc (.cells #[.int .i64 0, .int .i64 0, .int .u64 0, .int .i64 0, .int .i64 0, .int .i64 0, .int .i64 0, .slice none 0 0] 30 (0, 0))) := (Below.refl _ _).alloc (Nat.le_refl _) _
      have hC' := hC.trans (hb.mono hC.size)
      go_simp
      exact hK _ _ ⟨_, _, _, _, _, _, _, _, _, undef, _, yy2, lo2, hi2, W9.heap.size, rfl, hC', (f0), (f1), (f2), (fun h => (keepF3 (k := fun g => .agg #[.int .i64 5, .int .i64 0, .int .u64 0, .int .i64 0, .int .i64 0, .int .i64 0, .int .i64 14, .slice (some ⟨g, 0, none⟩) 2 2]) (T := fun g => (binT 14 g (sigT 7 0) (numT 1))) (f3 h) hb)), (fun h => (keepF4 (f4 h) hb)), (f5), (f6), (f7), (fun _ => ⟨rfl, hC.size, by rw [World.size_alloc]; exact Nat.lt_succ_self _, fun h => Or.inr (f4 h).2.2.2.2, fun _ => World.alloc_heap_new W9 _⟩), (fun h => by rw [show b 9 = true from h] at n9; cases n9), (f10)⟩
    · intro b a W9 hbk hd hcl hJ K hK
      obtain ⟨u0, u1, u2, u3, u4, u5, u6, u7, u8, u9, u10, yy2, lo2, hi2, gg2, rfl, hC, f0, f1, f2, f3, f4, f5, f6, f7, f8, f9, f10⟩ := hJ
      have d8 := f8 (hd ⟨8, .data⟩ (by simp) rfl)
      have d6 := f6 (hd ⟨6, .data⟩ (by simp) rfl)
      have d4 := f4 (hd ⟨4, .phase⟩ (by simp) rfl)
      obtain ⟨rfl, k1, k2, k3, k4⟩ := d8
      subst d6
      obtain ⟨rfl, j1, j2, j3, j4⟩ := d4
      obtain ⟨op7, wd7, v7, sg7, uh7, ul7, xn7, xa7, xc7, xl7⟩ := yy2
      have RY : RowM W9 gg2 ([] ++ ([.int .i64 0, .int .i64 0, .int .u64 0, .int .i64 0, .int .i64 0, .int .i64 0, .int .i64 0, .slice none 0 0] ++ [])) := k4 hbk
      obtain ⟨y0, y1, y2, y3, y4, y5, y6, y7⟩ := RowM.cells RY 0 rfl
      obtain ⟨p0, p1, p2, p3, p4, p5, p6, p7⟩ := RowM.thaw RY 0
      have RZ := RowM.put RY 0 rfl (.int .i64 op7) (.int .i64 wd7) (.int .u64 (v7 : Int)) (.int .i64 sg7) (.int .i64 uh7) (.int .i64 ul7) (.int .i64 xn7) (.slice xa7 xl7.length xc7)
      have ho := fun k hk => put_other W9 gg2 0 (.int .i64 op7) (.int .i64 wd7) (.int .u64 (v7 : Int)) (.int .i64 sg7) (.int .i64 uh7) (.int .i64 ul7) (.int .i64 xn7) (.slice xa7 xl7.length xc7) k hk
      have hC' := below_put hC k1 0 (.int .i64 op7) (.int .i64 wd7) (.int .u64 (v7 : Int)) (.int .i64 sg7) (.int .i64 uh7) (.int .i64 ul7) (.int .i64 xn7) (.slice xa7 xl7.length xc7)
      simp only [Nat.zero_add] at y1 y2 y3 y4 y5 y6 y7 p1 p2 p3 p4 p5 p6 p7 RZ ho hC'
      obtain ⟨W8, hW8⟩ : ∃ W8, ((((((((W9.setCell ⟨gg2, 0, none⟩ (.int .i64 op7)).setCell ⟨gg2, 1, none⟩ (.int .i64 wd7)).setCell ⟨gg2, 2, none⟩ (.int .u64 (v7 : Int))).setCell ⟨gg2, 3, none⟩ (.int .i64 sg7)).setCell ⟨gg2, 4, none⟩ (.int .i64 uh7)).setCell ⟨gg2, 5, none⟩ (.int .i64 ul7)).setCell ⟨gg2, 6, none⟩ (.int .i64 xn7)).setCell ⟨gg2, 7, none⟩ (.slice xa7 xl7.length xc7)) = W8 := ⟨_, rfl⟩
      have hsz : W8.heap.size = W9.heap.size := by rw [← hW8]; simp only [World.size_setCell]
      rw [hW8] at RZ hC'
      simp only [hW8] at ho
      have k3' := k3 (hd ⟨4, .phase⟩ (by simp) rfl)
      have hown := ET.Own.keep (ET.mk op7 wd7 v7 sg7 uh7 ul7 xn7 xa7 xc7 xl7) lo2 hi2 (fun k h1 h2 => ho k (by omega)) j2
      simp only [ET.val, ET.cells]
      go_simp
      (try rw [hW8])
      exact hK _ _ ⟨_, _, _, _, _, _, _, _, _, undef, _, (ET.mk op7 wd7 v7 sg7 uh7 ul7 xn7 xa7 xc7 xl7), lo2, hi2, gg2, rfl, hC', (f0), (f1), (f2), (fun _ h => by cases h), (fun _ => ⟨rfl, j1, hown, j3, by rw [hsz]; exact j4⟩), (f5), (f6), (f7), (fun _ => ⟨rfl, k1, by rw [hsz]; exact k2, fun _ => k3', fun h => by cases h⟩), (fun _ => RZ), (f10)⟩
    · intro b a W9 hbk hd hcl hJ K hK
      obtain ⟨u0, u1, u2, u3, u4, u5, u6, u7, u8, u9, u10, yy2, lo2, hi2, gg2, rfl, hC, f0, f1, f2, f3, f4, f5, f6, f7, f8, f9, f10⟩ := hJ
      have d7 := f7 (hd ⟨7, .data⟩ (by simp) rfl)
      subst d7
      go_simp
      exact hK _ _ ⟨_, _, _, _, _, _, _, _, _, undef, _, yy2, lo2, hi2, gg2, rfl, hC, (f0), (f1), (f2), (f3), (f4), (f5), (f6), (f7), (f8), (f9), (fun _ => rfl)⟩
  · intro b a V4 hb hJ
    obtain ⟨p0, p1, p2, p3, p4, p5, p6, p7, p8, p9, p10, yy2, lo2, hi2, gg2, rfl, hC, f0, f1, f2, f3, f4, f5, f6, f7, f8, f9, f10⟩ := hJ
    replace f0 := f0 (hb 0 (by decide))
    replace f1 := f1 (hb 1 (by decide))
    replace f2 := f2 (hb 2 (by decide))
    replace f3 := f3 (hb 3 (by decide))
    replace f4 := f4 (hb 4 (by decide))
    replace f5 := f5 (hb 5 (by decide))
    replace f6 := f6 (hb 6 (by decide))
    replace f7 := f7 (hb 7 (by decide))
    replace f8 := f8 (hb 8 (by decide))
    replace f9 := f9 (hb 9 (by decide))
    replace f10 := f10 (hb 10 (by decide))
    obtain ⟨rfl, k1, k2, k3, k4⟩ := f8
    subst f10
    obtain ⟨hp4, j1, j2, j3, j4⟩ := f4
    clear hp4
    have HY : Hid (V4.heap[gg2]? = some (.cells yy2.cells.toArray 30 (0, 0)) ∧ nrmE yy2 = N1 ∧ yy2.In V4.heap.size V4) := Lib.hid ⟨f9, j1, ET.In.less j4 _ (j2.inn _ _ _)⟩
    have HD1 : Hid (Below w.heap.size w V4 ∧ V4.heap[gd]? = some (.cells #[.slice (some ⟨gs, 0, none⟩) 1 1, .slice none 0 0, .slice none 0 0] 26 (0, 0)) ∧ GsIn V4.heap.size V4 oneG (some ⟨gs, 0, none⟩) ∧ EnvZ V4) := Lib.hid ⟨HD0.out.1.trans (hC.mono HD0.out.1.size), block_kept HD0.out.2.1 hC, InRow.less hC.size (fun _ _ h => h) (GsIn.keep (Below.keptTo hC (Nat.le_refl _)) HD0.out.2.2.1), HD0.out.2.2.2.keep hC⟩
    clear f0 f1 f2 f3 f5 f6 f7 f9 hC HD0 k1 k2 k3 k4 j1 j2 j3 j4
    go_upto_region 3 with (fail)
    refine wp_region_inv (fun (b : Nat → Bool) (a : Act) (W9 : World) => ∃ (u0 u1 u2 u3 u4 u5 u6 u7 u8 u9 u10 : Value) (yy3 : ET) (lo3 hi3 gg3 : Nat), a = { tmps := #[.bool false, .pointer (some ⟨gd, 0, none⟩), .pointer (some ⟨gg2, 0, none⟩), .int .i64 0, u8, u10, undef, undef, undef, undef, .agg #[.slice (some ⟨gs, 0, none⟩) 1 1, .slice none 0 0, .slice none 0 0], p5, p0, p1, p2, p3, p4, p6, p7, u5, u0, u1, u2, u3, u4, u6, u7, undef, undef, undef, undef, undef, undef, undef, undef, undef, undef, undef, undef, undef, undef, undef, undef, undef, undef, undef, undef, undef, undef, undef, undef, undef, undef, undef, undef, undef, undef, undef, undef, undef, undef, undef, undef, undef, undef, undef, undef, undef, undef, undef, undef, undef, undef, undef, undef, undef, undef, undef, undef, undef, undef, undef, undef, undef, undef, undef, undef, undef, undef, undef, undef, undef, undef, undef, undef, undef, undef, undef, undef, undef, undef, undef, undef, undef, undef, undef, undef, undef, undef, undef], defers := [] } ∧ (Below V4.heap.size V4 W9) ∧ (b 0 = true → u0 = .agg #[.slice (some ⟨gs, 0, none⟩) 1 1, .slice none 0 0, .slice none 0 0]) ∧ (b 1 = true → u1 = .agg #[.int .i64 2, .int .i64 0, .int .u64 0, .int .i64 0, .int .i64 7, .int .i64 0, .int .i64 0, .slice none 0 0]) ∧ (b 2 = true → u2 = .agg #[.int .i64 1, .int .i64 0, .int .u64 300, .int .i64 0, .int .i64 0, .int .i64 0, .int .i64 0, .slice none 0 0]) ∧ (b 3 = true → (b 9 = false → ∃ g, u3 = .agg #[.int .i64 5, .int .i64 0, .int .u64 0, .int .i64 0, .int .i64 0, .int .i64 0, .int .i64 19, .slice (some ⟨g, 0, none⟩) 2 2] ∧ (binT 19 g (sigT 7 0) (numT 300)).In W9.heap.size W9)) ∧ (b 4 = true → u4 = .tuple #[yy3.val, .int .i64 92] ∧ nrmE yy3 = (nrmE zeroE) ∧ yy3.Own W9 lo3 hi3 ∧ V4.heap.size ≤ lo3 ∧ hi3 ≤ W9.heap.size) ∧ (b 5 = true → u5 = .tuple #[yy3.val, .int .i64 92]) ∧ (b 6 = true → u6 = yy3.val) ∧ (b 7 = true → u7 = .int .i64 92) ∧ (b 8 = true → u8 = .pointer (some ⟨gg3, 0, none⟩) ∧ V4.heap.size ≤ gg3 ∧ gg3 < W9.heap.size ∧ (b 4 = true → gg3 < lo3 ∨ hi3 ≤ gg3) ∧ (b 9 = false → W9.heap[gg3]? = some (.cells #[.int .i64 0, .int .i64 0, .int .u64 0, .int .i64 0, .int .i64 0, .int .i64 0, .int .i64 0, .slice none 0 0] 30 (0, 0)))) ∧ (b 9 = true → W9.heap[gg3]? = some (.cells yy3.cells.toArray 30 (0, 0))) ∧ (b 10 = true → u10 = .int .i64 92)) (by kernel_rfl) (by kernel_rfl) ?_ ?_ ?_
    · refine ⟨undef, undef, undef, undef, undef, undef, undef, undef, undef, undef, undef, zeroE, 0, 0, 0, rfl, below_drew' (Below.refl _ _), fun h => (by cases h), fun h => (by cases h), fun h => (by cases h), fun h => (by cases h), fun h => (by cases h), fun h => (by cases h), fun h => (by cases h), fun h => (by cases h), fun h => (by cases h), fun h => (by cases h), fun h => (by cases h)⟩
    · refine ⟨⟨rfl, ?_⟩, ⟨⟨rfl, ?_⟩, ⟨⟨rfl, ?_⟩, ⟨⟨rfl, ?_⟩, ⟨⟨rfl, ?_⟩, ⟨⟨rfl, ?_⟩, ⟨⟨rfl, ?_⟩, ⟨⟨rfl, ?_⟩, ⟨⟨rfl, ?_⟩, ⟨⟨rfl, ?_⟩, ⟨⟨rfl, ?_⟩, trivial⟩⟩⟩⟩⟩⟩⟩⟩⟩⟩⟩
      · intro b a W9 hbk hd hcl hJ K hK
        obtain ⟨u0, u1, u2, u3, u4, u5, u6, u7, u8, u9, u10, yy3, lo3, hi3, gg3, rfl, hC, f0, f1, f2, f3, f4, f5, f6, f7, f8, f9, f10⟩ := hJ
        obtain ⟨z0, z1, z2⟩ := opq3 (block_kept HD1.out.2.1 hC)
        go_simp
        exact hK _ _ ⟨_, _, _, _, _, _, _, _, _, undef, _, yy3, lo3, hi3, gg3, rfl, hC, (fun _ => rfl), (f1), (f2), (f3), (f4), (f5), (f6), (f7), (f8), (f9), (f10)⟩
      · intro b a W9 hbk hd hcl hJ K hK
        obtain ⟨u0, u1, u2, u3, u4, u5, u6, u7, u8, u9, u10, yy3, lo3, hi3, gg3, rfl, hC, f0, f1, f2, f3, f4, f5, f6, f7, f8, f9, f10⟩ := hJ
        go_simp
        refine (sig_any 7 0 W9).mono ?_
        rintro e W8 ⟨rfl, hb⟩
        have hC' := hC.trans (hb.mono hC.size)
        exact hK _ _ ⟨_, _, _, _, _, _, _, _, _, undef, _, yy3, lo3, hi3, gg3, rfl, hC', (f0), (fun _ => rfl), (f2), (fun h => (keepF3 (k := fun g => .agg #[.int .i64 5, .int .i64 0, .int .u64 0, .int .i64 0, .int .i64 0, .int .i64 0, .int .i64 19, .slice (some ⟨g, 0, none⟩) 2 2]) (T := fun g => (binT 19 g (sigT 7 0) (numT 300))) (f3 h) hb)), (fun h => (keepF4 (f4 h) hb)), (f5), (f6), (f7), (fun h => (keepF8 (f8 h) hb)), (fun h => (block_kept (f9 h) hb)), (f10)⟩
      · intro b a W9 hbk hd hcl hJ K hK
        obtain ⟨u0, u1, u2, u3, u4, u5, u6, u7, u8, u9, u10, yy3, lo3, hi3, gg3, rfl, hC, f0, f1, f2, f3, f4, f5, f6, f7, f8, f9, f10⟩ := hJ
        go_simp
        refine (lnum 300 W9).mono ?_
        rintro e W8 ⟨rfl, hb⟩
        have hC' := hC.trans (hb.mono hC.size)
        exact hK _ _ ⟨_, _, _, _, _, _, _, _, _, undef, _, yy3, lo3, hi3, gg3, rfl, hC', (f0), (f1), (fun _ => rfl), (fun h => (keepF3 (k := fun g => .agg #[.int .i64 5, .int .i64 0, .int .u64 0, .int .i64 0, .int .i64 0, .int .i64 0, .int .i64 19, .slice (some ⟨g, 0, none⟩) 2 2]) (T := fun g => (binT 19 g (sigT 7 0) (numT 300))) (f3 h) hb)), (fun h => (keepF4 (f4 h) hb)), (f5), (f6), (f7), (fun h => (keepF8 (f8 h) hb)), (fun h => (block_kept (f9 h) hb)), (f10)⟩
      · intro b a W9 hbk hd hcl hJ K hK
        obtain ⟨u0, u1, u2, u3, u4, u5, u6, u7, u8, u9, u10, yy3, lo3, hi3, gg3, rfl, hC, f0, f1, f2, f3, f4, f5, f6, f7, f8, f9, f10⟩ := hJ
        have d1 := f1 (hd ⟨1, .data⟩ (by simp) rfl)
        have d2 := f2 (hd ⟨2, .data⟩ (by simp) rfl)
        subst d1
        subst d2
        go_simp
        refine (lbin_2 W9).mono ?_
        rintro e W8 ⟨g', rfl, hi3', hb⟩
        have hC' := hC.trans (hb.mono hC.size)
        exact hK _ _ ⟨_, _, _, _, _, _, _, _, _, undef, _, yy3, lo3, hi3, gg3, rfl, hC', (f0), (f1), (f2), (fun _ => fun _ => ⟨g', rfl, hi3'⟩), (fun h => (keepF4 (f4 h) hb)), (f5), (f6), (f7), (fun h => (keepF8 (f8 h) hb)), (fun h => (block_kept (f9 h) hb)), (f10)⟩
      · intro b a W9 hbk hd hcl hJ K hK
        obtain ⟨u0, u1, u2, u3, u4, u5, u6, u7, u8, u9, u10, yy3, lo3, hi3, gg3, rfl, hC, f0, f1, f2, f3, f4, f5, f6, f7, f8, f9, f10⟩ := hJ
        have d0 := f0 (hd ⟨0, .data⟩ (by simp) rfl)
        have d3 := f3 (hd ⟨3, .data⟩ (by simp) rfl)
        have n5 := (hcl.no 5 _ rfl ⟨4, .data⟩ (by simp) rfl rfl hbk)
        have n6 := (hcl.no 6 _ rfl ⟨5, .data⟩ (by simp) rfl rfl n5)
        have n9 := (hcl.no 9 _ rfl ⟨6, .data⟩ (by simp) rfl rfl n6)
        obtain ⟨g', hg', hi3'⟩ := d3 n9
        subst hg'
        subst d0
        go_simp
        refine (lexpr (T := (nrmE zeroE)) (F := 92) (sigT_wf _ _) (numT_wf _ (by decide)) (by simp [binT, sigT, numT, ET.bk, ET.bkL]) (ex_2 g').2 (ex_2 g').1 W9 (HD1.out.2.2.2.keep hC) (InRow.less hC.size (fun _ _ h => h) (GsIn.keep (Below.keptTo hC (Nat.le_refl _)) HD1.out.2.2.1)) hi3').mono ?_
        rintro e W8 ⟨y', rfl, hyn, hyo, hb⟩
        have hC' := hC.trans (hb.mono hC.size)
        exact hK _ _ ⟨_, _, _, _, _, _, _, _, _, undef, _, y', W9.heap.size, W8.heap.size, gg3, rfl, hC', (f0), (f1), (f2), (fun h => (keepF3 (k := fun g => .agg #[.int .i64 5, .int .i64 0, .int .u64 0, .int .i64 0, .int .i64 0, .int .i64 0, .int .i64 19, .slice (some ⟨g, 0, none⟩) 2 2]) (T := fun g => (binT 19 g (sigT 7 0) (numT 300))) (f3 h) hb)), (fun _ => ⟨rfl, hyn, hyo, hC.size, Nat.le_refl _⟩), (fun h => by rw [show b 5 = true from h] at n5; cases n5), (fun h => by rw [show b 6 = true from h] at n6; cases n6), (f7), (fun h => keepF8 (r := (_ → _ ∨ _)) ⟨(f8 h).1, (f8 h).2.1, (f8 h).2.2.1, fun _ => Or.inl (f8 h).2.2.1, (f8 h).2.2.2.2⟩ hb), (fun h => by rw [show b 9 = true from h] at n9; cases n9), (f10)⟩
      · intro b a W9 hbk hd hcl hJ K hK
        obtain ⟨u0, u1, u2, u3, u4, u5, u6, u7, u8, u9, u10, yy3, lo3, hi3, gg3, rfl, hC, f0, f1, f2, f3, f4, f5, f6, f7, f8, f9, f10⟩ := hJ
        have d4 := f4 (hd ⟨4, .data⟩ (by simp) rfl)
        obtain ⟨rfl, d4r⟩ := d4
        go_simp
        exact hK _ _ ⟨_, _, _, _, _, _, _, _, _, undef, _, yy3, lo3, hi3, gg3, rfl, hC, (f0), (f1), (f2), (f3), (f4), (fun _ => rfl), (f6), (f7), (f8), (f9), (f10)⟩
      · intro b a W9 hbk hd hcl hJ K hK
        obtain ⟨u0, u1, u2, u3, u4, u5, u6, u7, u8, u9, u10, yy3, lo3, hi3, gg3, rfl, hC, f0, f1, f2, f3, f4, f5, f6, f7, f8, f9, f10⟩ := hJ
        have d5 := f5 (hd ⟨5, .data⟩ (by simp) rfl)
        subst d5
        go_simp
        exact hK _ _ ⟨_, _, _, _, _, _, _, _, _, undef, _, yy3, lo3, hi3, gg3, rfl, hC, (f0), (f1), (f2), (f3), (f4), (f5), (fun _ => rfl), (f7), (f8), (f9), (f10)⟩
      · intro b a W9 hbk hd hcl hJ K hK
        obtain ⟨u0, u1, u2, u3, u4, u5, u6, u7, u8, u9, u10, yy3, lo3, hi3, gg3, rfl, hC, f0, f1, f2, f3, f4, f5, f6, f7, f8, f9, f10⟩ := hJ
        have d5 := f5 (hd ⟨5, .data⟩ (by simp) rfl)
        subst d5
        go_simp
        exact hK _ _ ⟨_, _, _, _, _, _, _, _, _, undef, _, yy3, lo3, hi3, gg3, rfl, hC, (f0), (f1), (f2), (f3), (f4), (f5), (f6), (fun _ => rfl), (f8), (f9), (f10)⟩
      · intro b a W9 hbk hd hcl hJ K hK
        obtain ⟨u0, u1, u2, u3, u4, u5, u6, u7, u8, u9, u10, yy3, lo3, hi3, gg3, rfl, hC, f0, f1, f2, f3, f4, f5, f6, f7, f8, f9, f10⟩ := hJ
        have n9 := (hcl.no 9 _ rfl ⟨8, .data⟩ (by simp) rfl rfl hbk)
        have hb : Below W9.heap.size W9 (W9.alloc (.cells #[.int .i64 0, .int .i64 0, .int .u64 0, .int .i64 0, .int .i64 0, .int .i64 0, .int .i64 0, .slice none 0 0] 30 (0, 0))) := (Below.refl _ _).alloc (Nat.le_refl _) _
        have hC' := hC.trans (hb.mono hC.size)
        go_simp
        exact hK _ _ ⟨_, _, _, _, _, _, _, _, _, undef, _, yy3, lo3, hi3, W9.heap.size, rfl, hC', (f0), (f1), (f2), (fun h => (keepF3 (k := fun g => .agg #[.int .i64 5, .int .i64 0, .int .u64 0, .int .i64 0, .int .i64 0, .int .i64 0, .int .i64 19, .slice (some ⟨g, 0, none⟩) 2 2]) (T := fun g => (binT 19 g (sigT 7 0) (numT 300))) (f3 h) hb)), (fun h => (keepF4 (f4 h) hb)), (f5), (f6), (f7), (fun _ => ⟨rfl, hC.size, by rw [World.size_alloc]; exact Nat.lt_succ_self _, fun h => Or.inr (f4 h).2.2.2.2, fun _ => World.alloc_heap_new W9 _⟩), (fun h => by rw [show b 9 = true from h] at n9; cases n9), (f10)⟩
      · intro b a W9 hbk hd hcl hJ K hK
        obtain ⟨u0, u1, u2, u3, u4, u5, u6, u7, u8, u9, u10, yy3, lo3, hi3, gg3, rfl, hC, f0, f1, f2, f3, f4, f5, f6, f7, f8, f9, f10⟩ := hJ
        have d8 := f8 (hd ⟨8, .data⟩ (by simp) rfl)
        have d6 := f6 (hd ⟨6, .data⟩ (by simp) rfl)
        have d4 := f4 (hd ⟨4, .phase⟩ (by simp) rfl)
        obtain ⟨rfl, k1, k2, k3, k4⟩ := d8
        subst d6
        obtain ⟨rfl, j1, j2, j3, j4⟩ := d4
        obtain ⟨op7, wd7, v7, sg7, uh7, ul7, xn7, xa7, xc7, xl7⟩ := yy3
        have RY : RowM W9 gg3 ([] ++ ([.int .i64 0, .int .i64 0, .int .u64 0, .int .i64 0, .int .i64 0, .int .i64 0, .int .i64 0, .slice none 0 0] ++ [])) := k4 hbk
        obtain ⟨y0, y1, y2, y3, y4, y5, y6, y7⟩ := RowM.cells RY 0 rfl
        obtain ⟨p0, p1, p2, p3, p4, p5, p6, p7⟩ := RowM.thaw RY 0
        have RZ := RowM.put RY 0 rfl (.int .i64 op7) (.int .i64 wd7) (.int .u64 (v7 : Int)) (.int .i64 sg7) (.int .i64 uh7) (.int .i64 ul7) (.int .i64 xn7) (.slice xa7 xl7.length xc7)
        have ho := fun k hk => put_other W9 gg3 0 (.int .i64 op7) (.int .i64 wd7) (.int .u64 (v7 : Int)) (.int .i64 sg7) (.int .i64 uh7) (.int .i64 ul7) (.int .i64 xn7) (.slice xa7 xl7.length xc7) k hk
        have hC' := below_put hC k1 0 (.int .i64 op7) (.int .i64 wd7) (.int .u64 (v7 : Int)) (.int .i64 sg7) (.int .i64 uh7) (.int .i64 ul7) (.int .i64 xn7) (.slice xa7 xl7.length xc7)
        simp only [Nat.zero_add] at y1 y2 y3 y4 y5 y6 y7 p1 p2 p3 p4 p5 p6 p7 RZ ho hC'
        obtain ⟨W8, hW8⟩ : ∃ W8, ((((((((W9.setCell ⟨gg3, 0, none⟩ (.int .i64 op7)).setCell ⟨gg3, 1, none⟩ (.int .i64 wd7)).setCell ⟨gg3, 2, none⟩ (.int .u64 (v7 : Int))).setCell ⟨gg3, 3, none⟩ (.int .i64 sg7)).setCell ⟨gg3, 4, none⟩ (.int .i64 uh7)).setCell ⟨gg3, 5, none⟩ (.int .i64 ul7)).setCell ⟨gg3, 6, none⟩ (.int .i64 xn7)).setCell ⟨gg3, 7, none⟩ (.slice xa7 xl7.length xc7)) = W8 := ⟨_, rfl⟩
        have hsz : W8.heap.size = W9.heap.size := by rw [← hW8]; simp only [World.size_setCell]
        rw [hW8] at RZ hC'
        simp only [hW8] at ho
        have k3' := k3 (hd ⟨4, .phase⟩ (by simp) rfl)
        have hown := ET.Own.keep (ET.mk op7 wd7 v7 sg7 uh7 ul7 xn7 xa7 xc7 xl7) lo3 hi3 (fun k h1 h2 => ho k (by omega)) j2
        simp only [ET.val, ET.cells]
        go_simp
        (try rw [hW8])
        exact hK _ _ ⟨_, _, _, _, _, _, _, _, _, undef, _, (ET.mk op7 wd7 v7 sg7 uh7 ul7 xn7 xa7 xc7 xl7), lo3, hi3, gg3, rfl, hC', (f0), (f1), (f2), (fun _ h => by cases h), (fun _ => ⟨rfl, j1, hown, j3, by rw [hsz]; exact j4⟩), (f5), (f6), (f7), (fun _ => ⟨rfl, k1, by rw [hsz]; exact k2, fun _ => k3', fun h => by cases h⟩), (fun _ => RZ), (f10)⟩
      · intro b a W9 hbk hd hcl hJ K hK
        obtain ⟨u0, u1, u2, u3, u4, u5, u6, u7, u8, u9, u10, yy3, lo3, hi3, gg3, rfl, hC, f0, f1, f2, f3, f4, f5, f6, f7, f8, f9, f10⟩ := hJ
        have d7 := f7 (hd ⟨7, .data⟩ (by simp) rfl)
        subst d7
        go_simp
        exact hK _ _ ⟨_, _, _, _, _, _, _, _, _, undef, _, yy3, lo3, hi3, gg3, rfl, hC, (f0), (f1), (f2), (f3), (f4), (f5), (f6), (f7), (f8), (f9), (fun _ => rfl)⟩
    · intro b a V5 hb hJ
      obtain ⟨q0, q1, q2, q3, q4, q5, q6, q7, q8, q9, q10, yy3, lo3, hi3, gg3, rfl, hC, f0, f1, f2, f3, f4, f5, f6, f7, f8, f9, f10⟩ := hJ
      replace f0 := f0 (hb 0 (by decide))
      replace f1 := f1 (hb 1 (by decide))
      replace f2 := f2 (hb 2 (by decide))
      replace f3 := f3 (hb 3 (by decide))
      replace f4 := f4 (hb 4 (by decide))
      replace f5 := f5 (hb 5 (by decide))
      replace f6 := f6 (hb 6 (by decide))
      replace f7 := f7 (hb 7 (by decide))
      replace f8 := f8 (hb 8 (by decide))
      replace f9 := f9 (hb 9 (by decide))
      replace f10 := f10 (hb 10 (by decide))
      obtain ⟨rfl, _⟩ := f8
      subst f10
      clear f4
      have HD2 : Hid (Below w.heap.size w V5 ∧ V5.heap[gd]? = some (.cells #[.slice (some ⟨gs, 0, none⟩) 1 1, .slice none 0 0, .slice none 0 0] 26 (0, 0)) ∧ GsIn V5.heap.size V5 oneG (some ⟨gs, 0, none⟩) ∧ EnvZ V5) := Lib.hid ⟨HD1.out.1.trans (hC.mono HD1.out.1.size), block_kept HD1.out.2.1 hC, InRow.less hC.size (fun _ _ h => h) (GsIn.keep (Below.keptTo hC (Nat.le_refl _)) HD1.out.2.2.1), HD1.out.2.2.2.keep hC⟩
      have HY4 : Hid (V5.heap[gg2]? = some (.cells yy2.cells.toArray 30 (0, 0)) ∧ nrmE yy2 = N1 ∧ yy2.In V5.heap.size V5) := Lib.hid ⟨block_kept HY.out.1 hC, HY.out.2.1, ET.In.less hC.size _ (HY.out.2.2.keep (Below.keptTo hC (Nat.le_refl _)))⟩
      clear f0 f1 f2 f3 f5 f6 f7 f9 hC HD1
      go_upto_region 4 with (fail)
      refine wp_region_inv (fun (b : Nat → Bool) (a : Act) (W9 : World) => ∃ (u0 u1 u2 u3 u4 u5 u6 u7 u8 u9 u10 : Value) (yy4 : ET) (lo4 hi4 gg4 : Nat), a = { tmps := #[.bool false, .pointer (some ⟨gd, 0, none⟩), .pointer (some ⟨gg2, 0, none⟩), .int .i64 0, .pointer (some ⟨gg3, 0, none⟩), .int .i64 92, u8, u10, undef, undef, .agg #[.slice (some ⟨gs, 0, none⟩) 1 1, .slice none 0 0, .slice none 0 0], p5, p0, p1, p2, p3, p4, p6, p7, q5, q0, q1, q2, q3, q4, q6, q7, u5, u0, u1, u2, u3, u4, u6, u7, undef, undef, undef, undef, undef, undef, undef, undef, undef, undef, undef, undef, undef, undef, undef, undef, undef, undef, undef, undef, undef, undef, undef, undef, undef, undef, undef, undef, undef, undef, undef, undef, undef, undef, undef, undef, undef, undef, undef, undef, undef, undef, undef, undef, undef, undef, undef, undef, undef, undef, undef, undef, undef, undef, undef, undef, undef, undef, undef, undef, undef, undef, undef, undef, undef, undef, undef, undef, undef, undef, undef, undef, undef, undef, undef], defers := [] } ∧ (Below V5.heap.size V5 W9) ∧ (b 0 = true → u0 = .agg #[.slice (some ⟨gs, 0, none⟩) 1 1, .slice none 0 0, .slice none 0 0]) ∧ (b 1 = true → u1 = .agg #[.int .i64 2, .int .i64 0, .int .u64 0, .int .i64 0, .int .i64 2, .int .i64 0, .int .i64 0, .slice none 0 0]) ∧ (b 2 = true → u2 = .agg #[.int .i64 2, .int .i64 0, .int .u64 0, .int .i64 0, .int .i64 7, .int .i64 0, .int .i64 0, .slice none 0 0]) ∧ (b 3 = true → (b 9 = false → ∃ g, u3 = .agg #[.int .i64 5, .int .i64 0, .int .u64 0, .int .i64 0, .int .i64 0, .int .i64 0, .int .i64 14, .slice (some ⟨g, 0, none⟩) 2 2] ∧ (binT 14 g (sigT 2 0) (sigT 7 0)).In W9.heap.size W9)) ∧ (b 4 = true → u4 = .tuple #[yy4.val, .int .i64 90] ∧ nrmE yy4 = (nrmE zeroE) ∧ yy4.Own W9 lo4 hi4 ∧ V5.heap.size ≤ lo4 ∧ hi4 ≤ W9.heap.size) ∧ (b 5 = true → u5 = .tuple #[yy4.val, .int .i64 90]) ∧ (b 6 = true → u6 = yy4.val) ∧ (b 7 = true → u7 = .int .i64 90) ∧ (b 8 = true → u8 = .pointer (some ⟨gg4, 0, none⟩) ∧ V5.heap.size ≤ gg4 ∧ gg4 < W9.heap.size ∧ (b 4 = true → gg4 < lo4 ∨ hi4 ≤ gg4) ∧ (b 9 = false → W9.heap[gg4]? = some (.cells #[.int .i64 0, .int .i64 0, .int .u64 0, .int .i64 0, .int .i64 0, .int .i64 0, .int .i64 0, .slice none 0 0] 30 (0, 0)))) ∧ (b 9 = true → W9.heap[gg4]? = some (.cells yy4.cells.toArray 30 (0, 0))) ∧ (b 10 = true → u10 = .int .i64 90)) (by kernel_rfl) (by kernel_rfl) ?_ ?_ ?_
      · refine ⟨undef, undef, undef, undef, undef, undef, undef, undef, undef, undef, undef, zeroE, 0, 0, 0, rfl, below_drew' (Below.refl _ _), fun h => (by cases h), fun h => (by cases h), fun h => (by cases h), fun h => (by cases h), fun h => (by cases h), fun h => (by cases h), fun h => (by cases h), fun h => (by cases h), fun h => (by cases h), fun h => (by cases h), fun h => (by cases h)⟩
      · refine ⟨⟨rfl, ?_⟩, ⟨⟨rfl, ?_⟩, ⟨⟨rfl, ?_⟩, ⟨⟨rfl, ?_⟩, ⟨⟨rfl, ?_⟩, ⟨⟨rfl, ?_⟩, ⟨⟨rfl, ?_⟩, ⟨⟨rfl, ?_⟩, ⟨⟨rfl, ?_⟩, ⟨⟨rfl, ?_⟩, ⟨⟨rfl, ?_⟩, trivial⟩⟩⟩⟩⟩⟩⟩⟩⟩⟩⟩
        · intro b a W9 hbk hd hcl hJ K hK
          obtain ⟨u0, u1, u2, u3, u4, u5, u6, u7, u8, u9, u10, yy4, lo4, hi4, gg4, rfl, hC, f0, f1, f2, f3, f4, f5, f6, f7, f8, f9, f10⟩ := hJ
          obtain ⟨z0, z1, z2⟩ := opq3 (block_kept HD2.out.2.1 hC)
          go_simp
          exact hK _ _ ⟨_, _, _, _, _, _, _, _, _, undef, _, yy4, lo4, hi4, gg4, rfl, hC, (fun _ => rfl), (f1), (f2), (f3), (f4), (f5), (f6), (f7), (f8), (f9), (f10)⟩
        · intro b a W9 hbk hd hcl hJ K hK
          obtain ⟨u0, u1, u2, u3, u4, u5, u6, u7, u8, u9, u10, yy4, lo4, hi4, gg4, rfl, hC, f0, f1, f2, f3, f4, f5, f6, f7, f8, f9, f10⟩ := hJ
          go_simp
          refine (sig_any 2 0 W9).mono ?_
          rintro e W8 ⟨rfl, hb⟩
          have hC' := hC.trans (hb.mono hC.size)
          exact hK _ _ ⟨_, _, _, _, _, _, _, _, _, undef, _, yy4, lo4, hi4, gg4, rfl, hC', (f0), (fun _ => rfl), (f2), (fun h => (keepF3 (k := fun g => .agg #[.int .i64 5, .int .i64 0, .int .u64 0, .int .i64 0, .int .i64 0, .int .i64 0, .int .i64 14, .slice (some ⟨g, 0, none⟩) 2 2]) (T := fun g => (binT 14 g (sigT 2 0) (sigT 7 0))) (f3 h) hb)), (fun h => (keepF4 (f4 h) hb)), (f5), (f6), (f7), (fun h => (keepF8 (f8 h) hb)), (fun h => (block_kept (f9 h) hb)), (f10)⟩
        · intro b a W9 hbk hd hcl hJ K hK
          obtain ⟨u0, u1, u2, u3, u4, u5, u6, u7, u8, u9, u10, yy4, lo4, hi4, gg4, rfl, hC, f0, f1, f2, f3, f4, f5, f6, f7, f8, f9, f10⟩ := hJ
          go_simp
          refine (sig_any 7 0 W9).mono ?_
          rintro e W8 ⟨rfl, hb⟩
          have hC' := hC.trans (hb.mono hC.size)
          exact hK _ _ ⟨_, _, _, _, _, _, _, _, _, undef, _, yy4, lo4, hi4, gg4, rfl, hC', (f0), (f1), (fun _ => rfl), (fun h => (keepF3 (k := fun g => .agg #[.int .i64 5, .int .i64 0, .int .u64 0, .int .i64 0, .int .i64 0, .int .i64 0, .int .i64 14, .slice (some ⟨g, 0, none⟩) 2 2]) (T := fun g => (binT 14 g (sigT 2 0) (sigT 7 0))) (f3 h) hb)), (fun h => (keepF4 (f4 h) hb)), (f5), (f6), (f7), (fun h => (keepF8 (f8 h) hb)), (fun h => (block_kept (f9 h) hb)), (f10)⟩
        · intro b a W9 hbk hd hcl hJ K hK
          obtain ⟨u0, u1, u2, u3, u4, u5, u6, u7, u8, u9, u10, yy4, lo4, hi4, gg4, rfl, hC, f0, f1, f2, f3, f4, f5, f6, f7, f8, f9, f10⟩ := hJ
          have d1 := f1 (hd ⟨1, .data⟩ (by simp) rfl)
          have d2 := f2 (hd ⟨2, .data⟩ (by simp) rfl)
          subst d1
          subst d2
          go_simp
          refine (lbin_3 W9).mono ?_
          rintro e W8 ⟨g', rfl, hi4', hb⟩
          have hC' := hC.trans (hb.mono hC.size)
          exact hK _ _ ⟨_, _, _, _, _, _, _, _, _, undef, _, yy4, lo4, hi4, gg4, rfl, hC', (f0), (f1), (f2), (fun _ => fun _ => ⟨g', rfl, hi4'⟩), (fun h => (keepF4 (f4 h) hb)), (f5), (f6), (f7), (fun h => (keepF8 (f8 h) hb)), (fun h => (block_kept (f9 h) hb)), (f10)⟩
        · intro b a W9 hbk hd hcl hJ K hK
          obtain ⟨u0, u1, u2, u3, u4, u5, u6, u7, u8, u9, u10, yy4, lo4, hi4, gg4, rfl, hC, f0, f1, f2, f3, f4, f5, f6, f7, f8, f9, f10⟩ := hJ
          have d0 := f0 (hd ⟨0, .data⟩ (by simp) rfl)
          have d3 := f3 (hd ⟨3, .data⟩ (by simp) rfl)
          have n5 := (hcl.no 5 _ rfl ⟨4, .data⟩ (by simp) rfl rfl hbk)
          have n6 := (hcl.no 6 _ rfl ⟨5, .data⟩ (by simp) rfl rfl n5)
          have n9 := (hcl.no 9 _ rfl ⟨6, .data⟩ (by simp) rfl rfl n6)
          obtain ⟨g', hg', hi4'⟩ := d3 n9
          subst hg'
          subst d0
          go_simp
          refine (lexpr (T := (nrmE zeroE)) (F := 90) (sigT_wf _ _) (sigT_wf _ _) (by simp [binT, sigT, numT, ET.bk, ET.bkL]) (ex_3 g').2 (ex_3 g').1 W9 (HD2.out.2.2.2.keep hC) (InRow.less hC.size (fun _ _ h => h) (GsIn.keep (Below.keptTo hC (Nat.le_refl _)) HD2.out.2.2.1)) hi4').mono ?_
          rintro e W8 ⟨y', rfl, hyn, hyo, hb⟩
          have hC' := hC.trans (hb.mono hC.size)
          exact hK _ _ ⟨_, _, _, _, _, _, _, _, _, undef, _, y', W9.heap.size, W8.heap.size, gg4, rfl, hC', (f0), (f1), (f2), (fun h => (keepF3 (k := fun g => .agg #[.int .i64 5, .int .i64 0, .int .u64 0, .int .i64 0, .int .i64 0, .int .i64 0, .int .i64 14, .slice (some ⟨g, 0, none⟩) 2 2]) (T := fun g => (binT 14 g (sigT 2 0) (sigT 7 0))) (f3 h) hb)), (fun _ => ⟨rfl, hyn, hyo, hC.size, Nat.le_refl _⟩), (fun h => by rw [show b 5 = true from h] at n5; cases n5), (fun h => by rw [show b 6 = true from h] at n6; cases n6), (f7), (fun h => keepF8 (r := (_ → _ ∨ _)) ⟨(f8 h).1, (f8 h).2.1, (f8 h).2.2.1, fun _ => Or.inl (f8 h).2.2.1, (f8 h).2.2.2.2⟩ hb), (fun h => by rw [show b 9 = true from h] at n9; cases n9), (f10)⟩
        · intro b a W9 hbk hd hcl hJ K hK
          obtain ⟨u0, u1, u2, u3, u4, u5, u6, u7, u8, u9, u10, yy4, lo4, hi4, gg4, rfl, hC, f0, f1, f2, f3, f4, f5, f6, f7, f8, f9, f10⟩ := hJ
          have d4 := f4 (hd ⟨4, .data⟩ (by simp) rfl)
          obtain ⟨rfl, d4r⟩ := d4
          go_simp
          exact hK _ _ ⟨_, _, _, _, _, _, _, _, _, undef, _, yy4, lo4, hi4, gg4, rfl, hC, (f0), (f1), (f2), (f3), (f4), (fun _ => rfl), (f6), (f7), (f8), (f9), (f10)⟩
        · intro b a W9 hbk hd hcl hJ K hK
          obtain ⟨u0, u1, u2, u3, u4, u5, u6, u7, u8, u9, u10, yy4, lo4, hi4, gg4, rfl, hC, f0, f1, f2, f3, f4, f5, f6, f7, f8, f9, f10⟩ := hJ
          have d5 := f5 (hd ⟨5, .data⟩ (by simp) rfl)
          subst d5
          go_simp
          exact hK _ _ ⟨_, _, _, _, _, _, _, _, _, undef, _, yy4, lo4, hi4, gg4, rfl, hC, (f0), (f1), (f2), (f3), (f4), (f5), (fun _ => rfl), (f7), (f8), (f9), (f10)⟩
        · intro b a W9 hbk hd hcl hJ K hK
          obtain ⟨u0, u1, u2, u3, u4, u5, u6, u7, u8, u9, u10, yy4, lo4, hi4, gg4, rfl, hC, f0, f1, f2, f3, f4, f5, f6, f7, f8, f9, f10⟩ := hJ
          have d5 := f5 (hd ⟨5, .data⟩ (by simp) rfl)
          subst d5
          go_simp
          exact hK _ _ ⟨_, _, _, _, _, _, _, _, _, undef, _, yy4, lo4, hi4, gg4, rfl, hC, (f0), (f1), (f2), (f3), (f4), (f5), (f6), (fun _ => rfl), (f8), (f9), (f10)⟩
        · intro b a W9 hbk hd hcl hJ K hK
          obtain ⟨u0, u1, u2, u3, u4, u5, u6, u7, u8, u9, u10, yy4, lo4, hi4, gg4, rfl, hC, f0, f1, f2, f3, f4, f5, f6, f7, f8, f9, f10⟩ := hJ
          have n9 := (hcl.no 9 _ rfl ⟨8, .data⟩ (by simp) rfl rfl hbk)
          have hb : Below W9.heap.size W9 (W9.alloc (.cells #[.int .i64 0, .int .i64 0, .int .u64 0, .int .i64 0, .int .i64 0, .int .i64 0, .int .i64 0, .slice none 0 0] 30 (0, 0))) := (Below.refl _ _).alloc (Nat.le_refl _) _
          have hC' := hC.trans (hb.mono hC.size)
          go_simp
          exact hK _ _ ⟨_, _, _, _, _, _, _, _, _, undef, _, yy4, lo4, hi4, W9.heap.size, rfl, hC', (f0), (f1), (f2), (fun h => (keepF3 (k := fun g => .agg #[.int .i64 5, .int .i64 0, .int .u64 0, .int .i64 0, .int .i64 0, .int .i64 0, .int .i64 14, .slice (some ⟨g, 0, none⟩) 2 2]) (T := fun g => (binT 14 g (sigT 2 0) (sigT 7 0))) (f3 h) hb)), (fun h => (keepF4 (f4 h) hb)), (f5), (f6), (f7), (fun _ => ⟨rfl, hC.size, by rw [World.size_alloc]; exact Nat.lt_succ_self _, fun h => Or.inr (f4 h).2.2.2.2, fun _ => World.alloc_heap_new W9 _⟩), (fun h => by rw [show b 9 = true from h] at n9; cases n9), (f10)⟩
        · intro b a W9 hbk hd hcl hJ K hK
          obtain ⟨u0, u1, u2, u3, u4, u5, u6, u7, u8, u9, u10, yy4, lo4, hi4, gg4, rfl, hC, f0, f1, f2, f3, f4, f5, f6, f7, f8, f9, f10⟩ := hJ
          have d8 := f8 (hd ⟨8, .data⟩ (by simp) rfl)
          have d6 := f6 (hd ⟨6, .data⟩ (by simp) rfl)
          have d4 := f4 (hd ⟨4, .phase⟩ (by simp) rfl)
          obtain ⟨rfl, k1, k2, k3, k4⟩ := d8
          subst d6
          obtain ⟨rfl, j1, j2, j3, j4⟩ := d4
          obtain ⟨op7, wd7, v7, sg7, uh7, ul7, xn7, xa7, xc7, xl7⟩ := yy4
          have RY : RowM W9 gg4 ([] ++ ([.int .i64 0, .int .i64 0, .int .u64 0, .int .i64 0, .int .i64 0, .int .i64 0, .int .i64 0, .slice none 0 0] ++ [])) := k4 hbk
          obtain ⟨y0, y1, y2, y3, y4, y5, y6, y7⟩ := RowM.cells RY 0 rfl
          obtain ⟨p0, p1, p2, p3, p4, p5, p6, p7⟩ := RowM.thaw RY 0
          have RZ := RowM.put RY 0 rfl (.int .i64 op7) (.int .i64 wd7) (.int .u64 (v7 : Int)) (.int .i64 sg7) (.int .i64 uh7) (.int .i64 ul7) (.int .i64 xn7) (.slice xa7 xl7.length xc7)
          have ho := fun k hk => put_other W9 gg4 0 (.int .i64 op7) (.int .i64 wd7) (.int .u64 (v7 : Int)) (.int .i64 sg7) (.int .i64 uh7) (.int .i64 ul7) (.int .i64 xn7) (.slice xa7 xl7.length xc7) k hk
          have hC' := below_put hC k1 0 (.int .i64 op7) (.int .i64 wd7) (.int .u64 (v7 : Int)) (.int .i64 sg7) (.int .i64 uh7) (.int .i64 ul7) (.int .i64 xn7) (.slice xa7 xl7.length xc7)
          simp only [Nat.zero_add] at y1 y2 y3 y4 y5 y6 y7 p1 p2 p3 p4 p5 p6 p7 RZ ho hC'
          obtain ⟨W8, hW8⟩ : ∃ W8, ((((((((W9.setCell ⟨gg4, 0, none⟩ (.int .i64 op7)).setCell ⟨gg4, 1, none⟩ (.int .i64 wd7)).setCell ⟨gg4, 2, none⟩ (.int .u64 (v7 : Int))).setCell ⟨gg4, 3, none⟩ (.int .i64 sg7)).setCell ⟨gg4, 4, none⟩ (.int .i64 uh7)).setCell ⟨gg4, 5, none⟩ (.int .i64 ul7)).setCell ⟨gg4, 6, none⟩ (.int .i64 xn7)).setCell ⟨gg4, 7, none⟩ (.slice xa7 xl7.length xc7)) = W8 := ⟨_, rfl⟩
          have hsz : W8.heap.size = W9.heap.size := by rw [← hW8]; simp only [World.size_setCell]
          rw [hW8] at RZ hC'
          simp only [hW8] at ho
          have k3' := k3 (hd ⟨4, .phase⟩ (by simp) rfl)
          have hown := ET.Own.keep (ET.mk op7 wd7 v7 sg7 uh7 ul7 xn7 xa7 xc7 xl7) lo4 hi4 (fun k h1 h2 => ho k (by omega)) j2
          simp only [ET.val, ET.cells]
          go_simp
          (try rw [hW8])
          exact hK _ _ ⟨_, _, _, _, _, _, _, _, _, undef, _, (ET.mk op7 wd7 v7 sg7 uh7 ul7 xn7 xa7 xc7 xl7), lo4, hi4, gg4, rfl, hC', (f0), (f1), (f2), (fun _ h => by cases h), (fun _ => ⟨rfl, j1, hown, j3, by rw [hsz]; exact j4⟩), (f5), (f6), (f7), (fun _ => ⟨rfl, k1, by rw [hsz]; exact k2, fun _ => k3', fun h => by cases h⟩), (fun _ => RZ), (f10)⟩
        · intro b a W9 hbk hd hcl hJ K hK
          obtain ⟨u0, u1, u2, u3, u4, u5, u6, u7, u8, u9, u10, yy4, lo4, hi4, gg4, rfl, hC, f0, f1, f2, f3, f4, f5, f6, f7, f8, f9, f10⟩ := hJ
          have d7 := f7 (hd ⟨7, .data⟩ (by simp) rfl)
          subst d7
          go_simp
          exact hK _ _ ⟨_, _, _, _, _, _, _, _, _, undef, _, yy4, lo4, hi4, gg4, rfl, hC, (f0), (f1), (f2), (f3), (f4), (f5), (f6), (f7), (f8), (f9), (fun _ => rfl)⟩
      · intro b a V6 hb hJ
        obtain ⟨r0, r1, r2, r3, r4, r5, r6, r7, r8, r9, r10, yy4, lo4, hi4, gg4, rfl, hC, f0, f1, f2, f3, f4, f5, f6, f7, f8, f9, f10⟩ := hJ
        replace f0 := f0 (hb 0 (by decide))
        replace f1 := f1 (hb 1 (by decide))
        replace f2 := f2 (hb 2 (by decide))
        replace f3 := f3 (hb 3 (by decide))
        replace f4 := f4 (hb 4 (by decide))
        replace f5 := f5 (hb 5 (by decide))
        replace f6 := f6 (hb 6 (by decide))
        replace f7 := f7 (hb 7 (by decide))
        replace f8 := f8 (hb 8 (by decide))
        replace f9 := f9 (hb 9 (by decide))
        replace f10 := f10 (hb 10 (by decide))
        obtain ⟨rfl, _⟩ := f8
        subst f10
        clear f4
        have HD3 : Hid (Below w.heap.size w V6 ∧ V6.heap[gd]? = some (.cells #[.slice (some ⟨gs, 0, none⟩) 1 1, .slice none 0 0, .slice none 0 0] 26 (0, 0)) ∧ GsIn V6.heap.size V6 oneG (some ⟨gs, 0, none⟩) ∧ EnvZ V6) := Lib.hid ⟨HD2.out.1.trans (hC.mono HD2.out.1.size), block_kept HD2.out.2.1 hC, InRow.less hC.size (fun _ _ h => h) (GsIn.keep (Below.keptTo hC (Nat.le_refl _)) HD2.out.2.2.1), HD2.out.2.2.2.keep hC⟩
        have HY5 : Hid (V6.heap[gg2]? = some (.cells yy2.cells.toArray 30 (0, 0)) ∧ nrmE yy2 = N1 ∧ yy2.In V6.heap.size V6) := Lib.hid ⟨block_kept HY4.out.1 hC, HY4.out.2.1, ET.In.less hC.size _ (HY4.out.2.2.keep (Below.keptTo hC (Nat.le_refl _)))⟩
        clear f0 f1 f2 f3 f5 f6 f7 f9 hC HD2
        obtain ⟨ya, yc, yp, yq, hys, hqw⟩ := y_shape HY5.out.2.1
        subst hys
        have hyi := HY5.out.2.2
        rw [ET.In_mk] at hyi
        obtain ⟨B, o, rfl, hB, hrq, _⟩ := InRow.at hyi (i := 1) (by simp)
        have hrq1 : V6.cell? ⟨B, o + 9, none⟩ = some (.int .i64 8) := by
          obtain ⟨op5, wd5, v5, sg5, uh5, ul5, xn5, xa5, xc5, xl5⟩ := yq
          have h9 : wd5 = 8 := hqw
          have h8 := hrq 1 _ rfl
          rw [h9] at h8
          exact h8
        obtain ⟨x0, x1, x2, x3, x4, x5, x6, x7⟩ := ope8 (show V6.heap[gg2]? = some (.cells #[.int .i64 5, .int .i64 8, .int .u64 0, .int .i64 0, .int .i64 0, .int .i64 0, .int .i64 14, .slice (some ⟨B, o, none⟩) 2 yc] 30 (0, 0)) from HY5.out.1)
        obtain ⟨z0, z1, z2⟩ := opq3 HD3.out.2.1
        have cz := Lib.hid (lsize gs V6 HD3.out.2.2.1)
        clear hyi hrq hqw
        go_wp2_with fail
        refine cz.out.mono ?_
        clear cz x0 x1 x2 x3 x4 x5 x6 x7 z0 z1 z2
        rintro e V7 ⟨sa, sc, rfl, hb7⟩
        obtain ⟨h8, hh8⟩ : ∃ h8, V7.heap.size = h8 := ⟨_, rfl⟩
        obtain ⟨VA, hVA⟩ : ∃ VA, V7.alloc (.cells #[.slice none 0 0, .slice none 0 0, .slice none 0 0] 26 (0, 0)) = VA := ⟨_, rfl⟩
        have hbA : Below V7.heap.size V7 VA := by rw [← hVA]; exact (Below.refl _ _).alloc (Nat.le_refl _) _
        have hrA : RowD VA h8 (.slice none 0 0) (.slice none 0 0) (.slice none 0 0) := by unfold RowD; rw [← hVA, ← hh8]; exact World.alloc_heap_new V7 _
        have hr8 := hrA.put (.slice sa 1 sc) (.slice none 0 0) (.slice none 0 0)
        have hb8 := below_put3 hbA (show V7.heap.size ≤ h8 by omega) (.slice sa 1 sc) (.slice none 0 0) (.slice none 0 0)
        obtain ⟨V8, hV8⟩ : ∃ V8, (((VA.setCell ⟨h8, 0, none⟩ (.slice sa 1 sc)).setCell ⟨h8, 1, none⟩ (.slice none 0 0)).setCell ⟨h8, 2, none⟩ (.slice none 0 0)) = V8 := ⟨_, rfl⟩
        rw [hV8] at hr8 hb8
        have hC := hb7.trans (hb8.mono hb7.size)
        have x0 := keep_cell hC hrq1
        obtain ⟨y0, y1, y2⟩ := opq3 (show VA.heap[h8]? = _ from hrA)
        obtain ⟨p0q, p1q, p2q⟩ := thaw3 (show VA.heap[h8]? = _ from hrA)
        have HD4 : Hid (Below w.heap.size w V8 ∧ V8.heap[gd]? = some (.cells #[.slice (some ⟨gs, 0, none⟩) 1 1, .slice none 0 0, .slice none 0 0] 26 (0, 0)) ∧ GsIn V8.heap.size V8 oneG (some ⟨gs, 0, none⟩) ∧ EnvZ V8) := Lib.hid ⟨HD3.out.1.trans (hC.mono HD3.out.1.size), block_kept HD3.out.2.1 hC, InRow.less hC.size (fun _ _ h => h) (GsIn.keep (Below.keptTo hC (Nat.le_refl _)) HD3.out.2.2.1), HD3.out.2.2.2.keep hC⟩
        have HY6 := Lib.hid (And.intro (block_kept HY5.out.1 hC) (And.intro HY5.out.2.1 (ET.In.less hC.size _ (HY5.out.2.2.keep (Below.keptTo hC (Nat.le_refl _))))))
        have HR8 := Lib.hid hr8
        have HX := Lib.hid x0
        clear hb7 hbA hrA hr8 hb8 hC hrq1 HD3 HY5 x0
        go_upto_region 8 with (fail)
        (try rw [hh8])
        (try rw [hVA])
        (try rw [hV8])
        clear hV8 hVA hh8 y0 y1 y2 p0q p1q p2q
        have hbg := fun (dq : Nat) (os : Array Obj) => below_regrown V8 dq os
        have hG := fun (dq : Nat) (os : Array Obj) => InRow.less (hbg dq os).size (fun _ _ h => h) (GsIn.keep (Below.keptTo (hbg dq os) (Nat.le_refl _)) HD4.out.2.2.1)
        have hY := fun (dq : Nat) (os : Array Obj) => ET.In.less (hbg dq os).size _ (HY6.out.2.2.keep (Below.keptTo (hbg dq os) (Nat.le_refl _)))
        have hZ := fun (dq : Nat) (os : Array Obj) => HD4.out.2.2.2.keep (hbg dq os)
        have hyb : (ET.mk 5 8 0 0 0 0 14 (some ⟨B, o, none⟩) yc [yp, yq]).bk ≤ 4500000 := by rw [bk_of_nrm (y := N1) (HY6.out.2.1.trans (by rfl))]; decide
        have hyw : (ET.mk 5 8 0 0 0 0 14 (some ⟨B, o, none⟩) yc [yp, yq]).Wf := by rw [← wf_nrm, HY6.out.2.1]; simp [N1, ET.wf_mk]
        have C1 := Lib.hid (fun (dq : Nat) (os : Array Obj) => lcheck gs (grow (redrawn V8 dq) os) (hG dq os))
        have C2 := Lib.hid (fun (dq : Nat) (os : Array Obj) => lcheckE (ck_1 HY6.out.2.1) hyb hyw gs (grow (redrawn V8 dq) os) (hZ dq os) (hG dq os) (hY dq os))
        have C3 := Lib.hid (fun (dq : Nat) (os : Array Obj) => lcheckE ck_2 (by decide) (numT_wf 1 (by decide)) gs (grow (redrawn V8 dq) os) (hZ dq os) (hG dq os) (leaf_in ..))
        have C4 := Lib.hid (fun (dq : Nat) (os : Array Obj) => lsameE (sameE_self (ET.mk 5 8 0 0 0 0 14 (some ⟨B, o, none⟩) yc [yp, yq])) hyb hyb (grow (redrawn V8 dq) os) (hY dq os) (hY dq os))
        have C5 := Lib.hid (fun (dq : Nat) (os : Array Obj) => lsameE (x := (ET.mk 5 8 0 0 0 0 14 (some ⟨B, o, none⟩) yc [yp, yq])) (y := numT 1) (r := false) (by rfl) hyb (by decide) (grow (redrawn V8 dq) os) (hY dq os) (leaf_in ..))
        have C6 := Lib.hid (fun (dq : Nat) (os : Array Obj) => lsame gs (grow (redrawn V8 dq) os) (hG dq os))
        have C7 := Lib.hid (fun (dq : Nat) (os : Array Obj) => lnum 1 (grow (redrawn V8 dq) os))
        obtain ⟨x0, x1, x2, x3, x4, x5, x6, x7⟩ := ope8 (show V8.heap[gg2]? = some (.cells #[.int .i64 5, .int .i64 8, .int .u64 0, .int .i64 0, .int .i64 0, .int .i64 0, .int .i64 14, .slice (some ⟨B, o, none⟩) 2 yc] 30 (0, 0)) from HY6.out.1)
        obtain ⟨z0, z1, z2⟩ := opq3 HD4.out.2.1
        obtain ⟨t0, t1, t2⟩ := opq3 (show V8.heap[h8]? = _ from HR8.out)
        have HB8 := Lib.hid HD4.out.1
        have x0R := cell_regrown x0
        have x1R := cell_regrown x1
        have x2R := cell_regrown x2
        have x3R := cell_regrown x3
        have x4R := cell_regrown x4
        have x5R := cell_regrown x5
        have x6R := cell_regrown x6
        have x7R := cell_regrown x7
        have z0R := cell_regrown z0
        have z1R := cell_regrown z1
        have z2R := cell_regrown z2
        have t0R := cell_regrown t0
        have t1R := cell_regrown t1
        have t2R := cell_regrown t2
        have xqR := cell_regrown HX.out
        simp only [numT, ET.val, ET.cells, List.length_nil, List.length_cons, Nat.zero_add, Nat.reduceAdd] at C2 C3 C4 C5 C7
        clear hbg hG hY hZ hyb hyw HD4 HY6 HR8 HX
        refine wp_region_quiet_below (by kernel_rfl) (by kernel_rfl) ?_
        repeat (go_big_quiet_step (first | (go_at_call 15; exact Calls.regrown_of (C1.out _ _)) | (go_at_call_of 12 (Value.agg #[Value.int .i64 1, Value.int .i64 0, Value.int .u64 1, Value.int .i64 0, Value.int .i64 0, Value.int .i64 0, Value.int .i64 0, Value.slice none 0 0]); exact Calls.regrown_of (C3.out _ _)) | (go_at_call 12; exact Calls.regrown_of (C2.out _ _)) | (go_at_call_of 21 (Value.agg #[Value.int .i64 1, Value.int .i64 0, Value.int .u64 1, Value.int .i64 0, Value.int .i64 0, Value.int .i64 0, Value.int .i64 0, Value.slice none 0 0]); exact Calls.regrown_of (C5.out _ _)) | (go_at_call 21; exact Calls.regrown_of (C4.out _ _)) | (go_at_call 22; exact Calls.regrown_of (C6.out _ _)) | (go_at_call 20; exact Calls.regrown_of (C7.out _ _))))
        refine wpQuiet_nil ?_
        intro _ hw'
        obtain ⟨⟨dq, osq⟩, hw''⟩ := hw'
        subst hw''
        have hbq := below_regrown V8 dq osq
        have HBQ := Lib.hid (HB8.out.trans (hbq.mono HB8.out.size))
        clear hbq
        go_wp2
        go_ret
        exact ⟨rfl, HBQ.out⟩
end Go.Proofs.YtbcgeglkmpcnpaaDoor
