/-
  SizedNumber: a number takes the width of its place.
-/
import Derived.Test.YtglpkfeokojdkaaDoorEyG
import Derived.Test.YtglpkfeokojdkaaDoorEzR
import Derived.Lib.ItoaNum
namespace Go.Proofs.YtglpkfeokojdkaaDoor
open Go Go.RowKit
set_option linter.unusedVariables false
set_option linter.unusedSimpArgs false
open Go.Sort

def numW (wd : Int) (v : Nat) : ET := .mk 1 wd v 0 0 0 0 none 0 []
theorem num_expr (v : Nat) (wd k : Int) (hk : 1 ≤ k ∧ k ≤ 64) (hw : wd = 0 ∨ (isW wd = true ∧ holdsE wd v = true)) : exprS oneG (numW wd v) k = if wd = 0 ∨ wd = k then (if holdsE k v = true then (numW k v, 0) else (zeroE, 92)) else (zeroE, 90) := by
  have h1 : sigsMay oneG = true := by decide
  have h2 : isW k = true := by unfold isW; simp; omega
  have h3 : mayE oneG (numW wd v) = true := by
    have h4 : numFits 1 wd v = true := by
      unfold numFits
      rw [if_pos rfl]
      rcases hw with rfl | ⟨a, b⟩
      · rfl
      · simp [a, b]
    rw [numW, mayE, h4]
    rfl
  have h5 : okB 0 1 (numW wd v).sz (numW wd v).dp = true := by
    have e1 : (numW wd v).sz = 1 := rfl
    have e2 : (numW wd v).dp = 1 := rfl
    rw [e1, e2]; decide
  have hk0 : k ≠ 0 := by omega
  have h6 : szE (numW wd v) k 0 = (numW k v, wantF (wantF 0 (wd == 0 || wd == k) 90) (holdsE k v) 92) := by
    have hu : uW (.mk 1 wd v 0 0 0 0 none 0 []) k = k := uW_of _ hk0
    have ho : ow (.mk 1 wd v 0 0 0 0 none 0 []) = wd := by rw [ow]; simp [owF]
    rw [numW, szE_mk, hu, ho]
    simp [szL, preF, postF, numW]
  unfold exprS
  rw [if_pos ⟨h1, Or.inr h2, h3⟩, if_pos h5, h6]
  simp only
  by_cases c1 : wd = 0 ∨ wd = k
  · have e1 : (wd == 0 || wd == k) = true := by simpa using c1
    rw [if_pos c1, e1]
    cases holdsE k v <;> simp [wantF]
  · have e1 : (wd == 0 || wd == k) = false := by simpa using c1
    rw [if_neg c1, e1]
    cases holdsE k v <;> simp [wantF]
theorem holds_pow (v k : Nat) (hv : v < 18446744073709551616) (hk : k ≤ 64) : holdsE (k : Int) v = decide (v < 2 ^ k) := by
  unfold holdsE
  rw [Bool.eq_iff_iff, decide_eq_true_eq, decide_eq_true_eq]
  constructor
  · intro h
    by_cases h0 : v = 0
    · subst h0; exact Nat.two_pow_pos k
    · have h1 := (Lib.bitLenAux_bounds 64 v hv h0).2.2
      have h2 : Lib.bitLenAux 64 v ≤ k := by have h3 : Lib.bitLen v ≤ k := by omega
                                             exact h3
      exact Nat.lt_of_lt_of_le h1 (Nat.pow_le_pow_right (by decide) h2)
  · intro h
    have := Lib.bitLen_le v k hk h
    omega
theorem wrap_pow (k : Nat) (hk : k < 64) : IntKind.u64.wrap (2 ^ k) = ((2 ^ k : Nat) : Int) := by
  have h1 : (2 ^ k : Nat) < 2 ^ 64 := Nat.pow_lt_pow_right (by decide) hk
  have h2 : ((2 : Int) ^ k) = ((2 ^ k : Nat) : Int) := by norm_cast
  rw [h2]
  have h1' : ((2 ^ k : Nat) : Int) < (2 : Int) ^ 64 := by
    rw [show ((2 : Int) ^ 64) = ((2 ^ 64 : Nat) : Int) from rfl]; exact Int.ofNat_lt.2 h1
  have h3 : ((2 ^ k : Nat) : Int) % ((2 : Int) ^ 64) = ((2 ^ k : Nat) : Int) := Int.emod_eq_of_lt (Int.natCast_nonneg _) h1'
  simp only [IntKind.wrap, IntKind.bits, IntKind.signed, Bool.false_and, Bool.false_eq_true, if_false]
  exact h3
theorem fit_cases (v : Nat) (hv : v < 18446744073709551616) (w0 : Int) (h1 : 1 ≤ w0) (h2 : w0 ≤ 64) : ((w0 == 64) = true ∧ holdsE w0 v = true) ∨ ((w0 == 64) = false ∧ decide ((v : Int) < IntKind.u64.wrap (2 ^ w0.toNat)) = holdsE w0 v) := by
  obtain ⟨k, rfl⟩ : ∃ k : Nat, w0 = (k : Int) := ⟨w0.toNat, by omega⟩
  have hk : k ≤ 64 := by omega
  rw [Int.toNat_natCast, holds_pow v k hv hk]
  by_cases q : k = 64
  · subst q
    exact Or.inl ⟨rfl, by simpa using hv⟩
  · refine Or.inr ⟨by rw [beq_eq_false_iff_ne]; omega, ?_⟩
    rw [wrap_pow k (by omega), Bool.eq_iff_iff, decide_eq_true_eq, decide_eq_true_eq]
    omega
theorem num_shape {y : ET} {w : Int} {v : Nat} (h : nrmE y = nrmE (numW w v)) : ∃ a c, y = .mk 1 w v 0 0 0 0 a c [] := by
  obtain ⟨op, wd, v, sg, uh, ul, xn, xa, xc, xl⟩ := y
  rw [nrmE, numW, nrmE] at h
  injection h with h1 h2 h3 h4 h5 h6 h7 _ _ h8
  subst h1 h2 h3 h4 h5 h6 h7
  have hl := congrArg List.length h8
  rw [nrmEL_map, nrmEL_map, List.length_map, List.length_map] at hl
  obtain rfl : xl = [] := List.length_eq_zero_iff.1 hl
  exact ⟨xa, xc, rfl⟩
theorem lnumX (wd : Int) (v : Nat) (hv : v < 18446744073709551616) (k : Int) (gs : Nat) (W : World) (he : EnvZ W) (hg : GsIn W.heap.size W oneG (some ⟨gs, 0, none⟩)) : Calls Tryd.prog 14 #[.agg #[.slice (some ⟨gs, 0, none⟩) 1 1, .slice none 0 0, .slice none 0 0], .agg #[.int .i64 1, .int .i64 wd, .int .u64 (v : Int), .int .i64 0, .int .i64 0, .int .i64 0, .int .i64 0, .slice none 0 0], .int .i64 k] W (ExprP oneG (numW wd v) k W) :=
  expr_any oneG (some ⟨gs, 0, none⟩) 1 none 0 0 none 0 0 (by decide) (fun x hx => by simp [oneG] at hx; subst hx; decide) (numW wd v) (by simp [numW, ET.bk, ET.bkL]) (by simp [numW, ET.wf_mk]; exact hv) k W.heap.size W (Nat.le_refl _) he hg (leaf_in ..)
set_option maxHeartbeats 16000000 in
set_option maxRecDepth 100000 in
theorem number_law (v : Nat) (hv : v < 18446744073709551616) (w0 k0 : Int) (w : World) (he : EnvZ w) : Calls Tryd.prog 5 #[.int .u64 (v : Int), .int .i64 w0, .int .i64 k0] w fun e w' => e = .returned (.bool true) ∧ Below w.heap.size w w' := by
  have HE := Lib.hid he
  clear he
  go_enter Tryd.func5, Tryd.ntmps5
  go_wp2_with fail
  refine (live_any w HE.out).mono ?_
  rintro e W1 ⟨rfl, hb⟩
  have HB := Lib.hid hb
  clear hb
  by_cases t0 : w0 < 1
  · have e0 : decide (w0 < 1) = true := by rw [decide_eq_true_eq]; exact t0
    go_wp2
    go_ret
    exact ⟨rfl, HB.out⟩
  have e0 : decide (w0 < 1) = false := by rw [decide_eq_false_iff_not]; exact t0
  by_cases t1 : w0 > 64
  · have e1 : decide (w0 > 64) = true := by rw [decide_eq_true_eq]; exact t1
    go_wp2
    go_ret
    exact ⟨rfl, HB.out⟩
  have e1 : decide (w0 > 64) = false := by rw [decide_eq_false_iff_not]; exact t1
  by_cases t2 : k0 < 1
  · have e2 : decide (k0 < 1) = true := by rw [decide_eq_true_eq]; exact t2
    go_wp2
    go_ret
    exact ⟨rfl, HB.out⟩
  have e2 : decide (k0 < 1) = false := by rw [decide_eq_false_iff_not]; exact t2
  by_cases t3 : k0 > 64
  · have e3 : decide (k0 > 64) = true := by rw [decide_eq_true_eq]; exact t3
    go_wp2
    go_ret
    exact ⟨rfl, HB.out⟩
  have e3 : decide (k0 > 64) = false := by rw [decide_eq_false_iff_not]; exact t3
  have hw1 : 1 ≤ w0 := by omega
  have hw2 : w0 ≤ 64 := by omega
  have hk1 : 1 ≤ k0 := by omega
  have hk2 : k0 ≤ 64 := by omega
  go_wp2_with fail
  refine (one_any W1).mono ?_
  rintro e W2 ⟨gs, rfl, hgi, hgs, hb1⟩
  obtain ⟨gd, hgd⟩ : ∃ gd, W2.heap.size = gd := ⟨_, rfl⟩
  obtain ⟨V2, hV2⟩ : ∃ V2, W2.alloc (.cells #[.slice none 0 0, .slice none 0 0, .slice none 0 0] 26 (0, 0)) = V2 := ⟨_, rfl⟩
  have hb2 : Below W2.heap.size W2 V2 := by rw [← hV2]; exact (Below.refl _ _).alloc (Nat.le_refl _) _
  have hr2 : RowD V2 gd (.slice none 0 0) (.slice none 0 0) (.slice none 0 0) := by unfold RowD; rw [← hV2, ← hgd]; exact World.alloc_heap_new W2 _
  have hr3 := hr2.put (.slice (some ⟨gs, 0, none⟩) 1 1) (.slice none 0 0) (.slice none 0 0)
  have hb3 := below_put3 hb2 (show W2.heap.size ≤ gd by omega) (.slice (some ⟨gs, 0, none⟩) 1 1) (.slice none 0 0) (.slice none 0 0)
  obtain ⟨V3, hV3⟩ : ∃ V3, (((V2.setCell ⟨gd, 0, none⟩ (.slice (some ⟨gs, 0, none⟩) 1 1)).setCell ⟨gd, 1, none⟩ (.slice none 0 0)).setCell ⟨gd, 2, none⟩ (.slice none 0 0)) = V3 := ⟨_, rfl⟩
  rw [hV3] at hr3 hb3
  have hC := (HB.out.trans (hb1.mono HB.out.size)).trans (hb3.mono (Nat.le_trans HB.out.size hb1.size))
  have HD0 : Hid (Below w.heap.size w V3 ∧ V3.heap[gd]? = some (.cells #[.slice (some ⟨gs, 0, none⟩) 1 1, .slice none 0 0, .slice none 0 0] 26 (0, 0)) ∧ GsIn V3.heap.size V3 oneG (some ⟨gs, 0, none⟩) ∧ EnvZ V3) := Lib.hid ⟨hC, hr3, InRow.less hb3.size (fun _ _ h => h) (GsIn.keep (Below.keptTo hb3 (Nat.le_refl _)) hgi), HE.out.keep hC⟩
  obtain ⟨y0, y1, y2⟩ := opq3 (show V2.heap[gd]? = _ from hr2)
  obtain ⟨p0, p1, p2⟩ := thaw3 (show V2.heap[gd]? = _ from hr2)
  clear hgi hgs hb1 hb2 hr2 hr3 hb3 hC
  go_upto_region 7 with (fail)
  (try rw [hgd])
  (try rw [hV2])
  (try rw [hV3])
  clear hV2 hV3 hgd y0 y1 y2 p0 p1 p2
  obtain ⟨R, hR⟩ : ∃ R, exprS oneG (numW 0 v) w0 = R := ⟨_, rfl⟩
  have HR := Lib.hid hR
  clear hR
  refine wp_region_inv (fun (b : Nat → Bool) (a : Act) (W9 : World) => ∃ (u0 u1 u2 u3 u4 u5 u6 u7 u8 u9 u10 : Value) (yya : ET) (loa hia gga : Nat), a = { tmps := #[.int .u64 (v : Int), .int .i64 w0, .int .i64 k0, undef, undef, undef, .bool false, .bool true, .pointer (some ⟨gd, 0, none⟩), u8, u10, undef, undef, undef, .bool true, .bool true, .bool false, .int .i64 w0, .bool false, .bool false, .int .i64 w0, .bool false, .bool false, .bool false, .int .i64 k0, .bool false, .bool false, .bool false, .int .i64 k0, .bool false, .bool false, undef, .agg #[.slice (some ⟨gs, 0, none⟩) 1 1, .slice none 0 0, .slice none 0 0], u5, u0, u1, u2, u3, u4, u6, u7, undef, undef, undef, undef, undef, undef, undef, undef, undef, undef, undef, undef, undef, undef, undef, undef, undef, undef, undef, undef, undef, undef, undef, undef, undef, undef, undef, undef, undef, undef, undef, undef, undef, undef, undef, undef, undef, undef, undef, undef, undef, undef, undef, undef, undef, undef, undef, undef, undef, undef, undef, undef, undef, undef, undef, undef, undef, undef, undef, undef, undef, undef, undef, undef, undef, undef, undef, undef, undef, undef, undef, undef, undef, undef], defers := [] } ∧ (Below V3.heap.size V3 W9) ∧ (b 0 = true → u0 = .agg #[.slice (some ⟨gs, 0, none⟩) 1 1, .slice none 0 0, .slice none 0 0]) ∧ (b 1 = true → u1 = .int .u64 (v : Int)) ∧ (b 2 = true → u2 = .agg #[.int .i64 1, .int .i64 0, .int .u64 (v : Int), .int .i64 0, .int .i64 0, .int .i64 0, .int .i64 0, .slice none 0 0]) ∧ (b 3 = true → u3 = .int .i64 w0) ∧ (b 4 = true → u4 = .tuple #[yya.val, .int .i64 R.2] ∧ nrmE yya = nrmE R.1 ∧ yya.Own W9 loa hia ∧ V3.heap.size ≤ loa ∧ hia ≤ W9.heap.size) ∧ (b 5 = true → u5 = .tuple #[yya.val, .int .i64 R.2]) ∧ (b 6 = true → u6 = yya.val) ∧ (b 7 = true → u7 = .int .i64 R.2) ∧ (b 8 = true → u8 = .pointer (some ⟨gga, 0, none⟩) ∧ V3.heap.size ≤ gga ∧ gga < W9.heap.size ∧ (b 4 = true → gga < loa ∨ hia ≤ gga) ∧ (b 9 = false → W9.heap[gga]? = some (.cells #[.int .i64 0, .int .i64 0, .int .u64 0, .int .i64 0, .int .i64 0, .int .i64 0, .int .i64 0, .slice none 0 0] 30 (0, 0)))) ∧ (b 9 = true → W9.heap[gga]? = some (.cells yya.cells.toArray 30 (0, 0))) ∧ (b 10 = true → u10 = .int .i64 R.2)) (by kernel_rfl) (by kernel_rfl) ?_ ?_ ?_
  · refine ⟨undef, undef, undef, undef, undef, undef, undef, undef, undef, undef, undef, zeroE, 0, 0, 0, rfl, below_drew' (Below.refl _ _), fun h => (by cases h), fun h => (by cases h), fun h => (by cases h), fun h => (by cases h), fun h => (by cases h), fun h => (by cases h), fun h => (by cases h), fun h => (by cases h), fun h => (by cases h), fun h => (by cases h), fun h => (by cases h)⟩
  · refine ⟨⟨rfl, ?_⟩, ⟨⟨rfl, ?_⟩, ⟨⟨rfl, ?_⟩, ⟨⟨rfl, ?_⟩, ⟨⟨rfl, ?_⟩, ⟨⟨rfl, ?_⟩, ⟨⟨rfl, ?_⟩, ⟨⟨rfl, ?_⟩, ⟨⟨rfl, ?_⟩, ⟨⟨rfl, ?_⟩, ⟨⟨rfl, ?_⟩, trivial⟩⟩⟩⟩⟩⟩⟩⟩⟩⟩⟩
    · intro b a W9 hbk hd hcl hJ K hK
      obtain ⟨u0, u1, u2, u3, u4, u5, u6, u7, u8, u9, u10, yya, loa, hia, gga, rfl, hC, f0, f1, f2, f3, f4, f5, f6, f7, f8, f9, f10⟩ := hJ
      obtain ⟨z0, z1, z2⟩ := opq3 (block_kept HD0.out.2.1 hC)
      go_simp
      exact hK _ _ ⟨_, _, _, _, _, _, _, _, _, undef, _, yya, loa, hia, gga, rfl, hC, (fun _ => rfl), (f1), (f2), (f3), (f4), (f5), (f6), (f7), (f8), (f9), (f10)⟩
    · intro b a W9 hbk hd hcl hJ K hK
      obtain ⟨u0, u1, u2, u3, u4, u5, u6, u7, u8, u9, u10, yya, loa, hia, gga, rfl, hC, f0, f1, f2, f3, f4, f5, f6, f7, f8, f9, f10⟩ := hJ
      go_simp
      exact hK _ _ ⟨_, _, _, _, _, _, _, _, _, undef, _, yya, loa, hia, gga, rfl, hC, (f0), (fun _ => rfl), (f2), (f3), (f4), (f5), (f6), (f7), (f8), (f9), (f10)⟩
    · intro b a W9 hbk hd hcl hJ K hK
      obtain ⟨u0, u1, u2, u3, u4, u5, u6, u7, u8, u9, u10, yya, loa, hia, gga, rfl, hC, f0, f1, f2, f3, f4, f5, f6, f7, f8, f9, f10⟩ := hJ
      have d1 := f1 (hd ⟨1, .data⟩ (by simp) rfl)
      subst d1
      go_simp
      refine (lnum v W9).mono ?_
      rintro e W8 ⟨rfl, hb⟩
      have hC' := hC.trans (hb.mono hC.size)
      exact hK _ _ ⟨_, _, _, _, _, _, _, _, _, undef, _, yya, loa, hia, gga, rfl, hC', (f0), (f1), (fun _ => rfl), (f3), (fun h => (keepF4 (f4 h) hb)), (f5), (f6), (f7), (fun h => (keepF8 (f8 h) hb)), (fun h => (block_kept (f9 h) hb)), (f10)⟩
    · intro b a W9 hbk hd hcl hJ K hK
      obtain ⟨u0, u1, u2, u3, u4, u5, u6, u7, u8, u9, u10, yya, loa, hia, gga, rfl, hC, f0, f1, f2, f3, f4, f5, f6, f7, f8, f9, f10⟩ := hJ
      go_simp
      exact hK _ _ ⟨_, _, _, _, _, _, _, _, _, undef, _, yya, loa, hia, gga, rfl, hC, (f0), (f1), (f2), (fun _ => rfl), (f4), (f5), (f6), (f7), (f8), (f9), (f10)⟩
    · intro b a W9 hbk hd hcl hJ K hK
      obtain ⟨u0, u1, u2, u3, u4, u5, u6, u7, u8, u9, u10, yya, loa, hia, gga, rfl, hC, f0, f1, f2, f3, f4, f5, f6, f7, f8, f9, f10⟩ := hJ
      have d0 := f0 (hd ⟨0, .data⟩ (by simp) rfl)
      have d2 := f2 (hd ⟨2, .data⟩ (by simp) rfl)
      have d3 := f3 (hd ⟨3, .data⟩ (by simp) rfl)
      have n5 := (hcl.no 5 _ rfl ⟨4, .data⟩ (by simp) rfl rfl hbk)
      have n6 := (hcl.no 6 _ rfl ⟨5, .data⟩ (by simp) rfl rfl n5)
      have n9 := (hcl.no 9 _ rfl ⟨6, .data⟩ (by simp) rfl rfl n6)
      subst d0
      subst d2
      subst d3
      go_simp
      refine (lnumX 0 v hv w0 gs W9 (HD0.out.2.2.2.keep hC) (InRow.less hC.size (fun _ _ h => h) (GsIn.keep (Below.keptTo hC (Nat.le_refl _)) HD0.out.2.2.1))).mono ?_
      rintro e W8 ⟨y', h1y, hyn, hyo, hb⟩
      rw [HR.out] at h1y hyn
      subst h1y
      have hC' := hC.trans (hb.mono hC.size)
      exact hK _ _ ⟨_, _, _, _, _, _, _, _, _, undef, _, y', W9.heap.size, W8.heap.size, gga, rfl, hC', (f0), (f1), (f2), (f3), (fun _ => ⟨rfl, hyn, hyo, hC.size, Nat.le_refl _⟩), (fun h => by rw [show b 5 = true from h] at n5; cases n5), (fun h => by rw [show b 6 = true from h] at n6; cases n6), (f7), (fun h => keepF8 (r := (_ → _ ∨ _)) ⟨(f8 h).1, (f8 h).2.1, (f8 h).2.2.1, fun _ => Or.inl (f8 h).2.2.1, (f8 h).2.2.2.2⟩ hb), (fun h => by rw [show b 9 = true from h] at n9; cases n9), (f10)⟩
    · intro b a W9 hbk hd hcl hJ K hK
      obtain ⟨u0, u1, u2, u3, u4, u5, u6, u7, u8, u9, u10, yya, loa, hia, gga, rfl, hC, f0, f1, f2, f3, f4, f5, f6, f7, f8, f9, f10⟩ := hJ
      have d4 := f4 (hd ⟨4, .data⟩ (by simp) rfl)
      obtain ⟨rfl, d4r⟩ := d4
      go_simp
      exact hK _ _ ⟨_, _, _, _, _, _, _, _, _, undef, _, yya, loa, hia, gga, rfl, hC, (f0), (f1), (f2), (f3), (f4), (fun _ => rfl), (f6), (f7), (f8), (f9), (f10)⟩
    · intro b a W9 hbk hd hcl hJ K hK
      obtain ⟨u0, u1, u2, u3, u4, u5, u6, u7, u8, u9, u10, yya, loa, hia, gga, rfl, hC, f0, f1, f2, f3, f4, f5, f6, f7, f8, f9, f10⟩ := hJ
      have d5 := f5 (hd ⟨5, .data⟩ (by simp) rfl)
      subst d5
      go_simp
      exact hK _ _ ⟨_, _, _, _, _, _, _, _, _, undef, _, yya, loa, hia, gga, rfl, hC, (f0), (f1), (f2), (f3), (f4), (f5), (fun _ => rfl), (f7), (f8), (f9), (f10)⟩
    · intro b a W9 hbk hd hcl hJ K hK
      obtain ⟨u0, u1, u2, u3, u4, u5, u6, u7, u8, u9, u10, yya, loa, hia, gga, rfl, hC, f0, f1, f2, f3, f4, f5, f6, f7, f8, f9, f10⟩ := hJ
      have d5 := f5 (hd ⟨5, .data⟩ (by simp) rfl)
      subst d5
      go_simp
      exact hK _ _ ⟨_, _, _, _, _, _, _, _, _, undef, _, yya, loa, hia, gga, rfl, hC, (f0), (f1), (f2), (f3), (f4), (f5), (f6), (fun _ => rfl), (f8), (f9), (f10)⟩
    · intro b a W9 hbk hd hcl hJ K hK
      obtain ⟨u0, u1, u2, u3, u4, u5, u6, u7, u8, u9, u10, yya, loa, hia, gga, rfl, hC, f0, f1, f2, f3, f4, f5, f6, f7, f8, f9, f10⟩ := hJ
      have n9 := (hcl.no 9 _ rfl ⟨8, .data⟩ (by simp) rfl rfl hbk)
      have hb : Below W9.heap.size W9 (W9.alloc (.cells #[.int .i64 0, .int .i64 0, .int .u64 0, .int .i64 0, .int .i64 0, .int .i64 0, .int .i64 0, .slice none 0 0] 30 (0, 0))) := (Below.refl _ _).alloc (Nat.le_refl _) _
      have hC' := hC.trans (hb.mono hC.size)
      go_simp
      exact hK _ _ ⟨_, _, _, _, _, _, _, _, _, undef, _, yya, loa, hia, W9.heap.size, rfl, hC', (f0), (f1), (f2), (f3), (fun h => (keepF4 (f4 h) hb)), (f5), (f6), (f7), (fun _ => ⟨rfl, hC.size, by rw [World.size_alloc]; exact Nat.lt_succ_self _, fun h => Or.inr (f4 h).2.2.2.2, fun _ => World.alloc_heap_new W9 _⟩), (fun h => by rw [show b 9 = true from h] at n9; cases n9), (f10)⟩
    · intro b a W9 hbk hd hcl hJ K hK
      obtain ⟨u0, u1, u2, u3, u4, u5, u6, u7, u8, u9, u10, yya, loa, hia, gga, rfl, hC, f0, f1, f2, f3, f4, f5, f6, f7, f8, f9, f10⟩ := hJ
      have d8 := f8 (hd ⟨8, .data⟩ (by simp) rfl)
      have d6 := f6 (hd ⟨6, .data⟩ (by simp) rfl)
      have d4 := f4 (hd ⟨4, .phase⟩ (by simp) rfl)
      obtain ⟨rfl, k1, k2, k3, k4⟩ := d8
      subst d6
      obtain ⟨rfl, j1, j2, j3, j4⟩ := d4
      obtain ⟨op7, wd7, v7, sg7, uh7, ul7, xn7, xa7, xc7, xl7⟩ := yya
      have RY : RowM W9 gga ([] ++ ([.int .i64 0, .int .i64 0, .int .u64 0, .int .i64 0, .int .i64 0, .int .i64 0, .int .i64 0, .slice none 0 0] ++ [])) := k4 hbk
      obtain ⟨y0, y1, y2, y3, y4, y5, y6, y7⟩ := RowM.cells RY 0 rfl
      obtain ⟨p0, p1, p2, p3, p4, p5, p6, p7⟩ := RowM.thaw RY 0
      have RZ := RowM.put RY 0 rfl (.int .i64 op7) (.int .i64 wd7) (.int .u64 (v7 : Int)) (.int .i64 sg7) (.int .i64 uh7) (.int .i64 ul7) (.int .i64 xn7) (.slice xa7 xl7.length xc7)
      have ho := fun k hk => put_other W9 gga 0 (.int .i64 op7) (.int .i64 wd7) (.int .u64 (v7 : Int)) (.int .i64 sg7) (.int .i64 uh7) (.int .i64 ul7) (.int .i64 xn7) (.slice xa7 xl7.length xc7) k hk
      have hC' := below_put hC k1 0 (.int .i64 op7) (.int .i64 wd7) (.int .u64 (v7 : Int)) (.int .i64 sg7) (.int .i64 uh7) (.int .i64 ul7) (.int .i64 xn7) (.slice xa7 xl7.length xc7)
      simp only [Nat.zero_add] at y1 y2 y3 y4 y5 y6 y7 p1 p2 p3 p4 p5 p6 p7 RZ ho hC'
      obtain ⟨W8, hW8⟩ : ∃ W8, ((((((((W9.setCell ⟨gga, 0, none⟩ (.int .i64 op7)).setCell ⟨gga, 1, none⟩ (.int .i64 wd7)).setCell ⟨gga, 2, none⟩ (.int .u64 (v7 : Int))).setCell ⟨gga, 3, none⟩ (.int .i64 sg7)).setCell ⟨gga, 4, none⟩ (.int .i64 uh7)).setCell ⟨gga, 5, none⟩ (.int .i64 ul7)).setCell ⟨gga, 6, none⟩ (.int .i64 xn7)).setCell ⟨gga, 7, none⟩ (.slice xa7 xl7.length xc7)) = W8 := ⟨_, rfl⟩
      have hsz : W8.heap.size = W9.heap.size := by rw [← hW8]; simp only [World.size_setCell]
      rw [hW8] at RZ hC'
      simp only [hW8] at ho
      have k3' := k3 (hd ⟨4, .phase⟩ (by simp) rfl)
      have hown := ET.Own.keep (ET.mk op7 wd7 v7 sg7 uh7 ul7 xn7 xa7 xc7 xl7) loa hia (fun k h1 h2 => ho k (by omega)) j2
      simp only [ET.val, ET.cells]
      go_simp
      (try rw [hW8])
      exact hK _ _ ⟨_, _, _, _, _, _, _, _, _, undef, _, (ET.mk op7 wd7 v7 sg7 uh7 ul7 xn7 xa7 xc7 xl7), loa, hia, gga, rfl, hC', (f0), (f1), (f2), (f3), (fun _ => ⟨rfl, j1, hown, j3, by rw [hsz]; exact j4⟩), (f5), (f6), (f7), (fun _ => ⟨rfl, k1, by rw [hsz]; exact k2, fun _ => k3', fun h => by cases h⟩), (fun _ => RZ), (f10)⟩
    · intro b a W9 hbk hd hcl hJ K hK
      obtain ⟨u0, u1, u2, u3, u4, u5, u6, u7, u8, u9, u10, yya, loa, hia, gga, rfl, hC, f0, f1, f2, f3, f4, f5, f6, f7, f8, f9, f10⟩ := hJ
      have d7 := f7 (hd ⟨7, .data⟩ (by simp) rfl)
      subst d7
      go_simp
      exact hK _ _ ⟨_, _, _, _, _, _, _, _, _, undef, _, yya, loa, hia, gga, rfl, hC, (f0), (f1), (f2), (f3), (f4), (f5), (f6), (f7), (f8), (f9), (fun _ => rfl)⟩
  · intro b a V4 hb hJ
    obtain ⟨p0, p1, p2, p3, p4, p5, p6, p7, p8, p9, p10, yya, loa, hia, gga, rfl, hC, f0, f1, f2, f3, f4, f5, f6, f7, f8, f9, f10⟩ := hJ
    replace f0 := f0 (hb 0 (by decide))
    replace f1 := f1 (hb 1 (by decide))
    replace f2 := f2 (hb 2 (by decide))
    replace f3 := f3 (hb 3 (by decide))
    replace f4 := f4 (hb 4 (by decide))
    replace f5 := f5 (hb 5 (by decide))
    replace f6 := f6 (hb 6 (by decide))
    replace f7 := f7 (hb 7 (by decide))
    replace f8 := f8 (hb 8 (by decide))
    replace f9 := f9 (hb 9 (by decide))
    replace f10 := f10 (hb 10 (by decide))
    obtain ⟨rfl, k1, k2, k3, k4⟩ := f8
    subst f10
    obtain ⟨hp4, j1, j2, j3, j4⟩ := f4
    clear hp4
    have HYa : Hid (V4.heap[gga]? = some (.cells yya.cells.toArray 30 (0, 0)) ∧ nrmE yya = nrmE R.1 ∧ yya.In V4.heap.size V4) := Lib.hid ⟨f9, j1, ET.In.less j4 _ (j2.inn _ _ _)⟩
    clear f0 f1 f2 f3 f5 f6 f7 f9 k1 k2 k3 k4 j1 j2 j3 j4
    have HD1 : Hid (Below w.heap.size w V4 ∧ V4.heap[gd]? = some (.cells #[.slice (some ⟨gs, 0, none⟩) 1 1, .slice none 0 0, .slice none 0 0] 26 (0, 0)) ∧ GsIn V4.heap.size V4 oneG (some ⟨gs, 0, none⟩) ∧ EnvZ V4) := Lib.hid ⟨HD0.out.1.trans (hC.mono HD0.out.1.size), block_kept HD0.out.2.1 hC, InRow.less hC.size (fun _ _ h => h) (GsIn.keep (Below.keptTo hC (Nat.le_refl _)) HD0.out.2.2.1), HD0.out.2.2.2.keep hC⟩
    clear hC HD0
    have hRv : R = if holdsE w0 v = true then (numW w0 v, 0) else (zeroE, 92) := by rw [← HR.out, num_expr v 0 w0 ⟨hw1, hw2⟩ (Or.inl rfl), if_pos (Or.inl rfl)]
    have HRV := Lib.hid hRv
    clear hRv HR
    obtain ⟨FIT, hFIT⟩ : ∃ b, holdsE w0 v = b := ⟨_, rfl⟩
    have HFT := Lib.hid hFIT
    have HWK := Lib.hid (And.intro hw1 (And.intro hw2 (And.intro hk1 hk2)))
    have hg : Hid (((w0 == 64) = true ∧ FIT = true) ∨ ((w0 == 64) = false ∧ decide ((v : Int) < IntKind.u64.wrap (2 ^ w0.toNat)) = FIT)) := Lib.hid (by
      rw [← hFIT]; exact fit_cases v hv w0 hw1 hw2)
    rw [hFIT] at HRV
    clear hFIT hk1 hk2 t0 t1 t2 t3
    cases FIT with
    | false =>
      have hR := HRV.out
      rw [if_neg (by decide)] at hR
      subst hR
      rcases hg.out with ⟨_, q⟩ | ⟨q0, q1⟩
      · cases q
      have g9 : ((92 : Int) == 0) = false := rfl
      clear hg HRV
      go_upto_region 8 with (fail)
      go_wp2
      go_ret
      exact ⟨rfl, HD1.out.1⟩
    | true =>
      have hR := HRV.out
      rw [if_pos rfl] at hR
      subst hR
      obtain ⟨xa5, xc5, hys⟩ := num_shape HYa.out.2.1
      subst hys
      obtain ⟨x0, x1, x2, x3, x4, x5, x6, x7⟩ := ope8 (show V4.heap[gga]? = some (.cells #[.int .i64 1, .int .i64 w0, .int .u64 (v : Int), .int .i64 0, .int .i64 0, .int .i64 0, .int .i64 0, .slice xa5 0 xc5] 30 (0, 0)) from HYa.out.1)
      obtain ⟨z0, z1, z2⟩ := opq3 HD1.out.2.1
      obtain ⟨R2, hR2⟩ : ∃ R2, exprS oneG (numW w0 v) k0 = R2 := ⟨_, rfl⟩
      have HR2 : Hid (R2 = if w0 = k0 then (numW k0 v, 0) else (zeroE, 90)) := Lib.hid (by
        rw [← hR2, num_expr v w0 k0 ⟨HWK.out.2.2.1, HWK.out.2.2.2⟩ (Or.inr ⟨by unfold isW; have h1 := HWK.out.1; have h2 := HWK.out.2.1; simp; omega, HFT.out⟩)]
        by_cases q : w0 = k0
        · rw [if_pos (Or.inr q), if_pos q, if_pos (by rw [← q]; exact HFT.out)]
        · rw [if_neg (by have := HWK.out.1; omega), if_neg q])
      have cx := lnumX w0 v hv k0 gs V4 HD1.out.2.2.2 HD1.out.2.2.1
      have HEX : Hid (ExprP oneG (numW w0 v) k0 V4 = fun e w' => ∃ y : ET, e = .returned (.tuple #[y.val, .int .i64 R2.2]) ∧ nrmE y = nrmE R2.1 ∧ y.Own w' V4.heap.size w'.heap.size ∧ Below V4.heap.size V4 w') := Lib.hid (by unfold ExprP; rw [hR2])
      rw [HEX.out] at cx
      have cxK := Lib.hid cx
      clear cx hR2 HEX
      have g9 : ((0 : Int) == 0) = true := rfl
      have walkA : ∀ (P : Prop), (∀ (q0 : (w0 == 64) = true), P) → (∀ (q0 : (w0 == 64) = false) (q1 : decide ((v : Int) < IntKind.u64.wrap (2 ^ w0.toNat)) = true), P) → P := fun P h1 h2 => by
        rcases hg.out with ⟨q0, _⟩ | ⟨q0, q1⟩
        · exact h1 q0
        · exact h2 q0 q1
      clear hg
      refine walkA _ (fun q0 => ?_) (fun q0 q1 => ?_)
      all_goals
        clear walkA
        go_upto_region 8 with (fail)
        go_wp2_with fail
        refine cxK.out.mono ?_
        clear cxK x0 x1 x2 x3 x4 x5 x6 x7 z0 z1 z2 hw1 hw2
        rintro e V5 ⟨y, rfl, hyn, hyo, hb5⟩
        obtain ⟨h8, hh8⟩ : ∃ h8, V5.heap.size = h8 := ⟨_, rfl⟩
        obtain ⟨R21, R22⟩ := R2
        simp only at hyn HR2
        obtain ⟨op7, wd7, v7, sg7, uh7, ul7, xn7, xa7, xc7, xl7⟩ := y
        obtain ⟨VA, hVA⟩ : ∃ VA, V5.alloc (.cells #[.int .i64 0, .int .i64 0, .int .u64 0, .int .i64 0, .int .i64 0, .int .i64 0, .int .i64 0, .slice none 0 0] 30 (0, 0)) = VA := ⟨_, rfl⟩
        have hbA : Below V5.heap.size V5 VA := by rw [← hVA]; exact (Below.refl _ _).alloc (Nat.le_refl _) _
        have hrA : RowM VA h8 ([] ++ ([.int .i64 0, .int .i64 0, .int .u64 0, .int .i64 0, .int .i64 0, .int .i64 0, .int .i64 0, .slice none 0 0] ++ [])) := by show VA.heap[h8]? = _; rw [← hVA, ← hh8]; exact World.alloc_heap_new V5 _
        have hr8 := RowM.put hrA 0 rfl (.int .i64 op7) (.int .i64 wd7) (.int .u64 (v7 : Int)) (.int .i64 sg7) (.int .i64 uh7) (.int .i64 ul7) (.int .i64 xn7) (.slice xa7 xl7.length xc7)
        have hb8 := below_alloc_put (W := V5) (.cells #[.int .i64 0, .int .i64 0, .int .u64 0, .int .i64 0, .int .i64 0, .int .i64 0, .int .i64 0, .slice none 0 0] 30 (0, 0)) (.int .i64 op7) (.int .i64 wd7) (.int .u64 (v7 : Int)) (.int .i64 sg7) (.int .i64 uh7) (.int .i64 ul7) (.int .i64 xn7) (.slice xa7 xl7.length xc7)
        simp only [Nat.zero_add] at hr8
        rw [hh8, hVA] at hb8
        obtain ⟨V8, hV8⟩ : ∃ V8, ((((((((VA.setCell ⟨h8, 0, none⟩ (.int .i64 op7)).setCell ⟨h8, 1, none⟩ (.int .i64 wd7)).setCell ⟨h8, 2, none⟩ (.int .u64 (v7 : Int))).setCell ⟨h8, 3, none⟩ (.int .i64 sg7)).setCell ⟨h8, 4, none⟩ (.int .i64 uh7)).setCell ⟨h8, 5, none⟩ (.int .i64 ul7)).setCell ⟨h8, 6, none⟩ (.int .i64 xn7)).setCell ⟨h8, 7, none⟩ (.slice xa7 xl7.length xc7)) = V8 := ⟨_, rfl⟩
        rw [hV8] at hr8 hb8
        rw [← hh8] at hb8
        have hC := hb5.trans (hb8.mono hb5.size)
        have hyi : (ET.mk op7 wd7 v7 sg7 uh7 ul7 xn7 xa7 xc7 xl7).In V8.heap.size V8 := ET.In.less hb8.size _ (ET.In.keep (Below.keptTo hb8 (Nat.le_refl _)) _ (hyo.inn _ _ _))
        have hxi : (ET.mk 1 w0 v 0 0 0 0 xa5 xc5 []).In V8.heap.size V8 := ET.In.less hC.size _ (HYa.out.2.2.keep (Below.keptTo hC (Nat.le_refl _)))
        have HB9 := Lib.hid (HD1.out.1.trans (hC.mono HD1.out.1.size))
        obtain ⟨y0, y1, y2, y3, y4, y5, y6, y7⟩ := RowM.cells hrA 0 rfl
        obtain ⟨p0q, p1q, p2q, p3q, p4q, p5q, p6q, p7q⟩ := RowM.thaw hrA 0
        obtain ⟨t0, t1, t2, t3, t4, t5, t6, t7⟩ := RowM.cells hr8 0 rfl
        simp only [Nat.zero_add] at y1 y2 y3 y4 y5 y6 y7 p1q p2q p3q p4q p5q p6q p7q t1 t2 t3 t4 t5 t6 t7
        obtain ⟨x0, x1, x2, x3, x4, x5, x6, x7⟩ := ope8 (show V8.heap[gga]? = some (.cells #[.int .i64 1, .int .i64 w0, .int .u64 (v : Int), .int .i64 0, .int .i64 0, .int .i64 0, .int .i64 0, .slice xa5 0 xc5] 30 (0, 0)) from block_kept HYa.out.1 hC)
        by_cases q9 : w0 = k0
        · have hE := HR2.out
          rw [if_pos q9] at hE
          simp only [Prod.mk.injEq] at hE
          obtain ⟨rfl, rfl⟩ := hE
          have r0 : (k0 == w0) = true := by rw [beq_iff_eq]; exact q9.symm
          have r1 : ((0 : Int) != 0) = false := rfl
          have cs := refSameE_any (ET.mk 1 w0 v 0 0 0 0 xa5 xc5 []) (by simp [ET.bk, ET.bkL]) (ET.mk op7 wd7 v7 sg7 uh7 ul7 xn7 xa7 xc7 xl7) (by rw [bk_of_nrm hyn]; simp [numW, ET.bk, ET.bkL]) V8.heap.size V8 (Nat.le_refl _) hxi hyi
          have hsm : sameE (ET.mk 1 w0 v 0 0 0 0 xa5 xc5 []) (ET.mk op7 wd7 v7 sg7 uh7 ul7 xn7 xa7 xc7 xl7) = true := by
            rw [sameE_iff, hyn, ← q9]; rfl
          rw [hsm] at cs
          simp only [ET.val, ET.cells, List.length_nil] at cs
          have csK := Lib.hid cs
          clear q9 cs hsm hyn hyo hb5 hbA hrA hr8 hb8 hC hyi hxi
          simp only [ET.val, ET.cells]
          go_upto_region 14 with (fail)
          (try rw [hh8])
          (try rw [hVA])
          (try rw [hV8])
          clear hVA hV8 hh8 y0 y1 y2 y3 y4 y5 y6 y7 p0q p1q p2q p3q p4q p5q p6q p7q
          go_wp2_with fail
          refine csK.out.mono ?_
          clear csK
          rintro e V9 ⟨rfl, hb9⟩
          have HBA := Lib.hid (HB9.out.trans (hb9.mono HB9.out.size))
          clear hb9
          go_wp2
          go_ret
          exact ⟨rfl, HBA.out⟩
        · have hE := HR2.out
          rw [if_neg q9] at hE
          simp only [Prod.mk.injEq] at hE
          obtain ⟨rfl, rfl⟩ := hE
          have r0 : (k0 == w0) = false := by rw [beq_eq_false_iff_ne]; exact fun h => q9 h.symm
          have r1 : ((90 : Int) != 0) = true := rfl
          have r2 : ((90 : Int) == 0) = false := rfl
          clear q9 hyn hyo hb5 hbA hrA hr8 hb8 hC hyi hxi
          simp only [ET.val, ET.cells]
          go_upto_region 14 with (fail)
          (try rw [hh8])
          (try rw [hVA])
          (try rw [hV8])
          clear hVA hV8 hh8 y0 y1 y2 y3 y4 y5 y6 y7 p0q p1q p2q p3q p4q p5q p6q p7q
          go_wp2
          go_ret
          exact ⟨rfl, HB9.out⟩
end Go.Proofs.YtglpkfeokojdkaaDoor
