/-
  Whether any two files, expressions, statements are the same is what the document says. For every input of the bulk that the statement names.
-/
import Derived.Test.YtlbjmnakiflfpaaGreatDoorTie
import Derived.Test.YtlbjmnakiflfpaaGreatDoorCards
import Derived.Test.YtlbjmnakiflfpaaGreatDoorAsOp
import Derived.Test.YtlbjmnakiflfpaaGreatDoorAsLv
import Derived.JoinedCond
import Derived.Deep.DeepHandedRow
import Derived.Test.YtlbjmnakiflfpaaGreatDoorRsZ
import Derived.BigQuiet
import Derived.Deep.QuietTactic
import Derived.Lib.QuietBelow
namespace Go.Proofs.YtlbjmnakiflfpaaGreatDoor.astSame
open Go Go.ChangeShapes Go.WideShapes Go.ChangeAt Go.RowKit Go.Joins Go.Sort Go.Deep
set_option linter.unusedVariables false
set_option linter.unusedSimpArgs false

theorem FT.sz_bk9 (x : FT) (h : x.bk ≤ 1048576) : x.sz ≤ 1048576 := by have h9 := MT.szL_bk x.ml; have h2 : 1 + MT.bkL x.ml ≤ 1048576 := h; show MT.szL x.ml ≤ _; omega
set_option maxHeartbeats 32000000 in
set_option maxRecDepth 100000 in
theorem walk (t0 t1 : FT) (t2 t3 : XT) (t4 t5 : ST) (hb0 : t0.bk ≤ 1048576) (hb1 : t1.bk ≤ 1048576) (hb2 : t2.bk ≤ 1048576) (hb3 : t3.bk ≤ 1048576) (hb4 : t4.bk ≤ 1048576) (hb5 : t5.bk ≤ 1048576) (n0 : Nat) (w : World) (hn0 : n0 ≤ w.heap.size) (he : EnvA w) (hi0 : t0.In n0 w) (hi1 : t1.In n0 w) (hi2 : t2.In n0 w) (hi3 : t3.In n0 w) (hi4 : t4.In n0 w) (hi5 : t5.In n0 w) : Calls Tryz.prog 4 #[t0.val, t1.val, t2.val, t3.val, t4.val, t5.val] w fun e w' => e = .returned (.bool true) ∧ Below w.heap.size w w' := by
  have z0 := FT.sz_bk9 t0 hb0
  have z1 := FT.sz_bk9 t1 hb1
  have z2 := Nat.le_trans t2.sz_bk hb2
  have z3 := Nat.le_trans t3.sz_bk hb3
  have z4 := Nat.le_trans t4.sz_bk hb4
  have z5 := Nat.le_trans t5.sz_bk hb5
  have H00 := fun (W : World) h1 (h3 : t0.In n0 W) => few_any t0 (by omega) n0 W h1 h3
  obtain ⟨p0, hp0⟩ : ∃ b, (decide (t0.sz ≤ 2000) && decide (t0.dp ≤ 100)) = b := ⟨_, rfl⟩
  rw [hp0] at H00
  have H10 := fun (W : World) h1 (h3 : t1.In n0 W) => few_any t1 (by omega) n0 W h1 h3
  obtain ⟨p1, hp1⟩ : ∃ b, (decide (t1.sz ≤ 2000) && decide (t1.dp ≤ 100)) = b := ⟨_, rfl⟩
  rw [hp1] at H10
  have H20 := fun (W : World) h1 (h3 : t2.In n0 W) => fewX_any t2 (by omega) n0 W h1 h3
  obtain ⟨p2, hp2⟩ : ∃ b, (decide (t2.sz ≤ 2000) && decide (t2.dp ≤ 100)) = b := ⟨_, rfl⟩
  rw [hp2] at H20
  have H30 := fun (W : World) h1 (h3 : t3.In n0 W) => fewX_any t3 (by omega) n0 W h1 h3
  obtain ⟨p3, hp3⟩ : ∃ b, (decide (t3.sz ≤ 2000) && decide (t3.dp ≤ 100)) = b := ⟨_, rfl⟩
  rw [hp3] at H30
  have H40 := fun (W : World) h1 (h3 : t4.In n0 W) => fewS_any t4 (by omega) n0 W h1 h3
  obtain ⟨p4, hp4⟩ : ∃ b, (decide (t4.sz ≤ 2000) && decide (t4.dp ≤ 100)) = b := ⟨_, rfl⟩
  rw [hp4] at H40
  have H50 := fun (W : World) h1 (h3 : t5.In n0 W) => fewS_any t5 (by omega) n0 W h1 h3
  obtain ⟨p5, hp5⟩ : ∃ b, (decide (t5.sz ≤ 2000) && decide (t5.dp ≤ 100)) = b := ⟨_, rfl⟩
  rw [hp5] at H50
  have HA0 := fun (W : World) (h1 : n0 ≤ W.heap.size) (h3 : t0.In n0 W) (h4 : t1.In n0 W) => same_any t0 t1 (by omega) (by omega) n0 W h1 h3 h4
  have HB0 := fun (W : World) (h1 : n0 ≤ W.heap.size) (h3 : t0.In n0 W) (h4 : t1.In n0 W) => refsame_any t0 t1 (by omega) (by omega) n0 W h1 h3 h4
  have HC0 := fun (W : World) (h1 : n0 ≤ W.heap.size) (h3 : t2.In n0 W) (h4 : t3.In n0 W) => sameX_any t2 (by omega) t3 (by omega) n0 W h1 h3 h4
  have HD0 := fun (W : World) (h1 : n0 ≤ W.heap.size) (h3 : t2.In n0 W) (h4 : t3.In n0 W) => refsameX_any t2 (by omega) t3 (by omega) n0 W h1 h3 h4
  have HE0 := fun (W : World) (h1 : n0 ≤ W.heap.size) (h3 : t4.In n0 W) (h4 : t5.In n0 W) => sameS_any t4 (by omega) t5 (by omega) n0 W h1 h3 h4
  have HG0 := fun (W : World) (h1 : n0 ≤ W.heap.size) (h3 : t4.In n0 W) (h4 : t5.In n0 W) => refsameS_any t4 (by omega) t5 (by omega) n0 W h1 h3 h4
  obtain ⟨e0, he0⟩ : ∃ b, sameF t0 t1 = b := ⟨_, rfl⟩
  simp only [he0] at HA0
  simp only [he0] at HB0
  have ee0 : (e0 == e0) = true := by simp
  obtain ⟨e1, he1⟩ : ∃ b, sameX t2 t3 = b := ⟨_, rfl⟩
  simp only [he1] at HC0
  simp only [he1] at HD0
  have ee1 : (e1 == e1) = true := by simp
  obtain ⟨e2, he2⟩ : ∃ b, sameS t4 t5 = b := ⟨_, rfl⟩
  simp only [he2] at HE0
  simp only [he2] at HG0
  have ee2 : (e2 == e2) = true := by simp
  have i0 := hi0
  have i1 := hi1
  have i2 := hi2
  have i3 := hi3
  have i4 := hi4
  have i5 := hi5
  obtain ⟨ma1, mc1, ml1⟩ := t0
  obtain ⟨ma2, mc2, ml2⟩ := t1
  obtain ⟨op3, nm3, xn3, wd3, v3, xa3, xc3, xl3⟩ := t2
  obtain ⟨op4, nm4, xn4, wd4, v4, xa4, xc4, xl4⟩ := t3
  obtain ⟨op5, nm5, xa5, xc5, xl5, sa5, sc5, sl5⟩ := t4
  obtain ⟨op6, nm6, xa6, xc6, xl6, sa6, sc6, sl6⟩ := t5
  simp only [FT.val, FT.cells] at H00
  simp only [FT.val, FT.cells] at H10
  simp only [XT.val, XT.cells] at H20
  simp only [XT.val, XT.cells] at H30
  simp only [ST.val, ST.cells] at H40
  simp only [ST.val, ST.cells] at H50
  simp only [FT.val, FT.cells] at HA0
  simp only [FT.val, FT.cells] at HB0
  simp only [XT.val, XT.cells] at HC0
  simp only [XT.val, XT.cells] at HD0
  simp only [ST.val, ST.cells] at HE0
  simp only [ST.val, ST.cells] at HG0
  simp only [FT.val, FT.cells, XT.val, XT.cells, ST.val, ST.cells]
  have H0 := Lib.hid H00
  have H1 := Lib.hid H10
  have H2 := Lib.hid H20
  have H3 := Lib.hid H30
  have H4 := Lib.hid H40
  have H5 := Lib.hid H50
  have HA := Lib.hid HA0
  have HB := Lib.hid HB0
  have HC := Lib.hid HC0
  have HD := Lib.hid HD0
  have HE := Lib.hid HE0
  have HG := Lib.hid HG0
  clear H00 hp0 hb0 z0 hi0 H10 hp1 hb1 z1 hi1 H20 hp2 hb2 z2 hi2 H30 hp3 hb3 z3 hi3 H40 hp4 hb4 z4 hi4 H50 hp5 hb5 z5 hi5 HA0 HB0 HC0 HD0 HE0 HG0 he0 he1 he2
  have B0 := block_alloc (block_alloc (block_alloc (block_alloc (block_alloc (World.alloc_heap_new w (.cells #[.slice ma1 ml1.length mc1] 41)) (.cells #[.slice ma2 ml2.length mc2] 41)) (.cells #[.int .i64 op3, .string (bs nm3), .int .i64 xn3, .int .i64 wd3, .int .u64 (v3 : Int), .slice xa3 xl3.length xc3] 25)) (.cells #[.int .i64 op4, .string (bs nm4), .int .i64 xn4, .int .i64 wd4, .int .u64 (v4 : Int), .slice xa4 xl4.length xc4] 25)) (.cells #[.int .i64 op5, .string (bs nm5), .slice xa5 xl5.length xc5, .slice sa5 sl5.length sc5] 28)) (.cells #[.int .i64 op6, .string (bs nm6), .slice xa6 xl6.length xc6, .slice sa6 sl6.length sc6] 28)
  have B1 := block_alloc (block_alloc (block_alloc (block_alloc (World.alloc_heap_new (w.alloc (.cells #[.slice ma1 ml1.length mc1] 41)) (.cells #[.slice ma2 ml2.length mc2] 41)) (.cells #[.int .i64 op3, .string (bs nm3), .int .i64 xn3, .int .i64 wd3, .int .u64 (v3 : Int), .slice xa3 xl3.length xc3] 25)) (.cells #[.int .i64 op4, .string (bs nm4), .int .i64 xn4, .int .i64 wd4, .int .u64 (v4 : Int), .slice xa4 xl4.length xc4] 25)) (.cells #[.int .i64 op5, .string (bs nm5), .slice xa5 xl5.length xc5, .slice sa5 sl5.length sc5] 28)) (.cells #[.int .i64 op6, .string (bs nm6), .slice xa6 xl6.length xc6, .slice sa6 sl6.length sc6] 28)
  have B2 := block_alloc (block_alloc (block_alloc (World.alloc_heap_new ((w.alloc (.cells #[.slice ma1 ml1.length mc1] 41)).alloc (.cells #[.slice ma2 ml2.length mc2] 41)) (.cells #[.int .i64 op3, .string (bs nm3), .int .i64 xn3, .int .i64 wd3, .int .u64 (v3 : Int), .slice xa3 xl3.length xc3] 25)) (.cells #[.int .i64 op4, .string (bs nm4), .int .i64 xn4, .int .i64 wd4, .int .u64 (v4 : Int), .slice xa4 xl4.length xc4] 25)) (.cells #[.int .i64 op5, .string (bs nm5), .slice xa5 xl5.length xc5, .slice sa5 sl5.length sc5] 28)) (.cells #[.int .i64 op6, .string (bs nm6), .slice xa6 xl6.length xc6, .slice sa6 sl6.length sc6] 28)
  have B3 := block_alloc (block_alloc (World.alloc_heap_new (((w.alloc (.cells #[.slice ma1 ml1.length mc1] 41)).alloc (.cells #[.slice ma2 ml2.length mc2] 41)).alloc (.cells #[.int .i64 op3, .string (bs nm3), .int .i64 xn3, .int .i64 wd3, .int .u64 (v3 : Int), .slice xa3 xl3.length xc3] 25)) (.cells #[.int .i64 op4, .string (bs nm4), .int .i64 xn4, .int .i64 wd4, .int .u64 (v4 : Int), .slice xa4 xl4.length xc4] 25)) (.cells #[.int .i64 op5, .string (bs nm5), .slice xa5 xl5.length xc5, .slice sa5 sl5.length sc5] 28)) (.cells #[.int .i64 op6, .string (bs nm6), .slice xa6 xl6.length xc6, .slice sa6 sl6.length sc6] 28)
  have B4 := block_alloc (World.alloc_heap_new ((((w.alloc (.cells #[.slice ma1 ml1.length mc1] 41)).alloc (.cells #[.slice ma2 ml2.length mc2] 41)).alloc (.cells #[.int .i64 op3, .string (bs nm3), .int .i64 xn3, .int .i64 wd3, .int .u64 (v3 : Int), .slice xa3 xl3.length xc3] 25)).alloc (.cells #[.int .i64 op4, .string (bs nm4), .int .i64 xn4, .int .i64 wd4, .int .u64 (v4 : Int), .slice xa4 xl4.length xc4] 25)) (.cells #[.int .i64 op5, .string (bs nm5), .slice xa5 xl5.length xc5, .slice sa5 sl5.length sc5] 28)) (.cells #[.int .i64 op6, .string (bs nm6), .slice xa6 xl6.length xc6, .slice sa6 sl6.length sc6] 28)
  have B5 := World.alloc_heap_new (((((w.alloc (.cells #[.slice ma1 ml1.length mc1] 41)).alloc (.cells #[.slice ma2 ml2.length mc2] 41)).alloc (.cells #[.int .i64 op3, .string (bs nm3), .int .i64 xn3, .int .i64 wd3, .int .u64 (v3 : Int), .slice xa3 xl3.length xc3] 25)).alloc (.cells #[.int .i64 op4, .string (bs nm4), .int .i64 xn4, .int .i64 wd4, .int .u64 (v4 : Int), .slice xa4 xl4.length xc4] 25)).alloc (.cells #[.int .i64 op5, .string (bs nm5), .slice xa5 xl5.length xc5, .slice sa5 sl5.length sc5] 28)) (.cells #[.int .i64 op6, .string (bs nm6), .slice xa6 xl6.length xc6, .slice sa6 sl6.length sc6] 28)
  simp only [World.size_alloc] at B1 B2 B3 B4 B5
  have hB : Below w.heap.size w ((((((w.alloc (.cells #[.slice ma1 ml1.length mc1] 41)).alloc (.cells #[.slice ma2 ml2.length mc2] 41)).alloc (.cells #[.int .i64 op3, .string (bs nm3), .int .i64 xn3, .int .i64 wd3, .int .u64 (v3 : Int), .slice xa3 xl3.length xc3] 25)).alloc (.cells #[.int .i64 op4, .string (bs nm4), .int .i64 xn4, .int .i64 wd4, .int .u64 (v4 : Int), .slice xa4 xl4.length xc4] 25)).alloc (.cells #[.int .i64 op5, .string (bs nm5), .slice xa5 xl5.length xc5, .slice sa5 sl5.length sc5] 28)).alloc (.cells #[.int .i64 op6, .string (bs nm6), .slice xa6 xl6.length xc6, .slice sa6 sl6.length sc6] 28)) := (((((((Below.refl _ _).alloc (by first | exact Nat.le_refl _ | (simp; done) | (simp; omega)) (.cells #[.slice ma1 ml1.length mc1] 41)).alloc (by first | exact Nat.le_refl _ | (simp; done) | (simp; omega)) (.cells #[.slice ma2 ml2.length mc2] 41)).alloc (by first | exact Nat.le_refl _ | (simp; done) | (simp; omega)) (.cells #[.int .i64 op3, .string (bs nm3), .int .i64 xn3, .int .i64 wd3, .int .u64 (v3 : Int), .slice xa3 xl3.length xc3] 25)).alloc (by first | exact Nat.le_refl _ | (simp; done) | (simp; omega)) (.cells #[.int .i64 op4, .string (bs nm4), .int .i64 xn4, .int .i64 wd4, .int .u64 (v4 : Int), .slice xa4 xl4.length xc4] 25)).alloc (by first | exact Nat.le_refl _ | (simp; done) | (simp; omega)) (.cells #[.int .i64 op5, .string (bs nm5), .slice xa5 xl5.length xc5, .slice sa5 sl5.length sc5] 28)).alloc (by first | exact Nat.le_refl _ | (simp; done) | (simp; omega)) (.cells #[.int .i64 op6, .string (bs nm6), .slice xa6 xl6.length xc6, .slice sa6 sl6.length sc6] 28))
  have hk9 := Below.keptTo hB hn0
  replace i0 := FT.In.keep hk9 _ i0
  replace i1 := FT.In.keep hk9 _ i1
  replace i2 := XT.In.keep hk9 _ i2
  replace i3 := XT.In.keep hk9 _ i3
  replace i4 := ST.In.keep hk9 _ i4
  replace i5 := ST.In.keep hk9 _ i5
  replace he := he.keep hB
  replace hn0 := Nat.le_trans hn0 hB.size
  clear hk9
  go_enter Tryz.func4, Tryz.ntmps4
  go_upto_region 1 with (fail)
  generalize ((((((w.alloc (.cells #[.slice ma1 ml1.length mc1] 41)).alloc (.cells #[.slice ma2 ml2.length mc2] 41)).alloc (.cells #[.int .i64 op3, .string (bs nm3), .int .i64 xn3, .int .i64 wd3, .int .u64 (v3 : Int), .slice xa3 xl3.length xc3] 25)).alloc (.cells #[.int .i64 op4, .string (bs nm4), .int .i64 xn4, .int .i64 wd4, .int .u64 (v4 : Int), .slice xa4 xl4.length xc4] 25)).alloc (.cells #[.int .i64 op5, .string (bs nm5), .slice xa5 xl5.length xc5, .slice sa5 sl5.length sc5] 28)).alloc (.cells #[.int .i64 op6, .string (bs nm6), .slice xa6 xl6.length xc6, .slice sa6 sl6.length sc6] 28)) = w1 at *
  have c00 := (cell_of_box_1 B0).1
  have c10 := (cell_of_box_1 B1).1
  obtain ⟨c20, c21, c22, c23, c24, c25⟩ := open6 B2
  obtain ⟨c30, c31, c32, c33, c34, c35⟩ := open6 B3
  obtain ⟨c40, c41, c42, c43⟩ := open4 B4
  obtain ⟨c50, c51, c52, c53⟩ := open4 B5
  go_wp2_with fail
  refine (live_any _ he).mono ?_
  rintro e w2 ⟨rfl, hb⟩
  clear c00 c10 c20 c21 c22 c23 c24 c25 c30 c31 c32 c33 c34 c35 c40 c41 c42 c43 c50 c51 c52 c53
  have hk9 := Below.keptTo hb hn0
  replace B0 := block_kept B0 hb
  replace B1 := block_kept B1 hb
  replace B2 := block_kept B2 hb
  replace B3 := block_kept B3 hb
  replace B4 := block_kept B4 hb
  replace B5 := block_kept B5 hb
  replace i0 := FT.In.keep hk9 _ i0
  replace i1 := FT.In.keep hk9 _ i1
  replace i2 := XT.In.keep hk9 _ i2
  replace i3 := XT.In.keep hk9 _ i3
  replace i4 := ST.In.keep hk9 _ i4
  replace i5 := ST.In.keep hk9 _ i5
  replace he := he.keep hb
  replace hn0 := Nat.le_trans hn0 hb.size
  replace hB := hB.trans (hb.mono hB.size)
  clear hb hk9
  have c00 := (cell_of_box_1 B0).1
  have c10 := (cell_of_box_1 B1).1
  obtain ⟨c20, c21, c22, c23, c24, c25⟩ := open6 B2
  obtain ⟨c30, c31, c32, c33, c34, c35⟩ := open6 B3
  obtain ⟨c40, c41, c42, c43⟩ := open4 B4
  obtain ⟨c50, c51, c52, c53⟩ := open4 B5
  go_wp2_with fail
  refine (H0.out _ hn0 i0).mono ?_
  rintro e w3 ⟨rfl, hb⟩
  clear c00 c10 c20 c21 c22 c23 c24 c25 c30 c31 c32 c33 c34 c35 c40 c41 c42 c43 c50 c51 c52 c53
  have hk9 := Below.keptTo hb hn0
  replace B0 := block_kept B0 hb
  replace B1 := block_kept B1 hb
  replace B2 := block_kept B2 hb
  replace B3 := block_kept B3 hb
  replace B4 := block_kept B4 hb
  replace B5 := block_kept B5 hb
  replace i0 := FT.In.keep hk9 _ i0
  replace i1 := FT.In.keep hk9 _ i1
  replace i2 := XT.In.keep hk9 _ i2
  replace i3 := XT.In.keep hk9 _ i3
  replace i4 := ST.In.keep hk9 _ i4
  replace i5 := ST.In.keep hk9 _ i5
  replace he := he.keep hb
  replace hn0 := Nat.le_trans hn0 hb.size
  replace hB := hB.trans (hb.mono hB.size)
  clear hb hk9
  clear H0
  cases p0
  case false =>
    have c00 := (cell_of_box_1 B0).1
    have c10 := (cell_of_box_1 B1).1
    obtain ⟨c20, c21, c22, c23, c24, c25⟩ := open6 B2
    obtain ⟨c30, c31, c32, c33, c34, c35⟩ := open6 B3
    obtain ⟨c40, c41, c42, c43⟩ := open4 B4
    obtain ⟨c50, c51, c52, c53⟩ := open4 B5
    go_wp2
    go_ret
    exact ⟨rfl, hB⟩
  have c00 := (cell_of_box_1 B0).1
  have c10 := (cell_of_box_1 B1).1
  obtain ⟨c20, c21, c22, c23, c24, c25⟩ := open6 B2
  obtain ⟨c30, c31, c32, c33, c34, c35⟩ := open6 B3
  obtain ⟨c40, c41, c42, c43⟩ := open4 B4
  obtain ⟨c50, c51, c52, c53⟩ := open4 B5
  go_wp2_with fail
  refine (H1.out _ hn0 i1).mono ?_
  rintro e w4 ⟨rfl, hb⟩
  clear c00 c10 c20 c21 c22 c23 c24 c25 c30 c31 c32 c33 c34 c35 c40 c41 c42 c43 c50 c51 c52 c53
  have hk9 := Below.keptTo hb hn0
  replace B0 := block_kept B0 hb
  replace B1 := block_kept B1 hb
  replace B2 := block_kept B2 hb
  replace B3 := block_kept B3 hb
  replace B4 := block_kept B4 hb
  replace B5 := block_kept B5 hb
  replace i0 := FT.In.keep hk9 _ i0
  replace i1 := FT.In.keep hk9 _ i1
  replace i2 := XT.In.keep hk9 _ i2
  replace i3 := XT.In.keep hk9 _ i3
  replace i4 := ST.In.keep hk9 _ i4
  replace i5 := ST.In.keep hk9 _ i5
  replace he := he.keep hb
  replace hn0 := Nat.le_trans hn0 hb.size
  replace hB := hB.trans (hb.mono hB.size)
  clear hb hk9
  clear H1
  cases p1
  case false =>
    have c00 := (cell_of_box_1 B0).1
    have c10 := (cell_of_box_1 B1).1
    obtain ⟨c20, c21, c22, c23, c24, c25⟩ := open6 B2
    obtain ⟨c30, c31, c32, c33, c34, c35⟩ := open6 B3
    obtain ⟨c40, c41, c42, c43⟩ := open4 B4
    obtain ⟨c50, c51, c52, c53⟩ := open4 B5
    go_wp2
    go_ret
    exact ⟨rfl, hB⟩
  have c00 := (cell_of_box_1 B0).1
  have c10 := (cell_of_box_1 B1).1
  obtain ⟨c20, c21, c22, c23, c24, c25⟩ := open6 B2
  obtain ⟨c30, c31, c32, c33, c34, c35⟩ := open6 B3
  obtain ⟨c40, c41, c42, c43⟩ := open4 B4
  obtain ⟨c50, c51, c52, c53⟩ := open4 B5
  go_wp2_with fail
  refine (H2.out _ hn0 i2).mono ?_
  rintro e w5 ⟨rfl, hb⟩
  clear c00 c10 c20 c21 c22 c23 c24 c25 c30 c31 c32 c33 c34 c35 c40 c41 c42 c43 c50 c51 c52 c53
  have hk9 := Below.keptTo hb hn0
  replace B0 := block_kept B0 hb
  replace B1 := block_kept B1 hb
  replace B2 := block_kept B2 hb
  replace B3 := block_kept B3 hb
  replace B4 := block_kept B4 hb
  replace B5 := block_kept B5 hb
  replace i0 := FT.In.keep hk9 _ i0
  replace i1 := FT.In.keep hk9 _ i1
  replace i2 := XT.In.keep hk9 _ i2
  replace i3 := XT.In.keep hk9 _ i3
  replace i4 := ST.In.keep hk9 _ i4
  replace i5 := ST.In.keep hk9 _ i5
  replace he := he.keep hb
  replace hn0 := Nat.le_trans hn0 hb.size
  replace hB := hB.trans (hb.mono hB.size)
  clear hb hk9
  clear H2
  cases p2
  case false =>
    have c00 := (cell_of_box_1 B0).1
    have c10 := (cell_of_box_1 B1).1
    obtain ⟨c20, c21, c22, c23, c24, c25⟩ := open6 B2
    obtain ⟨c30, c31, c32, c33, c34, c35⟩ := open6 B3
    obtain ⟨c40, c41, c42, c43⟩ := open4 B4
    obtain ⟨c50, c51, c52, c53⟩ := open4 B5
    go_wp2
    go_ret
    exact ⟨rfl, hB⟩
  have c00 := (cell_of_box_1 B0).1
  have c10 := (cell_of_box_1 B1).1
  obtain ⟨c20, c21, c22, c23, c24, c25⟩ := open6 B2
  obtain ⟨c30, c31, c32, c33, c34, c35⟩ := open6 B3
  obtain ⟨c40, c41, c42, c43⟩ := open4 B4
  obtain ⟨c50, c51, c52, c53⟩ := open4 B5
  go_wp2_with fail
  refine (H3.out _ hn0 i3).mono ?_
  rintro e w6 ⟨rfl, hb⟩
  clear c00 c10 c20 c21 c22 c23 c24 c25 c30 c31 c32 c33 c34 c35 c40 c41 c42 c43 c50 c51 c52 c53
  have hk9 := Below.keptTo hb hn0
  replace B0 := block_kept B0 hb
  replace B1 := block_kept B1 hb
  replace B2 := block_kept B2 hb
  replace B3 := block_kept B3 hb
  replace B4 := block_kept B4 hb
  replace B5 := block_kept B5 hb
  replace i0 := FT.In.keep hk9 _ i0
  replace i1 := FT.In.keep hk9 _ i1
  replace i2 := XT.In.keep hk9 _ i2
  replace i3 := XT.In.keep hk9 _ i3
  replace i4 := ST.In.keep hk9 _ i4
  replace i5 := ST.In.keep hk9 _ i5
  replace he := he.keep hb
  replace hn0 := Nat.le_trans hn0 hb.size
  replace hB := hB.trans (hb.mono hB.size)
  clear hb hk9
  clear H3
  cases p3
  case false =>
    have c00 := (cell_of_box_1 B0).1
    have c10 := (cell_of_box_1 B1).1
    obtain ⟨c20, c21, c22, c23, c24, c25⟩ := open6 B2
    obtain ⟨c30, c31, c32, c33, c34, c35⟩ := open6 B3
    obtain ⟨c40, c41, c42, c43⟩ := open4 B4
    obtain ⟨c50, c51, c52, c53⟩ := open4 B5
    go_wp2
    go_ret
    exact ⟨rfl, hB⟩
  have c00 := (cell_of_box_1 B0).1
  have c10 := (cell_of_box_1 B1).1
  obtain ⟨c20, c21, c22, c23, c24, c25⟩ := open6 B2
  obtain ⟨c30, c31, c32, c33, c34, c35⟩ := open6 B3
  obtain ⟨c40, c41, c42, c43⟩ := open4 B4
  obtain ⟨c50, c51, c52, c53⟩ := open4 B5
  go_wp2_with fail
  refine (H4.out _ hn0 i4).mono ?_
  rintro e w7 ⟨rfl, hb⟩
  clear c00 c10 c20 c21 c22 c23 c24 c25 c30 c31 c32 c33 c34 c35 c40 c41 c42 c43 c50 c51 c52 c53
  have hk9 := Below.keptTo hb hn0
  replace B0 := block_kept B0 hb
  replace B1 := block_kept B1 hb
  replace B2 := block_kept B2 hb
  replace B3 := block_kept B3 hb
  replace B4 := block_kept B4 hb
  replace B5 := block_kept B5 hb
  replace i0 := FT.In.keep hk9 _ i0
  replace i1 := FT.In.keep hk9 _ i1
  replace i2 := XT.In.keep hk9 _ i2
  replace i3 := XT.In.keep hk9 _ i3
  replace i4 := ST.In.keep hk9 _ i4
  replace i5 := ST.In.keep hk9 _ i5
  replace he := he.keep hb
  replace hn0 := Nat.le_trans hn0 hb.size
  replace hB := hB.trans (hb.mono hB.size)
  clear hb hk9
  clear H4
  cases p4
  case false =>
    have c00 := (cell_of_box_1 B0).1
    have c10 := (cell_of_box_1 B1).1
    obtain ⟨c20, c21, c22, c23, c24, c25⟩ := open6 B2
    obtain ⟨c30, c31, c32, c33, c34, c35⟩ := open6 B3
    obtain ⟨c40, c41, c42, c43⟩ := open4 B4
    obtain ⟨c50, c51, c52, c53⟩ := open4 B5
    go_wp2
    go_ret
    exact ⟨rfl, hB⟩
  have c00 := (cell_of_box_1 B0).1
  have c10 := (cell_of_box_1 B1).1
  obtain ⟨c20, c21, c22, c23, c24, c25⟩ := open6 B2
  obtain ⟨c30, c31, c32, c33, c34, c35⟩ := open6 B3
  obtain ⟨c40, c41, c42, c43⟩ := open4 B4
  obtain ⟨c50, c51, c52, c53⟩ := open4 B5
  go_wp2_with fail
  refine (H5.out _ hn0 i5).mono ?_
  rintro e w8 ⟨rfl, hb⟩
  clear c00 c10 c20 c21 c22 c23 c24 c25 c30 c31 c32 c33 c34 c35 c40 c41 c42 c43 c50 c51 c52 c53
  have hk9 := Below.keptTo hb hn0
  replace B0 := block_kept B0 hb
  replace B1 := block_kept B1 hb
  replace B2 := block_kept B2 hb
  replace B3 := block_kept B3 hb
  replace B4 := block_kept B4 hb
  replace B5 := block_kept B5 hb
  replace i0 := FT.In.keep hk9 _ i0
  replace i1 := FT.In.keep hk9 _ i1
  replace i2 := XT.In.keep hk9 _ i2
  replace i3 := XT.In.keep hk9 _ i3
  replace i4 := ST.In.keep hk9 _ i4
  replace i5 := ST.In.keep hk9 _ i5
  replace he := he.keep hb
  replace hn0 := Nat.le_trans hn0 hb.size
  replace hB := hB.trans (hb.mono hB.size)
  clear hb hk9
  clear H5
  cases p5
  case false =>
    have c00 := (cell_of_box_1 B0).1
    have c10 := (cell_of_box_1 B1).1
    obtain ⟨c20, c21, c22, c23, c24, c25⟩ := open6 B2
    obtain ⟨c30, c31, c32, c33, c34, c35⟩ := open6 B3
    obtain ⟨c40, c41, c42, c43⟩ := open4 B4
    obtain ⟨c50, c51, c52, c53⟩ := open4 B5
    go_wp2
    go_ret
    exact ⟨rfl, hB⟩
  clear he
  have bq := fun (dq : Nat) (os : Array Obj) => below_regrown w8 dq os
  have QA := Lib.hid (fun (dq : Nat) (os : Array Obj) => HA.out (grow (redrawn w8 dq) os) (Nat.le_trans hn0 (bq dq os).size) (FT.In.keep (Below.keptTo (bq dq os) hn0) _ i0) (FT.In.keep (Below.keptTo (bq dq os) hn0) _ i1))
  have QB := Lib.hid (fun (dq : Nat) (os : Array Obj) => HB.out (grow (redrawn w8 dq) os) (Nat.le_trans hn0 (bq dq os).size) (FT.In.keep (Below.keptTo (bq dq os) hn0) _ i0) (FT.In.keep (Below.keptTo (bq dq os) hn0) _ i1))
  have QC := Lib.hid (fun (dq : Nat) (os : Array Obj) => HC.out (grow (redrawn w8 dq) os) (Nat.le_trans hn0 (bq dq os).size) (XT.In.keep (Below.keptTo (bq dq os) hn0) _ i2) (XT.In.keep (Below.keptTo (bq dq os) hn0) _ i3))
  have QD := Lib.hid (fun (dq : Nat) (os : Array Obj) => HD.out (grow (redrawn w8 dq) os) (Nat.le_trans hn0 (bq dq os).size) (XT.In.keep (Below.keptTo (bq dq os) hn0) _ i2) (XT.In.keep (Below.keptTo (bq dq os) hn0) _ i3))
  have QE := Lib.hid (fun (dq : Nat) (os : Array Obj) => HE.out (grow (redrawn w8 dq) os) (Nat.le_trans hn0 (bq dq os).size) (ST.In.keep (Below.keptTo (bq dq os) hn0) _ i4) (ST.In.keep (Below.keptTo (bq dq os) hn0) _ i5))
  have QG := Lib.hid (fun (dq : Nat) (os : Array Obj) => HG.out (grow (redrawn w8 dq) os) (Nat.le_trans hn0 (bq dq os).size) (ST.In.keep (Below.keptTo (bq dq os) hn0) _ i4) (ST.In.keep (Below.keptTo (bq dq os) hn0) _ i5))
  clear bq HA HB HC HD HE HG i0 i1 i2 i3 i4 i5
  have c00 := (cell_of_box_1 B0).1
  have c10 := (cell_of_box_1 B1).1
  obtain ⟨c20, c21, c22, c23, c24, c25⟩ := open6 B2
  obtain ⟨c30, c31, c32, c33, c34, c35⟩ := open6 B3
  obtain ⟨c40, c41, c42, c43⟩ := open4 B4
  obtain ⟨c50, c51, c52, c53⟩ := open4 B5
  go_wp2_with fail
  have c00R := cell_regrown c00
  have c10R := cell_regrown c10
  have c20R := cell_regrown c20
  have c21R := cell_regrown c21
  have c22R := cell_regrown c22
  have c23R := cell_regrown c23
  have c24R := cell_regrown c24
  have c25R := cell_regrown c25
  have c30R := cell_regrown c30
  have c31R := cell_regrown c31
  have c32R := cell_regrown c32
  have c33R := cell_regrown c33
  have c34R := cell_regrown c34
  have c35R := cell_regrown c35
  have c40R := cell_regrown c40
  have c41R := cell_regrown c41
  have c42R := cell_regrown c42
  have c43R := cell_regrown c43
  have c50R := cell_regrown c50
  have c51R := cell_regrown c51
  have c52R := cell_regrown c52
  have c53R := cell_regrown c53
  refine wp_region_quiet_below (by kernel_rfl) (by kernel_rfl) ?_
  repeat (go_big_quiet_step (first | (go_at_call 17; exact Calls.regrown_of (QA.out _ _)) | (go_at_call 18; exact Calls.regrown_of (QB.out _ _)) | (go_at_call 19; exact Calls.regrown_of (QC.out _ _)) | (go_at_call 20; exact Calls.regrown_of (QD.out _ _)) | (go_at_call 21; exact Calls.regrown_of (QE.out _ _)) | (go_at_call 22; exact Calls.regrown_of (QG.out _ _))))
  refine wpQuiet_nil ?_
  intro _ hw'
  obtain ⟨⟨dq, osq⟩, hw''⟩ := hw'
  subst hw''
  have hB3 := hB.trans ((below_regrown w8 dq osq).mono hB.size)
  clear c00R c10R c20R c21R c22R c23R c24R c25R c30R c31R c32R c33R c34R c35R c40R c41R c42R c43R c50R c51R c52R c53R c00 c10 c20 c21 c22 c23 c24 c25 c30 c31 c32 c33 c34 c35 c40 c41 c42 c43 c50 c51 c52 c53
  generalize grow (redrawn w8 dq) osq = w9 at *
  go_wp2
  go_ret
  exact ⟨rfl, hB3⟩

/-! ### The row's step -/
set_option maxRecDepth 100000 in
theorem contract (H : Type) (enc : TypeId × Value → H) (W : World) (base : Nat) (args : Array Value) (ds gs : List (DataW H)) (before : List MemPlace)
    (hval0 : ∀ (j : Nat) t v, Tryz.f4.params[j]? = some t → args[j]? = some v → Value.okWide Tryz.prog W .any base t v)
    (hW : DataW.Whole enc Tryz.prog Tryz.f4.params.toList Rows.astSameSpec.vars false W args.toList ds gs before) (hbk : Rows.uptoBulkAll (ds ++ gs) ≤ 1048576) (hL : laidMetH Tryz.prog LD W) (hsh : W.ShapedOpen Tryz.prog) :
    Calls Tryz.prog 4 args W fun e W' => ∃ v, e = .returned v ∧ Rows.astSameSpec.post enc Tryz.prog Tryz.f4 false true false false W args v W' := by
  have hval : ∀ (j : Nat) t v, Tryz.f4.params[j]? = some t → args[j]? = some v → Value.okWide Tryz.prog W .any base t v := hval0
  have hW' := hW
  obtain ⟨p, q, hA0, hV, rfl, hfz, hnd⟩ := hW
  have hA : DataW.TrodAll enc Tryz.prog W 0 (fun _ => true) true Tryz.f4.params.toList args.toList ds p := hA0
  rw [Tryz.params4] at hA hval
  obtain ⟨v0, vs0, d0, ds0, p0, q0, hargs, rfl, rfl, h0, r0⟩ := trodAll_cons hA
  obtain ⟨v1, vs1, d1, ds1, p1, q1, rfl, rfl, rfl, h1, r1⟩ := trodAll_cons r0
  obtain ⟨v2, vs2, d2, ds2, p2, q2, rfl, rfl, rfl, h2, r2⟩ := trodAll_cons r1
  obtain ⟨v3, vs3, d3, ds3, p3, q3, rfl, rfl, rfl, h3, r3⟩ := trodAll_cons r2
  obtain ⟨v4, vs4, d4, ds4, p4, q4, rfl, rfl, rfl, h4, r4⟩ := trodAll_cons r3
  obtain ⟨v5, vs5, d5, ds5, p5, q5, rfl, rfl, rfl, h5, r5⟩ := trodAll_cons r4
  obtain ⟨rfl, rfl, rfl⟩ := trodAll_nil r5
  obtain rfl : args = #[v0, v1, v2, v3, v4, v5] := by cases args; simp_all
  obtain ⟨rfl, rfl⟩ := trodVars_none hV
  have he := env_of hL hsh
  simp only [List.append_nil, Rows.uptoBulkAll] at hbk
  have k0 : ∀ (W' : World), Below W.heap.size W W' → DataW.Trod enc Tryz.prog W' 0 (fun b => decide (b < W.heap.size)) true 41 v0 d0 p0 := fun W' hn => Below.trod laidOut (by kernel_rfl) (of_decide_eq_true (by kernel_rfl)) h0 hn (fun x hx => by simpa using hW'.lt x (by simp [hx]))
  have k1 : ∀ (W' : World), Below W.heap.size W W' → DataW.Trod enc Tryz.prog W' 0 (fun b => decide (b < W.heap.size)) true 41 v1 d1 p1 := fun W' hn => Below.trod laidOut (by kernel_rfl) (of_decide_eq_true (by kernel_rfl)) h1 hn (fun x hx => by simpa using hW'.lt x (by simp [hx]))
  have k2 : ∀ (W' : World), Below W.heap.size W W' → DataW.Trod enc Tryz.prog W' 0 (fun b => decide (b < W.heap.size)) true 25 v2 d2 p2 := fun W' hn => Below.trod laidOut (by kernel_rfl) (of_decide_eq_true (by kernel_rfl)) h2 hn (fun x hx => by simpa using hW'.lt x (by simp [hx]))
  have k3 : ∀ (W' : World), Below W.heap.size W W' → DataW.Trod enc Tryz.prog W' 0 (fun b => decide (b < W.heap.size)) true 25 v3 d3 p3 := fun W' hn => Below.trod laidOut (by kernel_rfl) (of_decide_eq_true (by kernel_rfl)) h3 hn (fun x hx => by simpa using hW'.lt x (by simp [hx]))
  have k4 : ∀ (W' : World), Below W.heap.size W W' → DataW.Trod enc Tryz.prog W' 0 (fun b => decide (b < W.heap.size)) true 28 v4 d4 p4 := fun W' hn => Below.trod laidOut (by kernel_rfl) (of_decide_eq_true (by kernel_rfl)) h4 hn (fun x hx => by simpa using hW'.lt x (by simp [hx]))
  have k5 : ∀ (W' : World), Below W.heap.size W W' → DataW.Trod enc Tryz.prog W' 0 (fun b => decide (b < W.heap.size)) true 28 v5 d5 p5 := fun W' hn => Below.trod laidOut (by kernel_rfl) (of_decide_eq_true (by kernel_rfl)) h5 hn (fun x hx => by simpa using hW'.lt x (by simp [hx]))
  obtain ⟨t0, rfl, i0, w0, b0, m0, n0⟩ := ft_of (hval 0 41 v0 rfl rfl) h0
  obtain ⟨t1, rfl, i1, w1, b1, m1, n1⟩ := ft_of (hval 1 41 v1 rfl rfl) h1
  obtain ⟨t2, rfl, i2, w2, b2⟩ := xt_of (hval 2 25 v2 rfl rfl) h2
  obtain ⟨t3, rfl, i3, w3, b3⟩ := xt_of (hval 3 25 v3 rfl rfl) h3
  obtain ⟨t4, rfl, i4, w4, b4⟩ := st_of (hval 4 28 v4 rfl rfl) h4
  obtain ⟨t5, rfl, i5, w5, b5⟩ := st_of (hval 5 28 v5 rfl rfl) h5
  clear hA0 hval0
  simp only [List.append_nil] at hW'
  refine (walk t0 t1 t2 t3 t4 t5 (by omega) (by omega) (by omega) (by omega) (by omega) (by omega) W.heap.size W (Nat.le_refl _) he i0 i1 i2 i3 i4 i5).mono fun e W' ⟨hr, bel⟩ => ?_
  subst hr
  exact ⟨_, rfl, _, _, _, [], _, [], hW', trodAll_mk1 (shut_bool Tryz.underlying4 _), (trodAll_cons_mk (k0 _ bel) (trodAll_cons_mk (k1 _ bel) (trodAll_cons_mk (k2 _ bel) (trodAll_cons_mk (k3 _ bel) (trodAll_cons_mk (k4 _ bel) (trodAll_cons_mk (k5 _ bel) trodAll_mk0)))))), rfl, bel.frame _, fun h => by cases h⟩
theorem reads (os : Os) {H : Type} (enc : TypeId × Value → H) : ∃ places, DataW.whole enc Tryz.prog ((World.doorLaid Tryz.prog 55 os).forCall (fun _ _ => 0) ⟨#[], #[.agg #[.slice none 0 0], .agg #[.slice none 0 0], .agg #[.int .i64 0, .string ⟨#[]⟩, .int .i64 0, .int .i64 0, .int .u64 0, .slice none 0 0], .agg #[.int .i64 0, .string ⟨#[]⟩, .int .i64 0, .int .i64 0, .int .u64 0, .slice none 0 0], .agg #[.int .i64 0, .string ⟨#[]⟩, .slice none 0 0, .slice none 0 0], .agg #[.int .i64 0, .string ⟨#[]⟩, .slice none 0 0, .slice none 0 0]], []⟩).memory Tryz.f4.params.toList Rows.astSameSpec.vars false #[.agg #[.slice none 0 0], .agg #[.slice none 0 0], .agg #[.int .i64 0, .string ⟨#[]⟩, .int .i64 0, .int .i64 0, .int .u64 0, .slice none 0 0], .agg #[.int .i64 0, .string ⟨#[]⟩, .int .i64 0, .int .i64 0, .int .u64 0, .slice none 0 0], .agg #[.int .i64 0, .string ⟨#[]⟩, .slice none 0 0, .slice none 0 0], .agg #[.int .i64 0, .string ⟨#[]⟩, .slice none 0 0, .slice none 0 0]].toList 8 = some ([.agg [.nil], .agg [.nil], .agg [.lit (.int .i64 0), .lit (.string []), .lit (.int .i64 0), .lit (.int .i64 0), .lit (.int .u64 0), .nil], .agg [.lit (.int .i64 0), .lit (.string []), .lit (.int .i64 0), .lit (.int .i64 0), .lit (.int .u64 0), .nil], .agg [.lit (.int .i64 0), .lit (.string []), .nil, .nil], .agg [.lit (.int .i64 0), .lit (.string []), .nil, .nil]], [], places) :=
  ⟨[], by kernel_rfl⟩
set_option maxRecDepth 100000 in
theorem lifted (os : Os) (started : os.Started) (H : Type) (enc : TypeId × Value → H) (F : Stop.Interp) :
    ReturnsInHanded {} Tryz.checked os 4 .any ((Rows.OpenSpec.upto Rows.astSameSpec).preRow enc Tryz.prog Tryz.f4 Rows.astSameUptoRow.domain false Rows.astSameUptoRow.laid) (((Rows.OpenSpec.upto Rows.astSameSpec).at F).post enc Tryz.prog Tryz.f4 false true false false) := by
  obtain ⟨places, hx⟩ := reads os enc
  refine returnsInHanded_of_row (C := Tryz.checked) (s := Rows.OpenSpec.upto Rows.astSameSpec) own started (by kernel_rfl) Tryz.func4
    (witness_row_at (enc := enc) (C := Tryz.checked) false (World.doorLaid Tryz.prog 55 os) #[.agg #[.slice none 0 0], .agg #[.slice none 0 0], .agg #[.int .i64 0, .string ⟨#[]⟩, .int .i64 0, .int .i64 0, .int .u64 0, .slice none 0 0], .agg #[.int .i64 0, .string ⟨#[]⟩, .int .i64 0, .int .i64 0, .int .u64 0, .slice none 0 0], .agg #[.int .i64 0, .string ⟨#[]⟩, .slice none 0 0, .slice none 0 0], .agg #[.int .i64 0, .string ⟨#[]⟩, .slice none 0 0, .slice none 0 0]] rfl (by kernel_rfl) (by kernel_rfl) (by kernel_rfl)
      (OpenSpec.preRow_of_cond 8 hx (by kernel_rfl) (fun k hk => by cases hk; kernel_rfl) (by kernel_rfl) (door_met os _))) ?_
  intro W base args ds gs before hval hW _ hcond _ hL hsh _
  have hbk : Rows.uptoBulkAll (ds ++ gs) ≤ 1048576 := of_decide_eq_true (hcond _ rfl)
  exact contract H enc W base args ds gs before hval hW hbk hL hsh
theorem over : Rows.AstSameUptoSaid :=
  OpenClaim.holds_of_cond 4 Tryz.f4 rfl rfl rfl rfl rfl rfl rfl ⟨rfl, rfl, rfl, rfl, rfl⟩ rfl rfl rfl rfl rfl (by kernel_rfl) Tryz.func4 (by kernel_rfl)
    (of_decide_eq_true (by kernel_rfl)) (by unfold Func.isWrapper; first | (rw [if_pos (by decide +kernel)]; kernel_rfl) | (rw [if_neg (by decide +kernel)]; exact ⟨rfl, rfl⟩))
    (fun os started H enc _ F => by rw [OpenClaim.pre_eq_preRow]; exact lifted os started H enc F)
/-- The given statement. -/
theorem proved : Rows.AstSameUptoCardSaid :=
  Claim7.holds_tied_plain_at .later [] _ _ _ _
    over (fun _ h => by cases h) (by kernel_rfl) (fun _ h => by cases h) astSameUpto_row_tie rfl ⟨rfl, rfl⟩ (by kernel_rfl) rfl
    (fun f fn hf hfn => by
      obtain rfl : f = 4 := Option.some.inj ((show Tryz.prog.funcNamed "filigree/filigreelaw03.AstSame" = some 4 by kernel_rfl).symm.trans hf) |>.symm
      obtain rfl : fn = Tryz.f4 := (Option.some.inj (Tryz.func4.symm.trans hfn)).symm
      exact ⟨by kernel_rfl, fun j t ht => by
        rw [Tryz.params4] at ht
        have hm : t ∈ [41, 41, 25, 25, 28, 28] := by simpa using Array.mem_of_getElem? ht
        have hall : ([41, 41, 25, 25, 28, 28].all fun u => !Tryz.prog.wantsStandIn u) = true := by kernel_rfl
        exact (show Tryz.prog.wantsStandIn t = false by simpa using List.all_eq_true.1 hall t hm)⟩)
    (by kernel_rfl)
#print axioms proved
end Go.Proofs.YtlbjmnakiflfpaaGreatDoor.astSame
