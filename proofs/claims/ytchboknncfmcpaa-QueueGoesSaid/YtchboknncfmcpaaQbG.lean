/-
  QueueGoes' walk.
-/
import Derived.Test.YtchboknncfmcpaaQaN
import Derived.Test.YtchboknncfmcpaaQaL
import Derived.Test.YtchboknncfmcpaaQaR
namespace Go.Proofs.Ytchboknncfmcpaa
open Go Go.RowKit
set_option linter.unusedVariables false
set_option linter.unusedSimpArgs false
open Go.Sort
theorem popS_len {l : List EV} {now dl nx : Int} : (popS l now dl nx).1.length ≤ l.length := by
  unfold popS
  split
  · cases l with
    | nil => simp
    | cons x r => simp
  · simp
theorem takeS_len {l : List EV} {now dl nx : Int} : (takeS l now dl nx).1.length ≤ l.length := by
  unfold takeS
  split
  · simp only [List.length_drop]; omega
  · simp
theorem takeL_len {l : List EV} {now dl nx : Int} : (takeL l now dl nx).length ≤ l.length := by
  unfold takeL
  split
  · simp only [List.length_take]; omega
  · simp
set_option maxHeartbeats 8000000 in
set_option maxRecDepth 100000 in
theorem goes_law (a : Option Addr) (c : Nat) (l : List EV) (hac : a = none → c = 0) (hlc : l.length ≤ c) (now dl nx : Int) (w : World) (hin : EvIn w.heap.size w l a) : Calls Try.prog 4 #[.agg #[.slice a l.length c, .int .i64 now, .int .i64 dl, .int .i64 nx]] w fun e w' => e = .returned (.bool true) ∧ Below w.heap.size w w' := by
  have HB := Lib.hid (Below.refl w.heap.size w)
  have HIl := Lib.hid hin
  clear hin
  have HCC := Lib.hid (And.intro hac hlc)
  clear hac hlc
  go_enter Try.func4, Try.ntmps4
  obtain ⟨gq, hgq⟩ : ∃ g, w.heap.size = g := ⟨_, rfl⟩
  obtain ⟨V1_0, hV1_0⟩ : ∃ W, w.alloc (.cells #[.slice a l.length c, .int .i64 now, .int .i64 dl, .int .i64 nx] 24) = W := ⟨_, rfl⟩
  have hbV1_0 : Below w.heap.size w V1_0 := by rw [← hV1_0]; exact (Below.refl _ _).alloc (Nat.le_refl _) _
  have hzV1_0 : V1_0.heap.size = gq + 1 := by rw [← hV1_0, World.size_alloc, hgq]
  have BBq : V1_0.heap[gq]? = some (.cells #[.slice a l.length c, .int .i64 now, .int .i64 dl, .int .i64 nx] 24 (0, 0)) := by rw [← hV1_0, ← hgq]; exact World.alloc_heap_new w _
  have hbw := hbV1_0
  have hbx1 : Below w.heap.size w V1_0 := hbw
  replace HIl := Lib.hid (InRow.less hbx1.size (fun _ _ h => h) (EvIn.keep HIl.out hbx1 (Nat.le_refl _)))
  replace HB := Lib.hid (HB.out.trans (hbx1.mono HB.out.size))
  have Hq := Lib.hid BBq
  clear BBq hbw hbx1 hbV1_0
  have HV1_0 := Lib.hid hV1_0
  clear hV1_0
  go_upto_region 1 with (fail)
  (try rw [hgq])
  (try rw [HV1_0.out])
  (try rw [hzV1_0])
  clear HV1_0 hzV1_0 hgq
  go_wp2_with fail
  refine (live_any _).mono ?_
  rintro e w2 ⟨rfl, hb⟩
  replace Hq := Lib.hid (block_kept Hq.out hb)
  replace HIl := Lib.hid (InRow.less hb.size (fun _ _ h => h) (EvIn.keep HIl.out hb (Nat.le_refl _)))
  replace HB := Lib.hid (HB.out.trans (hb.mono HB.out.size))
  clear hb
  obtain ⟨qc0, qc1, qc2, qc3⟩ := ope4 Hq.out
  obtain ⟨FB, hFB⟩ : ∃ FB, decide ((l.length : Int) ≤ 300) = FB := ⟨_, rfl⟩
  have cW := few_any a l.length c now dl nx w2
  rw [hFB] at cW
  have HFB := Lib.hid hFB
  clear hFB
  go_wp2_with fail
  refine (cW).mono ?_
  clear qc0 qc1 qc2 qc3
  rintro e w3 ⟨rfl, hb⟩
  replace Hq := Lib.hid (block_kept Hq.out hb)
  replace HIl := Lib.hid (InRow.less hb.size (fun _ _ h => h) (EvIn.keep HIl.out hb (Nat.le_refl _)))
  replace HB := Lib.hid (HB.out.trans (hb.mono HB.out.size))
  clear hb
  clear cW
  obtain ⟨qc0, qc1, qc2, qc3⟩ := ope4 Hq.out
  cases FB with
  | false =>
    go_wp2
    go_ret
    exact ⟨rfl, HB.out⟩
  | true =>
  have hlen : l.length ≤ 300 := by have := of_decide_eq_true HFB.out; omega
  have HLN := Lib.hid hlen
  clear hlen HFB
  obtain ⟨S, hS⟩ : ∃ S, popS l now dl nx = S := ⟨_, rfl⟩
  obtain ⟨X, hX⟩ : ∃ X, popX l now dl nx = X := ⟨_, rfl⟩
  obtain ⟨er, hE⟩ : ∃ E, popF now dl nx l = E := ⟨_, rfl⟩
  obtain ⟨T, hT⟩ : ∃ T, takeS l now dl nx = T := ⟨_, rfl⟩
  obtain ⟨M, hM⟩ : ∃ M, takeL l now dl nx = M := ⟨_, rfl⟩
  have HLS : Hid (S.1.length ≤ 300) := Lib.hid (by rw [← hS]; exact Nat.le_trans popS_len HLN.out)
  have HLT : Hid (T.1.length ≤ 300) := Lib.hid (by rw [← hT]; exact Nat.le_trans takeS_len HLN.out)
  have HLM : Hid (M.length ≤ 300) := Lib.hid (by rw [← hM]; exact Nat.le_trans takeL_len HLN.out)
  have HS := Lib.hid hS
  have HX := Lib.hid hX
  have HE := Lib.hid hE
  have HT := Lib.hid hT
  have HM := Lib.hid hM
  clear hS hX hE hT hM
  obtain ⟨pl, p1, p2, p3⟩ := S
  obtain ⟨xt, xd, xn, xs, xv⟩ := X
  obtain ⟨tl, t1, t2, t3⟩ := T
  have cP := pop_res (pop_any a c l (by have := HLN.out; omega) HCC.out.1 HCC.out.2 now dl nx w3.heap.size w3 (Nat.le_refl _) HIl.out)
  rw [HS.out, HX.out, HE.out] at cP
  go_wp2_with fail
  refine (cP).mono ?_
  clear qc0 qc1 qc2 qc3
  rintro e w4 ⟨hb, a5, c5, rfl, hi5, k1, k2⟩
  replace Hq := Lib.hid (block_kept Hq.out hb)
  replace HIl := Lib.hid (InRow.less hb.size (fun _ _ h => h) (EvIn.keep HIl.out hb (Nat.le_refl _)))
  replace HB := Lib.hid (HB.out.trans (hb.mono HB.out.size))
  clear hb
  clear cP k1 k2
  have HI5 := Lib.hid hi5
  clear hi5
  obtain ⟨ga, hga⟩ : ∃ g, w4.heap.size = g := ⟨_, rfl⟩
  obtain ⟨V5_0, hV5_0⟩ : ∃ W, w4.alloc (.cells #[.slice a5 pl.length c5, .int .i64 p1, .int .i64 p2, .int .i64 p3] 24) = W := ⟨_, rfl⟩
  have hbV5_0 : Below w4.heap.size w4 V5_0 := by rw [← hV5_0]; exact (Below.refl _ _).alloc (Nat.le_refl _) _
  have hzV5_0 : V5_0.heap.size = ga + 1 := by rw [← hV5_0, World.size_alloc, hga]
  have BBa : V5_0.heap[ga]? = some (.cells #[.slice a5 pl.length c5, .int .i64 p1, .int .i64 p2, .int .i64 p3] 24 (0, 0)) := by rw [← hV5_0, ← hga]; exact World.alloc_heap_new w4 _
  have hbw := hbV5_0
  obtain ⟨V5_1, hV5_1⟩ : ∃ W, V5_0.alloc (.cells #[.int .i64 xt, .int .i64 xd, .int .i64 xn, .int .i64 xs, .int .u64 xv] 35) = W := ⟨_, rfl⟩
  have hbV5_1 : Below V5_0.heap.size V5_0 V5_1 := by rw [← hV5_1]; exact (Below.refl _ _).alloc (Nat.le_refl _) _
  have hzV5_1 : V5_1.heap.size = ga + 2 := by rw [← hV5_1, World.size_alloc, hzV5_0]
  have BBx : V5_1.heap[ga + 1]? = some (.cells #[.int .i64 xt, .int .i64 xd, .int .i64 xn, .int .i64 xs, .int .u64 xv] 35 (0, 0)) := by rw [← hV5_1, ← hzV5_0]; exact World.alloc_heap_new V5_0 _
  replace BBa := block_kept BBa hbV5_1
  replace hbw := hbw.trans (hbV5_1.mono hbw.size)
  have hbx5 : Below w4.heap.size w4 V5_1 := hbw
  replace Hq := Lib.hid (block_kept Hq.out hbx5)
  replace HIl := Lib.hid (InRow.less hbx5.size (fun _ _ h => h) (EvIn.keep HIl.out hbx5 (Nat.le_refl _)))
  replace HI5 := Lib.hid (InRow.less hbx5.size (fun _ _ h => h) (EvIn.keep HI5.out hbx5 (Nat.le_refl _)))
  replace HB := Lib.hid (HB.out.trans (hbx5.mono HB.out.size))
  have Ha := Lib.hid BBa
  have Hx := Lib.hid BBx
  clear BBa BBx hbw hbx5 hbV5_0 hbV5_1
  have HV5_0 := Lib.hid hV5_0
  clear hV5_0
  have HV5_1 := Lib.hid hV5_1
  clear hV5_1
  go_upto_region 5 with (fail)
  (try rw [hga])
  (try rw [HV5_0.out])
  (try rw [hzV5_0])
  (try rw [HV5_1.out])
  (try rw [hzV5_1])
  clear HV5_0 hzV5_0 HV5_1 hzV5_1 hga
  obtain ⟨qc0, qc1, qc2, qc3⟩ := ope4 Hq.out
  have cP := pop_res (refPop_any a c l (by have := HLN.out; omega) HCC.out.1 HCC.out.2 now dl nx V5_1.heap.size V5_1 (Nat.le_refl _) HIl.out)
  rw [HS.out, HX.out, HE.out] at cP
  go_wp2_with fail
  refine (cP).mono ?_
  clear qc0 qc1 qc2 qc3
  rintro e w6 ⟨hb, a6, c6, rfl, hi6, k1, k2⟩
  replace Hq := Lib.hid (block_kept Hq.out hb)
  replace Ha := Lib.hid (block_kept Ha.out hb)
  replace Hx := Lib.hid (block_kept Hx.out hb)
  replace HIl := Lib.hid (InRow.less hb.size (fun _ _ h => h) (EvIn.keep HIl.out hb (Nat.le_refl _)))
  replace HI5 := Lib.hid (InRow.less hb.size (fun _ _ h => h) (EvIn.keep HI5.out hb (Nat.le_refl _)))
  replace HB := Lib.hid (HB.out.trans (hb.mono HB.out.size))
  clear hb
  clear cP k1 k2
  have HI6 := Lib.hid hi6
  clear hi6
  obtain ⟨gb, hgb⟩ : ∃ g, w6.heap.size = g := ⟨_, rfl⟩
  obtain ⟨V7_0, hV7_0⟩ : ∃ W, w6.alloc (.cells #[.slice a6 pl.length c6, .int .i64 p1, .int .i64 p2, .int .i64 p3] 24) = W := ⟨_, rfl⟩
  have hbV7_0 : Below w6.heap.size w6 V7_0 := by rw [← hV7_0]; exact (Below.refl _ _).alloc (Nat.le_refl _) _
  have hzV7_0 : V7_0.heap.size = gb + 1 := by rw [← hV7_0, World.size_alloc, hgb]
  have BBb : V7_0.heap[gb]? = some (.cells #[.slice a6 pl.length c6, .int .i64 p1, .int .i64 p2, .int .i64 p3] 24 (0, 0)) := by rw [← hV7_0, ← hgb]; exact World.alloc_heap_new w6 _
  have hbw := hbV7_0
  obtain ⟨V7_1, hV7_1⟩ : ∃ W, V7_0.alloc (.cells #[.int .i64 xt, .int .i64 xd, .int .i64 xn, .int .i64 xs, .int .u64 xv] 35) = W := ⟨_, rfl⟩
  have hbV7_1 : Below V7_0.heap.size V7_0 V7_1 := by rw [← hV7_1]; exact (Below.refl _ _).alloc (Nat.le_refl _) _
  have hzV7_1 : V7_1.heap.size = gb + 2 := by rw [← hV7_1, World.size_alloc, hzV7_0]
  have BBy : V7_1.heap[gb + 1]? = some (.cells #[.int .i64 xt, .int .i64 xd, .int .i64 xn, .int .i64 xs, .int .u64 xv] 35 (0, 0)) := by rw [← hV7_1, ← hzV7_0]; exact World.alloc_heap_new V7_0 _
  replace BBb := block_kept BBb hbV7_1
  replace hbw := hbw.trans (hbV7_1.mono hbw.size)
  have hbx7 : Below w6.heap.size w6 V7_1 := hbw
  replace Hq := Lib.hid (block_kept Hq.out hbx7)
  replace Ha := Lib.hid (block_kept Ha.out hbx7)
  replace Hx := Lib.hid (block_kept Hx.out hbx7)
  replace HIl := Lib.hid (InRow.less hbx7.size (fun _ _ h => h) (EvIn.keep HIl.out hbx7 (Nat.le_refl _)))
  replace HI5 := Lib.hid (InRow.less hbx7.size (fun _ _ h => h) (EvIn.keep HI5.out hbx7 (Nat.le_refl _)))
  replace HI6 := Lib.hid (InRow.less hbx7.size (fun _ _ h => h) (EvIn.keep HI6.out hbx7 (Nat.le_refl _)))
  replace HB := Lib.hid (HB.out.trans (hbx7.mono HB.out.size))
  have Hb := Lib.hid BBb
  have Hy := Lib.hid BBy
  clear BBb BBy hbw hbx7 hbV7_0 hbV7_1
  have HV7_0 := Lib.hid hV7_0
  clear hV7_0
  have HV7_1 := Lib.hid hV7_1
  clear hV7_1
  go_upto_region 6 with (fail)
  (try rw [hgb])
  (try rw [HV7_0.out])
  (try rw [hzV7_0])
  (try rw [HV7_1.out])
  (try rw [hzV7_1])
  clear HV7_0 hzV7_0 HV7_1 hzV7_1 hgb
  obtain ⟨qc0, qc1, qc2, qc3⟩ := ope4 Hq.out
  have cP := take_res (take_any a c l (by have := HLN.out; omega) HCC.out.1 HCC.out.2 now dl nx V7_1.heap.size V7_1 (Nat.le_refl _) HIl.out)
  rw [HT.out, HM.out, HE.out] at cP
  go_wp2_with fail
  refine (cP).mono ?_
  clear qc0 qc1 qc2 qc3
  rintro e w8 ⟨hb, a7, c7, a8, c8, rfl, hi7, k1, k2, hi8, k3, k4⟩
  replace Hq := Lib.hid (block_kept Hq.out hb)
  replace Ha := Lib.hid (block_kept Ha.out hb)
  replace Hx := Lib.hid (block_kept Hx.out hb)
  replace Hb := Lib.hid (block_kept Hb.out hb)
  replace Hy := Lib.hid (block_kept Hy.out hb)
  replace HIl := Lib.hid (InRow.less hb.size (fun _ _ h => h) (EvIn.keep HIl.out hb (Nat.le_refl _)))
  replace HI5 := Lib.hid (InRow.less hb.size (fun _ _ h => h) (EvIn.keep HI5.out hb (Nat.le_refl _)))
  replace HI6 := Lib.hid (InRow.less hb.size (fun _ _ h => h) (EvIn.keep HI6.out hb (Nat.le_refl _)))
  replace HB := Lib.hid (HB.out.trans (hb.mono HB.out.size))
  clear hb
  clear cP k1 k2 k3 k4
  have HI7 := Lib.hid hi7
  have HI8 := Lib.hid hi8
  clear hi7 hi8
  obtain ⟨gd, hgd⟩ : ∃ g, w8.heap.size = g := ⟨_, rfl⟩
  obtain ⟨V9_0, hV9_0⟩ : ∃ W, w8.alloc (.cells #[.slice a7 tl.length c7, .int .i64 t1, .int .i64 t2, .int .i64 t3] 24) = W := ⟨_, rfl⟩
  have hbV9_0 : Below w8.heap.size w8 V9_0 := by rw [← hV9_0]; exact (Below.refl _ _).alloc (Nat.le_refl _) _
  have hzV9_0 : V9_0.heap.size = gd + 1 := by rw [← hV9_0, World.size_alloc, hgd]
  have BBd : V9_0.heap[gd]? = some (.cells #[.slice a7 tl.length c7, .int .i64 t1, .int .i64 t2, .int .i64 t3] 24 (0, 0)) := by rw [← hV9_0, ← hgd]; exact World.alloc_heap_new w8 _
  have hbw := hbV9_0
  have hbx9 : Below w8.heap.size w8 V9_0 := hbw
  replace Hq := Lib.hid (block_kept Hq.out hbx9)
  replace Ha := Lib.hid (block_kept Ha.out hbx9)
  replace Hx := Lib.hid (block_kept Hx.out hbx9)
  replace Hb := Lib.hid (block_kept Hb.out hbx9)
  replace Hy := Lib.hid (block_kept Hy.out hbx9)
  replace HIl := Lib.hid (InRow.less hbx9.size (fun _ _ h => h) (EvIn.keep HIl.out hbx9 (Nat.le_refl _)))
  replace HI5 := Lib.hid (InRow.less hbx9.size (fun _ _ h => h) (EvIn.keep HI5.out hbx9 (Nat.le_refl _)))
  replace HI6 := Lib.hid (InRow.less hbx9.size (fun _ _ h => h) (EvIn.keep HI6.out hbx9 (Nat.le_refl _)))
  replace HI7 := Lib.hid (InRow.less hbx9.size (fun _ _ h => h) (EvIn.keep HI7.out hbx9 (Nat.le_refl _)))
  replace HI8 := Lib.hid (InRow.less hbx9.size (fun _ _ h => h) (EvIn.keep HI8.out hbx9 (Nat.le_refl _)))
  replace HB := Lib.hid (HB.out.trans (hbx9.mono HB.out.size))
  have Hd := Lib.hid BBd
  clear BBd hbw hbx9 hbV9_0
  have HV9_0 := Lib.hid hV9_0
  clear hV9_0
  go_upto_region 7 with (fail)
  (try rw [hgd])
  (try rw [HV9_0.out])
  (try rw [hzV9_0])
  clear HV9_0 hzV9_0 hgd
  obtain ⟨qc0, qc1, qc2, qc3⟩ := ope4 Hq.out
  have cP := take_res (refTake_any a c l (by have := HLN.out; omega) HCC.out.1 HCC.out.2 now dl nx V9_0.heap.size V9_0 (Nat.le_refl _) HIl.out)
  rw [HT.out, HM.out, HE.out] at cP
  go_wp2_with fail
  refine (cP).mono ?_
  clear qc0 qc1 qc2 qc3
  rintro e w10 ⟨hb, a9, c9, a10, c10, rfl, hi9, k1, k2, hi10, k3, k4⟩
  replace Hq := Lib.hid (block_kept Hq.out hb)
  replace Ha := Lib.hid (block_kept Ha.out hb)
  replace Hx := Lib.hid (block_kept Hx.out hb)
  replace Hb := Lib.hid (block_kept Hb.out hb)
  replace Hy := Lib.hid (block_kept Hy.out hb)
  replace Hd := Lib.hid (block_kept Hd.out hb)
  replace HIl := Lib.hid (InRow.less hb.size (fun _ _ h => h) (EvIn.keep HIl.out hb (Nat.le_refl _)))
  replace HI5 := Lib.hid (InRow.less hb.size (fun _ _ h => h) (EvIn.keep HI5.out hb (Nat.le_refl _)))
  replace HI6 := Lib.hid (InRow.less hb.size (fun _ _ h => h) (EvIn.keep HI6.out hb (Nat.le_refl _)))
  replace HI7 := Lib.hid (InRow.less hb.size (fun _ _ h => h) (EvIn.keep HI7.out hb (Nat.le_refl _)))
  replace HI8 := Lib.hid (InRow.less hb.size (fun _ _ h => h) (EvIn.keep HI8.out hb (Nat.le_refl _)))
  replace HB := Lib.hid (HB.out.trans (hb.mono HB.out.size))
  clear hb
  clear cP k1 k2 k3 k4
  have HI9 := Lib.hid hi9
  have HI10 := Lib.hid hi10
  clear hi9 hi10
  obtain ⟨gf, hgf⟩ : ∃ g, w10.heap.size = g := ⟨_, rfl⟩
  obtain ⟨V11_0, hV11_0⟩ : ∃ W, w10.alloc (.cells #[.slice a9 tl.length c9, .int .i64 t1, .int .i64 t2, .int .i64 t3] 24) = W := ⟨_, rfl⟩
  have hbV11_0 : Below w10.heap.size w10 V11_0 := by rw [← hV11_0]; exact (Below.refl _ _).alloc (Nat.le_refl _) _
  have hzV11_0 : V11_0.heap.size = gf + 1 := by rw [← hV11_0, World.size_alloc, hgf]
  have BBf : V11_0.heap[gf]? = some (.cells #[.slice a9 tl.length c9, .int .i64 t1, .int .i64 t2, .int .i64 t3] 24 (0, 0)) := by rw [← hV11_0, ← hgf]; exact World.alloc_heap_new w10 _
  have hbw := hbV11_0
  have hbx11 : Below w10.heap.size w10 V11_0 := hbw
  replace Hq := Lib.hid (block_kept Hq.out hbx11)
  replace Ha := Lib.hid (block_kept Ha.out hbx11)
  replace Hx := Lib.hid (block_kept Hx.out hbx11)
  replace Hb := Lib.hid (block_kept Hb.out hbx11)
  replace Hy := Lib.hid (block_kept Hy.out hbx11)
  replace Hd := Lib.hid (block_kept Hd.out hbx11)
  replace HIl := Lib.hid (InRow.less hbx11.size (fun _ _ h => h) (EvIn.keep HIl.out hbx11 (Nat.le_refl _)))
  replace HI5 := Lib.hid (InRow.less hbx11.size (fun _ _ h => h) (EvIn.keep HI5.out hbx11 (Nat.le_refl _)))
  replace HI6 := Lib.hid (InRow.less hbx11.size (fun _ _ h => h) (EvIn.keep HI6.out hbx11 (Nat.le_refl _)))
  replace HI7 := Lib.hid (InRow.less hbx11.size (fun _ _ h => h) (EvIn.keep HI7.out hbx11 (Nat.le_refl _)))
  replace HI8 := Lib.hid (InRow.less hbx11.size (fun _ _ h => h) (EvIn.keep HI8.out hbx11 (Nat.le_refl _)))
  replace HI9 := Lib.hid (InRow.less hbx11.size (fun _ _ h => h) (EvIn.keep HI9.out hbx11 (Nat.le_refl _)))
  replace HI10 := Lib.hid (InRow.less hbx11.size (fun _ _ h => h) (EvIn.keep HI10.out hbx11 (Nat.le_refl _)))
  replace HB := Lib.hid (HB.out.trans (hbx11.mono HB.out.size))
  have Hf := Lib.hid BBf
  clear BBf hbw hbx11 hbV11_0
  have HV11_0 := Lib.hid hV11_0
  clear hV11_0
  go_upto_region 8 with (fail)
  (try rw [hgf])
  (try rw [HV11_0.out])
  (try rw [hzV11_0])
  clear HV11_0 hzV11_0 hgf
  obtain ⟨ac0, ac1, ac2, ac3⟩ := ope4 Ha.out
  obtain ⟨bc0, bc1, bc2, bc3⟩ := ope4 Hb.out
  have cS := same_any pl pl (by have := HLS.out; omega) (by have := HLS.out; omega) a5 a6 c5 c6 p1 p2 p3 p1 p2 p3 V11_0.heap.size V11_0 (Nat.le_refl _) HI5.out HI6.out
  rw [show ((p1 == p1) && ((p2 == p2) && ((p3 == p3) && (pl == pl)))) = true by simp] at cS
  go_wp2_with fail
  refine (cS).mono ?_
  clear ac0 ac1 ac2 ac3 bc0 bc1 bc2 bc3
  rintro e w12 ⟨rfl, hb⟩
  replace Hq := Lib.hid (block_kept Hq.out hb)
  replace Ha := Lib.hid (block_kept Ha.out hb)
  replace Hx := Lib.hid (block_kept Hx.out hb)
  replace Hb := Lib.hid (block_kept Hb.out hb)
  replace Hy := Lib.hid (block_kept Hy.out hb)
  replace Hd := Lib.hid (block_kept Hd.out hb)
  replace Hf := Lib.hid (block_kept Hf.out hb)
  replace HIl := Lib.hid (InRow.less hb.size (fun _ _ h => h) (EvIn.keep HIl.out hb (Nat.le_refl _)))
  replace HI5 := Lib.hid (InRow.less hb.size (fun _ _ h => h) (EvIn.keep HI5.out hb (Nat.le_refl _)))
  replace HI6 := Lib.hid (InRow.less hb.size (fun _ _ h => h) (EvIn.keep HI6.out hb (Nat.le_refl _)))
  replace HI7 := Lib.hid (InRow.less hb.size (fun _ _ h => h) (EvIn.keep HI7.out hb (Nat.le_refl _)))
  replace HI8 := Lib.hid (InRow.less hb.size (fun _ _ h => h) (EvIn.keep HI8.out hb (Nat.le_refl _)))
  replace HI9 := Lib.hid (InRow.less hb.size (fun _ _ h => h) (EvIn.keep HI9.out hb (Nat.le_refl _)))
  replace HI10 := Lib.hid (InRow.less hb.size (fun _ _ h => h) (EvIn.keep HI10.out hb (Nat.le_refl _)))
  replace HB := Lib.hid (HB.out.trans (hb.mono HB.out.size))
  clear hb
  clear cS
  obtain ⟨xc0, xc1, xc2, xc3, xc4⟩ := ope5 Hx.out
  obtain ⟨yc0, yc1, yc2, yc3, yc4⟩ := ope5 Hy.out
  obtain ⟨dc0, dc1, dc2, dc3⟩ := ope4 Hd.out
  obtain ⟨fc0, fc1, fc2, fc3⟩ := ope4 Hf.out
  have qn : ∀ W, (binOp .eql 35 (.agg #[.int .i64 xt, .int .i64 xd, .int .i64 xn, .int .i64 xs, .int .u64 xv]) (.agg #[.int .i64 xt, .int .i64 xd, .int .i64 xn, .int .i64 xs, .int .u64 xv])).run Try.prog W = .ok (.bool true) W := fun W => by rw [ev_eql]; simp
  have ee : (er == er) = true := by simp
  have cS := same_any tl tl (by have := HLT.out; omega) (by have := HLT.out; omega) a7 a9 c7 c9 t1 t2 t3 t1 t2 t3 w12.heap.size w12 (Nat.le_refl _) HI7.out HI9.out
  rw [show ((t1 == t1) && ((t2 == t2) && ((t3 == t3) && (tl == tl)))) = true by simp] at cS
  go_wp2_with fail
  refine (cS).mono ?_
  clear xc0 xc1 xc2 xc3 xc4 yc0 yc1 yc2 yc3 yc4 dc0 dc1 dc2 dc3 fc0 fc1 fc2 fc3
  rintro e w13 ⟨rfl, hb⟩
  replace Hq := Lib.hid (block_kept Hq.out hb)
  replace Ha := Lib.hid (block_kept Ha.out hb)
  replace Hx := Lib.hid (block_kept Hx.out hb)
  replace Hb := Lib.hid (block_kept Hb.out hb)
  replace Hy := Lib.hid (block_kept Hy.out hb)
  replace Hd := Lib.hid (block_kept Hd.out hb)
  replace Hf := Lib.hid (block_kept Hf.out hb)
  replace HIl := Lib.hid (InRow.less hb.size (fun _ _ h => h) (EvIn.keep HIl.out hb (Nat.le_refl _)))
  replace HI5 := Lib.hid (InRow.less hb.size (fun _ _ h => h) (EvIn.keep HI5.out hb (Nat.le_refl _)))
  replace HI6 := Lib.hid (InRow.less hb.size (fun _ _ h => h) (EvIn.keep HI6.out hb (Nat.le_refl _)))
  replace HI7 := Lib.hid (InRow.less hb.size (fun _ _ h => h) (EvIn.keep HI7.out hb (Nat.le_refl _)))
  replace HI8 := Lib.hid (InRow.less hb.size (fun _ _ h => h) (EvIn.keep HI8.out hb (Nat.le_refl _)))
  replace HI9 := Lib.hid (InRow.less hb.size (fun _ _ h => h) (EvIn.keep HI9.out hb (Nat.le_refl _)))
  replace HI10 := Lib.hid (InRow.less hb.size (fun _ _ h => h) (EvIn.keep HI10.out hb (Nat.le_refl _)))
  replace HB := Lib.hid (HB.out.trans (hb.mono HB.out.size))
  clear hb
  clear cS qn
  have cS := evs_any M M (by have := HLM.out; omega) (by have := HLM.out; omega) a8 a10 c8 c10 w13.heap.size w13 (Nat.le_refl _) HI8.out HI10.out
  rw [show (M == M) = true by simp] at cS
  go_wp2_with fail
  refine (cS).mono ?_
  rintro e w14 ⟨rfl, hb⟩
  replace Hq := Lib.hid (block_kept Hq.out hb)
  replace Ha := Lib.hid (block_kept Ha.out hb)
  replace Hx := Lib.hid (block_kept Hx.out hb)
  replace Hb := Lib.hid (block_kept Hb.out hb)
  replace Hy := Lib.hid (block_kept Hy.out hb)
  replace Hd := Lib.hid (block_kept Hd.out hb)
  replace Hf := Lib.hid (block_kept Hf.out hb)
  replace HIl := Lib.hid (InRow.less hb.size (fun _ _ h => h) (EvIn.keep HIl.out hb (Nat.le_refl _)))
  replace HI5 := Lib.hid (InRow.less hb.size (fun _ _ h => h) (EvIn.keep HI5.out hb (Nat.le_refl _)))
  replace HI6 := Lib.hid (InRow.less hb.size (fun _ _ h => h) (EvIn.keep HI6.out hb (Nat.le_refl _)))
  replace HI7 := Lib.hid (InRow.less hb.size (fun _ _ h => h) (EvIn.keep HI7.out hb (Nat.le_refl _)))
  replace HI8 := Lib.hid (InRow.less hb.size (fun _ _ h => h) (EvIn.keep HI8.out hb (Nat.le_refl _)))
  replace HI9 := Lib.hid (InRow.less hb.size (fun _ _ h => h) (EvIn.keep HI9.out hb (Nat.le_refl _)))
  replace HI10 := Lib.hid (InRow.less hb.size (fun _ _ h => h) (EvIn.keep HI10.out hb (Nat.le_refl _)))
  replace HB := Lib.hid (HB.out.trans (hb.mono HB.out.size))
  clear hb
  clear cS
  go_wp2
  go_ret
  exact ⟨rfl, HB.out⟩
end Go.Proofs.Ytchboknncfmcpaa
