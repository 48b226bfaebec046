/-
  QueuePast's walk.
-/
import Derived.Test.YtchboknncfmcpaaQaN
namespace Go.Proofs.Ytchboknncfmcpaa
open Go Go.RowKit
set_option linter.unusedVariables false
set_option linter.unusedSimpArgs false
open Go.Sort
theorem past_facts {l r : List EV} {x : EV} {now dl nx : Int} (h : popF now dl nx l = 0) (hl : l = x :: r) (hn : nx ≤ 1000000) (hlen : l.length ≤ 300) (t d : Int) (hd : 0 ≤ d) :
    pushF x.t x.d nx r t d 0 = (if goneE x.t x.d t d then 140 else 0) ∧ pushF x.t x.d nx r x.t x.d 0 = 0 ∧ 0 ≤ nx := by
  have hk := (popF_zero h).1
  have ho := (ckE_zero.1 hk).1
  subst hl
  have hd1 := drop_ok ho 1 (by decide) (by simp)
  simp only [List.drop_one, List.tail_cons, Nat.sub_self, List.getElem_cons_zero] at hd1
  have hr : r.length ≤ 300 := by simp at hlen; omega
  have hc : ckE x.t x.d nx r = 0 := ckE_zero.2 ⟨hd1, by omega⟩
  have hx := fitE_iff.1 ((okL_iff.1 ho).2.2.2.1 x (by simp))
  have h3 := (okL_iff.1 ho).2.2.1
  refine ⟨?_, ?_, h3⟩
  · unfold pushF
    rw [if_pos hc, if_neg (by omega), show (if 65536 ≤ r.length then (2 : Int) else 0) = 0 from if_neg (by omega)]
  · unfold pushF
    have hg : goneE x.t x.d x.t x.d = false := by rw [goneE_iff]; omega
    rw [if_pos hc, if_neg (by omega), hg, show (if 65536 ≤ r.length then (2 : Int) else 0) = 0 from if_neg (by omega)]
    rfl
set_option maxHeartbeats 8000000 in
set_option maxRecDepth 100000 in
theorem past_law (a : Option Addr) (c : Nat) (l : List EV) (hac : a = none → c = 0) (hlc : l.length ≤ c) (now dl nx t d v : Int) (hv : 0 ≤ v ∧ v < 18446744073709551616) (w : World) (hin : EvIn w.heap.size w l a) : Calls Try.prog 7 #[.agg #[.slice a l.length c, .int .i64 now, .int .i64 dl, .int .i64 nx], .int .i64 t, .int .i64 d, .int .u64 v] w fun e w' => e = .returned (.bool true) ∧ Below w.heap.size w w' := by
  have HB := Lib.hid (Below.refl w.heap.size w)
  have HIl := Lib.hid hin
  clear hin
  have HCC := Lib.hid (And.intro hac hlc)
  clear hac hlc
  go_enter Try.func7, Try.ntmps7
  obtain ⟨gq, hgq⟩ : ∃ g, w.heap.size = g := ⟨_, rfl⟩
  obtain ⟨V1_0, hV1_0⟩ : ∃ W, w.alloc (.cells #[.slice a l.length c, .int .i64 now, .int .i64 dl, .int .i64 nx] 24) = W := ⟨_, rfl⟩
  have hbV1_0 : Below w.heap.size w V1_0 := by rw [← hV1_0]; exact (Below.refl _ _).alloc (Nat.le_refl _) _
  have hzV1_0 : V1_0.heap.size = gq + 1 := by rw [← hV1_0, World.size_alloc, hgq]
  have BBq : V1_0.heap[gq]? = some (.cells #[.slice a l.length c, .int .i64 now, .int .i64 dl, .int .i64 nx] 24 (0, 0)) := by rw [← hV1_0, ← hgq]; exact World.alloc_heap_new w _
  have hbw := hbV1_0
  have hbx1 : Below w.heap.size w V1_0 := hbw
  replace HIl := Lib.hid (InRow.less hbx1.size (fun _ _ h => h) (EvIn.keep HIl.out hbx1 (Nat.le_refl _)))
  replace HB := Lib.hid (HB.out.trans (hbx1.mono HB.out.size))
  have Hq := Lib.hid BBq
  clear BBq hbw hbx1 hbV1_0
  have HV1_0 := Lib.hid hV1_0
  clear hV1_0
  go_upto_region 1 with (fail)
  (try rw [hgq])
  (try rw [HV1_0.out])
  (try rw [hzV1_0])
  clear HV1_0 hzV1_0 hgq
  go_wp2_with fail
  refine (live_any _).mono ?_
  rintro e w2 ⟨rfl, hb⟩
  replace Hq := Lib.hid (block_kept Hq.out hb)
  replace HIl := Lib.hid (InRow.less hb.size (fun _ _ h => h) (EvIn.keep HIl.out hb (Nat.le_refl _)))
  replace HB := Lib.hid (HB.out.trans (hb.mono HB.out.size))
  clear hb
  obtain ⟨qc0, qc1, qc2, qc3⟩ := ope4 Hq.out
  obtain ⟨FB, hFB⟩ : ∃ FB, decide ((l.length : Int) ≤ 300) = FB := ⟨_, rfl⟩
  have cW := few_any a l.length c now dl nx w2
  rw [hFB] at cW
  have HFB := Lib.hid hFB
  clear hFB
  go_wp2_with fail
  refine (cW).mono ?_
  clear qc0 qc1 qc2 qc3
  rintro e w3 ⟨rfl, hb⟩
  replace Hq := Lib.hid (block_kept Hq.out hb)
  replace HIl := Lib.hid (InRow.less hb.size (fun _ _ h => h) (EvIn.keep HIl.out hb (Nat.le_refl _)))
  replace HB := Lib.hid (HB.out.trans (hb.mono HB.out.size))
  clear hb
  clear cW
  obtain ⟨qc0, qc1, qc2, qc3⟩ := ope4 Hq.out
  cases FB with
  | false =>
    go_wp2
    go_ret
    exact ⟨rfl, HB.out⟩
  | true =>
  have hlen : l.length ≤ 300 := by have := of_decide_eq_true HFB.out; omega
  have HLN := Lib.hid hlen
  clear hlen HFB
  by_cases hd : d < 0
  · have hd1 : decide (d < 0) = true := decide_eq_true hd
    go_wp2
    go_ret
    exact ⟨rfl, HB.out⟩
  have hd1 : decide (d < 0) = false := decide_eq_false hd
  by_cases hx : nx > 1000000
  · have hx1 : decide (nx > 1000000) = true := decide_eq_true hx
    have hx2 : decide (1000000 < nx) = true := decide_eq_true hx
    go_wp2
    go_ret
    exact ⟨rfl, HB.out⟩
  have hx1 : decide (nx > 1000000) = false := decide_eq_false hx
  have hx2 : decide (1000000 < nx) = false := decide_eq_false hx
  have HDX : Hid (0 ≤ d ∧ nx ≤ 1000000) := Lib.hid (by omega)
  clear hd hx
  go_wp2_with fail
  refine (pop_any a c l (by have := HLN.out; omega) HCC.out.1 HCC.out.2 now dl nx w3.heap.size w3 (Nat.le_refl _) HIl.out).mono ?_
  clear qc0 qc1 qc2 qc3
  rintro e w4 ⟨hb, hor⟩
  replace Hq := Lib.hid (block_kept Hq.out hb)
  replace HIl := Lib.hid (InRow.less hb.size (fun _ _ h => h) (EvIn.keep HIl.out hb (Nat.le_refl _)))
  replace HB := Lib.hid (HB.out.trans (hb.mono HB.out.size))
  clear hb
  rcases hor with ⟨h1, rfl⟩ | ⟨h1, tx, dx, nn, sx, vx, r, a5, c5, hlr, rfl, hi5, k1, k2, k3⟩
  · obtain ⟨PF, hPF⟩ : ∃ PF, popF now dl nx l = PF := ⟨_, rfl⟩
    rw [hPF] at h1 ⊢
    have kk : (PF != 0) = true := by simpa using h1
    clear hPF h1
    obtain ⟨ga, hga⟩ : ∃ g, w4.heap.size = g := ⟨_, rfl⟩
    obtain ⟨V5_0, hV5_0⟩ : ∃ W, w4.alloc (.cells #[.slice none 0 0, .int .i64 0, .int .i64 0, .int .i64 0] 24) = W := ⟨_, rfl⟩
    have hbV5_0 : Below w4.heap.size w4 V5_0 := by rw [← hV5_0]; exact (Below.refl _ _).alloc (Nat.le_refl _) _
    have hzV5_0 : V5_0.heap.size = ga + 1 := by rw [← hV5_0, World.size_alloc, hga]
    have BBa : V5_0.heap[ga]? = some (.cells #[.slice none 0 0, .int .i64 0, .int .i64 0, .int .i64 0] 24 (0, 0)) := by rw [← hV5_0, ← hga]; exact World.alloc_heap_new w4 _
    have hbw := hbV5_0
    obtain ⟨V5_1, hV5_1⟩ : ∃ W, V5_0.alloc (.cells #[.int .i64 0, .int .i64 0, .int .i64 0, .int .i64 0, .int .u64 0] 35) = W := ⟨_, rfl⟩
    have hbV5_1 : Below V5_0.heap.size V5_0 V5_1 := by rw [← hV5_1]; exact (Below.refl _ _).alloc (Nat.le_refl _) _
    have hzV5_1 : V5_1.heap.size = ga + 2 := by rw [← hV5_1, World.size_alloc, hzV5_0]
    have BBx : V5_1.heap[ga + 1]? = some (.cells #[.int .i64 0, .int .i64 0, .int .i64 0, .int .i64 0, .int .u64 0] 35 (0, 0)) := by rw [← hV5_1, ← hzV5_0]; exact World.alloc_heap_new V5_0 _
    replace BBa := block_kept BBa hbV5_1
    replace hbw := hbw.trans (hbV5_1.mono hbw.size)
    have hbx5 : Below w4.heap.size w4 V5_1 := hbw
    replace Hq := Lib.hid (block_kept Hq.out hbx5)
    replace HIl := Lib.hid (InRow.less hbx5.size (fun _ _ h => h) (EvIn.keep HIl.out hbx5 (Nat.le_refl _)))
    replace HB := Lib.hid (HB.out.trans (hbx5.mono HB.out.size))
    have Ha := Lib.hid BBa
    have Hx := Lib.hid BBx
    clear BBa BBx hbw hbx5 hbV5_0 hbV5_1
    have HV5_0 := Lib.hid hV5_0
    clear hV5_0
    have HV5_1 := Lib.hid hV5_1
    clear hV5_1
    go_upto_region 5 with (fail)
    (try rw [hga])
    (try rw [HV5_0.out])
    (try rw [hzV5_0])
    (try rw [HV5_1.out])
    (try rw [hzV5_1])
    clear HV5_0 hzV5_0 HV5_1 hzV5_1 hga
    go_wp2
    go_ret
    exact ⟨rfl, HB.out⟩
  · have kk : ((0 : Int) != 0) = false := rfl
    have HPP := Lib.hid (past_facts h1 hlr HDX.out.2 HLN.out t d HDX.out.1)
    have HI5 := Lib.hid hi5
    have HK5 := Lib.hid (And.intro k1 k2)
    have HLR : Hid (r.length ≤ 300) := Lib.hid (by have := HLN.out; have := congrArg List.length hlr; simp at this; omega)
    clear hi5 k1 k2 k3 hlr h1
    obtain ⟨ga, hga⟩ : ∃ g, w4.heap.size = g := ⟨_, rfl⟩
    obtain ⟨V5_0, hV5_0⟩ : ∃ W, w4.alloc (.cells #[.slice a5 r.length c5, .int .i64 tx, .int .i64 dx, .int .i64 nx] 24) = W := ⟨_, rfl⟩
    have hbV5_0 : Below w4.heap.size w4 V5_0 := by rw [← hV5_0]; exact (Below.refl _ _).alloc (Nat.le_refl _) _
    have hzV5_0 : V5_0.heap.size = ga + 1 := by rw [← hV5_0, World.size_alloc, hga]
    have BBa : V5_0.heap[ga]? = some (.cells #[.slice a5 r.length c5, .int .i64 tx, .int .i64 dx, .int .i64 nx] 24 (0, 0)) := by rw [← hV5_0, ← hga]; exact World.alloc_heap_new w4 _
    have hbw := hbV5_0
    obtain ⟨V5_1, hV5_1⟩ : ∃ W, V5_0.alloc (.cells #[.int .i64 tx, .int .i64 dx, .int .i64 nn, .int .i64 sx, .int .u64 vx] 35) = W := ⟨_, rfl⟩
    have hbV5_1 : Below V5_0.heap.size V5_0 V5_1 := by rw [← hV5_1]; exact (Below.refl _ _).alloc (Nat.le_refl _) _
    have hzV5_1 : V5_1.heap.size = ga + 2 := by rw [← hV5_1, World.size_alloc, hzV5_0]
    have BBx : V5_1.heap[ga + 1]? = some (.cells #[.int .i64 tx, .int .i64 dx, .int .i64 nn, .int .i64 sx, .int .u64 vx] 35 (0, 0)) := by rw [← hV5_1, ← hzV5_0]; exact World.alloc_heap_new V5_0 _
    replace BBa := block_kept BBa hbV5_1
    replace hbw := hbw.trans (hbV5_1.mono hbw.size)
    have hbx5 : Below w4.heap.size w4 V5_1 := hbw
    replace Hq := Lib.hid (block_kept Hq.out hbx5)
    replace HIl := Lib.hid (InRow.less hbx5.size (fun _ _ h => h) (EvIn.keep HIl.out hbx5 (Nat.le_refl _)))
    replace HI5 := Lib.hid (InRow.less hbx5.size (fun _ _ h => h) (EvIn.keep HI5.out hbx5 (Nat.le_refl _)))
    replace HB := Lib.hid (HB.out.trans (hbx5.mono HB.out.size))
    have Ha := Lib.hid BBa
    have Hx := Lib.hid BBx
    clear BBa BBx hbw hbx5 hbV5_0 hbV5_1
    have HV5_0 := Lib.hid hV5_0
    clear hV5_0
    have HV5_1 := Lib.hid hV5_1
    clear hV5_1
    go_upto_region 5 with (fail)
    (try rw [hga])
    (try rw [HV5_0.out])
    (try rw [hzV5_0])
    (try rw [HV5_1.out])
    (try rw [hzV5_1])
    clear HV5_0 hzV5_0 HV5_1 hzV5_1 hga
    obtain ⟨ac0, ac1, ac2, ac3⟩ := ope4 Ha.out
    go_wp2_with fail
    have cP := push_res (push_any a5 c5 r (by have := HLR.out; omega) HK5.out.1 HK5.out.2 tx dx nx t d 0 v hv V5_1.heap.size V5_1 (Nat.le_refl _) HI5.out)
    rw [HPP.out.1] at cP
    obtain ⟨S, hS⟩ : ∃ S, pushS r tx dx nx t d 0 v = S := ⟨_, rfl⟩
    rw [hS] at cP
    clear hS
    obtain ⟨sl, s1, s2, s3⟩ := S
    obtain ⟨GN, hGN⟩ : ∃ GN, goneE tx dx t d = GN := ⟨_, rfl⟩
    simp only [hGN] at cP
    have HGN := Lib.hid hGN
    clear hGN
    refine (cP).mono ?_
    clear ac0 ac1 ac2 ac3
    rintro e w6 ⟨hb, a6, c6, rfl, hi6, k1, k2⟩
    replace Hq := Lib.hid (block_kept Hq.out hb)
    replace Ha := Lib.hid (block_kept Ha.out hb)
    replace Hx := Lib.hid (block_kept Hx.out hb)
    replace HIl := Lib.hid (InRow.less hb.size (fun _ _ h => h) (EvIn.keep HIl.out hb (Nat.le_refl _)))
    replace HI5 := Lib.hid (InRow.less hb.size (fun _ _ h => h) (EvIn.keep HI5.out hb (Nat.le_refl _)))
    replace HB := Lib.hid (HB.out.trans (hb.mono HB.out.size))
    clear hb
    clear cP hi6 k1 k2
    obtain ⟨gs, hgs⟩ : ∃ g, w6.heap.size = g := ⟨_, rfl⟩
    obtain ⟨V7_0, hV7_0⟩ : ∃ W, w6.alloc (.cells #[.slice a6 sl.length c6, .int .i64 s1, .int .i64 s2, .int .i64 s3] 24) = W := ⟨_, rfl⟩
    have hbV7_0 : Below w6.heap.size w6 V7_0 := by rw [← hV7_0]; exact (Below.refl _ _).alloc (Nat.le_refl _) _
    have hzV7_0 : V7_0.heap.size = gs + 1 := by rw [← hV7_0, World.size_alloc, hgs]
    have BBs : V7_0.heap[gs]? = some (.cells #[.slice a6 sl.length c6, .int .i64 s1, .int .i64 s2, .int .i64 s3] 24 (0, 0)) := by rw [← hV7_0, ← hgs]; exact World.alloc_heap_new w6 _
    have hbw := hbV7_0
    have hbx7 : Below w6.heap.size w6 V7_0 := hbw
    replace Hq := Lib.hid (block_kept Hq.out hbx7)
    replace Ha := Lib.hid (block_kept Ha.out hbx7)
    replace Hx := Lib.hid (block_kept Hx.out hbx7)
    replace HIl := Lib.hid (InRow.less hbx7.size (fun _ _ h => h) (EvIn.keep HIl.out hbx7 (Nat.le_refl _)))
    replace HI5 := Lib.hid (InRow.less hbx7.size (fun _ _ h => h) (EvIn.keep HI5.out hbx7 (Nat.le_refl _)))
    replace HB := Lib.hid (HB.out.trans (hbx7.mono HB.out.size))
    have Hs := Lib.hid BBs
    clear BBs hbw hbx7 hbV7_0
    have HV7_0 := Lib.hid hV7_0
    clear hV7_0
    go_upto_region 8 with (fail)
    (try rw [hgs])
    (try rw [HV7_0.out])
    (try rw [hzV7_0])
    clear HV7_0 hzV7_0 hgs
    obtain ⟨xc0, xc1, xc2, xc3, xc4⟩ := ope5 Hx.out
    obtain ⟨ac0, ac1, ac2, ac3⟩ := ope4 Ha.out
    have HG2 : Hid ((decide (t < tx) || ((t == tx) && decide (d < dx))) = GN) := Lib.hid HGN.out
    obtain ⟨P1, hP1⟩ : ∃ P, decide (t < tx) = P := ⟨_, rfl⟩
    obtain ⟨P2, hP2⟩ : ∃ P, (t == tx) = P := ⟨_, rfl⟩
    obtain ⟨P3, hP3⟩ : ∃ P, decide (d < dx) = P := ⟨_, rfl⟩
    have HPQ : Hid ((P1 || (P2 && P3)) = GN) := Lib.hid (by rw [← hP1, ← hP2, ← hP3]; exact HG2.out)
    clear HGN HG2
    obtain ⟨EF, hEF⟩ : ∃ EF : Int, (if GN = true then 140 else 0) = EF := ⟨_, rfl⟩
    rw [hEF]
    have HEF := Lib.hid hEF
    clear hEF
    cases P1 with
    | true =>
      obtain rfl : GN = true := HPQ.out.symm
      have cP := push_res (push_any a5 c5 r (by have := HLR.out; omega) HK5.out.1 HK5.out.2 tx dx nx tx dx 0 v hv V7_0.heap.size V7_0 (Nat.le_refl _) HI5.out)
      rw [HPP.out.2.1] at cP
      obtain ⟨S, hS⟩ : ∃ S, pushS r tx dx nx tx dx 0 v = S := ⟨_, rfl⟩
      rw [hS] at cP
      clear hS
      obtain ⟨ul, u1, u2, u3⟩ := S
      go_wp2_with fail
      refine (cP).mono ?_
      clear xc0 xc1 xc2 xc3 xc4 ac0 ac1 ac2 ac3
      rintro e w8 ⟨hb, a7, c7, rfl, hi7, m1, m2⟩
      replace Hq := Lib.hid (block_kept Hq.out hb)
      replace Ha := Lib.hid (block_kept Ha.out hb)
      replace Hx := Lib.hid (block_kept Hx.out hb)
      replace Hs := Lib.hid (block_kept Hs.out hb)
      replace HIl := Lib.hid (InRow.less hb.size (fun _ _ h => h) (EvIn.keep HIl.out hb (Nat.le_refl _)))
      replace HI5 := Lib.hid (InRow.less hb.size (fun _ _ h => h) (EvIn.keep HI5.out hb (Nat.le_refl _)))
      replace HB := Lib.hid (HB.out.trans (hb.mono HB.out.size))
      clear hb
      clear cP hi7 m1 m2
      obtain ⟨gz, hgz⟩ : ∃ g, w8.heap.size = g := ⟨_, rfl⟩
      obtain ⟨V9_0, hV9_0⟩ : ∃ W, w8.alloc (.cells #[.slice a7 ul.length c7, .int .i64 u1, .int .i64 u2, .int .i64 u3] 24) = W := ⟨_, rfl⟩
      have hbV9_0 : Below w8.heap.size w8 V9_0 := by rw [← hV9_0]; exact (Below.refl _ _).alloc (Nat.le_refl _) _
      have hzV9_0 : V9_0.heap.size = gz + 1 := by rw [← hV9_0, World.size_alloc, hgz]
      have BBz : V9_0.heap[gz]? = some (.cells #[.slice a7 ul.length c7, .int .i64 u1, .int .i64 u2, .int .i64 u3] 24 (0, 0)) := by rw [← hV9_0, ← hgz]; exact World.alloc_heap_new w8 _
      have hbw := hbV9_0
      have hbx9 : Below w8.heap.size w8 V9_0 := hbw
      replace Hq := Lib.hid (block_kept Hq.out hbx9)
      replace Ha := Lib.hid (block_kept Ha.out hbx9)
      replace Hx := Lib.hid (block_kept Hx.out hbx9)
      replace Hs := Lib.hid (block_kept Hs.out hbx9)
      replace HIl := Lib.hid (InRow.less hbx9.size (fun _ _ h => h) (EvIn.keep HIl.out hbx9 (Nat.le_refl _)))
      replace HI5 := Lib.hid (InRow.less hbx9.size (fun _ _ h => h) (EvIn.keep HI5.out hbx9 (Nat.le_refl _)))
      replace HB := Lib.hid (HB.out.trans (hbx9.mono HB.out.size))
      have Hz := Lib.hid BBz
      clear BBz hbw hbx9 hbV9_0
      have HV9_0 := Lib.hid hV9_0
      clear hV9_0
      go_upto_region 10 with (fail)
      (try rw [hgz])
      (try rw [HV9_0.out])
      (try rw [hzV9_0])
      clear HV9_0 hzV9_0 hgz
      obtain rfl : EF = 140 := HEF.out.symm
      go_wp2
      go_ret
      exact ⟨rfl, HB.out⟩
    | false =>
      cases P2 with
      | false =>
        obtain rfl : GN = false := HPQ.out.symm
        have cP := push_res (push_any a5 c5 r (by have := HLR.out; omega) HK5.out.1 HK5.out.2 tx dx nx tx dx 0 v hv V7_0.heap.size V7_0 (Nat.le_refl _) HI5.out)
        rw [HPP.out.2.1] at cP
        obtain ⟨S, hS⟩ : ∃ S, pushS r tx dx nx tx dx 0 v = S := ⟨_, rfl⟩
        rw [hS] at cP
        clear hS
        obtain ⟨ul, u1, u2, u3⟩ := S
        go_wp2_with fail
        refine (cP).mono ?_
        clear xc0 xc1 xc2 xc3 xc4 ac0 ac1 ac2 ac3
        rintro e w8 ⟨hb, a7, c7, rfl, hi7, m1, m2⟩
        replace Hq := Lib.hid (block_kept Hq.out hb)
        replace Ha := Lib.hid (block_kept Ha.out hb)
        replace Hx := Lib.hid (block_kept Hx.out hb)
        replace Hs := Lib.hid (block_kept Hs.out hb)
        replace HIl := Lib.hid (InRow.less hb.size (fun _ _ h => h) (EvIn.keep HIl.out hb (Nat.le_refl _)))
        replace HI5 := Lib.hid (InRow.less hb.size (fun _ _ h => h) (EvIn.keep HI5.out hb (Nat.le_refl _)))
        replace HB := Lib.hid (HB.out.trans (hb.mono HB.out.size))
        clear hb
        clear cP hi7 m1 m2
        obtain ⟨gz, hgz⟩ : ∃ g, w8.heap.size = g := ⟨_, rfl⟩
        obtain ⟨V9_0, hV9_0⟩ : ∃ W, w8.alloc (.cells #[.slice a7 ul.length c7, .int .i64 u1, .int .i64 u2, .int .i64 u3] 24) = W := ⟨_, rfl⟩
        have hbV9_0 : Below w8.heap.size w8 V9_0 := by rw [← hV9_0]; exact (Below.refl _ _).alloc (Nat.le_refl _) _
        have hzV9_0 : V9_0.heap.size = gz + 1 := by rw [← hV9_0, World.size_alloc, hgz]
        have BBz : V9_0.heap[gz]? = some (.cells #[.slice a7 ul.length c7, .int .i64 u1, .int .i64 u2, .int .i64 u3] 24 (0, 0)) := by rw [← hV9_0, ← hgz]; exact World.alloc_heap_new w8 _
        have hbw := hbV9_0
        have hbx9 : Below w8.heap.size w8 V9_0 := hbw
        replace Hq := Lib.hid (block_kept Hq.out hbx9)
        replace Ha := Lib.hid (block_kept Ha.out hbx9)
        replace Hx := Lib.hid (block_kept Hx.out hbx9)
        replace Hs := Lib.hid (block_kept Hs.out hbx9)
        replace HIl := Lib.hid (InRow.less hbx9.size (fun _ _ h => h) (EvIn.keep HIl.out hbx9 (Nat.le_refl _)))
        replace HI5 := Lib.hid (InRow.less hbx9.size (fun _ _ h => h) (EvIn.keep HI5.out hbx9 (Nat.le_refl _)))
        replace HB := Lib.hid (HB.out.trans (hbx9.mono HB.out.size))
        have Hz := Lib.hid BBz
        clear BBz hbw hbx9 hbV9_0
        have HV9_0 := Lib.hid hV9_0
        clear hV9_0
        go_upto_region 10 with (fail)
        (try rw [hgz])
        (try rw [HV9_0.out])
        (try rw [hzV9_0])
        clear HV9_0 hzV9_0 hgz
        obtain rfl : EF = 0 := HEF.out.symm
        go_wp2
        go_ret
        exact ⟨rfl, HB.out⟩
      | true =>
        have e9 : GN = P3 := HPQ.out.symm
        subst e9
        cases GN with
        | true =>
          have cP := push_res (push_any a5 c5 r (by have := HLR.out; omega) HK5.out.1 HK5.out.2 tx dx nx tx dx 0 v hv V7_0.heap.size V7_0 (Nat.le_refl _) HI5.out)
          rw [HPP.out.2.1] at cP
          obtain ⟨S, hS⟩ : ∃ S, pushS r tx dx nx tx dx 0 v = S := ⟨_, rfl⟩
          rw [hS] at cP
          clear hS
          obtain ⟨ul, u1, u2, u3⟩ := S
          go_wp2_with fail
          refine (cP).mono ?_
          clear xc0 xc1 xc2 xc3 xc4 ac0 ac1 ac2 ac3
          rintro e w8 ⟨hb, a7, c7, rfl, hi7, m1, m2⟩
          replace Hq := Lib.hid (block_kept Hq.out hb)
          replace Ha := Lib.hid (block_kept Ha.out hb)
          replace Hx := Lib.hid (block_kept Hx.out hb)
          replace Hs := Lib.hid (block_kept Hs.out hb)
          replace HIl := Lib.hid (InRow.less hb.size (fun _ _ h => h) (EvIn.keep HIl.out hb (Nat.le_refl _)))
          replace HI5 := Lib.hid (InRow.less hb.size (fun _ _ h => h) (EvIn.keep HI5.out hb (Nat.le_refl _)))
          replace HB := Lib.hid (HB.out.trans (hb.mono HB.out.size))
          clear hb
          clear cP hi7 m1 m2
          obtain ⟨gz, hgz⟩ : ∃ g, w8.heap.size = g := ⟨_, rfl⟩
          obtain ⟨V9_0, hV9_0⟩ : ∃ W, w8.alloc (.cells #[.slice a7 ul.length c7, .int .i64 u1, .int .i64 u2, .int .i64 u3] 24) = W := ⟨_, rfl⟩
          have hbV9_0 : Below w8.heap.size w8 V9_0 := by rw [← hV9_0]; exact (Below.refl _ _).alloc (Nat.le_refl _) _
          have hzV9_0 : V9_0.heap.size = gz + 1 := by rw [← hV9_0, World.size_alloc, hgz]
          have BBz : V9_0.heap[gz]? = some (.cells #[.slice a7 ul.length c7, .int .i64 u1, .int .i64 u2, .int .i64 u3] 24 (0, 0)) := by rw [← hV9_0, ← hgz]; exact World.alloc_heap_new w8 _
          have hbw := hbV9_0
          have hbx9 : Below w8.heap.size w8 V9_0 := hbw
          replace Hq := Lib.hid (block_kept Hq.out hbx9)
          replace Ha := Lib.hid (block_kept Ha.out hbx9)
          replace Hx := Lib.hid (block_kept Hx.out hbx9)
          replace Hs := Lib.hid (block_kept Hs.out hbx9)
          replace HIl := Lib.hid (InRow.less hbx9.size (fun _ _ h => h) (EvIn.keep HIl.out hbx9 (Nat.le_refl _)))
          replace HI5 := Lib.hid (InRow.less hbx9.size (fun _ _ h => h) (EvIn.keep HI5.out hbx9 (Nat.le_refl _)))
          replace HB := Lib.hid (HB.out.trans (hbx9.mono HB.out.size))
          have Hz := Lib.hid BBz
          clear BBz hbw hbx9 hbV9_0
          have HV9_0 := Lib.hid hV9_0
          clear hV9_0
          go_upto_region 10 with (fail)
          (try rw [hgz])
          (try rw [HV9_0.out])
          (try rw [hzV9_0])
          clear HV9_0 hzV9_0 hgz
          obtain rfl : EF = 140 := HEF.out.symm
          go_wp2
          go_ret
          exact ⟨rfl, HB.out⟩
        | false =>
          have cP := push_res (push_any a5 c5 r (by have := HLR.out; omega) HK5.out.1 HK5.out.2 tx dx nx tx dx 0 v hv V7_0.heap.size V7_0 (Nat.le_refl _) HI5.out)
          rw [HPP.out.2.1] at cP
          obtain ⟨S, hS⟩ : ∃ S, pushS r tx dx nx tx dx 0 v = S := ⟨_, rfl⟩
          rw [hS] at cP
          clear hS
          obtain ⟨ul, u1, u2, u3⟩ := S
          go_wp2_with fail
          refine (cP).mono ?_
          clear xc0 xc1 xc2 xc3 xc4 ac0 ac1 ac2 ac3
          rintro e w8 ⟨hb, a7, c7, rfl, hi7, m1, m2⟩
          replace Hq := Lib.hid (block_kept Hq.out hb)
          replace Ha := Lib.hid (block_kept Ha.out hb)
          replace Hx := Lib.hid (block_kept Hx.out hb)
          replace Hs := Lib.hid (block_kept Hs.out hb)
          replace HIl := Lib.hid (InRow.less hb.size (fun _ _ h => h) (EvIn.keep HIl.out hb (Nat.le_refl _)))
          replace HI5 := Lib.hid (InRow.less hb.size (fun _ _ h => h) (EvIn.keep HI5.out hb (Nat.le_refl _)))
          replace HB := Lib.hid (HB.out.trans (hb.mono HB.out.size))
          clear hb
          clear cP hi7 m1 m2
          obtain ⟨gz, hgz⟩ : ∃ g, w8.heap.size = g := ⟨_, rfl⟩
          obtain ⟨V9_0, hV9_0⟩ : ∃ W, w8.alloc (.cells #[.slice a7 ul.length c7, .int .i64 u1, .int .i64 u2, .int .i64 u3] 24) = W := ⟨_, rfl⟩
          have hbV9_0 : Below w8.heap.size w8 V9_0 := by rw [← hV9_0]; exact (Below.refl _ _).alloc (Nat.le_refl _) _
          have hzV9_0 : V9_0.heap.size = gz + 1 := by rw [← hV9_0, World.size_alloc, hgz]
          have BBz : V9_0.heap[gz]? = some (.cells #[.slice a7 ul.length c7, .int .i64 u1, .int .i64 u2, .int .i64 u3] 24 (0, 0)) := by rw [← hV9_0, ← hgz]; exact World.alloc_heap_new w8 _
          have hbw := hbV9_0
          have hbx9 : Below w8.heap.size w8 V9_0 := hbw
          replace Hq := Lib.hid (block_kept Hq.out hbx9)
          replace Ha := Lib.hid (block_kept Ha.out hbx9)
          replace Hx := Lib.hid (block_kept Hx.out hbx9)
          replace Hs := Lib.hid (block_kept Hs.out hbx9)
          replace HIl := Lib.hid (InRow.less hbx9.size (fun _ _ h => h) (EvIn.keep HIl.out hbx9 (Nat.le_refl _)))
          replace HI5 := Lib.hid (InRow.less hbx9.size (fun _ _ h => h) (EvIn.keep HI5.out hbx9 (Nat.le_refl _)))
          replace HB := Lib.hid (HB.out.trans (hbx9.mono HB.out.size))
          have Hz := Lib.hid BBz
          clear BBz hbw hbx9 hbV9_0
          have HV9_0 := Lib.hid hV9_0
          clear hV9_0
          go_upto_region 10 with (fail)
          (try rw [hgz])
          (try rw [HV9_0.out])
          (try rw [hzV9_0])
          clear HV9_0 hzV9_0 hgz
          obtain rfl : EF = 0 := HEF.out.symm
          go_wp2
          go_ret
          exact ⟨rfl, HB.out⟩
end Go.Proofs.Ytchboknncfmcpaa
