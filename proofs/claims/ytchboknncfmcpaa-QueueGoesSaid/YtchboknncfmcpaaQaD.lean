/-
  queue: the reference's Check.
-/
import Derived.Test.YtchboknncfmcpaaQaC
namespace Go.Proofs.Ytchboknncfmcpaa
open Go Go.RowKit
set_option linter.unusedVariables false
set_option linter.unusedSimpArgs false
open Go.Sort
set_option maxHeartbeats 8000000 in
set_option maxRecDepth 100000 in
theorem refCheck_any (a : Option Addr) (c : Nat) (l : List EV) (hll : l.length ≤ 4000000000) (now dl nx : Int) (n0 : Nat) (w : World) (hn0 : n0 ≤ w.heap.size) (hin : EvIn n0 w l a) : Calls Try.prog 14 #[.agg #[.slice a l.length c, .int .i64 now, .int .i64 dl, .int .i64 nx]] w fun e w' => e = .returned (.int .i64 (ckE now dl nx l)) ∧ Below w.heap.size w w' := by
  obtain ⟨R, hR⟩ : ∃ R, ckE now dl nx l = R := ⟨_, rfl⟩
  rw [hR]
  have HR := Lib.hid hR
  clear hR
  have HARG : Hid (okL now dl nx l = false → R = 1) := Lib.hid (fun h => by rw [← HR.out, ckE, h]; rfl)
  by_cases gnow : now < 0
  · have enow : decide (now < 0) = true := decide_eq_true gnow
    have HE : Hid (R = 1) := Lib.hid (HARG.out (okL_neg_false (by omega)))
    clear HARG HR
    go_enter Try.func14, Try.ntmps14
    go_wp2
    go_ret
    rw [HE.out]
    refine ⟨rfl, ?_⟩
    repeat (first | exact Below.refl _ _ | assumption | (refine Below.setCell ?_ (by first | (simp; done) | (simp; omega) | omega) _) | (refine Below.alloc ?_ (by first | (simp; done) | (simp; omega) | omega) _) | (refine Below.drew ?_))
  have enow : decide (now < 0) = false := decide_eq_false gnow
  by_cases gdl : dl < 0
  · have edl : decide (dl < 0) = true := decide_eq_true gdl
    have HE : Hid (R = 1) := Lib.hid (HARG.out (okL_neg_false (by omega)))
    clear HARG HR
    go_enter Try.func14, Try.ntmps14
    go_wp2
    go_ret
    rw [HE.out]
    refine ⟨rfl, ?_⟩
    repeat (first | exact Below.refl _ _ | assumption | (refine Below.setCell ?_ (by first | (simp; done) | (simp; omega) | omega) _) | (refine Below.alloc ?_ (by first | (simp; done) | (simp; omega) | omega) _) | (refine Below.drew ?_))
  have edl : decide (dl < 0) = false := decide_eq_false gdl
  by_cases gnx : nx < 0
  · have enx : decide (nx < 0) = true := decide_eq_true gnx
    have HE : Hid (R = 1) := Lib.hid (HARG.out (okL_neg_false (by omega)))
    clear HARG HR
    go_enter Try.func14, Try.ntmps14
    go_wp2
    go_ret
    rw [HE.out]
    refine ⟨rfl, ?_⟩
    repeat (first | exact Below.refl _ _ | assumption | (refine Below.setCell ?_ (by first | (simp; done) | (simp; omega) | omega) _) | (refine Below.alloc ?_ (by first | (simp; done) | (simp; omega) | omega) _) | (refine Below.drew ?_))
  have enx : decide (nx < 0) = false := decide_eq_false gnx
  have HN : Hid (0 ≤ now ∧ 0 ≤ dl ∧ 0 ≤ nx) := Lib.hid (by omega)
  clear gnow gdl gnx
  obtain ⟨gq, hgq⟩ : ∃ g, w.heap.size = g := ⟨_, rfl⟩
  obtain ⟨W0, hW0⟩ : ∃ W, w.alloc (.cells #[.slice a l.length c, .int .i64 now, .int .i64 dl, .int .i64 nx] 24) = W := ⟨_, rfl⟩
  have hB0 : Below w.heap.size w W0 := by rw [← hW0]; exact (Below.refl _ _).alloc (Nat.le_refl _) _
  have BQ : W0.heap[gq]? = some (.cells #[.slice a l.length c, .int .i64 now, .int .i64 dl, .int .i64 nx] 24 (0, 0)) := by rw [← hW0, ← hgq]; exact World.alloc_heap_new w _
  have hs0 : n0 ≤ W0.heap.size := by have := hB0.size; omega
  have hin0 := hin.keep hB0 hn0
  obtain ⟨q0, q1, q2, q3⟩ := ope4 BQ
  have HB := Lib.hid (And.intro hB0 BQ)
  have HS := Lib.hid hs0
  have HI := Lib.hid hin0
  clear hB0 BQ hin hin0 hs0
  go_enter Try.func14, Try.ntmps14
  go_upto_region 1 with (fail)
  (try rw [hgq])
  (try rw [hW0])
  clear hW0 hgq
  go_wp2
  clear enow edl enx q0 q1 q2 q3
  go_loopw [3] (fun u wr => ∃ k : Nat, u = .int .i64 k ∧ k ≤ l.length ∧ okUp now dl nx l k ∧ Below W0.heap.size W0 wr) (fun u _ => l.length - (intOf u).toNat)
  case atStart => exact ⟨0, rfl, Nat.zero_le _, okUp_zero _ _ _ _, Below.refl _ _⟩
  case round =>
    obtain ⟨k, rfl, hk, hup, hb0⟩ := hrel
    have HU := Lib.hid hup
    have HB0 := Lib.hid hb0
    clear hup
    obtain ⟨q0, q1, q2, q3⟩ := ope4 (block_kept HB.out.2 hb0)
    by_cases hlt : k < l.length
    · have d1 : decide (k < l.length) = true := by simpa using hlt
      have d2 : decide ((k : Int) < (l.length : Int)) = true := by rw [decide_eq_true_eq]; omega
      have x1 : (k : Int) < (l.length : Int) := by omega
      have hinr : EvIn n0 wr l a := HI.out.keep hb0 HS.out
      obtain ⟨b, o, rfl⟩ := hinr.addr (by omega)
      obtain ⟨r0, r1, r2, r3, r4⟩ := hinr.cells hlt
      obtain ⟨gs, hgs⟩ : ∃ g, wr.heap.size = g := ⟨_, rfl⟩
      obtain ⟨x, hx⟩ : ∃ x, l[k] = x := ⟨_, rfl⟩
      rw [hx] at r0 r1 r2 r3 r4
      have HX := Lib.hid hx
      clear hx
      obtain ⟨t, d, n1, s, v⟩ := x
      simp only at r0 r1 r2 r3 r4
      obtain ⟨W1, hW1⟩ : ∃ W, wr.alloc (.cells #[.int .i64 t, .int .i64 d, .int .i64 n1, .int .i64 s, .int .u64 v] 35) = W := ⟨_, rfl⟩
      have hB1 : Below wr.heap.size wr W1 := by rw [← hW1]; exact (Below.refl _ _).alloc (Nat.le_refl _) _
      have BE : W1.heap[gs]? = some (.cells #[.int .i64 t, .int .i64 d, .int .i64 n1, .int .i64 s, .int .u64 v] 35 (0, 0)) := by rw [← hW1, ← hgs]; exact World.alloc_heap_new wr _
      have hB01 : Below W0.heap.size W0 W1 := hb0.trans (hB1.mono hb0.size)
      have HBW : Hid (Below w.heap.size w W1) := Lib.hid (HB.out.1.trans (hB01.mono HB.out.1.size))
      have HB1 := Lib.hid hB01
      have HQ1 := Lib.hid (block_kept HB.out.2 hB01)
      have HE1 := Lib.hid BE
      have hin1 : EvIn n0 W1 l (some ⟨b, o, none⟩) := HI.out.keep hB01 HS.out
      have HI1 := Lib.hid hin1
      have HFF : Hid (fitE now dl nx ⟨t, d, n1, s, v⟩ = false → R = 1) := Lib.hid (fun h => HARG.out (okL_fit_false hlt (by rw [HX.out]; exact h)))
      clear hb0 hinr hB1 BE hB01 hin1
      go_upto_region 7 with (fail)
      (try rw [hgs])
      (try rw [hW1])
      clear hW1 r0 r1 r2 r3 r4 hgs q0 q1 q2 q3
      obtain ⟨q0, q1, q2, q3⟩ := ope4 HQ1.out
      obtain ⟨e0, e1, e2, e3, e4⟩ := ope5 HE1.out
      by_cases zt : t < 0
      · have yt : decide (t < 0) = true := decide_eq_true zt
        have HE : Hid (R = 1) := Lib.hid (HFF.out (by rw [← Bool.not_eq_true, fitE_iff]; simp only; omega))
        clear HARG HFF HR HX HU
        go_wp2
        go_ret
        exact ⟨by rw [HE.out]; rfl, HBW.out⟩
      have yt : decide (t < 0) = false := decide_eq_false zt
      by_cases zd : d < 0
      · have yd : decide (d < 0) = true := decide_eq_true zd
        have HE : Hid (R = 1) := Lib.hid (HFF.out (by rw [← Bool.not_eq_true, fitE_iff]; simp only; omega))
        clear HARG HFF HR HX HU
        go_wp2
        go_ret
        exact ⟨by rw [HE.out]; rfl, HBW.out⟩
      have yd : decide (d < 0) = false := decide_eq_false zd
      by_cases zs : s < 0
      · have ys : decide (s < 0) = true := decide_eq_true zs
        have HE : Hid (R = 1) := Lib.hid (HFF.out (by rw [← Bool.not_eq_true, fitE_iff]; simp only; omega))
        clear HARG HFF HR HX HU
        go_wp2
        go_ret
        exact ⟨by rw [HE.out]; rfl, HBW.out⟩
      have ys : decide (s < 0) = false := decide_eq_false zs
      by_cases zn1 : n1 < 0
      · have yn1 : decide (n1 < 0) = true := decide_eq_true zn1
        have HE : Hid (R = 1) := Lib.hid (HFF.out (by rw [← Bool.not_eq_true, fitE_iff]; simp only; omega))
        clear HARG HFF HR HX HU
        go_wp2
        go_ret
        exact ⟨by rw [HE.out]; rfl, HBW.out⟩
      have yn1 : decide (n1 < 0) = false := decide_eq_false zn1
      by_cases znx : n1 ≥ nx
      · have ynx : decide (n1 ≥ nx) = true := decide_eq_true znx
        have ynx' : decide (nx ≤ n1) = true := decide_eq_true znx
        have HE : Hid (R = 1) := Lib.hid (HFF.out (by rw [← Bool.not_eq_true, fitE_iff]; simp only; omega))
        clear HARG HFF HR HX HU
        go_wp2
        go_ret
        exact ⟨by rw [HE.out]; rfl, HBW.out⟩
      have ynx : decide (n1 ≥ nx) = false := decide_eq_false znx
      have ynx' : decide (nx ≤ n1) = false := decide_eq_false znx
      cases hg : goneE now dl t d with
      | true =>
        have HE : Hid (R = 1) := Lib.hid (HFF.out (by rw [← Bool.not_eq_true, fitE_iff]; simp only [hg]; simp))
        have c1 : ∀ W, Calls Try.prog 29 #[.agg #[.slice (some ⟨b, o, none⟩) l.length c, .int .i64 now, .int .i64 dl, .int .i64 nx], .int .i64 t, .int .i64 d] W fun e w' => e = .returned (.bool true) ∧ Below W.heap.size W w' := fun W => by rw [← hg]; exact gone_any _ l.length c now dl nx t d _
        clear HARG HFF HR HX HU hg
        go_wp2_with fail
        refine (c1 _).mono ?_
        rintro e w1 ⟨rfl, hb⟩
        go_wp2
        go_ret
        exact ⟨by rw [HE.out]; rfl, HBW.out.trans (hb.mono HBW.out.size)⟩
      | false =>
        have HF : Hid (fitE now dl nx l[k] = true) := Lib.hid (by rw [HX.out, fitE_iff]; exact ⟨by show 0 ≤ t; omega, by show 0 ≤ d; omega, by show 0 ≤ n1; omega, by show 0 ≤ s; omega, by show n1 < nx; omega, hg⟩)
        have c1 : ∀ W, Calls Try.prog 29 #[.agg #[.slice (some ⟨b, o, none⟩) l.length c, .int .i64 now, .int .i64 dl, .int .i64 nx], .int .i64 t, .int .i64 d] W fun e w' => e = .returned (.bool false) ∧ Below W.heap.size W w' := fun W => by rw [← hg]; exact gone_any _ l.length c now dl nx t d _
        clear HFF hg
        go_wp2_with fail
        refine (c1 _).mono ?_
        rintro e W2 ⟨rfl, hb⟩
        clear c1 e0 e1 e2 e3 e4 q0 q1 q2 q3
        have HQ2 := Lib.hid (block_kept HQ1.out hb)
        have HE2 := Lib.hid (block_kept HE1.out hb)
        have HBW2 : Hid (Below w.heap.size w W2) := Lib.hid (HBW.out.trans (hb.mono HBW.out.size))
        have HB2 : Hid (Below W0.heap.size W0 W2) := Lib.hid (HB1.out.trans (hb.mono HB1.out.size))
        have HI2 : Hid (EvIn n0 W2 l (some ⟨b, o, none⟩)) := Lib.hid (HI.out.keep HB2.out HS.out)
        clear hb
        obtain ⟨q0, q1, q2, q3⟩ := ope4 HQ2.out
        obtain ⟨e0, e1, e2, e3, e4⟩ := ope5 HE2.out
        clear yt yd ys yn1 ynx ynx' zt zd zs zn1 znx
        by_cases hk0 : 0 < k
        · have d3 : decide ((k : Int) > 0) = true := by rw [decide_eq_true_eq]; omega
          have d3' : decide (0 < k) = true := by simpa using hk0
          have d3'' : decide ((0 : Int) < (k : Int)) = true := by rw [decide_eq_true_eq]; omega
          obtain ⟨p0, p1, p2, p3, p4⟩ := HI2.out.cells (i := k - 1) (by omega)
          obtain ⟨y, hy⟩ : ∃ y, l[k - 1]'(by omega) = y := ⟨_, rfl⟩
          rw [hy] at p0 p1 p2 p3 p4
          have HY := Lib.hid hy
          clear hy
          obtain ⟨tp, dp, np, sp, vp⟩ := y
          simp only at p0 p1 p2 p3 p4
          obtain ⟨k', hk'⟩ : ∃ k', k - 1 = k' := ⟨_, rfl⟩
          rw [hk'] at p0 p1 p2 p3 p4
          have x2 : (k : Int) - 1 = (k' : Int) := by omega
          have x3 : (k' : Int) < (l.length : Int) := by omega
          have x4 : 0 ≤ (k' : Int) := by omega
          have x5 : k' < l.length := by omega
          have x6 : wrap64 ((k : Int) - 1) = (k' : Int) := by rw [x2]; unfold wrap64; omega
          clear hk'
          cases ha : aheadE ⟨tp, dp, np, sp, vp⟩ ⟨t, d, n1, s, v⟩ with
          | false =>
            have c2 : ∀ W, Calls Try.prog 24 #[.agg #[.int .i64 tp, .int .i64 dp, .int .i64 np, .int .i64 sp, .int .u64 vp], .agg #[.int .i64 t, .int .i64 d, .int .i64 n1, .int .i64 s, .int .u64 v]] W fun e w' => e = .returned (.bool false) ∧ Below W.heap.size W w' := fun W => by rw [← ha]; exact refAhead_any _ _ _ _ _ _ _ _ _ _ _
            have HE : Hid (R = 1) := Lib.hid (HARG.out (okL_pair_false hlt hk0 (by rw [HX.out, HY.out]; exact ha)))
            clear HR HX HU HY ha HARG
            go_wp2_with fail
            have q0R := cell_regrown q0
            have q1R := cell_regrown q1
            have q2R := cell_regrown q2
            have q3R := cell_regrown q3
            have e0R := cell_regrown e0
            have e1R := cell_regrown e1
            have e2R := cell_regrown e2
            have e3R := cell_regrown e3
            have e4R := cell_regrown e4
            have p0R := cell_regrown p0
            have p1R := cell_regrown p1
            have p2R := cell_regrown p2
            have p3R := cell_regrown p3
            have p4R := cell_regrown p4
            refine wp_region_quiet_below (by kernel_rfl) (by kernel_rfl) ?_
            repeat (go_big_quiet_step (first | (go_at_call 24; exact Calls.regrown_of (c2 _))))
            clear q0R q1R q2R q3R e0R e1R e2R e3R e4R p0R p1R p2R p3R p4R
            refine wpQuiet_nil ?_
            intro _ hw'
            obtain ⟨⟨dq, osq⟩, hw''⟩ := hw'
            subst hw''
            have hbq := below_regrown W2 dq osq
            generalize grow (redrawn W2 dq) osq = W2q at *
            go_wp2
            go_ret
            exact ⟨by rw [HE.out]; rfl, HBW2.out.trans (hbq.mono HBW2.out.size)⟩
          | true =>
            have c2 : ∀ W, Calls Try.prog 24 #[.agg #[.int .i64 tp, .int .i64 dp, .int .i64 np, .int .i64 sp, .int .u64 vp], .agg #[.int .i64 t, .int .i64 d, .int .i64 n1, .int .i64 s, .int .u64 v]] W fun e w' => e = .returned (.bool true) ∧ Below W.heap.size W w' := fun W => by rw [← ha]; exact refAhead_any _ _ _ _ _ _ _ _ _ _ _
            have HV : Hid (okUp now dl nx l (k + 1)) := Lib.hid (okUp_succ HU.out hlt HF.out (fun _ => by rw [HX.out, HY.out]; exact ha))
            clear HX HU HY ha
            go_wp2_with fail
            have q0R := cell_regrown q0
            have q1R := cell_regrown q1
            have q2R := cell_regrown q2
            have q3R := cell_regrown q3
            have e0R := cell_regrown e0
            have e1R := cell_regrown e1
            have e2R := cell_regrown e2
            have e3R := cell_regrown e3
            have e4R := cell_regrown e4
            have p0R := cell_regrown p0
            have p1R := cell_regrown p1
            have p2R := cell_regrown p2
            have p3R := cell_regrown p3
            have p4R := cell_regrown p4
            refine wp_region_quiet_below (by kernel_rfl) (by kernel_rfl) ?_
            repeat (go_big_quiet_step (first | (go_at_call 24; exact Calls.regrown_of (c2 _))))
            clear q0R q1R q2R q3R e0R e1R e2R e3R e4R p0R p1R p2R p3R p4R
            refine wpQuiet_nil ?_
            intro _ hw'
            obtain ⟨⟨dq, osq⟩, hw''⟩ := hw'
            subst hw''
            have hbq := below_regrown W2 dq osq
            generalize grow (redrawn W2 dq) osq = W2q at *
            go_wp2
            go_roundw
            case rel => exact ⟨k + 1, by simp; first | done | rfl | omega, by omega, HV.out, HB2.out.trans (hbq.mono HB2.out.size)⟩
            case measure => simp [intOf]; omega
        · obtain rfl : k = 0 := by omega
          have d3 : decide (((0 : Nat) : Int) > 0) = false := by decide
          have HV : Hid (okUp now dl nx l (0 + 1)) := Lib.hid (okUp_succ HU.out hlt HF.out (fun h => by omega))
          clear HX HU
          go_wp2_with fail
          have q0R := cell_regrown q0
          have q1R := cell_regrown q1
          have q2R := cell_regrown q2
          have q3R := cell_regrown q3
          have e0R := cell_regrown e0
          have e1R := cell_regrown e1
          have e2R := cell_regrown e2
          have e3R := cell_regrown e3
          have e4R := cell_regrown e4
          refine wp_region_quiet_below (by kernel_rfl) (by kernel_rfl) ?_
          repeat (go_big_quiet_step (first | fail))
          clear q0R q1R q2R q3R e0R e1R e2R e3R e4R
          refine wpQuiet_nil ?_
          intro _ hw'
          obtain ⟨⟨dq, osq⟩, hw''⟩ := hw'
          subst hw''
          have hbq := below_regrown W2 dq osq
          generalize grow (redrawn W2 dq) osq = W2q at *
          go_wp2
          go_roundw
          case rel => exact ⟨0 + 1, by simp; first | done | rfl | omega, by omega, HV.out, HB2.out.trans (hbq.mono HB2.out.size)⟩
          case measure => simp [intOf]; omega
    · have d1 : decide (k < l.length) = false := by simpa using hlt
      have d2 : decide ((k : Int) < (l.length : Int)) = false := by rw [decide_eq_false_iff_not]; omega
      have hkl : k = l.length := by omega
      have HO : Hid (okL now dl nx l = true) := Lib.hid (okL_up HN.out.1 HN.out.2.1 HN.out.2.2 (by rw [← hkl]; exact HU.out))
      have HBW : Hid (Below w.heap.size w wr) := Lib.hid (HB.out.1.trans (hb0.mono HB.out.1.size))
      clear hkl HU hlt
      by_cases hl : 65536 < l.length
      · have d3 : decide ((l.length : Int) > 65536) = true := by rw [decide_eq_true_eq]; omega
        have d4 : decide (65536 < l.length) = true := by simpa using hl
        have d5 : decide ((65536 : Int) < (l.length : Int)) = true := by rw [decide_eq_true_eq]; omega
        have HE : Hid (R = 2) := Lib.hid (by rw [← HR.out, ckE, HO.out, if_pos rfl, if_pos hl])
        clear HR HARG
        go_wp2
        go_ret
        exact ⟨by rw [HE.out]; rfl, HBW.out⟩
      · have d3 : decide ((l.length : Int) > 65536) = false := by rw [decide_eq_false_iff_not]; omega
        have d4 : decide (65536 < l.length) = false := by simpa using hl
        have d5 : decide ((65536 : Int) < (l.length : Int)) = false := by rw [decide_eq_false_iff_not]; omega
        have HE : Hid (R = 0) := Lib.hid (by rw [← HR.out, ckE, HO.out, if_pos rfl, if_neg hl])
        clear HR HARG
        go_wp2
        go_ret
        exact ⟨by rw [HE.out]; rfl, HBW.out⟩
end Go.Proofs.Ytchboknncfmcpaa
