/-
  queue: the reference's Take.
-/
import Derived.Test.YtchboknncfmcpaaQaT
import Derived.Deep.CutBlock
namespace Go.Proofs.Ytchboknncfmcpaa
open Go Go.RowKit
set_option linter.unusedVariables false
set_option linter.unusedSimpArgs false
open Go.Sort
theorem ev_grown_empty {w w' : World} {n B g0 : Nat} {l : List EV} {a : Option Addr} (h : EvIn n w l a) (hn : n ≤ w.heap.size) (hown : w.ownsRow B 35 5 (.slice (some ⟨g0, 0, none⟩) 0 0) 0 []) (hg : w.grownBy w' (some g0)) : EvIn n w' l a := by
  cases l with
  | nil => exact trivial
  | cons x r =>
    refine ev_grown h hn hg (fun p hp => ?_)
    subst hp
    obtain ⟨b, o, e⟩ := h.addr (by simp)
    injection e with e
    subst e
    intro hb
    injection hb with hb
    have hb2 : b = g0 := hb
    subst hb2
    have h4 := (h.cells (i := 0) (by simp)).2.2.2.2
    rcases hown.2 with ⟨h1, _⟩ | ⟨g, cap, cur, hv, _, hk, _, _, hs, _⟩
    · cases h1
    · injection hv with e1 e2 e3
      injection e1 with e1
      injection e1 with e1
      subst e1
      subst e3
      have hcz : cur = #[] := Array.eq_empty_of_size_eq_zero (by omega)
      subst hcz
      simp [World.cell?, hk] at h4
set_option maxHeartbeats 8000000 in
set_option maxRecDepth 100000 in
theorem refTake_any (a : Option Addr) (c : Nat) (l : List EV) (hll : l.length ≤ 900000) (hac : a = none → c = 0) (hlc : l.length ≤ c) (now dl nx : Int) (n0 : Nat) (w : World) (hn0 : n0 ≤ w.heap.size) (hin : EvIn n0 w l a) : Calls Try.prog 21 #[.agg #[.slice a l.length c, .int .i64 now, .int .i64 dl, .int .i64 nx]] w (TakePost l now dl nx w) := by
  obtain ⟨gq, hgq⟩ : ∃ g, w.heap.size = g := ⟨_, rfl⟩
  obtain ⟨V0, hV0⟩ : ∃ W, w.alloc (.cells #[.slice a l.length c, .int .i64 now, .int .i64 dl, .int .i64 nx] 24) = W := ⟨_, rfl⟩
  have hbV0 : Below w.heap.size w V0 := by rw [← hV0]; exact (Below.refl _ _).alloc (Nat.le_refl _) _
  have hzV0 : V0.heap.size = gq + 1 := by rw [← hV0, World.size_alloc, hgq]
  have BBq : V0.heap[gq]? = some (.cells #[.slice a l.length c, .int .i64 now, .int .i64 dl, .int .i64 nx] 24 (0, 0)) := by rw [← hV0, ← hgq]; exact World.alloc_heap_new w _
  have hbw := hbV0
  obtain ⟨V1, hV1⟩ : ∃ W, V0.alloc (.cells #[.slice none 0 0, .int .i64 0, .int .i64 0, .int .i64 0] 24) = W := ⟨_, rfl⟩
  have hbV1 : Below V0.heap.size V0 V1 := by rw [← hV1]; exact (Below.refl _ _).alloc (Nat.le_refl _) _
  have hzV1 : V1.heap.size = gq + 2 := by rw [← hV1, World.size_alloc, hzV0]
  have BBr : V1.heap[gq + 1]? = some (.cells #[.slice none 0 0, .int .i64 0, .int .i64 0, .int .i64 0] 24 (0, 0)) := by rw [← hV1, ← hzV0]; exact World.alloc_heap_new V0 _
  replace BBq := block_kept BBq hbV1
  replace hbw := hbw.trans (hbV1.mono hbw.size)
  have hs2 : n0 ≤ V1.heap.size := by have := hbw.size; omega
  have hi2 := hin.keep hbw hn0
  have cF := refCheck_any a c l (by omega) now dl nx n0 V1 hs2 hi2
  obtain ⟨R, hR⟩ : ∃ R, ckE now dl nx l = R := ⟨_, rfl⟩
  have HR := Lib.hid hR
  rw [hR] at cF
  clear hR
  have HQ := Lib.hid BBq
  have HRR := Lib.hid BBr
  have HBW := Lib.hid (And.intro hbw hs2)
  have HI := Lib.hid hi2
  have HCC := Lib.hid (And.intro hac (And.intro hlc (And.intro hll hn0)))
  have HG0 := Lib.hid (show w.heap.size ≤ gq by omega)
  clear BBq BBr hbw hin hi2 hbV0 hbV1 hs2 hac hlc
  obtain ⟨q0, q1, q2, q3⟩ := ope4 HQ.out
  go_enter Try.func21, Try.ntmps21
  go_upto_region 1 with (fail)
  (try rw [hgq])
  (try rw [hV0])
  (try rw [hzV0])
  (try rw [hV1])
  (try rw [hzV1])
  clear hV0 hV1 hgq hzV0 hzV1
  go_wp2_with fail
  refine cF.mono ?_
  clear cF q0 q1 q2 q3
  rintro e W3 ⟨rfl, hb⟩
  have HQ3 := Lib.hid (block_kept HQ.out hb)
  have HR3 := Lib.hid (block_kept HRR.out hb)
  have HB3 := Lib.hid (And.intro (HBW.out.1.trans (hb.mono HBW.out.1.size)) (Nat.le_trans HBW.out.2 hb.size))
  have HI3 := Lib.hid (HI.out.keep hb HBW.out.2)
  have HG : Hid (w.heap.size ≤ gq ∧ gq + 1 < W3.heap.size) := Lib.hid ⟨HG0.out, (Array.getElem?_eq_some_iff.1 HR3.out).1⟩
  clear HQ HRR HBW HI hb HG0
  have HPF : Hid (popF now dl nx l = if ckE now dl nx l = 0 then (if l.length = 0 then 141 else 0) else ckE now dl nx l) := Lib.hid rfl
  by_cases hR0 : R = 0
  case neg =>
    have kk : (R != 0) = true := by simpa using hR0
    have HRZ := Lib.hid hR0
    have HPR : Hid (popF now dl nx l = R) := Lib.hid (by rw [HPF.out, HR.out, if_neg hR0])
    clear hR0
    obtain ⟨q0, q1, q2, q3⟩ := ope4 HQ3.out
    obtain ⟨r0, r1, r2, r3⟩ := ope4 HR3.out
    have fr0 := froz HR3.out 0
    have fr1 := froz HR3.out 1
    have fr2 := froz HR3.out 2
    have fr3 := froz HR3.out 3
    obtain ⟨W4, hW4⟩ : ∃ W, ((((W3.setCell ⟨gq + 1, 0, none⟩ (.slice none 0 0)).setCell ⟨gq + 1, 1, none⟩ (.int .i64 0)).setCell ⟨gq + 1, 2, none⟩ (.int .i64 0)).setCell ⟨gq + 1, 3, none⟩ (.int .i64 0)) = W := ⟨_, rfl⟩
    have B1 : W4.heap[gq + 1]? = some (.cells #[.slice none 0 0, .int .i64 0, .int .i64 0, .int .i64 0] 24 (0, 0)) := by rw [← hW4]; exact block_set4 HR3.out
    have hbz : Below w.heap.size w W4 := by rw [← hW4]; exact below_set4 HB3.out.1 (by have := HG.out; omega) _ _ _ _
    obtain ⟨z0, z1, z2, z3⟩ := ope4 B1
    have HZ := Lib.hid hbz
    clear B1 hbz
    go_wp2
    (try rw [hW4])
    clear hW4
    have hu := Try.underlying24
    refine bodyPost_ret (v := .tuple #[.agg #[.slice none 0 0, .int .i64 0, .int .i64 0, .int .i64 0], .slice none 0 0, .int .i64 R]) (by simp [results, Try.results21, go_sem, hu, z0, z1, z2, z3]) rfl ?_
    exact ⟨HZ.out, .inl ⟨by rw [HPR.out]; exact HRZ.out, by rw [HPR.out]⟩⟩
  subst hR0
  have kk : ((0 : Int) != 0) = false := rfl
  obtain ⟨q0, q1, q2, q3⟩ := ope4 HQ3.out
  obtain ⟨E, hE⟩ : ∃ E, ((l.length : Int) == 0) = E := ⟨_, rfl⟩
  have cE := refEmpty_any a l.length c now dl nx W3
  rw [hE] at cE
  have HEE := Lib.hid hE
  clear hE
  go_wp2_with fail
  refine cE.mono ?_
  clear cE q0 q1 q2 q3
  rintro e W3' ⟨rfl, hb⟩
  replace HQ3 := Lib.hid (block_kept HQ3.out hb)
  replace HR3 := Lib.hid (block_kept HR3.out hb)
  replace HI3 := Lib.hid (HI3.out.keep hb HB3.out.2)
  replace HB3 := Lib.hid (And.intro (HB3.out.1.trans (hb.mono HB3.out.1.size)) (Nat.le_trans HB3.out.2 hb.size))
  replace HG : Hid (w.heap.size ≤ gq ∧ gq + 1 < W3'.heap.size) := Lib.hid ⟨HG.out.1, (Array.getElem?_eq_some_iff.1 HR3.out).1⟩
  clear hb
  clear W3
  obtain ⟨W3, rfl⟩ : ∃ W, W = W3' := ⟨_, rfl⟩
  cases E with
  | true =>
    have HPR : Hid (popF now dl nx l = 141) := Lib.hid (by rw [HPF.out, if_pos HR.out, if_pos (by have := beq_iff_eq.1 HEE.out; omega)])
    obtain ⟨q0, q1, q2, q3⟩ := ope4 HQ3.out
    obtain ⟨r0, r1, r2, r3⟩ := ope4 HR3.out
    have fr0 := froz HR3.out 0
    have fr1 := froz HR3.out 1
    have fr2 := froz HR3.out 2
    have fr3 := froz HR3.out 3
    obtain ⟨W4, hW4⟩ : ∃ W, ((((W3.setCell ⟨gq + 1, 0, none⟩ (.slice none 0 0)).setCell ⟨gq + 1, 1, none⟩ (.int .i64 0)).setCell ⟨gq + 1, 2, none⟩ (.int .i64 0)).setCell ⟨gq + 1, 3, none⟩ (.int .i64 0)) = W := ⟨_, rfl⟩
    have B1 : W4.heap[gq + 1]? = some (.cells #[.slice none 0 0, .int .i64 0, .int .i64 0, .int .i64 0] 24 (0, 0)) := by rw [← hW4]; exact block_set4 HR3.out
    have hbz : Below w.heap.size w W4 := by rw [← hW4]; exact below_set4 HB3.out.1 (by have := HG.out; omega) _ _ _ _
    obtain ⟨z0, z1, z2, z3⟩ := ope4 B1
    have HZ := Lib.hid hbz
    clear B1 hbz
    go_wp2
    (try rw [hW4])
    clear hW4
    have hu := Try.underlying24
    refine bodyPost_ret (v := .tuple #[.agg #[.slice none 0 0, .int .i64 0, .int .i64 0, .int .i64 0], .slice none 0 0, .int .i64 141]) (by simp [results, Try.results21, go_sem, hu, z0, z1, z2, z3]) rfl ?_
    exact ⟨HZ.out, .inl ⟨by rw [HPR.out]; decide, by rw [HPR.out]⟩⟩
  | false =>
  have HP0 : Hid (popF now dl nx l = 0) := Lib.hid (by rw [HPF.out, if_pos HR.out, if_neg (by have := beq_eq_false_iff_ne.1 HEE.out; omega)])
  have HPZ := Lib.hid (popF_zero HP0.out)
  clear HPF HEE
  have HOK : Hid (chainE l = true) := Lib.hid ((chainE_iff l).2 (okL_iff.1 (ckE_zero.1 HPZ.out.1).1).2.2.2.2)
  obtain ⟨x, r, hlr⟩ : ∃ x r, l = x :: r := by
    cases l with
    | nil => exact absurd rfl HPZ.out.2.1
    | cons x r => exact ⟨x, r, rfl⟩
  obtain ⟨m, hm⟩ : ∃ m, lead (fun e => togE e x) l = m := ⟨_, rfl⟩
  have hml : m ≤ l.length := by rw [← hm]; exact lead_le _ _
  have hm0 : 0 < m := by rw [← hm, hlr]; exact lead_pos x r
  have HT : Hid ((∀ k (h : k < l.length), k < m → togE l[k] x = true) ∧ (∀ k (h : k < l.length), m ≤ k → togE l[k] x = false)) := Lib.hid ⟨fun k h hk => lead_lt (fun e => togE e x) l k (by rw [hm]; exact hk), fun k h hk => by
    subst hlr
    exact lead_tog_ge HOK.out k h (by rw [hm]; exact hk)⟩
  have HM := Lib.hid (And.intro hm (And.intro hm0 hml))
  have HLX := Lib.hid hlr
  have hl0 : 0 < l.length := by omega
  have HX0 : Hid (∀ h : 0 < l.length, l[0]'h = x) := Lib.hid (fun _ => by subst hlr; rfl)
  obtain ⟨y, hy⟩ : ∃ y, l[m - 1]'(by omega) = y := ⟨_, rfl⟩
  have HY : Hid (∀ h : m - 1 < l.length, l[m - 1]'h = y) := Lib.hid (fun _ => hy)
  obtain ⟨tl, dm, nm, sm, vm⟩ := y
  obtain ⟨t, d, n1, s, v⟩ := x
  clear hm hml hm0 hlr hy
  obtain ⟨ba, o, e⟩ := HI3.out.addr hl0
  subst e
  have HLL := Lib.hid hl0
  obtain ⟨q0, q1, q2, q3⟩ := ope4 HQ3.out
  obtain ⟨e0, e1, e2, e3, e4⟩ := HI3.out.cells HLL.out
  simp only [HX0.out, Nat.zero_mul, Nat.add_zero] at e0 e1 e2 e3 e4
  clear q0 q1 q2 q3 e0 e1 e2 e3 e4
  go_upto_block 0 with fail
  go_cut [6] from 16 to 50 (fun p wx => p = .int .i64 (m : Int) ∧ Below W3.heap.size W3 wx)
  case first =>
    go_wp2_with fail
    go_loopg [6] l.length (fun gh u wr => ∃ k : Nat, u = .int .i64 (k : Int) ∧ 1 ≤ k ∧ k ≤ m ∧ l.length + 1 ≤ k + gh ∧ Below W3.heap.size W3 wr)
    case atStart => exact ⟨1, rfl, Nat.le_refl _, HM.out.2.1, by omega, Below.refl _ _⟩
    case round =>
      obtain ⟨k, rfl, hk1, hkm, hkg, hb0⟩ := hrel
      have HB0 := Lib.hid hb0
      obtain ⟨q0, q1, q2, q3⟩ := ope4 (block_kept HQ3.out hb0)
      have hir := HI3.out.keep hb0 HB3.out.2
      obtain ⟨e0, e1, e2, e3, e4⟩ := hir.cells HLL.out
      simp only [HX0.out, Nat.zero_mul, Nat.add_zero] at e0 e1 e2 e3 e4
      have hl1 : (0 : Int) < (l.length : Int) := by have := HLL.out; omega
      have HK := Lib.hid (And.intro hk1 (And.intro hkm hkg))
      clear hk1 hkm hkg
      by_cases hlt : k < l.length
      · have d1 : decide (k < l.length) = true := by simpa using hlt
        have d2 : decide ((k : Int) < (l.length : Int)) = true := by rw [decide_eq_true_eq]; omega
        have y1 : (k : Int) < (l.length : Int) := by omega
        obtain ⟨r0, r1, r2, r3, r4⟩ := hir.cells hlt
        have HTK : Hid ((togE l[k] ⟨t, d, n1, s, v⟩ = true → k < m) ∧ (togE l[k] ⟨t, d, n1, s, v⟩ = false → k = m)) := Lib.hid (by
          refine ⟨fun h => ?_, fun h => ?_⟩
          · rcases Nat.lt_or_ge k m with h1 | h1
            · exact h1
            · rw [HT.out.2 k hlt h1] at h; cases h
          · rcases Nat.lt_or_ge k m with h1 | h1
            · rw [HT.out.1 k hlt h1] at h; cases h
            · have := HK.out; omega)
        generalize l[k] = z at *
        obtain ⟨tk, dk, nk, sk, vk⟩ := z
        have HTE : Hid (togE (⟨tk, dk, nk, sk, vk⟩ : EV) ⟨t, d, n1, s, v⟩ = ((tk == t) && (dk == d))) := Lib.hid rfl
        simp only at r0 r1 r2 r3 r4
        clear hir r2 r3 r4 e2 e3 e4 hlt
        cases g1 : (tk == t) with
        | false =>
          have HE : Hid (k = m) := Lib.hid (HTK.out.2 (by rw [HTE.out, g1]; rfl))
          go_wp2_with fail
          have q0R := cell_regrown q0
          have q1R := cell_regrown q1
          have q2R := cell_regrown q2
          have q3R := cell_regrown q3
          have e0R := cell_regrown e0
          have e1R := cell_regrown e1
          have r0R := cell_regrown r0
          have r1R := cell_regrown r1
          refine wp_region_quiet_below (by kernel_rfl) (by kernel_rfl) ?_
          repeat (go_big_quiet_step (first | fail))
          clear q0R q1R q2R q3R e0R e1R r0R r1R
          refine wpQuiet_nil ?_
          intro _ hw'
          obtain ⟨⟨dq, osq⟩, hw''⟩ := hw'
          subst hw''
          have hbq := below_regrown wr dq osq
          generalize grow (redrawn wr dq) osq = wrq at *
          go_wp2
          go_meet
          exact ⟨by rw [HE.out], HB0.out.trans (hbq.mono HB0.out.size)⟩
        | true =>
          cases g2 : (dk == d) with
          | false =>
            have HE : Hid (k = m) := Lib.hid (HTK.out.2 (by rw [HTE.out, g1, g2]; rfl))
            go_wp2_with fail
            have q0R := cell_regrown q0
            have q1R := cell_regrown q1
            have q2R := cell_regrown q2
            have q3R := cell_regrown q3
            have e0R := cell_regrown e0
            have e1R := cell_regrown e1
            have r0R := cell_regrown r0
            have r1R := cell_regrown r1
            refine wp_region_quiet_below (by kernel_rfl) (by kernel_rfl) ?_
            repeat (go_big_quiet_step (first | fail))
            clear q0R q1R q2R q3R e0R e1R r0R r1R
            refine wpQuiet_nil ?_
            intro _ hw'
            obtain ⟨⟨dq, osq⟩, hw''⟩ := hw'
            subst hw''
            have hbq := below_regrown wr dq osq
            generalize grow (redrawn wr dq) osq = wrq at *
            go_wp2
            go_meet
            exact ⟨by rw [HE.out], HB0.out.trans (hbq.mono HB0.out.size)⟩
          | true =>
            have HE : Hid (k < m) := Lib.hid (HTK.out.1 (by rw [HTE.out, g1, g2]; rfl))
            go_wp2_with fail
            have q0R := cell_regrown q0
            have q1R := cell_regrown q1
            have q2R := cell_regrown q2
            have q3R := cell_regrown q3
            have e0R := cell_regrown e0
            have e1R := cell_regrown e1
            have r0R := cell_regrown r0
            have r1R := cell_regrown r1
            refine wp_region_quiet_below (by kernel_rfl) (by kernel_rfl) ?_
            repeat (go_big_quiet_step (first | fail))
            clear q0R q1R q2R q3R e0R e1R r0R r1R
            refine wpQuiet_nil ?_
            intro _ hw'
            obtain ⟨⟨dq, osq⟩, hw''⟩ := hw'
            subst hw''
            have hbq := below_regrown wr dq osq
            generalize grow (redrawn wr dq) osq = wrq at *
            have y2 : (k : Int) < 900000 := by have := HCC.out; omega
            go_wp2
            cases gk with
            | zero => have := HK.out; omega
            | succ gg =>
              go_roundg gg
              case rel => exact ⟨k + 1, by first | rfl | (simp; done) | go_num, by omega, by have := HE.out; omega, by have := HK.out; omega, HB0.out.trans (hbq.mono HB0.out.size)⟩
              case measure => omega
      · have d1 : decide (k < l.length) = false := by simpa using hlt
        have d2 : decide ((k : Int) < (l.length : Int)) = false := by rw [decide_eq_false_iff_not]; omega
        have HE : Hid (k = m) := Lib.hid (by have := HK.out; have := HM.out; omega)
        clear hir hlt
        go_wp2_with fail
        have q0R := cell_regrown q0
        have q1R := cell_regrown q1
        have q2R := cell_regrown q2
        have q3R := cell_regrown q3
        refine wp_region_quiet_below (by kernel_rfl) (by kernel_rfl) ?_
        repeat (go_big_quiet_step (first | fail))
        clear q0R q1R q2R q3R
        refine wpQuiet_nil ?_
        intro _ hw'
        obtain ⟨⟨dq, osq⟩, hw''⟩ := hw'
        subst hw''
        have hbq := below_regrown wr dq osq
        generalize grow (redrawn wr dq) osq = wrq at *
        go_wp2
        go_meet
        exact ⟨by rw [HE.out], HB0.out.trans (hbq.mono HB0.out.size)⟩
  case rest =>
    obtain ⟨rfl, hbq⟩ := hcut
    generalize wc = W4 at *
    have HQ4 := Lib.hid (block_kept HQ3.out hbq)
    have HR4 := Lib.hid (block_kept HR3.out hbq)
    have HB4 := Lib.hid (And.intro (HB3.out.1.trans (hbq.mono HB3.out.1.size)) (Nat.le_trans HB3.out.2 hbq.size))
    have HI4 := Lib.hid (HI3.out.keep hbq HB3.out.2)
    have HG4 : Hid (w.heap.size ≤ gq ∧ gq + 1 < W4.heap.size) := Lib.hid ⟨HG.out.1, (Array.getElem?_eq_some_iff.1 HR4.out).1⟩
    clear hbq
    clear HQ3 HR3 HB3 HI3 HG
    have HG := HG4
    clear W3
    have HTK : Hid ((l.take m).length = m ∧ (∀ e ∈ l.take m, e.Wf)) := Lib.hid ⟨by rw [List.length_take]; have := HM.out; omega, ((HI4.out.take m).wf)⟩
    have HKQ : Hid (∀ W, Kx (gq + 1) (gq + 1) W4 W → W.heap[gq]? = some (.cells #[.slice (some ⟨ba, o, none⟩) l.length c, .int .i64 now, .int .i64 dl, .int .i64 nx] 24 (0, 0))) := Lib.hid (fun W hW => hW.block HQ4.out (by omega) (by omega))
    have HKI : Hid (∀ W, Kx (gq + 1) (gq + 1) W4 W → EvIn n0 W l (some ⟨ba, o, none⟩)) := Lib.hid (fun W hW => hW.ev HB4.out.2 (by have := HG.out; have := HCC.out; omega) (by have := HG.out; have := HCC.out; omega) HI4.out)
    go_upto_region 9 with (fail)
    refine wp_region_inv (fun (b : Nat → Bool) (ac : Act) (W9 : World) => ∀ (Cc : Prop), (∀ (u0 u1 u2 u3 u4 u5 u6 u7 u8 u9 u10 u11 : Value) (z5 z6 g0 : Nat) (a5 a6 : Option Addr) (c5 c6 : Nat) (x16 x17 x18 x19 x20 x21 x22 x23 x24 x25 x26 x27 x28 x29 x30 x31 x32 x33 x34 x35 x36 x37 x38 x39 x40 x41 x42 x43 x44 x45 x46 x47 x48 x49 x50 : Value), ac = { tmps := List.toArray (.agg #[.slice (some ⟨ba, o, none⟩) l.length c, .int .i64 now, .int .i64 dl, .int .i64 nx] :: .pointer (some ⟨gq, 0, none⟩) :: .pointer (some ⟨gq + 1, 0, none⟩) :: u10 :: u11 :: .int .i64 0 :: .int .i64 (m : Int) :: .agg #[.slice (some ⟨ba, o, none⟩) l.length c, .int .i64 now, .int .i64 dl, .int .i64 nx] :: .int .i64 0 :: .int .i64 0 :: .bool false :: undef :: undef :: .agg #[.slice (some ⟨ba, o, none⟩) l.length c, .int .i64 now, .int .i64 dl, .int .i64 nx] :: .bool false :: undef :: x16 :: x17 :: x18 :: x19 :: x20 :: x21 :: x22 :: x23 :: x24 :: x25 :: x26 :: x27 :: x28 :: x29 :: x30 :: x31 :: x32 :: x33 :: x34 :: x35 :: x36 :: x37 :: x38 :: x39 :: x40 :: x41 :: x42 :: x43 :: x44 :: x45 :: x46 :: x47 :: x48 :: x49 :: x50 :: u0 :: u1 :: u2 :: u3 :: u4 :: u5 :: u6 :: u7 :: u8 :: []), defers := [] } → (Below w.heap.size w W9 ∧ Kx (gq + 1) (gq + 1) W4 W9 ∧ (b 9 = false → W9.heap[gq + 1]? = some (.cells #[.slice none 0 0, .int .i64 0, .int .i64 0, .int .i64 0] 24 (0, 0)))) → (b 0 = true → u0 = .agg #[.slice (some ⟨ba, o, none⟩) l.length c, .int .i64 now, .int .i64 dl, .int .i64 nx]) → (b 1 = true → u1 = .int .i64 (m : Int)) → (b 2 = true → u2 = .agg #[.slice a5 (l.length - m) c5, .int .i64 tl, .int .i64 dm, .int .i64 nx] ∧ (a5 = none → c5 = 0) ∧ l.length - m ≤ c5 ∧ (∀ p, a5 = some p → W4.heap.size ≤ p.block) ∧ EvIn z5 W9 (l.drop m) a5 ∧ z5 ≤ W9.heap.size) → (b 3 = true → u3 = .slice (some ⟨g0, 0, none⟩) 0 0 ∧ (b 8 = false → W9.ownsRow W4.heap.size 35 5 (.slice (some ⟨g0, 0, none⟩) 0 0) 0 [])) → (b 4 = true → u4 = .pointer (some ⟨gq, 0, none⟩)) → (b 5 = true → u5 = .slice (some ⟨ba, o, none⟩) l.length c) → (b 6 = true → u6 = .int .i64 (m : Int)) → (b 7 = true → u7 = .slice (some ⟨ba, o, none⟩) m c) → (b 8 = true → u8 = .slice a6 m c6 ∧ (a6 = none → c6 = 0) ∧ m ≤ c6 ∧ (∀ p, a6 = some p → W4.heap.size ≤ p.block) ∧ EvIn z6 W9 (l.take m) a6 ∧ z6 ≤ W9.heap.size) → (b 9 = true → W9.heap[gq + 1]? = some (.cells #[.slice a5 (l.length - m) c5, .int .i64 tl, .int .i64 dm, .int .i64 nx] 24 (0, 0))) → (b 10 = true → u10 = .slice a6 m c6) → (b 11 = true → u11 = .int .i64 0) → Cc) → Cc) (by kernel_rfl) (by kernel_rfl) ?_ ?_ ?_
    · exact fun _ hh => hh (undef) (undef) (undef) (undef) (undef) (undef) (undef) (undef) (undef) (undef) (.slice none 0 0) (.int .i64 0) (0) (0) (0) (none) (none) (0) (0) (_) (_) (_) (_) (_) (_) (_) (_) (_) (_) (_) (_) (_) (_) (_) (_) (_) (_) (_) (_) (_) (_) (_) (_) (_) (_) (_) (_) (_) (_) (_) (_) (_) (_) (_) rfl ⟨HB4.out.1.drew, Kx.refl _ _ _, fun _ => HR4.out⟩ (fun h => (by cases h)) (fun h => (by cases h)) (fun h => (by cases h)) (fun h => (by cases h)) (fun h => (by cases h)) (fun h => (by cases h)) (fun h => (by cases h)) (fun h => (by cases h)) (fun h => (by cases h)) (fun h => (by cases h)) (fun h => (by cases h)) (fun h => (by cases h))
    · refine ⟨⟨rfl, ?_⟩, ⟨⟨rfl, ?_⟩, ⟨⟨rfl, ?_⟩, ⟨⟨rfl, ?_⟩, ⟨⟨rfl, ?_⟩, ⟨⟨rfl, ?_⟩, ⟨⟨rfl, ?_⟩, ⟨⟨rfl, ?_⟩, ⟨⟨rfl, ?_⟩, ⟨⟨rfl, ?_⟩, ⟨⟨rfl, ?_⟩, ⟨⟨rfl, ?_⟩, trivial⟩⟩⟩⟩⟩⟩⟩⟩⟩⟩⟩⟩
      · intro b ac W9 hbk hd hcl hJ K hK
        refine hJ _ ?_
        clear hJ
        intro u0 u1 u2 u3 u4 u5 u6 u7 u8 u9 u10 u11 z5 z6 g0 a5 a6 c5 c6 x16 x17 x18 x19 x20 x21 x22 x23 x24 x25 x26 x27 x28 x29 x30 x31 x32 x33 x34 x35 x36 x37 x38 x39 x40 x41 x42 x43 x44 x45 x46 x47 x48 x49 x50 hac hC f0 f1 f2 f3 f4 f5 f6 f7 f8 f9 f10 f11
        subst hac
        obtain ⟨z0, z1, z2, z3⟩ := ope4 (HKQ.out W9 hC.2.1)
        go_simp
        exact hK _ _ (fun _ hh => hh (_) (_) (_) (_) (_) (_) (_) (_) (_) (undef) (_) (_) (z5) (z6) (g0) (a5) (a6) (c5) (c6) (x16) (x17) (x18) (x19) (x20) (x21) (x22) (x23) (x24) (x25) (x26) (x27) (x28) (x29) (x30) (x31) (x32) (x33) (x34) (x35) (x36) (x37) (x38) (x39) (x40) (x41) (x42) (x43) (x44) (x45) (x46) (x47) (x48) (x49) (x50) rfl (hC) (fun _ => rfl) (f1) (f2) (f3) (f4) (f5) (f6) (f7) (f8) (f9) (f10) (f11))
      · intro b ac W9 hbk hd hcl hJ K hK
        refine hJ _ ?_
        clear hJ
        intro u0 u1 u2 u3 u4 u5 u6 u7 u8 u9 u10 u11 z5 z6 g0 a5 a6 c5 c6 x16 x17 x18 x19 x20 x21 x22 x23 x24 x25 x26 x27 x28 x29 x30 x31 x32 x33 x34 x35 x36 x37 x38 x39 x40 x41 x42 x43 x44 x45 x46 x47 x48 x49 x50 hac hC f0 f1 f2 f3 f4 f5 f6 f7 f8 f9 f10 f11
        subst hac
        go_simp
        exact hK _ _ (fun _ hh => hh (_) (_) (_) (_) (_) (_) (_) (_) (_) (undef) (_) (_) (z5) (z6) (g0) (a5) (a6) (c5) (c6) (x16) (x17) (x18) (x19) (x20) (x21) (x22) (x23) (x24) (x25) (x26) (x27) (x28) (x29) (x30) (x31) (x32) (x33) (x34) (x35) (x36) (x37) (x38) (x39) (x40) (x41) (x42) (x43) (x44) (x45) (x46) (x47) (x48) (x49) (x50) rfl (hC) (f0) (fun _ => rfl) (f2) (f3) (f4) (f5) (f6) (f7) (f8) (f9) (f10) (f11))
      · intro b ac W9 hbk hd hcl hJ K hK
        refine hJ _ ?_
        clear hJ
        intro u0 u1 u2 u3 u4 u5 u6 u7 u8 u9 u10 u11 z5 z6 g0 a5 a6 c5 c6 x16 x17 x18 x19 x20 x21 x22 x23 x24 x25 x26 x27 x28 x29 x30 x31 x32 x33 x34 x35 x36 x37 x38 x39 x40 x41 x42 x43 x44 x45 x46 x47 x48 x49 x50 hac hC f0 f1 f2 f3 f4 f5 f6 f7 f8 f9 f10 f11
        subst hac
        have d0 := f0 (hd ⟨0, .data⟩ (by simp) rfl)
        have d1 := f1 (hd ⟨1, .data⟩ (by simp) rfl)
        subst d0
        subst d1
        have nst := hcl.no 9 _ rfl ⟨2, .phase⟩ (by simp) rfl rfl hbk
        have nap := hcl.no 8 _ rfl ⟨2, .chain⟩ (by simp) rfl rfl hbk
        go_simp
        refine (first_any ⟨ba, o, none⟩ c l HCC.out.2.2.1 HCC.out.2.1 m HM.out.2.1 HM.out.2.2 now dl nx n0 W9 (Nat.le_trans HB4.out.2 hC.2.1.1) (HKI.out W9 hC.2.1)).mono ?_
        rintro e W8 ⟨hb, a8, c8, rfl, k1, k2, k3, k4⟩
        rw [HY.out]
        have hC' : Below w.heap.size w W8 ∧ Kx (gq + 1) (gq + 1) W4 W8 ∧ (b 9 = false → W8.heap[gq + 1]? = some (.cells #[.slice none 0 0, .int .i64 0, .int .i64 0, .int .i64 0] 24 (0, 0))) := ⟨hC.1.trans (hb.mono hC.1.size), hC.2.1.below hb, fun h => block_kept (hC.2.2 h) hb⟩
        exact hK _ _ (fun _ hh => hh (_) (_) (_) (_) (_) (_) (_) (_) (_) (undef) (_) (_) (W8.heap.size) (z6) (g0) (a8) (a6) (c8) (c6) (x16) (x17) (x18) (x19) (x20) (x21) (x22) (x23) (x24) (x25) (x26) (x27) (x28) (x29) (x30) (x31) (x32) (x33) (x34) (x35) (x36) (x37) (x38) (x39) (x40) (x41) (x42) (x43) (x44) (x45) (x46) (x47) (x48) (x49) (x50) rfl (hC') (f0) (f1) (fun _ => ⟨rfl, k2, k3, fun p hp => Nat.le_trans hC.2.1.1 (k4 p hp), k1, Nat.le_refl _⟩) (fun h => ⟨(f3 h).1, fun q => own_below ((f3 h).2 q) hb⟩) (f4) (f5) (f6) (f7) (fun h => ⟨(f8 h).1, (f8 h).2.1, (f8 h).2.2.1, (f8 h).2.2.2.1, (f8 h).2.2.2.2.1.keep hb (f8 h).2.2.2.2.2, Nat.le_trans (f8 h).2.2.2.2.2 hb.size⟩) (fun h => by rw [show b 9 = true from h] at nst; cases nst) (f10) (f11))
      · intro b ac W9 hbk hd hcl hJ K hK
        refine hJ _ ?_
        clear hJ
        intro u0 u1 u2 u3 u4 u5 u6 u7 u8 u9 u10 u11 z5 z6 g0 a5 a6 c5 c6 x16 x17 x18 x19 x20 x21 x22 x23 x24 x25 x26 x27 x28 x29 x30 x31 x32 x33 x34 x35 x36 x37 x38 x39 x40 x41 x42 x43 x44 x45 x46 x47 x48 x49 x50 hac hC f0 f1 f2 f3 f4 f5 f6 f7 f8 f9 f10 f11
        subst hac
        have nap := hcl.no 8 _ rfl ⟨3, .data⟩ (by simp) rfl rfl hbk
        obtain ⟨W8, hW8⟩ : ∃ W, W9.alloc (.cells #[] 35) = W := ⟨_, rfl⟩
        have hb : Below W9.heap.size W9 W8 := by rw [← hW8]; exact (Below.refl _ _).alloc (Nat.le_refl _) _
        have hown : W8.ownsRow W4.heap.size 35 5 (.slice (some ⟨W9.heap.size, 0, none⟩) 0 0) 0 [] := by rw [← hW8]; exact own_empty_at W9 hC.2.1.1
        have hC' : Below w.heap.size w W8 ∧ Kx (gq + 1) (gq + 1) W4 W8 ∧ (b 9 = false → W8.heap[gq + 1]? = some (.cells #[.slice none 0 0, .int .i64 0, .int .i64 0, .int .i64 0] 24 (0, 0))) := ⟨hC.1.trans (hb.mono hC.1.size), hC.2.1.below hb, fun h => block_kept (hC.2.2 h) hb⟩
        go_simp
        (try rw [hW8])
        exact hK _ _ (fun _ hh => hh (_) (_) (_) (_) (_) (_) (_) (_) (_) (undef) (_) (_) (z5) (z6) (W9.heap.size) (a5) (a6) (c5) (c6) (x16) (x17) (x18) (x19) (x20) (x21) (x22) (x23) (x24) (x25) (x26) (x27) (x28) (x29) (x30) (x31) (x32) (x33) (x34) (x35) (x36) (x37) (x38) (x39) (x40) (x41) (x42) (x43) (x44) (x45) (x46) (x47) (x48) (x49) (x50) rfl (hC') (f0) (f1) (fun h => ⟨(f2 h).1, (f2 h).2.1, (f2 h).2.2.1, (f2 h).2.2.2.1, (f2 h).2.2.2.2.1.keep hb (f2 h).2.2.2.2.2, Nat.le_trans (f2 h).2.2.2.2.2 hb.size⟩) (fun _ => ⟨rfl, fun _ => hown⟩) (f4) (f5) (f6) (f7) (fun h => ⟨(f8 h).1, (f8 h).2.1, (f8 h).2.2.1, (f8 h).2.2.2.1, (f8 h).2.2.2.2.1.keep hb (f8 h).2.2.2.2.2, Nat.le_trans (f8 h).2.2.2.2.2 hb.size⟩) (fun h => block_kept (f9 h) hb) (f10) (f11))
      · intro b ac W9 hbk hd hcl hJ K hK
        refine hJ _ ?_
        clear hJ
        intro u0 u1 u2 u3 u4 u5 u6 u7 u8 u9 u10 u11 z5 z6 g0 a5 a6 c5 c6 x16 x17 x18 x19 x20 x21 x22 x23 x24 x25 x26 x27 x28 x29 x30 x31 x32 x33 x34 x35 x36 x37 x38 x39 x40 x41 x42 x43 x44 x45 x46 x47 x48 x49 x50 hac hC f0 f1 f2 f3 f4 f5 f6 f7 f8 f9 f10 f11
        subst hac
        go_simp
        exact hK _ _ (fun _ hh => hh (_) (_) (_) (_) (_) (_) (_) (_) (_) (undef) (_) (_) (z5) (z6) (g0) (a5) (a6) (c5) (c6) (x16) (x17) (x18) (x19) (x20) (x21) (x22) (x23) (x24) (x25) (x26) (x27) (x28) (x29) (x30) (x31) (x32) (x33) (x34) (x35) (x36) (x37) (x38) (x39) (x40) (x41) (x42) (x43) (x44) (x45) (x46) (x47) (x48) (x49) (x50) rfl (hC) (f0) (f1) (f2) (f3) (fun _ => rfl) (f5) (f6) (f7) (f8) (f9) (f10) (f11))
      · intro b ac W9 hbk hd hcl hJ K hK
        refine hJ _ ?_
        clear hJ
        intro u0 u1 u2 u3 u4 u5 u6 u7 u8 u9 u10 u11 z5 z6 g0 a5 a6 c5 c6 x16 x17 x18 x19 x20 x21 x22 x23 x24 x25 x26 x27 x28 x29 x30 x31 x32 x33 x34 x35 x36 x37 x38 x39 x40 x41 x42 x43 x44 x45 x46 x47 x48 x49 x50 hac hC f0 f1 f2 f3 f4 f5 f6 f7 f8 f9 f10 f11
        subst hac
        have d4 := f4 (hd ⟨4, .data⟩ (by simp) rfl)
        subst d4
        obtain ⟨z0, z1, z2, z3⟩ := ope4 (HKQ.out W9 hC.2.1)
        go_simp
        exact hK _ _ (fun _ hh => hh (_) (_) (_) (_) (_) (_) (_) (_) (_) (undef) (_) (_) (z5) (z6) (g0) (a5) (a6) (c5) (c6) (x16) (x17) (x18) (x19) (x20) (x21) (x22) (x23) (x24) (x25) (x26) (x27) (x28) (x29) (x30) (x31) (x32) (x33) (x34) (x35) (x36) (x37) (x38) (x39) (x40) (x41) (x42) (x43) (x44) (x45) (x46) (x47) (x48) (x49) (x50) rfl (hC) (f0) (f1) (f2) (f3) (f4) (fun _ => rfl) (f6) (f7) (f8) (f9) (f10) (f11))
      · intro b ac W9 hbk hd hcl hJ K hK
        refine hJ _ ?_
        clear hJ
        intro u0 u1 u2 u3 u4 u5 u6 u7 u8 u9 u10 u11 z5 z6 g0 a5 a6 c5 c6 x16 x17 x18 x19 x20 x21 x22 x23 x24 x25 x26 x27 x28 x29 x30 x31 x32 x33 x34 x35 x36 x37 x38 x39 x40 x41 x42 x43 x44 x45 x46 x47 x48 x49 x50 hac hC f0 f1 f2 f3 f4 f5 f6 f7 f8 f9 f10 f11
        subst hac
        go_simp
        exact hK _ _ (fun _ hh => hh (_) (_) (_) (_) (_) (_) (_) (_) (_) (undef) (_) (_) (z5) (z6) (g0) (a5) (a6) (c5) (c6) (x16) (x17) (x18) (x19) (x20) (x21) (x22) (x23) (x24) (x25) (x26) (x27) (x28) (x29) (x30) (x31) (x32) (x33) (x34) (x35) (x36) (x37) (x38) (x39) (x40) (x41) (x42) (x43) (x44) (x45) (x46) (x47) (x48) (x49) (x50) rfl (hC) (f0) (f1) (f2) (f3) (f4) (f5) (fun _ => rfl) (f7) (f8) (f9) (f10) (f11))
      · intro b ac W9 hbk hd hcl hJ K hK
        refine hJ _ ?_
        clear hJ
        intro u0 u1 u2 u3 u4 u5 u6 u7 u8 u9 u10 u11 z5 z6 g0 a5 a6 c5 c6 x16 x17 x18 x19 x20 x21 x22 x23 x24 x25 x26 x27 x28 x29 x30 x31 x32 x33 x34 x35 x36 x37 x38 x39 x40 x41 x42 x43 x44 x45 x46 x47 x48 x49 x50 hac hC f0 f1 f2 f3 f4 f5 f6 f7 f8 f9 f10 f11
        subst hac
        have d5 := f5 (hd ⟨5, .data⟩ (by simp) rfl)
        have d6 := f6 (hd ⟨6, .data⟩ (by simp) rfl)
        subst d5
        subst d6
        have hml := HM.out.2.2
        have hlc := HCC.out.2.1
        have hmc : m ≤ c := by omega
        go_simp
        exact hK _ _ (fun _ hh => hh (_) (_) (_) (_) (_) (_) (_) (_) (_) (undef) (_) (_) (z5) (z6) (g0) (a5) (a6) (c5) (c6) (x16) (x17) (x18) (x19) (x20) (x21) (x22) (x23) (x24) (x25) (x26) (x27) (x28) (x29) (x30) (x31) (x32) (x33) (x34) (x35) (x36) (x37) (x38) (x39) (x40) (x41) (x42) (x43) (x44) (x45) (x46) (x47) (x48) (x49) (x50) rfl (hC) (f0) (f1) (f2) (f3) (f4) (f5) (f6) (fun _ => rfl) (f8) (f9) (f10) (f11))
      · intro b ac W9 hbk hd hcl hJ K hK
        refine hJ _ ?_
        clear hJ
        intro u0 u1 u2 u3 u4 u5 u6 u7 u8 u9 u10 u11 z5 z6 g0 a5 a6 c5 c6 x16 x17 x18 x19 x20 x21 x22 x23 x24 x25 x26 x27 x28 x29 x30 x31 x32 x33 x34 x35 x36 x37 x38 x39 x40 x41 x42 x43 x44 x45 x46 x47 x48 x49 x50 hac hC f0 f1 f2 f3 f4 f5 f6 f7 f8 f9 f10 f11
        subst hac
        have d3 := f3 (hd ⟨3, .data⟩ (by simp) rfl)
        have d7 := f7 (hd ⟨7, .data⟩ (by simp) rfl)
        have d2 := f2 (hd ⟨2, .chain⟩ (by simp) rfl)
        obtain ⟨rfl, k0⟩ := d3
        have hown := k0 hbk
        subst d7
        have nst := hcl.no 9 _ rfl ⟨8, .chain⟩ (by simp) rfl rfl hbk
        refine wp_append_row (.tmp 54) (.tmp 58) rfl W4.heap.size _ 0 [] rfl hown (some ⟨ba, o, none⟩) (l.take m) m c HTK.out.1 rfl (fun h => by cases h) n0 ((HKI.out W9 hC.2.1).take m) (by have := HCC.out; have := HM.out; omega) hC.2.1.1 ?_
        intro v8 W8 own8 hg8
        rw [Nat.zero_add, List.nil_append] at own8
        obtain ⟨a8, c8, rfl, k1, k2, k3⟩ := own_shape own8
        have hi8 := own_in' HTK.out.1 own8 HTK.out.2
        have hlow : Below W4.heap.size W9 W8 := (Below.refl _ _).grown hg8 hC.2.1.1 (fun k e => (hown.lt k e).1)
        obtain ⟨j0, j1, j2, j3, j4, j5⟩ := d2
        have hrow : EvIn z5 W8 (l.drop m) a5 := ev_grown_empty j4 j5 hown hg8
        have hC' : Below w.heap.size w W8 ∧ Kx (gq + 1) (gq + 1) W4 W8 ∧ (b 9 = false → W8.heap[gq + 1]? = some (.cells #[.slice none 0 0, .int .i64 0, .int .i64 0, .int .i64 0] 24 (0, 0))) := by
          refine ⟨hC.1.trans (hlow.mono (by have := HG4.out; omega)), hC.2.1.low (Nat.le_refl _) hlow, fun h => ?_⟩
          rw [hlow.block (gq + 1) (by have := HG4.out; omega)]
          exact hC.2.2 h
        simp only [Act.put, List.setIfInBounds_toArray, List.set_cons_zero, List.set_cons_succ]
        exact hK _ _ (fun _ hh => hh (_) (_) (_) (_) (_) (_) (_) (_) (_) (undef) (_) (_) (z5) (W8.heap.size) (g0) (a5) (a8) (c5) (c8) (x16) (x17) (x18) (x19) (x20) (x21) (x22) (x23) (x24) (x25) (x26) (x27) (x28) (x29) (x30) (x31) (x32) (x33) (x34) (x35) (x36) (x37) (x38) (x39) (x40) (x41) (x42) (x43) (x44) (x45) (x46) (x47) (x48) (x49) (x50) rfl (hC') (f0) (f1) (fun _ => ⟨j0, j1, j2, j3, hrow, Nat.le_trans j5 hlow.size⟩) (fun _ => ⟨rfl, fun h => by cases h⟩) (f4) (f5) (f6) (f7) (fun _ => ⟨rfl, k1, k2, k3, hi8, Nat.le_refl _⟩) (fun h => by rw [show b 9 = true from h] at nst; cases nst) (fun h => absurd (hcl 10 _ rfl h ⟨8, .data⟩ (by simp) rfl) (by rw [hbk]; decide)) (f11))
      · intro b ac W9 hbk hd hcl hJ K hK
        refine hJ _ ?_
        clear hJ
        intro u0 u1 u2 u3 u4 u5 u6 u7 u8 u9 u10 u11 z5 z6 g0 a5 a6 c5 c6 x16 x17 x18 x19 x20 x21 x22 x23 x24 x25 x26 x27 x28 x29 x30 x31 x32 x33 x34 x35 x36 x37 x38 x39 x40 x41 x42 x43 x44 x45 x46 x47 x48 x49 x50 hac hC f0 f1 f2 f3 f4 f5 f6 f7 f8 f9 f10 f11
        subst hac
        have d2 := f2 (hd ⟨2, .data⟩ (by simp) rfl)
        have d8b := hd ⟨8, .chain⟩ (by simp) rfl
        obtain ⟨rfl, k1, k2, k3, k4, k5⟩ := d2
        have HZ := hC.2.2 hbk
        have fz := froz HZ
        have fz0 := fz 0
        have fz1 := fz 1
        have fz2 := fz 2
        have fz3 := fz 3
        clear fz
        obtain ⟨y0, y1, y2, y3⟩ := ope4 HZ
        obtain ⟨W8, hW8⟩ : ∃ W, ((((W9.setCell ⟨gq + 1, 0, none⟩ (.slice a5 (l.length - m) c5)).setCell ⟨gq + 1, 1, none⟩ (.int .i64 tl)).setCell ⟨gq + 1, 2, none⟩ (.int .i64 dm)).setCell ⟨gq + 1, 3, none⟩ (.int .i64 nx)) = W := ⟨_, rfl⟩
        have B8 : W8.heap[gq + 1]? = some (.cells #[.slice a5 (l.length - m) c5, .int .i64 tl, .int .i64 dm, .int .i64 nx] 24 (0, 0)) := by rw [← hW8]; exact block_set4 HZ
        have hz8 : W8.heap.size = W9.heap.size := by rw [← hW8]; simp only [World.size_setCell]
        have hb8 : Below w.heap.size w W8 := by rw [← hW8]; exact below_set4 hC.1 (by have := HG4.out; omega) _ _ _ _
        have hk8 : Kx (gq + 1) (gq + 1) W4 W8 := by rw [← hW8]; exact hC.2.1.set1.set1.set1.set1
        have hi8 : EvIn z5 W8 (l.drop m) a5 := by rw [← hW8]; exact k4.set4 (fun p hp => by have h1 := k3 p hp; have h2 := HG4.out; omega)
        go_simp
        (try rw [hW8])
        exact hK _ _ (fun _ hh => hh (_) (_) (_) (_) (_) (_) (_) (_) (_) (undef) (_) (_) (z5) (z6) (g0) (a5) (a6) (c5) (c6) (x16) (x17) (x18) (x19) (x20) (x21) (x22) (x23) (x24) (x25) (x26) (x27) (x28) (x29) (x30) (x31) (x32) (x33) (x34) (x35) (x36) (x37) (x38) (x39) (x40) (x41) (x42) (x43) (x44) (x45) (x46) (x47) (x48) (x49) (x50) rfl (⟨hb8, hk8, (fun h => by cases h)⟩) (f0) (f1) (fun _ => ⟨rfl, k1, k2, k3, hi8, by rw [hz8]; exact k5⟩) (fun h => ⟨(f3 h).1, fun q => by rw [show b 8 = false from q] at d8b; cases d8b⟩) (f4) (f5) (f6) (f7) (fun h => ⟨(by first | exact (f8 h).1 | rfl), (f8 h).2.1, (f8 h).2.2.1, (f8 h).2.2.2.1, by rw [← hW8]; exact (f8 h).2.2.2.2.1.set4 (fun p hp => by have h1 := (f8 h).2.2.2.1 p hp; have h2 := HG4.out; omega), by rw [hz8]; exact (f8 h).2.2.2.2.2⟩) (fun _ => B8) (f10) (f11))
      · intro b ac W9 hbk hd hcl hJ K hK
        refine hJ _ ?_
        clear hJ
        intro u0 u1 u2 u3 u4 u5 u6 u7 u8 u9 u10 u11 z5 z6 g0 a5 a6 c5 c6 x16 x17 x18 x19 x20 x21 x22 x23 x24 x25 x26 x27 x28 x29 x30 x31 x32 x33 x34 x35 x36 x37 x38 x39 x40 x41 x42 x43 x44 x45 x46 x47 x48 x49 x50 hac hC f0 f1 f2 f3 f4 f5 f6 f7 f8 f9 f10 f11
        subst hac
        have d8 := f8 (hd ⟨8, .data⟩ (by simp) rfl)
        have e8 := d8.1
        subst e8
        go_simp
        exact hK _ _ (fun _ hh => hh (_) (_) (_) (_) (_) (_) (_) (_) (_) (undef) (_) (_) (z5) (z6) (g0) (a5) (a6) (c5) (c6) (x16) (x17) (x18) (x19) (x20) (x21) (x22) (x23) (x24) (x25) (x26) (x27) (x28) (x29) (x30) (x31) (x32) (x33) (x34) (x35) (x36) (x37) (x38) (x39) (x40) (x41) (x42) (x43) (x44) (x45) (x46) (x47) (x48) (x49) (x50) rfl (hC) (f0) (f1) (f2) (f3) (f4) (f5) (f6) (f7) (f8) (f9) (fun _ => rfl) (f11))
      · intro b ac W9 hbk hd hcl hJ K hK
        refine hJ _ ?_
        clear hJ
        intro u0 u1 u2 u3 u4 u5 u6 u7 u8 u9 u10 u11 z5 z6 g0 a5 a6 c5 c6 x16 x17 x18 x19 x20 x21 x22 x23 x24 x25 x26 x27 x28 x29 x30 x31 x32 x33 x34 x35 x36 x37 x38 x39 x40 x41 x42 x43 x44 x45 x46 x47 x48 x49 x50 hac hC f0 f1 f2 f3 f4 f5 f6 f7 f8 f9 f10 f11
        subst hac
        go_simp
        exact hK _ _ (fun _ hh => hh (_) (_) (_) (_) (_) (_) (_) (_) (_) (undef) (_) (_) (z5) (z6) (g0) (a5) (a6) (c5) (c6) (x16) (x17) (x18) (x19) (x20) (x21) (x22) (x23) (x24) (x25) (x26) (x27) (x28) (x29) (x30) (x31) (x32) (x33) (x34) (x35) (x36) (x37) (x38) (x39) (x40) (x41) (x42) (x43) (x44) (x45) (x46) (x47) (x48) (x49) (x50) rfl (hC) (f0) (f1) (f2) (f3) (f4) (f5) (f6) (f7) (f8) (f9) (f10) (fun _ => rfl))
    · intro b ac W6 hb hJ
      refine hJ _ ?_
      clear hJ
      intro u0 u1 u2 u3 u4 u5 u6 u7 u8 u9 u10 u11 z5 z6 g0 a5 a6 c5 c6 x16 x17 x18 x19 x20 x21 x22 x23 x24 x25 x26 x27 x28 x29 x30 x31 x32 x33 x34 x35 x36 x37 x38 x39 x40 x41 x42 x43 x44 x45 x46 x47 x48 x49 x50 hac hC f0 f1 f2 f3 f4 f5 f6 f7 f8 f9 f10 f11
      subst hac
      replace f0 := f0 (hb 0 (by decide))
      replace f1 := f1 (hb 1 (by decide))
      replace f2 := f2 (hb 2 (by decide))
      replace f3 := f3 (hb 3 (by decide))
      replace f4 := f4 (hb 4 (by decide))
      replace f5 := f5 (hb 5 (by decide))
      replace f6 := f6 (hb 6 (by decide))
      replace f7 := f7 (hb 7 (by decide))
      replace f8 := f8 (hb 8 (by decide))
      replace f9 := f9 (hb 9 (by decide))
      replace f10 := f10 (hb 10 (by decide))
      replace f11 := f11 (hb 11 (by decide))
      clear f0 f1 f3 f4 f5 f6 f7
      obtain ⟨rfl, k1, k2, k3, k4, k5⟩ := f2
      obtain ⟨rfl, j1, j2, j3, j4, j5⟩ := f8
      subst f10
      subst f11
      have HF := Lib.hid (And.intro hC.1 (And.intro (And.intro k1 (And.intro k2 (InRow.less k5 (fun _ _ h => h) k4))) (And.intro j1 (And.intro j2 (InRow.less j5 (fun _ _ h => h) j4)))))
      obtain ⟨z0, z1, z2, z3⟩ := ope4 f9
      clear hC k1 k2 k3 k4 k5 j1 j2 j3 j4 j5 f9
      go_wp2
      have hu := Try.underlying24
      refine bodyPost_ret (v := .tuple #[.agg #[.slice a5 (l.length - m) c5, .int .i64 tl, .int .i64 dm, .int .i64 nx], .slice a6 m c6, .int .i64 0]) (by simp [results, Try.results21, go_sem, hu, z0, z1, z2, z3]) rfl ?_
      exact ⟨HF.out.1, .inr ⟨HP0.out, _, r, m, a5, c5, a6, c6, HM.out.2.1, HM.out.2.2, HLX.out, HM.out.1.symm, by rw [HY.out], HF.out.2.1.2.2, HF.out.2.1.1, HF.out.2.1.2.1, HF.out.2.2.2.2, HF.out.2.2.1, HF.out.2.2.2.1⟩⟩
end Go.Proofs.Ytchboknncfmcpaa
