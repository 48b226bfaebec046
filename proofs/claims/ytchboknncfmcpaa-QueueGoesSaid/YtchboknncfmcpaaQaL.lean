/-
  queue: the reference's Evs, Same.
-/
import Derived.Test.YtchboknncfmcpaaQaC
import Derived.BigQuiet
namespace Go.Proofs.Ytchboknncfmcpaa
open Go Go.RowKit
set_option linter.unusedVariables false
set_option linter.unusedSimpArgs false
open Go.Sort
theorem evs_drop (l m : List EV) (k : Nat) (h1 : k < l.length) (h2 : k < m.length) : (l.drop k == m.drop k) = (decide (l[k] = m[k]) && (l.drop (k + 1) == m.drop (k + 1))) := by
  rw [← List.getElem_cons_drop h1, ← List.getElem_cons_drop h2]; rfl
section
set_option maxHeartbeats 8000000 in
set_option maxRecDepth 100000 in
theorem ev_eql (t1 d1 n1 s1 v1 t2 d2 n2 s2 v2 : Int) (w : World) : (binOp .eql 35 (.agg #[.int .i64 t1, .int .i64 d1, .int .i64 n1, .int .i64 s1, .int .u64 v1]) (.agg #[.int .i64 t2, .int .i64 d2, .int .i64 n2, .int .i64 s2, .int .u64 v2])).run Try.prog w = .ok (.bool (decide ((⟨t1, d1, n1, s1, v1⟩ : EV) = ⟨t2, d2, n2, s2, v2⟩))) w := by
  by_cases a0 : t1 = t2
  · skip
    by_cases a1 : d1 = d2
    · skip
      by_cases a2 : n1 = n2
      · skip
        by_cases a3 : s1 = s2
        · skip
          by_cases a4 : v1 = v2
          · subst a0; subst a1; subst a2; subst a3; subst a4
            simp [go_sem]
          · have b4 : (v1 == v2) = false := by simpa using a4
            simp [go_sem, a4, b4, a0, a1, a2, a3]
        · have b3 : (s1 == s2) = false := by simpa using a3
          simp [go_sem, a3, b3, a0, a1, a2]
      · have b2 : (n1 == n2) = false := by simpa using a2
        simp [go_sem, a2, b2, a0, a1]
    · have b1 : (d1 == d2) = false := by simpa using a1
      simp [go_sem, a1, b1, a0]
  · have b0 : (t1 == t2) = false := by simpa using a0
    simp [go_sem, a0, b0]
set_option maxHeartbeats 8000000 in
set_option maxRecDepth 100000 in
theorem ev_neq (t1 d1 n1 s1 v1 t2 d2 n2 s2 v2 : Int) (w : World) : (binOp .neq 35 (.agg #[.int .i64 t1, .int .i64 d1, .int .i64 n1, .int .i64 s1, .int .u64 v1]) (.agg #[.int .i64 t2, .int .i64 d2, .int .i64 n2, .int .i64 s2, .int .u64 v2])).run Try.prog w = .ok (.bool (!decide ((⟨t1, d1, n1, s1, v1⟩ : EV) = ⟨t2, d2, n2, s2, v2⟩))) w := by
  by_cases a0 : t1 = t2
  · skip
    by_cases a1 : d1 = d2
    · skip
      by_cases a2 : n1 = n2
      · skip
        by_cases a3 : s1 = s2
        · skip
          by_cases a4 : v1 = v2
          · subst a0; subst a1; subst a2; subst a3; subst a4
            simp [go_sem]
          · have b4 : (v1 == v2) = false := by simpa using a4
            simp [go_sem, a4, b4, a0, a1, a2, a3]
        · have b3 : (s1 == s2) = false := by simpa using a3
          simp [go_sem, a3, b3, a0, a1, a2]
      · have b2 : (n1 == n2) = false := by simpa using a2
        simp [go_sem, a2, b2, a0, a1]
    · have b1 : (d1 == d2) = false := by simpa using a1
      simp [go_sem, a1, b1, a0]
  · have b0 : (t1 == t2) = false := by simpa using a0
    simp [go_sem, a0, b0]
end
attribute [-go_sem] run_neq_struct run_eql_struct
set_option maxHeartbeats 8000000 in
set_option maxRecDepth 100000 in
theorem evs_any (l m : List EV) (hll : l.length ≤ 4000000) (hmm : m.length ≤ 4000000) (a a2 : Option Addr) (c c2 n0 : Nat) (w : World) (hn0 : n0 ≤ w.heap.size) (hin : EvIn n0 w l a) (hin2 : EvIn n0 w m a2) : Calls Try.prog 22 #[.slice a l.length c, .slice a2 m.length c2] w fun e w' => e = .returned (.bool (l == m)) ∧ Below w.heap.size w w' := by
  obtain ⟨R, hR⟩ : ∃ R, (l == m) = R := ⟨_, rfl⟩
  rw [hR]
  by_cases hlm : l.length = m.length
  case neg =>
    have e1 : ((l.length : Int) != (m.length : Int)) = true := by rw [bne_iff_ne]; omega
    have e2 : (l.length != m.length) = true := by rw [bne_iff_ne]; omega
    have HE : Hid (R = false) := Lib.hid (by rw [← hR, beq_eq_false_iff_ne]; intro h; exact hlm (congrArg List.length h))
    clear hR hlm
    go_enter Try.func22, Try.ntmps22
    go_wp2
    go_ret
    exact ⟨by rw [HE.out]; rfl, Below.refl _ _⟩
  have e1 : ((l.length : Int) != (m.length : Int)) = false := by rw [hlm]; simp
  have e2 : (l.length != m.length) = false := by rw [hlm]; simp
  have HLM := Lib.hid hlm
  have HR := Lib.hid hR
  have HI := Lib.hid (And.intro hin hin2)
  clear hR hlm hin hin2
  go_enter Try.func22, Try.ntmps22
  go_wp2
  clear e1 e2
  go_loopg [5] l.length (fun g u wr => ∃ k : Nat, u = .int .i64 (k : Int) ∧ k + g = l.length ∧ (l.drop k == m.drop k) = R ∧ Below w.heap.size w wr)
  case atStart => exact ⟨0, rfl, by omega, HR.out, Below.refl _ _⟩
  case round =>
    obtain ⟨k, rfl, hk, hre, hb0⟩ := hrel
    have HRE := Lib.hid hre
    have HB0 := Lib.hid hb0
    clear hre
    by_cases hlt : k < l.length
    · have d1 : decide (k < l.length) = true := by simpa using hlt
      have d2 : decide ((k : Int) < (l.length : Int)) = true := by rw [decide_eq_true_eq]; omega
      have hlt2 : k < m.length := by have := HLM.out; omega
      have x1 : (k : Int) < (l.length : Int) := by omega
      have x2 : (k : Int) < (m.length : Int) := by omega
      have hi1 := HI.out.1.keep hb0 hn0
      have hi2 := HI.out.2.keep hb0 hn0
      obtain ⟨b1, o1, rfl⟩ := hi1.addr (by omega)
      obtain ⟨b2, o2, rfl⟩ := hi2.addr (by omega)
      obtain ⟨r0, r1, r2, r3, r4⟩ := hi1.cells hlt
      obtain ⟨p0, p1, p2, p3, p4⟩ := hi2.cells hlt2
      have HD := Lib.hid (evs_drop l m k hlt hlt2)
      generalize l[k] = x at *
      generalize m[k] = y at *
      obtain ⟨t1, d1', n1, s1, v1⟩ := x
      obtain ⟨t2, d2', n2, s2, v2⟩ := y
      simp only at r0 r1 r2 r3 r4 p0 p1 p2 p3 p4
      obtain ⟨E, hE⟩ : ∃ E, decide ((⟨t1, d1', n1, s1, v1⟩ : EV) = ⟨t2, d2', n2, s2, v2⟩) = E := ⟨_, rfl⟩
      rw [hE] at HD
      have qn : ∀ W, (binOp .neq 35 (.agg #[.int .i64 t1, .int .i64 d1', .int .i64 n1, .int .i64 s1, .int .u64 v1]) (.agg #[.int .i64 t2, .int .i64 d2', .int .i64 n2, .int .i64 s2, .int .u64 v2])).run Try.prog W = .ok (.bool (!E)) W := fun W => by rw [ev_neq, hE]
      clear hE hi1 hi2
      cases E with
      | false =>
        have HE : Hid (R = false) := Lib.hid (by rw [← HRE.out, HD.out, Bool.false_and])
        clear HD HRE HR
        go_wp2_with fail
        have r0R := cell_regrown r0
        have r1R := cell_regrown r1
        have r2R := cell_regrown r2
        have r3R := cell_regrown r3
        have r4R := cell_regrown r4
        have p0R := cell_regrown p0
        have p1R := cell_regrown p1
        have p2R := cell_regrown p2
        have p3R := cell_regrown p3
        have p4R := cell_regrown p4
        refine wp_region_quiet_below (by kernel_rfl) (by kernel_rfl) ?_
        repeat (go_big_quiet_step (first | fail))
        clear r0R r1R r2R r3R r4R p0R p1R p2R p3R p4R
        refine wpQuiet_nil ?_
        intro _ hw'
        obtain ⟨⟨dq, osq⟩, hw''⟩ := hw'
        subst hw''
        have hbq := below_regrown wr dq osq
        generalize grow (redrawn wr dq) osq = wrq at *
        go_wp2
        go_ret
        exact ⟨by rw [HE.out]; rfl, HB0.out.trans (hbq.mono HB0.out.size)⟩
      | true =>
        have HE : Hid ((l.drop (k + 1) == m.drop (k + 1)) = R) := Lib.hid (by rw [← HRE.out, HD.out, Bool.true_and])
        clear HD HRE HR
        go_wp2_with fail
        have r0R := cell_regrown r0
        have r1R := cell_regrown r1
        have r2R := cell_regrown r2
        have r3R := cell_regrown r3
        have r4R := cell_regrown r4
        have p0R := cell_regrown p0
        have p1R := cell_regrown p1
        have p2R := cell_regrown p2
        have p3R := cell_regrown p3
        have p4R := cell_regrown p4
        refine wp_region_quiet_below (by kernel_rfl) (by kernel_rfl) ?_
        repeat (go_big_quiet_step (first | fail))
        clear r0R r1R r2R r3R r4R p0R p1R p2R p3R p4R
        refine wpQuiet_nil ?_
        intro _ hw'
        obtain ⟨⟨dq, osq⟩, hw''⟩ := hw'
        subst hw''
        have hbq := below_regrown wr dq osq
        generalize grow (redrawn wr dq) osq = wrq at *
        go_wp2
        cases gk with
        | zero => omega
        | succ gg =>
          go_roundg gg
          case rel => exact ⟨k + 1, by first | rfl | (simp; done) | go_num, by omega, HE.out, HB0.out.trans (hbq.mono HB0.out.size)⟩
          case measure => omega
    · have d1 : decide (k < l.length) = false := by simpa using hlt
      have d2 : decide ((k : Int) < (l.length : Int)) = false := by rw [decide_eq_false_iff_not]; omega
      have HE : Hid (R = true) := Lib.hid (by rw [← HRE.out, List.drop_eq_nil_of_le (by omega), List.drop_eq_nil_of_le (by have := HLM.out; omega)]; rfl)
      clear HRE HR
      go_wp2
      go_ret
      exact ⟨by rw [HE.out]; rfl, hb0⟩
set_option maxHeartbeats 8000000 in
set_option maxRecDepth 100000 in
theorem same_any (l m : List EV) (hll : l.length ≤ 4000000) (hmm : m.length ≤ 4000000) (a a2 : Option Addr) (c c2 : Nat) (now dl nx now2 dl2 nx2 : Int) (n0 : Nat) (w : World) (hn0 : n0 ≤ w.heap.size) (hin : EvIn n0 w l a) (hin2 : EvIn n0 w m a2) : Calls Try.prog 17 #[.agg #[.slice a l.length c, .int .i64 now, .int .i64 dl, .int .i64 nx], .agg #[.slice a2 m.length c2, .int .i64 now2, .int .i64 dl2, .int .i64 nx2]] w fun e w' => e = .returned (.bool ((now == now2) && ((dl == dl2) && ((nx == nx2) && (l == m))))) ∧ Below w.heap.size w w' := by
  obtain ⟨gp, hgp⟩ : ∃ g, w.heap.size = g := ⟨_, rfl⟩
  obtain ⟨V0, hV0⟩ : ∃ W, w.alloc (.cells #[.slice a l.length c, .int .i64 now, .int .i64 dl, .int .i64 nx] 24) = W := ⟨_, rfl⟩
  have hbV0 : Below w.heap.size w V0 := by rw [← hV0]; exact (Below.refl _ _).alloc (Nat.le_refl _) _
  have hzV0 : V0.heap.size = gp + 1 := by rw [← hV0, World.size_alloc, hgp]
  have BBp : V0.heap[gp]? = some (.cells #[.slice a l.length c, .int .i64 now, .int .i64 dl, .int .i64 nx] 24 (0, 0)) := by rw [← hV0, ← hgp]; exact World.alloc_heap_new w _
  have hbw := hbV0
  obtain ⟨V1, hV1⟩ : ∃ W, V0.alloc (.cells #[.slice a2 m.length c2, .int .i64 now2, .int .i64 dl2, .int .i64 nx2] 24) = W := ⟨_, rfl⟩
  have hbV1 : Below V0.heap.size V0 V1 := by rw [← hV1]; exact (Below.refl _ _).alloc (Nat.le_refl _) _
  have hzV1 : V1.heap.size = gp + 2 := by rw [← hV1, World.size_alloc, hzV0]
  have BBq : V1.heap[gp + 1]? = some (.cells #[.slice a2 m.length c2, .int .i64 now2, .int .i64 dl2, .int .i64 nx2] 24 (0, 0)) := by rw [← hV1, ← hzV0]; exact World.alloc_heap_new V0 _
  replace BBp := block_kept BBp hbV1
  replace hbw := hbw.trans (hbV1.mono hbw.size)
  have cE := evs_any l m hll hmm a a2 c c2 n0 V1 (by have := hbw.size; omega) (hin.keep hbw hn0) (hin2.keep hbw hn0)
  have HB := Lib.hid hbw
  obtain ⟨q0, q1, q2, q3⟩ := ope4 BBp
  obtain ⟨r0, r1, r2, r3⟩ := ope4 BBq
  clear BBp BBq hbw hin hin2 hbV0 hbV1
  generalize (l == m) = E at *
  go_enter Try.func17, Try.ntmps17
  go_upto_region 1 with (fail)
  (try rw [hgp])
  (try rw [hV0])
  (try rw [hzV0])
  (try rw [hV1])
  (try rw [hzV1])
  clear hV0 hV1 hgp hzV0 hzV1
  cases e1 : (now == now2) with
  | false =>
    go_wp2
    go_ret
    exact ⟨by simp [beq_eq_false_iff_ne.1 e1], HB.out⟩
  | true =>
    cases e2 : (dl == dl2) with
    | false =>
      go_wp2
      go_ret
      exact ⟨by simp [beq_eq_false_iff_ne.1 e2], HB.out⟩
    | true =>
      cases e3 : (nx == nx2) with
      | false =>
        go_wp2
        go_ret
        exact ⟨by simp [beq_eq_false_iff_ne.1 e3], HB.out⟩
      | true =>
        go_wp2_with fail
        refine cE.mono ?_
        rintro e w1 ⟨rfl, hb⟩
        have HB1 := Lib.hid (HB.out.trans (hb.mono HB.out.size))
        clear hb cE q0 q1 q2 q3 r0 r1 r2 r3
        go_wp2
        go_ret
        exact ⟨by simp [beq_iff_eq.1 e1, beq_iff_eq.1 e2, beq_iff_eq.1 e3], HB1.out⟩
end Go.Proofs.Ytchboknncfmcpaa
