/-
  sort.Search; queue: leading.
-/
import Derived.Test.YtchboknncfmcpaaQaC
namespace Go.Proofs.Ytchboknncfmcpaa
open Go Go.RowKit
set_option linter.unusedVariables false
set_option linter.unusedSimpArgs false
open Go.Sort
set_option maxHeartbeats 8000000 in
set_option maxRecDepth 100000 in
theorem search_any (n m : Nat) (hn : n ≤ 4000000000) (hm : m ≤ n) (p1 p2 p3 : Value) (w : World) (hc : ∀ W, Below w.heap.size w W → ∀ k : Nat, k < n → Calls Try.prog 38 #[.int .i64 (k : Int), p1, p2, p3] W fun e w' => e = .returned (.bool (decide (m ≤ k))) ∧ Below W.heap.size W w') :
    Calls Try.prog 37 #[.int .i64 (n : Int), .func (.func 38) #[] #[p1, p2, p3]] w fun e w' => e = .returned (.int .i64 (m : Int)) ∧ Below w.heap.size w w' := by
  have HC := Lib.hid hc
  clear hc
  go_enter Try.func37, Try.ntmps37
  go_wp2
  go_loopg [5, 6] n (fun g u v wr => ∃ i j : Nat, u = .int .i64 (i : Int) ∧ v = .int .i64 (j : Int) ∧ i ≤ m ∧ m ≤ j ∧ j ≤ n ∧ j - i ≤ g ∧ Below w.heap.size w wr)
  case atStart => exact ⟨0, n, rfl, rfl, by omega, by omega, by omega, by omega, Below.refl _ _⟩
  case round =>
    obtain ⟨i, j, rfl, rfl, hi, hj, hjn, hg, hb0⟩ := hrel
    by_cases hlt : i < j
    · have d1 : decide (i < j) = true := by simpa using hlt
      have d2 : decide ((i : Int) < (j : Int)) = true := by rw [decide_eq_true_eq]; omega
      obtain ⟨h, hh⟩ : ∃ h : Nat, (i + j) / 2 = h := ⟨_, rfl⟩
      have x1 : (i : Int) ≤ 4000000000 := by omega
      have x2 : (j : Int) ≤ 4000000000 := by omega
      have y1 : ((i : Int) + (j : Int)) / 2 = (h : Int) := by omega
      have y2 : (((i : Int) + (j : Int)).toNat / 2 : Nat) = h := by omega
      have HH : Hid (i ≤ h ∧ h < j) := Lib.hid (by omega)
      have cH := HC.out wr hb0 h (by omega)
      obtain ⟨B, hB⟩ : ∃ B, decide (m ≤ h) = B := ⟨_, rfl⟩
      rw [hB] at cH
      have HD := Lib.hid (And.intro hB (And.intro hi (And.intro hj (And.intro hjn hg))))
      clear hB hh hi hj hg
      go_wp2_with fail
      refine cH.mono ?_
      clear cH
      rintro e w1 ⟨rfl, hb⟩
      have HB : Hid (Below w.heap.size w w1) := Lib.hid (hb0.trans (hb.mono hb0.size))
      clear hb hb0
      cases B with
      | true =>
        go_wp2
        obtain ⟨hB, hi, hj, hjn, hg⟩ := HD.out
        have hB2 : m ≤ h := of_decide_eq_true hB
        cases gk with
        | zero => omega
        | succ gg =>
          go_roundg gg
          case rel => exact ⟨i, h, rfl, rfl, hi, hB2, by have := HH.out; omega, by have := HH.out; omega, HB.out⟩
          case measure => omega
      | false =>
        have x3 : (h : Int) < 4000000000 := by have := HH.out; omega
        go_wp2
        obtain ⟨hB, hi, hj, hjn, hg⟩ := HD.out
        have hB2 : ¬ m ≤ h := of_decide_eq_false hB
        cases gk with
        | zero => omega
        | succ gg =>
          go_roundg gg
          case rel => exact ⟨h + 1, j, by first | rfl | (simp; done) | go_num, rfl, by omega, hj, hjn, by have := HH.out; omega, HB.out⟩
          case measure => omega
    · have d1 : decide (i < j) = false := by simpa using hlt
      have d2 : decide ((i : Int) < (j : Int)) = false := by rw [decide_eq_false_iff_not]; omega
      obtain rfl : i = m := by omega
      go_wp2
      go_ret
      exact ⟨rfl, hb0⟩
set_option maxHeartbeats 8000000 in
set_option maxRecDepth 100000 in
theorem leadingFA_any (l : List EV) (a : Option Addr) (c : Nat)
    (t d n1 s v : Int) (gl n0 : Nat) (w : World) (hn0 : n0 ≤ w.heap.size) (hin : EvIn n0 w l a)
    (B0 : w.heap[gl]? = some (.cells #[.slice a l.length c] 22 (0, 0))) (B1 : w.heap[gl + 1]? = some (.cells #[.int .i64 t, .int .i64 d, .int .i64 n1, .int .i64 s, .int .u64 v] 35 (0, 0))) (B2 : w.heap[gl + 2]? = some (.cells #[.func (.func 27) #[] #[]] 52 (0, 0)))
    (k : Nat) (hk : k < l.length) (hll : l.length ≤ 4000000000) :
    Calls Try.prog 38 #[.int .i64 (k : Int), .pointer (some ⟨gl + 2, 0, none⟩), .pointer (some ⟨gl, 0, none⟩), .pointer (some ⟨gl + 1, 0, none⟩)] w fun e w' => e = .returned (.bool (!aheadE l[k] ⟨t, d, n1, s, v⟩)) ∧ Below w.heap.size w w' := by
  obtain ⟨b, o, rfl⟩ := hin.addr (by omega)
  obtain ⟨r0, r1, r2, r3, r4⟩ := hin.cells hk
  obtain ⟨x, hx⟩ : ∃ x, l[k] = x := ⟨_, rfl⟩
  rw [hx] at r0 r1 r2 r3 r4 ⊢
  clear hx hin
  obtain ⟨t2, d2, n2, s2, v2⟩ := x
  simp only at r0 r1 r2 r3 r4
  have c1 := fun W => ahead_any t2 d2 n2 s2 v2 t d n1 s v W
  generalize aheadE ⟨t2, d2, n2, s2, v2⟩ ⟨t, d, n1, s, v⟩ = PB at *
  have x1 : (k : Int) < (l.length : Int) := by omega
  have q0 : w.cell? ⟨gl, 0, none⟩ = some (.slice (some ⟨b, o, none⟩) l.length c) := by simp [World.cell?, B0]
  obtain ⟨e0, e1, e2, e3, e4⟩ := ope5 B1
  have f0 : w.cell? ⟨gl + 2, 0, none⟩ = some (.func (.func 27) #[] #[]) := by simp [World.cell?, B2]
  clear B0 B1 B2
  go_enter Try.func38, Try.ntmps38
  go_wp2_with fail
  have q0R := cell_regrown q0
  have e0R := cell_regrown e0
  have e1R := cell_regrown e1
  have e2R := cell_regrown e2
  have e3R := cell_regrown e3
  have e4R := cell_regrown e4
  have f0R := cell_regrown f0
  have r0R := cell_regrown r0
  have r1R := cell_regrown r1
  have r2R := cell_regrown r2
  have r3R := cell_regrown r3
  have r4R := cell_regrown r4
  refine wp_region_quiet_below (by kernel_rfl) (by kernel_rfl) ?_
  repeat (go_big_quiet_step (first | (go_at_call 27; exact Calls.regrown_of (c1 _))))
  clear q0R e0R e1R e2R e3R e4R f0R r0R r1R r2R r3R r4R
  refine wpQuiet_nil ?_
  intro _ hw'
  obtain ⟨⟨dq, osq⟩, hw''⟩ := hw'
  subst hw''
  have hbq := below_regrown w dq osq
  generalize grow (redrawn w dq) osq = wq at *
  go_wp2
  go_ret
  exact ⟨rfl, hbq⟩
set_option maxHeartbeats 8000000 in
set_option maxRecDepth 100000 in
theorem leadingA_any (l : List EV) (hll : l.length ≤ 4000000000) (a : Option Addr) (c : Nat)
    (t d n1 s v : Int) (n0 m : Nat) (hm : m ≤ l.length) (h1 : ∀ k (h : k < l.length), k < m → aheadE l[k] ⟨t, d, n1, s, v⟩ = true) (h2 : ∀ k (h : k < l.length), m ≤ k → aheadE l[k] ⟨t, d, n1, s, v⟩ = false) (w : World) (hn0 : n0 ≤ w.heap.size) (hin : EvIn n0 w l a) :
    Calls Try.prog 26 #[.slice a l.length c, .agg #[.int .i64 t, .int .i64 d, .int .i64 n1, .int .i64 s, .int .u64 v], .func (.func 27) #[] #[]] w fun e w' => e = .returned (.int .i64 (m : Int)) ∧ Below w.heap.size w w' := by
  obtain ⟨gl, hgl⟩ : ∃ g, w.heap.size = g := ⟨_, rfl⟩
  obtain ⟨V0, hV0⟩ : ∃ W, w.alloc (.cells #[.slice a l.length c] 22) = W := ⟨_, rfl⟩
  have hbV0 : Below w.heap.size w V0 := by rw [← hV0]; exact (Below.refl _ _).alloc (Nat.le_refl _) _
  have hzV0 : V0.heap.size = gl + 1 := by rw [← hV0, World.size_alloc, hgl]
  have BBl : V0.heap[gl]? = some (.cells #[.slice a l.length c] 22 (0, 0)) := by rw [← hV0, ← hgl]; exact World.alloc_heap_new w _
  have hbw := hbV0
  obtain ⟨V1, hV1⟩ : ∃ W, V0.alloc (.cells #[.int .i64 t, .int .i64 d, .int .i64 n1, .int .i64 s, .int .u64 v] 35) = W := ⟨_, rfl⟩
  have hbV1 : Below V0.heap.size V0 V1 := by rw [← hV1]; exact (Below.refl _ _).alloc (Nat.le_refl _) _
  have hzV1 : V1.heap.size = gl + 2 := by rw [← hV1, World.size_alloc, hzV0]
  have BBo : V1.heap[gl + 1]? = some (.cells #[.int .i64 t, .int .i64 d, .int .i64 n1, .int .i64 s, .int .u64 v] 35 (0, 0)) := by rw [← hV1, ← hzV0]; exact World.alloc_heap_new V0 _
  replace BBl := block_kept BBl hbV1
  replace hbw := hbw.trans (hbV1.mono hbw.size)
  obtain ⟨V2, hV2⟩ : ∃ W, V1.alloc (.cells #[.func (.func 27) #[] #[]] 52) = W := ⟨_, rfl⟩
  have hbV2 : Below V1.heap.size V1 V2 := by rw [← hV2]; exact (Below.refl _ _).alloc (Nat.le_refl _) _
  have hzV2 : V2.heap.size = gl + 3 := by rw [← hV2, World.size_alloc, hzV1]
  have BBf : V2.heap[gl + 2]? = some (.cells #[.func (.func 27) #[] #[]] 52 (0, 0)) := by rw [← hV2, ← hzV1]; exact World.alloc_heap_new V1 _
  replace BBl := block_kept BBl hbV2
  replace BBo := block_kept BBo hbV2
  replace hbw := hbw.trans (hbV2.mono hbw.size)
  have cS := search_any l.length m hll hm (.pointer (some ⟨gl + 2, 0, none⟩)) (.pointer (some ⟨gl, 0, none⟩)) (.pointer (some ⟨gl + 1, 0, none⟩)) V2 (fun W hW k hk => by
    have h9 := leadingFA_any l a c t d n1 s v gl n0 W (by have := hbw.size; have := hW.size; omega) ((hin.keep hbw hn0).keep hW (by have := hbw.size; omega)) (block_kept BBl hW) (block_kept BBo hW) (block_kept BBf hW) k hk hll
    have e : (!aheadE l[k] ⟨t, d, n1, s, v⟩) = decide (m ≤ k) := by
      by_cases hmk : m ≤ k
      · rw [h2 k hk hmk, decide_eq_true hmk]; rfl
      · rw [h1 k hk (by omega), decide_eq_false hmk]; rfl
    rw [e] at h9
    exact h9)
  have q0 : V2.cell? ⟨gl, 0, none⟩ = some (.slice a l.length c) := by simp [World.cell?, BBl]
  have HBW := Lib.hid hbw
  clear BBl BBo BBf hbw hin hbV0 hbV1 hbV2 h1 h2
  go_enter Try.func26, Try.ntmps26
  go_upto_region 1 with (fail)
  (try rw [hgl])
  (try rw [hV0])
  (try rw [hzV0])
  (try rw [hV1])
  (try rw [hzV1])
  (try rw [hV2])
  (try rw [hzV2])
  clear hV0 hV1 hV2 hgl hzV0 hzV1 hzV2
  go_wp2_with fail
  refine cS.mono ?_
  rintro e w1 ⟨rfl, hb⟩
  go_wp2
  go_ret
  exact ⟨rfl, HBW.out.trans (hb.mono HBW.out.size)⟩
set_option maxHeartbeats 8000000 in
set_option maxRecDepth 100000 in
theorem leadingFT_any (l : List EV) (a : Option Addr) (c : Nat)
    (t d n1 s v : Int) (gl n0 : Nat) (w : World) (hn0 : n0 ≤ w.heap.size) (hin : EvIn n0 w l a)
    (B0 : w.heap[gl]? = some (.cells #[.slice a l.length c] 22 (0, 0))) (B1 : w.heap[gl + 1]? = some (.cells #[.int .i64 t, .int .i64 d, .int .i64 n1, .int .i64 s, .int .u64 v] 35 (0, 0))) (B2 : w.heap[gl + 2]? = some (.cells #[.func (.func 34) #[] #[]] 52 (0, 0)))
    (k : Nat) (hk : k < l.length) (hll : l.length ≤ 4000000000) :
    Calls Try.prog 38 #[.int .i64 (k : Int), .pointer (some ⟨gl + 2, 0, none⟩), .pointer (some ⟨gl, 0, none⟩), .pointer (some ⟨gl + 1, 0, none⟩)] w fun e w' => e = .returned (.bool (!togE l[k] ⟨t, d, n1, s, v⟩)) ∧ Below w.heap.size w w' := by
  obtain ⟨b, o, rfl⟩ := hin.addr (by omega)
  obtain ⟨r0, r1, r2, r3, r4⟩ := hin.cells hk
  obtain ⟨x, hx⟩ : ∃ x, l[k] = x := ⟨_, rfl⟩
  rw [hx] at r0 r1 r2 r3 r4 ⊢
  clear hx hin
  obtain ⟨t2, d2, n2, s2, v2⟩ := x
  simp only at r0 r1 r2 r3 r4
  have c1 := fun W => together_any t2 d2 n2 s2 v2 t d n1 s v W
  generalize togE ⟨t2, d2, n2, s2, v2⟩ ⟨t, d, n1, s, v⟩ = PB at *
  have x1 : (k : Int) < (l.length : Int) := by omega
  have q0 : w.cell? ⟨gl, 0, none⟩ = some (.slice (some ⟨b, o, none⟩) l.length c) := by simp [World.cell?, B0]
  obtain ⟨e0, e1, e2, e3, e4⟩ := ope5 B1
  have f0 : w.cell? ⟨gl + 2, 0, none⟩ = some (.func (.func 34) #[] #[]) := by simp [World.cell?, B2]
  clear B0 B1 B2
  go_enter Try.func38, Try.ntmps38
  go_wp2_with fail
  have q0R := cell_regrown q0
  have e0R := cell_regrown e0
  have e1R := cell_regrown e1
  have e2R := cell_regrown e2
  have e3R := cell_regrown e3
  have e4R := cell_regrown e4
  have f0R := cell_regrown f0
  have r0R := cell_regrown r0
  have r1R := cell_regrown r1
  have r2R := cell_regrown r2
  have r3R := cell_regrown r3
  have r4R := cell_regrown r4
  refine wp_region_quiet_below (by kernel_rfl) (by kernel_rfl) ?_
  repeat (go_big_quiet_step (first | (go_at_call 34; exact Calls.regrown_of (c1 _))))
  clear q0R e0R e1R e2R e3R e4R f0R r0R r1R r2R r3R r4R
  refine wpQuiet_nil ?_
  intro _ hw'
  obtain ⟨⟨dq, osq⟩, hw''⟩ := hw'
  subst hw''
  have hbq := below_regrown w dq osq
  generalize grow (redrawn w dq) osq = wq at *
  go_wp2
  go_ret
  exact ⟨rfl, hbq⟩
set_option maxHeartbeats 8000000 in
set_option maxRecDepth 100000 in
theorem leadingT_any (l : List EV) (hll : l.length ≤ 4000000000) (a : Option Addr) (c : Nat)
    (t d n1 s v : Int) (n0 m : Nat) (hm : m ≤ l.length) (h1 : ∀ k (h : k < l.length), k < m → togE l[k] ⟨t, d, n1, s, v⟩ = true) (h2 : ∀ k (h : k < l.length), m ≤ k → togE l[k] ⟨t, d, n1, s, v⟩ = false) (w : World) (hn0 : n0 ≤ w.heap.size) (hin : EvIn n0 w l a) :
    Calls Try.prog 26 #[.slice a l.length c, .agg #[.int .i64 t, .int .i64 d, .int .i64 n1, .int .i64 s, .int .u64 v], .func (.func 34) #[] #[]] w fun e w' => e = .returned (.int .i64 (m : Int)) ∧ Below w.heap.size w w' := by
  obtain ⟨gl, hgl⟩ : ∃ g, w.heap.size = g := ⟨_, rfl⟩
  obtain ⟨V0, hV0⟩ : ∃ W, w.alloc (.cells #[.slice a l.length c] 22) = W := ⟨_, rfl⟩
  have hbV0 : Below w.heap.size w V0 := by rw [← hV0]; exact (Below.refl _ _).alloc (Nat.le_refl _) _
  have hzV0 : V0.heap.size = gl + 1 := by rw [← hV0, World.size_alloc, hgl]
  have BBl : V0.heap[gl]? = some (.cells #[.slice a l.length c] 22 (0, 0)) := by rw [← hV0, ← hgl]; exact World.alloc_heap_new w _
  have hbw := hbV0
  obtain ⟨V1, hV1⟩ : ∃ W, V0.alloc (.cells #[.int .i64 t, .int .i64 d, .int .i64 n1, .int .i64 s, .int .u64 v] 35) = W := ⟨_, rfl⟩
  have hbV1 : Below V0.heap.size V0 V1 := by rw [← hV1]; exact (Below.refl _ _).alloc (Nat.le_refl _) _
  have hzV1 : V1.heap.size = gl + 2 := by rw [← hV1, World.size_alloc, hzV0]
  have BBo : V1.heap[gl + 1]? = some (.cells #[.int .i64 t, .int .i64 d, .int .i64 n1, .int .i64 s, .int .u64 v] 35 (0, 0)) := by rw [← hV1, ← hzV0]; exact World.alloc_heap_new V0 _
  replace BBl := block_kept BBl hbV1
  replace hbw := hbw.trans (hbV1.mono hbw.size)
  obtain ⟨V2, hV2⟩ : ∃ W, V1.alloc (.cells #[.func (.func 34) #[] #[]] 52) = W := ⟨_, rfl⟩
  have hbV2 : Below V1.heap.size V1 V2 := by rw [← hV2]; exact (Below.refl _ _).alloc (Nat.le_refl _) _
  have hzV2 : V2.heap.size = gl + 3 := by rw [← hV2, World.size_alloc, hzV1]
  have BBf : V2.heap[gl + 2]? = some (.cells #[.func (.func 34) #[] #[]] 52 (0, 0)) := by rw [← hV2, ← hzV1]; exact World.alloc_heap_new V1 _
  replace BBl := block_kept BBl hbV2
  replace BBo := block_kept BBo hbV2
  replace hbw := hbw.trans (hbV2.mono hbw.size)
  have cS := search_any l.length m hll hm (.pointer (some ⟨gl + 2, 0, none⟩)) (.pointer (some ⟨gl, 0, none⟩)) (.pointer (some ⟨gl + 1, 0, none⟩)) V2 (fun W hW k hk => by
    have h9 := leadingFT_any l a c t d n1 s v gl n0 W (by have := hbw.size; have := hW.size; omega) ((hin.keep hbw hn0).keep hW (by have := hbw.size; omega)) (block_kept BBl hW) (block_kept BBo hW) (block_kept BBf hW) k hk hll
    have e : (!togE l[k] ⟨t, d, n1, s, v⟩) = decide (m ≤ k) := by
      by_cases hmk : m ≤ k
      · rw [h2 k hk hmk, decide_eq_true hmk]; rfl
      · rw [h1 k hk (by omega), decide_eq_false hmk]; rfl
    rw [e] at h9
    exact h9)
  have q0 : V2.cell? ⟨gl, 0, none⟩ = some (.slice a l.length c) := by simp [World.cell?, BBl]
  have HBW := Lib.hid hbw
  clear BBl BBo BBf hbw hin hbV0 hbV1 hbV2 h1 h2
  go_enter Try.func26, Try.ntmps26
  go_upto_region 1 with (fail)
  (try rw [hgl])
  (try rw [hV0])
  (try rw [hzV0])
  (try rw [hV1])
  (try rw [hzV1])
  (try rw [hV2])
  (try rw [hzV2])
  clear hV0 hV1 hV2 hgl hzV0 hzV1 hzV2
  go_wp2_with fail
  refine cS.mono ?_
  rintro e w1 ⟨rfl, hb⟩
  go_wp2
  go_ret
  exact ⟨rfl, HBW.out.trans (hb.mono HBW.out.size)⟩
end Go.Proofs.Ytchboknncfmcpaa
