/-
  queue: pushFault, popFault.
-/
import Derived.Test.YtchboknncfmcpaaQaC
namespace Go.Proofs.Ytchboknncfmcpaa
open Go Go.RowKit
set_option linter.unusedVariables false
set_option linter.unusedSimpArgs false
open Go.Sort
theorem ckE_cases (now dl nx : Int) (l : List EV) : ckE now dl nx l = 0 ∧ l.length ≤ 65536 ∨ ckE now dl nx l = 1 ∨ ckE now dl nx l = 2 := by
  unfold ckE
  split
  · split
    · exact .inr (.inr rfl)
    · exact .inl ⟨rfl, by omega⟩
  · exact .inr (.inl rfl)
set_option maxHeartbeats 8000000 in
set_option maxRecDepth 100000 in
theorem pushFault_any (a : Option Addr) (c : Nat) (l : List EV) (hll : l.length ≤ 4000000000) (now dl nx t d n1 s v : Int) (n0 : Nat) (w : World) (hn0 : n0 ≤ w.heap.size) (hin : EvIn n0 w l a) : Calls Try.prog 25 #[.agg #[.slice a l.length c, .int .i64 now, .int .i64 dl, .int .i64 nx], .agg #[.int .i64 t, .int .i64 d, .int .i64 n1, .int .i64 s, .int .u64 v]] w fun e w' => e = .returned (.int .i64 (pushF now dl nx l t d s)) ∧ Below w.heap.size w w' := by
  obtain ⟨gq, hgq⟩ : ∃ g, w.heap.size = g := ⟨_, rfl⟩
  obtain ⟨V0, hV0⟩ : ∃ W, w.alloc (.cells #[.slice a l.length c, .int .i64 now, .int .i64 dl, .int .i64 nx] 24) = W := ⟨_, rfl⟩
  have hbV0 : Below w.heap.size w V0 := by rw [← hV0]; exact (Below.refl _ _).alloc (Nat.le_refl _) _
  have hzV0 : V0.heap.size = gq + 1 := by rw [← hV0, World.size_alloc, hgq]
  have BBq : V0.heap[gq]? = some (.cells #[.slice a l.length c, .int .i64 now, .int .i64 dl, .int .i64 nx] 24 (0, 0)) := by rw [← hV0, ← hgq]; exact World.alloc_heap_new w _
  have hbw := hbV0
  obtain ⟨V1, hV1⟩ : ∃ W, V0.alloc (.cells #[.int .i64 t, .int .i64 d, .int .i64 n1, .int .i64 s, .int .u64 v] 35) = W := ⟨_, rfl⟩
  have hbV1 : Below V0.heap.size V0 V1 := by rw [← hV1]; exact (Below.refl _ _).alloc (Nat.le_refl _) _
  have hzV1 : V1.heap.size = gq + 2 := by rw [← hV1, World.size_alloc, hzV0]
  have BBe : V1.heap[gq + 1]? = some (.cells #[.int .i64 t, .int .i64 d, .int .i64 n1, .int .i64 s, .int .u64 v] 35 (0, 0)) := by rw [← hV1, ← hzV0]; exact World.alloc_heap_new V0 _
  replace BBq := block_kept BBq hbV1
  replace hbw := hbw.trans (hbV1.mono hbw.size)
  have cK := check_any a c l hll now dl nx n0 V1 (by have := hbw.size; omega) (hin.keep hbw hn0)
  have HPU : Hid (pushF now dl nx l t d s = if ckE now dl nx l = 0 then (if d < 0 ∨ s < 0 ∨ 4611686018427387904 ≤ nx then 1 else if goneE now dl t d then 140 else if 65536 ≤ l.length then 2 else 0) else ckE now dl nx l) := Lib.hid rfl
  have HCS := Lib.hid (ckE_cases now dl nx l)
  generalize ckE now dl nx l = K at *
  generalize pushF now dl nx l t d s = R at *
  have HQ := Lib.hid BBq
  have HEV := Lib.hid BBe
  have HBW := Lib.hid hbw
  obtain ⟨q0, q1, q2, q3⟩ := ope4 BBq
  clear BBq BBe hbw hin hbV0 hbV1
  go_enter Try.func25, Try.ntmps25
  go_upto_region 1 with (fail)
  (try rw [hgq])
  (try rw [hV0])
  (try rw [hzV0])
  (try rw [hV1])
  (try rw [hzV1])
  clear hV0 hV1 hgq hzV0 hzV1
  go_wp2_with fail
  refine cK.mono ?_
  clear cK q0 q1 q2 q3
  rintro e w1 ⟨rfl, hb⟩
  have HQ1 := Lib.hid (block_kept HQ.out hb)
  have HE1 := Lib.hid (block_kept HEV.out hb)
  have HB1 : Hid (Below w.heap.size w w1) := Lib.hid (HBW.out.trans (hb.mono HBW.out.size))
  clear hb
  obtain ⟨q0, q1, q2, q3⟩ := ope4 HQ1.out
  obtain ⟨e0, e1, e2, e3, e4⟩ := ope5 HE1.out
  by_cases hK : K = 0
  case neg =>
    have kk : (K != 0) = true := by simpa using hK
    have HE : Hid (R = K) := Lib.hid (by rw [HPU.out, if_neg hK])
    clear HPU HCS hK
    go_wp2
    go_ret
    exact ⟨by rw [HE.out]; rfl, HB1.out⟩
  subst hK
  have HPV : Hid (R = (if d < 0 ∨ s < 0 ∨ 4611686018427387904 ≤ nx then 1 else if goneE now dl t d then 140 else if 65536 ≤ l.length then 2 else 0)) := Lib.hid (by rw [HPU.out, if_pos rfl])
  have hl6 : l.length ≤ 65536 := by
    rcases HCS.out with h | h | h
    · exact h.2
    · cases h
    · cases h
  have HL6 := Lib.hid hl6
  clear HPU HCS hl6
  have kk : ((0 : Int) != 0) = false := rfl
  by_cases z1 : d < 0
  · have y1 : decide (d < 0) = true := decide_eq_true z1
    have HE : Hid (R = 1) := Lib.hid (by rw [HPV.out, if_pos (.inl z1)])
    clear HPV
    go_wp2
    go_ret
    exact ⟨by rw [HE.out]; rfl, HB1.out⟩
  have y1 : decide (d < 0) = false := decide_eq_false z1
  by_cases z2 : s < 0
  · have y2 : decide (s < 0) = true := decide_eq_true z2
    have HE : Hid (R = 1) := Lib.hid (by rw [HPV.out, if_pos (.inr (.inl z2))])
    clear HPV
    go_wp2
    go_ret
    exact ⟨by rw [HE.out]; rfl, HB1.out⟩
  have y2 : decide (s < 0) = false := decide_eq_false z2
  obtain ⟨M, hM⟩ : ∃ M : Int, M = 4611686018427387904 := ⟨_, rfl⟩
  by_cases z3 : nx ≥ 4611686018427387904
  · have y3 : decide (nx ≥ 4611686018427387904) = true := decide_eq_true z3
    have y3' : decide (4611686018427387904 ≤ nx) = true := decide_eq_true z3
    have HE : Hid (R = 1) := Lib.hid (by rw [HPV.out, if_pos (.inr (.inr z3))])
    clear HPV
    go_wp2
    go_ret
    exact ⟨by rw [HE.out]; rfl, HB1.out⟩
  have y3 : decide (nx ≥ 4611686018427387904) = false := decide_eq_false z3
  have y3' : decide (4611686018427387904 ≤ nx) = false := decide_eq_false z3
  have HPW : Hid (R = (if goneE now dl t d then 140 else if 65536 ≤ l.length then 2 else 0)) := Lib.hid (by rw [HPV.out, if_neg (by omega)])
  clear HPV
  have cP := fun W => past_any a l.length c now dl nx t d n1 s v W
  cases hg : goneE now dl t d with
  | true =>
    rw [hg] at cP
    have HE : Hid (R = 140) := Lib.hid (by rw [HPW.out, hg]; rfl)
    clear HPW hg
    go_wp2_with fail
    refine (cP _).mono ?_
    rintro e w2 ⟨rfl, hb⟩
    go_wp2
    go_ret
    exact ⟨by rw [HE.out]; rfl, HB1.out.trans (hb.mono HB1.out.size)⟩
  | false =>
    rw [hg] at cP
    have HE : Hid (R = if 65536 ≤ l.length then 2 else 0) := Lib.hid (by rw [HPW.out, hg]; rfl)
    clear HPW hg
    go_wp2_with fail
    refine (cP _).mono ?_
    rintro e w2 ⟨rfl, hb⟩
    clear cP q0 q1 q2 q3 e0 e1 e2 e3 e4
    obtain ⟨q0, q1, q2, q3⟩ := ope4 (block_kept HQ1.out hb)
    have HB2 : Hid (Below w.heap.size w w2) := Lib.hid (HB1.out.trans (hb.mono HB1.out.size))
    clear hb
    by_cases hl : l.length = 65536
    · have d1 : ((l.length : Int) == 65536) = true := by rw [beq_iff_eq]; omega
      have d2 : (l.length == 65536) = true := by rw [beq_iff_eq]; omega
      have HF : Hid (R = 2) := Lib.hid (by rw [HE.out, if_pos (by omega)])
      clear HE hl
      go_wp2
      go_ret
      exact ⟨by rw [HF.out]; rfl, HB2.out⟩
    · have d1 : ((l.length : Int) == 65536) = false := by rw [beq_eq_false_iff_ne]; omega
      have d2 : (l.length == 65536) = false := by rw [beq_eq_false_iff_ne]; omega
      have HF : Hid (R = 0) := Lib.hid (by rw [HE.out, if_neg (by have := HL6.out; omega)])
      clear HE hl
      go_wp2
      go_ret
      exact ⟨by rw [HF.out]; rfl, HB2.out⟩
set_option maxHeartbeats 8000000 in
set_option maxRecDepth 100000 in
theorem popFault_any (a : Option Addr) (c : Nat) (l : List EV) (hll : l.length ≤ 4000000000) (now dl nx : Int) (n0 : Nat) (w : World) (hn0 : n0 ≤ w.heap.size) (hin : EvIn n0 w l a) : Calls Try.prog 31 #[.agg #[.slice a l.length c, .int .i64 now, .int .i64 dl, .int .i64 nx]] w fun e w' => e = .returned (.int .i64 (popF now dl nx l)) ∧ Below w.heap.size w w' := by
  obtain ⟨gq, hgq⟩ : ∃ g, w.heap.size = g := ⟨_, rfl⟩
  obtain ⟨V0, hV0⟩ : ∃ W, w.alloc (.cells #[.slice a l.length c, .int .i64 now, .int .i64 dl, .int .i64 nx] 24) = W := ⟨_, rfl⟩
  have hbV0 : Below w.heap.size w V0 := by rw [← hV0]; exact (Below.refl _ _).alloc (Nat.le_refl _) _
  have hzV0 : V0.heap.size = gq + 1 := by rw [← hV0, World.size_alloc, hgq]
  have BBq : V0.heap[gq]? = some (.cells #[.slice a l.length c, .int .i64 now, .int .i64 dl, .int .i64 nx] 24 (0, 0)) := by rw [← hV0, ← hgq]; exact World.alloc_heap_new w _
  have hbw := hbV0
  have cK := check_any a c l hll now dl nx n0 V0 (by have := hbw.size; omega) (hin.keep hbw hn0)
  have HPU : Hid (popF now dl nx l = if ckE now dl nx l = 0 then (if l.length = 0 then 141 else 0) else ckE now dl nx l) := Lib.hid rfl
  generalize ckE now dl nx l = K at *
  generalize popF now dl nx l = R at *
  have HQ := Lib.hid BBq
  have HBW := Lib.hid hbw
  obtain ⟨q0, q1, q2, q3⟩ := ope4 BBq
  clear BBq hbw hin hbV0
  go_enter Try.func31, Try.ntmps31
  go_upto_region 1 with (fail)
  (try rw [hgq])
  (try rw [hV0])
  (try rw [hzV0])
  clear hV0 hgq hzV0
  go_wp2_with fail
  refine cK.mono ?_
  clear cK q0 q1 q2 q3
  rintro e w1 ⟨rfl, hb⟩
  have HQ1 := Lib.hid (block_kept HQ.out hb)
  have HB1 : Hid (Below w.heap.size w w1) := Lib.hid (HBW.out.trans (hb.mono HBW.out.size))
  clear hb
  obtain ⟨q0, q1, q2, q3⟩ := ope4 HQ1.out
  by_cases hK : K = 0
  case neg =>
    have kk : (K != 0) = true := by simpa using hK
    have HE : Hid (R = K) := Lib.hid (by rw [HPU.out, if_neg hK])
    clear HPU hK
    go_wp2
    go_ret
    exact ⟨by rw [HE.out]; rfl, HB1.out⟩
  subst hK
  have kk : ((0 : Int) != 0) = false := rfl
  have cE := fun W => empty_any a l.length c now dl nx W
  have HE : Hid (R = if l.length = 0 then 141 else 0) := Lib.hid (by rw [HPU.out, if_pos rfl])
  clear HPU
  cases hl : ((l.length : Int) == 0) with
  | true =>
    rw [hl] at cE
    have HF : Hid (R = 141) := Lib.hid (by rw [HE.out, if_pos (by have := beq_iff_eq.1 hl; omega)])
    clear HE hl
    go_wp2_with fail
    refine (cE _).mono ?_
    rintro e w2 ⟨rfl, hb⟩
    go_wp2
    go_ret
    exact ⟨by rw [HF.out]; rfl, HB1.out.trans (hb.mono HB1.out.size)⟩
  | false =>
    rw [hl] at cE
    have HF : Hid (R = 0) := Lib.hid (by rw [HE.out, if_neg (by have := beq_eq_false_iff_ne.1 hl; omega)])
    clear HE hl
    go_wp2_with fail
    refine (cE _).mono ?_
    rintro e w2 ⟨rfl, hb⟩
    go_wp2
    go_ret
    exact ⟨by rw [HF.out]; rfl, HB1.out.trans (hb.mono HB1.out.size)⟩
end Go.Proofs.Ytchboknncfmcpaa
