/-
  queue: what is ahead, gone by, fits. The reference's Ahead, gone.
-/
import Derived.Test.YtchboknncfmcpaaQaA
import Derived.Laws.Cover1
namespace Go.Proofs.Ytchboknncfmcpaa
open Go Go.RowKit
set_option linter.unusedVariables false
set_option linter.unusedSimpArgs false
open Go.Sort
theorem run_min_int4 {P : Program} {w : World} (ts : Array TypeId) (t : TypeId) (k k1 k2 k3 : IntKind) (x0 x1 x2 x3 : Int) : (Builtin.min_ ts t #[.int k x0, .int k1 x1, .int k2 x2, .int k3 x3]).run P w = .ok (.int k (if x3 < (if x2 < (if x1 < x0 then x1 else x0) then x2 else (if x1 < x0 then x1 else x0)) then x3 else (if x2 < (if x1 < x0 then x1 else x0) then x2 else (if x1 < x0 then x1 else x0)))) w := by
  simp [Builtin.min_, Builtin.min2]
set_option maxHeartbeats 8000000 in
set_option maxRecDepth 100000 in
theorem ahead_any (t1 d1 n1 s1 v1 t2 d2 n2 s2 v2 : Int) (w : World) : Calls Try.prog 27 #[.agg #[.int .i64 t1, .int .i64 d1, .int .i64 n1, .int .i64 s1, .int .u64 v1], .agg #[.int .i64 t2, .int .i64 d2, .int .i64 n2, .int .i64 s2, .int .u64 v2]] w fun e w' => e = .returned (.bool (aheadE (⟨t1, d1, n1, s1, v1⟩ : EV) (⟨t2, d2, n2, s2, v2⟩ : EV))) ∧ Below w.heap.size w w' := by
  have z : aheadE (⟨t1, d1, n1, s1, v1⟩ : EV) (⟨t2, d2, n2, s2, v2⟩ : EV) = if t1 = t2 then (if d1 = d2 then decide (n1 < n2) else decide (d1 < d2)) else decide (t1 < t2) := rfl
  rw [z]
  clear z
  by_cases h1 : t1 = t2
  · subst h1
    rw [if_pos rfl]
    have e1 : (t1 != t1) = false := by simp
    by_cases h2 : d1 = d2
    · subst h2
      rw [if_pos rfl]
      have e2 : (d1 != d1) = false := by simp
      go_enter Try.func27, Try.ntmps27
      go_wp2
      go_ret
      refine ⟨rfl, ?_⟩
      repeat (first | exact Below.refl _ _ | assumption | (refine Below.setCell ?_ (by first | (simp; done) | (simp; omega) | omega) _) | (refine Below.alloc ?_ (by first | (simp; done) | (simp; omega) | omega) _) | (refine Below.drew ?_))
    · rw [if_neg h2]
      have e2 : (d1 != d2) = true := by simpa using h2
      go_enter Try.func27, Try.ntmps27
      go_wp2
      go_ret
      refine ⟨rfl, ?_⟩
      repeat (first | exact Below.refl _ _ | assumption | (refine Below.setCell ?_ (by first | (simp; done) | (simp; omega) | omega) _) | (refine Below.alloc ?_ (by first | (simp; done) | (simp; omega) | omega) _) | (refine Below.drew ?_))
  · rw [if_neg h1]
    have e1 : (t1 != t2) = true := by simpa using h1
    go_enter Try.func27, Try.ntmps27
    go_wp2
    go_ret
    refine ⟨rfl, ?_⟩
    repeat (first | exact Below.refl _ _ | assumption | (refine Below.setCell ?_ (by first | (simp; done) | (simp; omega) | omega) _) | (refine Below.alloc ?_ (by first | (simp; done) | (simp; omega) | omega) _) | (refine Below.drew ?_))
set_option maxHeartbeats 8000000 in
set_option maxRecDepth 100000 in
theorem refAhead_any (t1 d1 n1 s1 v1 t2 d2 n2 s2 v2 : Int) (w : World) : Calls Try.prog 24 #[.agg #[.int .i64 t1, .int .i64 d1, .int .i64 n1, .int .i64 s1, .int .u64 v1], .agg #[.int .i64 t2, .int .i64 d2, .int .i64 n2, .int .i64 s2, .int .u64 v2]] w fun e w' => e = .returned (.bool (aheadE (⟨t1, d1, n1, s1, v1⟩ : EV) (⟨t2, d2, n2, s2, v2⟩ : EV))) ∧ Below w.heap.size w w' := by
  have z : aheadE (⟨t1, d1, n1, s1, v1⟩ : EV) (⟨t2, d2, n2, s2, v2⟩ : EV) = if t1 = t2 then (if d1 = d2 then decide (n1 < n2) else decide (d1 < d2)) else decide (t1 < t2) := rfl
  rw [z]
  clear z
  by_cases h1 : t1 = t2
  · subst h1
    rw [if_pos rfl]
    have e1 : (t1 != t1) = false := by simp
    by_cases h2 : d1 = d2
    · subst h2
      rw [if_pos rfl]
      have e2 : (d1 != d1) = false := by simp
      go_enter Try.func24, Try.ntmps24
      go_wp2
      go_ret
      refine ⟨rfl, ?_⟩
      repeat (first | exact Below.refl _ _ | assumption | (refine Below.setCell ?_ (by first | (simp; done) | (simp; omega) | omega) _) | (refine Below.alloc ?_ (by first | (simp; done) | (simp; omega) | omega) _) | (refine Below.drew ?_))
    · rw [if_neg h2]
      have e2 : (d1 != d2) = true := by simpa using h2
      go_enter Try.func24, Try.ntmps24
      go_wp2
      go_ret
      refine ⟨rfl, ?_⟩
      repeat (first | exact Below.refl _ _ | assumption | (refine Below.setCell ?_ (by first | (simp; done) | (simp; omega) | omega) _) | (refine Below.alloc ?_ (by first | (simp; done) | (simp; omega) | omega) _) | (refine Below.drew ?_))
  · rw [if_neg h1]
    have e1 : (t1 != t2) = true := by simpa using h1
    go_enter Try.func24, Try.ntmps24
    go_wp2
    go_ret
    refine ⟨rfl, ?_⟩
    repeat (first | exact Below.refl _ _ | assumption | (refine Below.setCell ?_ (by first | (simp; done) | (simp; omega) | omega) _) | (refine Below.alloc ?_ (by first | (simp; done) | (simp; omega) | omega) _) | (refine Below.drew ?_))
set_option maxHeartbeats 8000000 in
set_option maxRecDepth 100000 in
theorem together_any (t1 d1 n1 s1 v1 t2 d2 n2 s2 v2 : Int) (w : World) : Calls Try.prog 34 #[.agg #[.int .i64 t1, .int .i64 d1, .int .i64 n1, .int .i64 s1, .int .u64 v1], .agg #[.int .i64 t2, .int .i64 d2, .int .i64 n2, .int .i64 s2, .int .u64 v2]] w fun e w' => e = .returned (.bool (togE (⟨t1, d1, n1, s1, v1⟩ : EV) (⟨t2, d2, n2, s2, v2⟩ : EV))) ∧ Below w.heap.size w w' := by
  have z : togE (⟨t1, d1, n1, s1, v1⟩ : EV) (⟨t2, d2, n2, s2, v2⟩ : EV) = ((t1 == t2) && (d1 == d2)) := rfl
  rw [z]
  clear z
  cases e1 : (t1 == t2) with
  | true =>
    go_enter Try.func34, Try.ntmps34
    go_wp2
    go_ret
    refine ⟨rfl, ?_⟩
    repeat (first | exact Below.refl _ _ | assumption | (refine Below.setCell ?_ (by first | (simp; done) | (simp; omega) | omega) _) | (refine Below.alloc ?_ (by first | (simp; done) | (simp; omega) | omega) _) | (refine Below.drew ?_))
  | false =>
    go_enter Try.func34, Try.ntmps34
    go_wp2
    go_ret
    refine ⟨rfl, ?_⟩
    repeat (first | exact Below.refl _ _ | assumption | (refine Below.setCell ?_ (by first | (simp; done) | (simp; omega) | omega) _) | (refine Below.alloc ?_ (by first | (simp; done) | (simp; omega) | omega) _) | (refine Below.drew ?_))
set_option maxHeartbeats 8000000 in
set_option maxRecDepth 100000 in
theorem past_any (a : Option Addr) (n c : Nat) (now dl nx : Int) (t d n0 s v : Int) (w : World) : Calls Try.prog 36 #[.agg #[.slice a n c, .int .i64 now, .int .i64 dl, .int .i64 nx], .agg #[.int .i64 t, .int .i64 d, .int .i64 n0, .int .i64 s, .int .u64 v]] w fun e w' => e = .returned (.bool (goneE now dl t d)) ∧ Below w.heap.size w w' := by
  have z : goneE now dl t d = (decide (t < now) || ((t == now) && decide (d < dl))) := rfl
  rw [z]
  clear z
  cases e1 : decide (t < now) with
  | true =>
    go_enter Try.func36, Try.ntmps36
    go_wp2
    go_ret
    refine ⟨rfl, ?_⟩
    repeat (first | exact Below.refl _ _ | assumption | (refine Below.setCell ?_ (by first | (simp; done) | (simp; omega) | omega) _) | (refine Below.alloc ?_ (by first | (simp; done) | (simp; omega) | omega) _) | (refine Below.drew ?_))
  | false =>
    cases e2 : (t == now) with
    | true =>
      go_enter Try.func36, Try.ntmps36
      go_wp2
      go_ret
      refine ⟨rfl, ?_⟩
      repeat (first | exact Below.refl _ _ | assumption | (refine Below.setCell ?_ (by first | (simp; done) | (simp; omega) | omega) _) | (refine Below.alloc ?_ (by first | (simp; done) | (simp; omega) | omega) _) | (refine Below.drew ?_))
    | false =>
      go_enter Try.func36, Try.ntmps36
      go_wp2
      go_ret
      refine ⟨rfl, ?_⟩
      repeat (first | exact Below.refl _ _ | assumption | (refine Below.setCell ?_ (by first | (simp; done) | (simp; omega) | omega) _) | (refine Below.alloc ?_ (by first | (simp; done) | (simp; omega) | omega) _) | (refine Below.drew ?_))
set_option maxHeartbeats 8000000 in
set_option maxRecDepth 100000 in
theorem gone_any (a : Option Addr) (n c : Nat) (now dl nx : Int) (t d : Int) (w : World) : Calls Try.prog 29 #[.agg #[.slice a n c, .int .i64 now, .int .i64 dl, .int .i64 nx], .int .i64 t, .int .i64 d] w fun e w' => e = .returned (.bool (goneE now dl t d)) ∧ Below w.heap.size w w' := by
  have z : goneE now dl t d = (decide (t < now) || ((t == now) && decide (d < dl))) := rfl
  rw [z]
  clear z
  cases e1 : decide (t < now) with
  | true =>
    go_enter Try.func29, Try.ntmps29
    go_wp2
    go_ret
    refine ⟨rfl, ?_⟩
    repeat (first | exact Below.refl _ _ | assumption | (refine Below.setCell ?_ (by first | (simp; done) | (simp; omega) | omega) _) | (refine Below.alloc ?_ (by first | (simp; done) | (simp; omega) | omega) _) | (refine Below.drew ?_))
  | false =>
    cases e2 : (t == now) with
    | true =>
      go_enter Try.func29, Try.ntmps29
      go_wp2
      go_ret
      refine ⟨rfl, ?_⟩
      repeat (first | exact Below.refl _ _ | assumption | (refine Below.setCell ?_ (by first | (simp; done) | (simp; omega) | omega) _) | (refine Below.alloc ?_ (by first | (simp; done) | (simp; omega) | omega) _) | (refine Below.drew ?_))
    | false =>
      go_enter Try.func29, Try.ntmps29
      go_wp2
      go_ret
      refine ⟨rfl, ?_⟩
      repeat (first | exact Below.refl _ _ | assumption | (refine Below.setCell ?_ (by first | (simp; done) | (simp; omega) | omega) _) | (refine Below.alloc ?_ (by first | (simp; done) | (simp; omega) | omega) _) | (refine Below.drew ?_))
set_option maxHeartbeats 8000000 in
set_option maxRecDepth 100000 in
theorem fits_any (a : Option Addr) (n c : Nat) (now dl nx : Int) (t d n0 s v : Int) (w : World) : Calls Try.prog 40 #[.agg #[.slice a n c, .int .i64 now, .int .i64 dl, .int .i64 nx], .agg #[.int .i64 t, .int .i64 d, .int .i64 n0, .int .i64 s, .int .u64 v]] w fun e w' => e = .returned (.bool (fitE now dl nx ⟨t, d, n0, s, v⟩)) ∧ Below w.heap.size w w' := by
  obtain ⟨m, hm⟩ : ∃ m, (if s < (if n0 < (if d < t then d else t) then n0 else (if d < t then d else t)) then s else (if n0 < (if d < t then d else t) then n0 else (if d < t then d else t))) = m := ⟨_, rfl⟩
  have z : fitE now dl nx ⟨t, d, n0, s, v⟩ = (decide (0 ≤ m) && (decide (n0 < nx) && !goneE now dl t d)) := by
    rw [Bool.eq_iff_iff, fitE_iff]
    simp only [Bool.and_eq_true, decide_eq_true_eq, Bool.not_eq_true']
    have hm4 : 0 ≤ m ↔ (0 ≤ t ∧ 0 ≤ d ∧ 0 ≤ n0 ∧ 0 ≤ s) := by
      rw [← hm]
      repeat' split
      all_goals omega
    rw [hm4]
    constructor
    · rintro ⟨h1, h2, h3, h4, h5, h6⟩
      exact ⟨⟨h1, h2, h3, h4⟩, h5, h6⟩
    · rintro ⟨⟨h1, h2, h3, h4⟩, h5, h6⟩
      exact ⟨h1, h2, h3, h4, h5, h6⟩
  rw [z]
  clear z
  have RM : ∀ (ts : Array TypeId) (tt : TypeId) (k k1 k2 k3 : IntKind) (w : World), (Builtin.min_ ts tt #[.int k t, .int k1 d, .int k2 n0, .int k3 s]).run Try.prog w = .ok (.int k m) w := fun ts tt k k1 k2 k3 w => by rw [run_min_int4, hm]
  have HM := Lib.hid hm
  clear hm
  cases e1 : decide (0 ≤ m) with
  | false =>
    have e1' : decide (m ≥ 0) = false := e1
    go_enter Try.func40, Try.ntmps40
    go_wp2
    go_ret
    refine ⟨rfl, ?_⟩
    repeat (first | exact Below.refl _ _ | assumption | (refine Below.setCell ?_ (by first | (simp; done) | (simp; omega) | omega) _) | (refine Below.alloc ?_ (by first | (simp; done) | (simp; omega) | omega) _) | (refine Below.drew ?_))
  | true =>
    have e1' : decide (m ≥ 0) = true := e1
    cases e2 : decide (n0 < nx) with
    | false =>
      go_enter Try.func40, Try.ntmps40
      go_wp2
      go_ret
      refine ⟨rfl, ?_⟩
      repeat (first | exact Below.refl _ _ | assumption | (refine Below.setCell ?_ (by first | (simp; done) | (simp; omega) | omega) _) | (refine Below.alloc ?_ (by first | (simp; done) | (simp; omega) | omega) _) | (refine Below.drew ?_))
    | true =>
      go_enter Try.func40, Try.ntmps40
      go_wp2_with fail
      refine (past_any a n c now dl nx t d n0 s v _).mono ?_
      rintro e w1 ⟨rfl, hb⟩
      have hbw : Below w.heap.size w w1 := by
        refine Below.trans ?_ (hb.mono (by simp; first | done | omega))
        repeat (first | exact Below.refl _ _ | assumption | (refine Below.setCell ?_ (by first | (simp; done) | (simp; omega) | omega) _) | (refine Below.alloc ?_ (by first | (simp; done) | (simp; omega) | omega) _) | (refine Below.drew ?_))
      go_wp2
      go_ret
      exact ⟨by simp, hbw⟩
set_option maxHeartbeats 8000000 in
set_option maxRecDepth 100000 in
theorem empty_any (a : Option Addr) (n c : Nat) (now dl nx : Int) (w : World) : Calls Try.prog 15 #[.agg #[.slice a n c, .int .i64 now, .int .i64 dl, .int .i64 nx]] w fun e w' => e = .returned (.bool ((n : Int) == 0)) ∧ Below w.heap.size w w' := by
  go_enter Try.func15, Try.ntmps15
  go_wp2
  go_ret
  refine ⟨rfl, ?_⟩
  repeat (first | exact Below.refl _ _ | assumption | (refine Below.setCell ?_ (by first | (simp; done) | (simp; omega) | omega) _) | (refine Below.alloc ?_ (by first | (simp; done) | (simp; omega) | omega) _) | (refine Below.drew ?_))
set_option maxHeartbeats 8000000 in
set_option maxRecDepth 100000 in
theorem refEmpty_any (a : Option Addr) (n c : Nat) (now dl nx : Int) (w : World) : Calls Try.prog 16 #[.agg #[.slice a n c, .int .i64 now, .int .i64 dl, .int .i64 nx]] w fun e w' => e = .returned (.bool ((n : Int) == 0)) ∧ Below w.heap.size w w' := by
  go_enter Try.func16, Try.ntmps16
  go_wp2
  go_ret
  refine ⟨rfl, ?_⟩
  repeat (first | exact Below.refl _ _ | assumption | (refine Below.setCell ?_ (by first | (simp; done) | (simp; omega) | omega) _) | (refine Below.alloc ?_ (by first | (simp; done) | (simp; omega) | omega) _) | (refine Below.drew ?_))
set_option maxHeartbeats 8000000 in
set_option maxRecDepth 100000 in
theorem few_any (a : Option Addr) (n c : Nat) (now dl nx : Int) (w : World) : Calls Try.prog 10 #[.agg #[.slice a n c, .int .i64 now, .int .i64 dl, .int .i64 nx]] w fun e w' => e = .returned (.bool (decide ((n : Int) ≤ 300))) ∧ Below w.heap.size w w' := by
  go_enter Try.func10, Try.ntmps10
  go_wp2
  go_ret
  refine ⟨rfl, ?_⟩
  repeat (first | exact Below.refl _ _ | assumption | (refine Below.setCell ?_ (by first | (simp; done) | (simp; omega) | omega) _) | (refine Below.alloc ?_ (by first | (simp; done) | (simp; omega) | omega) _) | (refine Below.drew ?_))
end Go.Proofs.Ytchboknncfmcpaa
