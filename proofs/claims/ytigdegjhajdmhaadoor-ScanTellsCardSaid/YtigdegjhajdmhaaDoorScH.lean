/-
  Contracts: numbers.
-/
import Derived.Test.YtigdegjhajdmhaaDoorScG
namespace Go.Proofs.YtigdegjhajdmhaaDoor
open Go Go.RowKit
set_option linter.unusedVariables false
open Go.Sort

def numberS (l : Bytes) : Tk :=
  if ([39] : Bytes).isPrefixOf (l.drop (run digit l)) = true then wideS l (run digit l)
  else if 0 < run inName (l.drop (run digit l)) then badT 21
  else if ¬ num 10 (l.take (run digit l)) < 18446744073709551616 then badT 22
  else ⟨3, [], 0, num 10 (l.take (run digit l)), run digit l, 0⟩
theorem dg_digit (c : UInt8) (h : digit c = true) : dg c < 10 := by
  unfold dg worthI
  unfold digit at h
  rw [if_pos h]
  unfold digitI at h
  simp at h
  omega
theorem allD_run (l : Bytes) : allD 10 (l.take (run digit l)) = true := by
  unfold run
  induction l with
  | nil => rfl
  | cons c l ih =>
    by_cases hc : digit c = true
    · rw [List.takeWhile_cons, if_pos hc, List.length_cons, List.take_succ_cons]
      unfold allD at ih ⊢
      rw [List.all_cons, ih]
      simp [dg_digit c hc]
    · rw [List.takeWhile_cons, if_neg hc]; rfl
theorem prefix39 (m : Bytes) (h : ([39] : Bytes).isPrefixOf m = true) : 0 < m.length := by
  cases m with
  | nil => simp at h
  | cons c m => simp

set_option maxHeartbeats 4000000 in
theorem number_any (l : Bytes) (hl : l.length ≤ 70000) (w : World) : Calls Tryd.prog 28 #[.string (bs l)] w fun e w' => e = .returned (numberS l).val ∧ Below w.heap.size w w' := by
  obtain ⟨n, hn⟩ : ∃ n, run digit l = n := ⟨_, rfl⟩
  have hnl : n ≤ l.length := by rw [← hn]; exact run_le _ _
  have hru := run_digit l (by omega)
  rw [hn] at hru
  obtain ⟨m, hm⟩ : ∃ m, l.drop n = m := ⟨_, rfl⟩
  have hml : m.length + n = l.length := by rw [← hm]; simp; omega
  have hpr := prefix_any m [39] (by omega) (by decide)
  obtain ⟨k, hk⟩ : ∃ k, run inName m = k := ⟨_, rfl⟩
  have hkl : k ≤ m.length := by rw [← hk]; exact run_le _ _
  have hrk := run_name m (by omega)
  rw [hk] at hrk
  obtain ⟨V, hV⟩ : ∃ V, num 10 (l.take n) = V := ⟨_, rfl⟩
  have had : allD 10 (l.take n) = true := hn ▸ allD_run l
  have hval := value_any 10 0 (by decide) ok10 (l.take n) (by simp; omega) had
  rw [hV] at hval
  have hwi := fun h => wide_any l n hl h had
  have HW : Hid (numberS l = if ([39] : Bytes).isPrefixOf m = true then wideS l n else if 0 < k then badT 21 else if ¬ V < 18446744073709551616 then badT 22 else ⟨3, [], 0, V, n, 0⟩) :=
    Lib.hid (by unfold numberS; rw [hn, hm, hk, hV])
  have e1 : List.take (l.length - n) (List.drop n l) = m := by rw [take_drop_all, hm]
  have HM := Lib.hid hm
  clear hn hm hk hV had
  cases hp : ([39] : Bytes).isPrefixOf m with
  | true =>
    have hm0 := prefix39 m hp
    rw [hp] at hpr
    have HE : Hid (numberS l = wideS l n) := Lib.hid (by rw [HW.out, if_pos hp])
    clear hp
    have hw2 := hwi (by omega)
    generalize wideS l n = T at *
    go_enter Tryd.func28, Tryd.ntmps28
    have rs := res_new w
    have hB : Below w.heap.size w (w.alloc (.cells #[.int .i64 0, .string ⟨#[]⟩, .int .i64 0, .int .u64 0, .int .i64 0] 32)) := (Below.refl _ _).alloc (Nat.le_refl _) _
    go_wp2_with fail
    refine (hru _).mono ?_
    rintro e1 w1 ⟨rfl, rfl⟩
    generalize w.alloc (.cells #[.int .i64 0, .string ⟨#[]⟩, .int .i64 0, .int .u64 0, .int .i64 0] 32) = w1 at *
    go_wp2_with fail
    refine (hpr _).mono ?_
    rintro e2 w2 ⟨rfl, rfl⟩
    go_wp2_with fail
    refine (hw2 _).mono ?_
    rintro e3 w3 ⟨rfl, hb3⟩
    replace rs := rs.below hb3
    replace hB := hB.trans (hb3.mono hB.size)
    clear hb3
    unfold Tk.val
    obtain ⟨x0, x1c, x2c, x3c, x4c⟩ := rs.cells
    have y0 := rs.free 0
    have y1 := rs.free 1
    have y2 := rs.free 2
    have y3 := rs.free 3
    have y4 := rs.free 4
    go_wp2
    refine bodyPost_ret (v := T.val) (by simp [results, Tryd.results28, go_sem, Tk.val, *]) rfl ⟨by rw [HE.out], ?_⟩
    repeat (first | exact hB | (refine Below.setCell ?_ (by first | (simp; done) | (simp; omega) | omega) _))
  | false =>
    rw [hp] at hpr
    replace HW : Hid (numberS l = if 0 < k then badT 21 else if ¬ V < 18446744073709551616 then badT 22 else ⟨3, [], 0, V, n, 0⟩) := Lib.hid (by rw [HW.out, if_neg (by rw [hp]; decide)])
    clear hp
    by_cases hk0 : 0 < k
    · have dk : decide ((0 : Int) < (k : Int)) = true := by simp; omega
      have HE : Hid (numberS l = badT 21) := Lib.hid (by rw [HW.out, if_pos hk0])
      go_enter Tryd.func28, Tryd.ntmps28
      have rs := res_new w
      have hB : Below w.heap.size w (w.alloc (.cells #[.int .i64 0, .string ⟨#[]⟩, .int .i64 0, .int .u64 0, .int .i64 0] 32)) := (Below.refl _ _).alloc (Nat.le_refl _) _
      go_wp2_with fail
      refine (hru _).mono ?_
      rintro e1 w1 ⟨rfl, rfl⟩
      generalize w.alloc (.cells #[.int .i64 0, .string ⟨#[]⟩, .int .i64 0, .int .u64 0, .int .i64 0] 32) = w1 at *
      go_wp2_with fail
      refine (hpr _).mono ?_
      rintro e2 w2 ⟨rfl, rfl⟩
      go_wp2_with fail
      refine (hrk _).mono ?_
      rintro e3 w3 ⟨rfl, rfl⟩
      go_wp2_with fail
      refine (wrong_any 21 _).mono ?_
      rintro ez wz ⟨rfl, hbz⟩
      replace rs := rs.below hbz
      replace hB := hB.trans (hbz.mono hB.size)
      clear hbz
      obtain ⟨x0, x1c, x2c, x3c, x4c⟩ := rs.cells
      have y0 := rs.free 0
      have y1 := rs.free 1
      have y2 := rs.free 2
      have y3 := rs.free 3
      have y4 := rs.free 4
      go_wp2
      refine bodyPost_ret (v := (badT 21).val) (by simp [results, Tryd.results28, go_sem, Tk.val, badT, *]) rfl ⟨by rw [HE.out], ?_⟩
      repeat (first | exact hB | (refine Below.setCell ?_ (by first | (simp; done) | (simp; omega) | omega) _))
    · have dk : decide ((0 : Int) < (k : Int)) = false := by simp; omega
      obtain ⟨x1, hx1⟩ : ∃ x, V % 18446744073709551616 = x := ⟨_, rfl⟩
      obtain ⟨f1, hf1⟩ : ∃ x, decide (V < 18446744073709551616) = x := ⟨_, rfl⟩
      rw [hx1, hf1] at hval
      have p1 : f1 = true → V < 18446744073709551616 ∧ x1 = V := fun h => by rw [h] at hf1; have := of_decide_eq_true hf1; exact ⟨this, by rw [← hx1, Nat.mod_eq_of_lt this]⟩
      have p1n : f1 = false → ¬ V < 18446744073709551616 := fun h => by rw [h] at hf1; exact of_decide_eq_false hf1
      have P1 := Lib.hid p1
      have P1n := Lib.hid p1n
      clear hx1 hf1 p1 p1n
      cases f1 with
      | false =>
        have HE : Hid (numberS l = badT 22) := Lib.hid (by rw [HW.out, if_neg hk0, if_pos (P1n.out rfl)])
        go_enter Tryd.func28, Tryd.ntmps28
        have rs := res_new w
        have hB : Below w.heap.size w (w.alloc (.cells #[.int .i64 0, .string ⟨#[]⟩, .int .i64 0, .int .u64 0, .int .i64 0] 32)) := (Below.refl _ _).alloc (Nat.le_refl _) _
        go_wp2_with fail
        refine (hru _).mono ?_
        rintro e1 w1 ⟨rfl, rfl⟩
        generalize w.alloc (.cells #[.int .i64 0, .string ⟨#[]⟩, .int .i64 0, .int .u64 0, .int .i64 0] 32) = w1 at *
        go_wp2_with fail
        refine (hpr _).mono ?_
        rintro e2 w2 ⟨rfl, rfl⟩
        go_wp2_with fail
        refine (hrk _).mono ?_
        rintro e3 w3 ⟨rfl, rfl⟩
        go_wp2_with fail
        refine wp_region_quiet_below (by kernel_rfl) (by kernel_rfl) ?_
        repeat (go_big_quiet_step (first | (go_at_call 46; exact Calls.regrown_of (decimal_any _)) | (go_at_call 45; exact Calls.regrown_of (hval _))))
        refine wpQuiet_nil ?_
        intro _ hw'
        obtain ⟨⟨dq, osq⟩, hw''⟩ := hw'
        subst hw''
        have hbq := below_regrown w1 dq osq
        replace rs := rs.below hbq
        replace hB := hB.trans (hbq.mono hB.size)
        clear hbq
        generalize grow (redrawn w1 dq) osq = w4 at *
        go_wp2_with fail
        refine (wrong_any 22 _).mono ?_
        rintro ez wz ⟨rfl, hbz⟩
        replace rs := rs.below hbz
        replace hB := hB.trans (hbz.mono hB.size)
        clear hbz
        obtain ⟨x0, x1c, x2c, x3c, x4c⟩ := rs.cells
        have y0 := rs.free 0
        have y1 := rs.free 1
        have y2 := rs.free 2
        have y3 := rs.free 3
        have y4 := rs.free 4
        go_wp2
        refine bodyPost_ret (v := (badT 22).val) (by simp [results, Tryd.results28, go_sem, Tk.val, badT, *]) rfl ⟨by rw [HE.out], ?_⟩
        repeat (first | exact hB | (refine Below.setCell ?_ (by first | (simp; done) | (simp; omega) | omega) _))
      | true =>
        obtain ⟨p1a, p1b⟩ := P1.out rfl
        subst p1b
        have HE : Hid (numberS l = ⟨3, [], 0, x1, n, 0⟩) := Lib.hid (by rw [HW.out, if_neg hk0, if_neg (fun h => h p1a)])
        clear p1a
        go_enter Tryd.func28, Tryd.ntmps28
        have rs := res_new w
        have hB : Below w.heap.size w (w.alloc (.cells #[.int .i64 0, .string ⟨#[]⟩, .int .i64 0, .int .u64 0, .int .i64 0] 32)) := (Below.refl _ _).alloc (Nat.le_refl _) _
        go_wp2_with fail
        refine (hru _).mono ?_
        rintro e1 w1 ⟨rfl, rfl⟩
        generalize w.alloc (.cells #[.int .i64 0, .string ⟨#[]⟩, .int .i64 0, .int .u64 0, .int .i64 0] 32) = w1 at *
        go_wp2_with fail
        refine (hpr _).mono ?_
        rintro e2 w2 ⟨rfl, rfl⟩
        go_wp2_with fail
        refine (hrk _).mono ?_
        rintro e3 w3 ⟨rfl, rfl⟩
        go_wp2_with fail
        refine wp_region_quiet_below (by kernel_rfl) (by kernel_rfl) ?_
        repeat (go_big_quiet_step (first | (go_at_call 46; exact Calls.regrown_of (decimal_any _)) | (go_at_call 45; exact Calls.regrown_of (hval _))))
        refine wpQuiet_nil ?_
        intro _ hw'
        obtain ⟨⟨dq, osq⟩, hw''⟩ := hw'
        subst hw''
        have hbq := below_regrown w1 dq osq
        replace rs := rs.below hbq
        replace hB := hB.trans (hbq.mono hB.size)
        clear hbq
        generalize grow (redrawn w1 dq) osq = w4 at *
        obtain ⟨x0, x1c, x2c, x3c, x4c⟩ := rs.cells
        have y0 := rs.free 0
        have y1 := rs.free 1
        have y2 := rs.free 2
        have y3 := rs.free 3
        have y4 := rs.free 4
        go_wp2
        refine bodyPost_ret (v := (⟨3, [], 0, x1, n, 0⟩ : Tk).val) (by simp [results, Tryd.results28, go_sem, Tk.val, *]; rfl) rfl ⟨by rw [HE.out], ?_⟩
        repeat (first | exact hB | (refine Below.setCell ?_ (by first | (simp; done) | (simp; omega) | omega) _))
end Go.Proofs.YtigdegjhajdmhaaDoor
