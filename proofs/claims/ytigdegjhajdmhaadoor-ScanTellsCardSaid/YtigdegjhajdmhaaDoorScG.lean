/-
  Contracts: numbers with a width.
-/
import Derived.Test.YtigdegjhajdmhaaDoorScF
namespace Go.Proofs.YtigdegjhajdmhaaDoor
open Go Go.RowKit
set_option linter.unusedVariables false
open Go.Sort

/-- The block of a result that is a token, as it is made. -/
def Res (w : World) (g : Nat) : Prop := w.heap[g]? = some (.cells #[.int .i64 0, .string ⟨#[]⟩, .int .i64 0, .int .u64 0, .int .i64 0] 32 (0, 0))
theorem Res.lt {w : World} {g : Nat} (h : Res w g) : g < w.heap.size := by
  unfold Res at h
  rcases Nat.lt_or_ge g w.heap.size with h1 | h1
  · exact h1
  · rw [Array.getElem?_eq_none h1] at h; cases h
theorem Res.below {w w' : World} {g : Nat} (h : Res w g) (hb : Below w.heap.size w w') : Res w' g := by
  have := h.lt
  unfold Res at *
  rw [hb.block g this]; exact h
theorem Res.alloc {w : World} {g : Nat} (h : Res w g) (x : Obj) : Res (w.alloc x) g := h.below ((Below.refl _ _).alloc (Nat.le_refl _) x)
theorem Res.cells {w : World} {g : Nat} (h : Res w g) : w.cell? ⟨g, 0, none⟩ = some (.int .i64 0) ∧ w.cell? ⟨g, 1, none⟩ = some (.string ⟨#[]⟩) ∧ w.cell? ⟨g, 2, none⟩ = some (.int .i64 0) ∧ w.cell? ⟨g, 3, none⟩ = some (.int .u64 0) ∧ w.cell? ⟨g, 4, none⟩ = some (.int .i64 0) := by
  unfold Res at h
  simp [World.cell?, h]
theorem Res.free {w : World} {g : Nat} (h : Res w g) (i : Nat) : w.frozen? ⟨g, i, none⟩ = false := by
  unfold Res at h
  simp [World.frozen?, h]
theorem res_new (w : World) : Res (w.alloc (.cells #[.int .i64 0, .string ⟨#[]⟩, .int .i64 0, .int .u64 0, .int .i64 0] 32)) w.heap.size := by
  unfold Res
  show (w.heap.push _)[w.heap.size]? = _
  simp

theorem take_drop_all (l : Bytes) (a : Nat) : (l.drop a).take (l.length - a) = l.drop a := List.take_of_length_le (by simp)
attribute [go_sem] take_drop_all
/-- What is told of a token: its kind, its text, its width, its value; how many bytes it has; an error. -/
structure Tk where
  k : Int
  s : Bytes
  W : Nat
  V : Nat
  size : Nat
  err : Int
def badT (e : Int) : Tk := ⟨0, [], 0, 0, 0, e⟩
def Tk.val (t : Tk) : Value := .tuple #[.agg #[.int .i64 t.k, .string (bs t.s), .int .i64 (t.W : Int), .int .u64 (t.V : Int), .int .i64 0], .int .i64 (t.size : Int), .int .i64 t.err]
def wideS (l : Bytes) (n : Nat) : Tk :=
  if (rbS (l.drop (n + 1))).2.2.2 = false then badT 21
  else if ((rbS (l.drop (n + 1))).2.2.1.take (run inName (rbS (l.drop (n + 1))).2.2.1)) = [] then badT 21
  else if allD (rbS (l.drop (n + 1))).1 ((rbS (l.drop (n + 1))).2.2.1.take (run inName (rbS (l.drop (n + 1))).2.2.1)) = false then badT 21
  else if ¬ num 10 (l.take n) < 18446744073709551616 then badT 22
  else if 64 < num 10 (l.take n) then badT 22
  else if ¬ num (rbS (l.drop (n + 1))).1 ((rbS (l.drop (n + 1))).2.2.1.take (run inName (rbS (l.drop (n + 1))).2.2.1)) < 18446744073709551616 then badT 22
  else if holdsI (num 10 (l.take n)) (num (rbS (l.drop (n + 1))).1 ((rbS (l.drop (n + 1))).2.2.1.take (run inName (rbS (l.drop (n + 1))).2.2.1))) = false then badT 22
  else ⟨3, [], num 10 (l.take n), num (rbS (l.drop (n + 1))).1 ((rbS (l.drop (n + 1))).2.2.1.take (run inName (rbS (l.drop (n + 1))).2.2.1)), n + 2 + run inName (rbS (l.drop (n + 1))).2.2.1, 0⟩
theorem rb_facts {m : Bytes} (h : (rbS m).2.2.2 = true) : (rbS m).2.2.1.length + 1 = m.length ∧ 0 < (rbS m).1 ∧ PushOk (rbS m).1 (rbS m).2.1 := by
  cases m with
  | nil => simp [rbS] at h
  | cons c l =>
    unfold rbS at h ⊢
    simp only at h ⊢
    by_cases h1 : ((c.toNat : Int) == 104) = true
    · rw [if_pos h1]; exact ⟨by simp, Nat.succ_pos _, ok16⟩
    · rw [if_neg h1] at h ⊢
      by_cases h2 : ((c.toNat : Int) == 100) = true
      · rw [if_pos h2]; exact ⟨by simp, Nat.succ_pos _, ok10⟩
      · rw [if_neg h2] at h ⊢
        by_cases h3 : ((c.toNat : Int) == 98) = true
        · rw [if_pos h3]; exact ⟨by simp, Nat.succ_pos _, ok2⟩
        · rw [if_neg h3] at h; simp at h
theorem rb_len (m : Bytes) : (rbS m).2.2.1.length ≤ m.length := by
  cases m with
  | nil => simp [rbS]
  | cons c l =>
    unfold rbS
    simp only
    split
    · simp
    · split
      · simp
      · split <;> simp

set_option maxHeartbeats 4000000 in
theorem wide_any (l : Bytes) (n : Nat) (hl : l.length ≤ 70000) (hn : n < l.length) (hd : allD 10 (l.take n) = true) (w : World) : Calls Tryd.prog 44 #[.string (bs l), .int .i64 (n : Int)] w fun e w' => e = .returned (wideS l n).val ∧ Below w.heap.size w w' := by
  obtain ⟨m, hm⟩ : ∃ m, l.drop (n + 1) = m := ⟨_, rfl⟩
  have hml : m.length + n + 1 = l.length := by rw [← hm]; simp; omega
  obtain ⟨r, sh, rest, ok, hrb⟩ : ∃ r sh rest ok, rbS m = (r, sh, rest, ok) := ⟨_, _, _, _, rfl⟩
  have hrl : rest.length ≤ m.length := by have := rb_len m; rw [hrb] at this; exact this
  have hc := readBase_any m (by omega)
  rw [hrb] at hc
  simp only at hc
  obtain ⟨k, hk⟩ : ∃ k, run inName rest = k := ⟨_, rfl⟩
  have hkl : k ≤ rest.length := by rw [← hk]; exact run_le _ _
  have hru := run_name rest (by omega)
  rw [hk] at hru
  obtain ⟨ds, hds⟩ : ∃ ds, rest.take k = ds := ⟨_, rfl⟩
  have hdl : ds.length = k := by rw [← hds]; simp; omega
  have hal := all_any r sh ds (by omega)
  obtain ⟨N, hN⟩ : ∃ N, num 10 (l.take n) = N := ⟨_, rfl⟩
  have hval := value_any 10 0 (by decide) ok10 (l.take n) (by simp; omega) hd
  rw [hN] at hval
  have HW : Hid (wideS l n = if ok = false then badT 21 else if ds = [] then badT 21 else if allD r ds = false then badT 21 else if ¬ N < 18446744073709551616 then badT 22 else if 64 < N then badT 22 else if ¬ num r ds < 18446744073709551616 then badT 22 else if holdsI N (num r ds) = false then badT 22 else ⟨3, [], N, num r ds, n + 2 + k, 0⟩) :=
    Lib.hid (by unfold wideS; rw [hm, hrb]; simp only [hk, hds, hN])
  have hfac : ok = true → rest.length + 1 = m.length ∧ 0 < r ∧ PushOk r sh := fun h => by
    have := rb_facts (m := m) (by rw [hrb]; exact h)
    rw [hrb] at this; exact this
  have HF := Lib.hid hfac
  have HM := Lib.hid hm
  have HD := Lib.hid hds
  clear hfac hrb hm hk hds hN hd
  have n1 : (n : Int) + 1 ≤ (l.length : Int) := by omega
  have e1 : List.take (l.length - (n + 1)) (List.drop (n + 1) l) = m := by rw [take_drop_all, HM.out]
  cases ok with
  | false =>
    have HE : Hid (wideS l n = badT 21) := Lib.hid (by rw [HW.out]; rw [if_pos rfl])
    have HDs := HD.out
    go_enter Tryd.func44, Tryd.ntmps44
    have rs := res_new w
    have hB : Below w.heap.size w (w.alloc (.cells #[.int .i64 0, .string ⟨#[]⟩, .int .i64 0, .int .u64 0, .int .i64 0] 32)) := (Below.refl _ _).alloc (Nat.le_refl _) _
    go_wp2_with fail
    refine (hc _).mono ?_
    rintro e1 w1 ⟨rfl, hb1⟩
    replace rs := rs.below hb1
    replace hB := hB.trans (hb1.mono hB.size)
    clear hb1
    have bw : (w1.alloc (.cells #[.int .u64 (r : Int), .int .u64 (sh : Int)] 60)).cell? ⟨w1.heap.size, 0, none⟩ = some (.int .u64 (r : Int)) := by simp
    have bv : (w1.alloc (.cells #[.int .u64 (r : Int), .int .u64 (sh : Int)] 60)).cell? ⟨w1.heap.size, 1, none⟩ = some (.int .u64 (sh : Int)) := by simp
    replace rs := rs.alloc (.cells #[.int .u64 (r : Int), .int .u64 (sh : Int)] 60)
    replace hB : Below w.heap.size w (w1.alloc (.cells #[.int .u64 (r : Int), .int .u64 (sh : Int)] 60)) := hB.alloc hB.size _
    go_wp2_with fail
    refine (hru _).mono ?_
    rintro e2 w2 ⟨rfl, rfl⟩
    generalize w1.alloc (.cells #[.int .u64 (r : Int), .int .u64 (sh : Int)] 60) = w2 at *
    generalize w1.heap.size = gb at *
    go_wp2_with fail
    refine (wrong_any 21 _).mono ?_
    rintro ez wz ⟨rfl, hbz⟩
    replace rs := rs.below hbz
    replace hB := hB.trans (hbz.mono hB.size)
    clear hbz
    obtain ⟨x0, x1c, x2c, x3c, x4c⟩ := rs.cells
    have y0 := rs.free 0
    have y1 := rs.free 1
    have y2 := rs.free 2
    have y3 := rs.free 3
    have y4 := rs.free 4
    go_wp2
    refine bodyPost_ret (v := (badT 21).val) (by simp [results, Tryd.results44, go_sem, Tk.val, badT, *]) rfl ⟨by rw [HE.out], ?_⟩
    repeat (first | exact hB | (refine Below.setCell ?_ (by first | (simp; done) | (simp; omega) | omega) _))
  | true =>
    obtain ⟨q1, q2, q3⟩ := HF.out rfl
    have HQ := Lib.hid q3
    clear q3
    by_cases hds0 : ds = []
    · subst hds0
      have HE : Hid (wideS l n = badT 21) := Lib.hid (by rw [HW.out]; rw [if_neg (by decide), if_pos rfl])
      have hk0 : k = 0 := by simpa using hdl.symm
      go_enter Tryd.func44, Tryd.ntmps44
      have rs := res_new w
      have hB : Below w.heap.size w (w.alloc (.cells #[.int .i64 0, .string ⟨#[]⟩, .int .i64 0, .int .u64 0, .int .i64 0] 32)) := (Below.refl _ _).alloc (Nat.le_refl _) _
      go_wp2_with fail
      refine (hc _).mono ?_
      rintro e1 w1 ⟨rfl, hb1⟩
      replace rs := rs.below hb1
      replace hB := hB.trans (hb1.mono hB.size)
      clear hb1
      have bw : (w1.alloc (.cells #[.int .u64 (r : Int), .int .u64 (sh : Int)] 60)).cell? ⟨w1.heap.size, 0, none⟩ = some (.int .u64 (r : Int)) := by simp
      have bv : (w1.alloc (.cells #[.int .u64 (r : Int), .int .u64 (sh : Int)] 60)).cell? ⟨w1.heap.size, 1, none⟩ = some (.int .u64 (sh : Int)) := by simp
      replace rs := rs.alloc (.cells #[.int .u64 (r : Int), .int .u64 (sh : Int)] 60)
      replace hB : Below w.heap.size w (w1.alloc (.cells #[.int .u64 (r : Int), .int .u64 (sh : Int)] 60)) := hB.alloc hB.size _
      go_wp2_with fail
      refine (hru _).mono ?_
      rintro e2 w2 ⟨rfl, rfl⟩
      generalize w1.alloc (.cells #[.int .u64 (r : Int), .int .u64 (sh : Int)] 60) = w2 at *
      generalize w1.heap.size = gb at *
      have hdd := HD.out
      go_wp2_with fail
      refine (wrong_any 21 _).mono ?_
      rintro ez wz ⟨rfl, hbz⟩
      replace rs := rs.below hbz
      replace hB := hB.trans (hbz.mono hB.size)
      clear hbz
      obtain ⟨x0, x1c, x2c, x3c, x4c⟩ := rs.cells
      have y0 := rs.free 0
      have y1 := rs.free 1
      have y2 := rs.free 2
      have y3 := rs.free 3
      have y4 := rs.free 4
      go_wp2
      refine bodyPost_ret (v := (badT 21).val) (by simp [results, Tryd.results44, go_sem, Tk.val, badT, *]) rfl ⟨by rw [HE.out], ?_⟩
      repeat (first | exact hB | (refine Below.setCell ?_ (by first | (simp; done) | (simp; omega) | omega) _))
    · have he1 : ds.isEmpty = false := by simpa using hds0
      have he2 : (ds == []) = false := by simpa using hds0
      have HDS0 := Lib.hid hds0
      clear hds0
      cases hA : allD r ds with
      | false =>
        rw [hA] at hal
        have HE : Hid (wideS l n = badT 21) := Lib.hid (by rw [HW.out]; rw [if_neg (by decide), if_neg HDS0.out, if_pos hA])
        clear hA
        go_enter Tryd.func44, Tryd.ntmps44
        have rs := res_new w
        have hB : Below w.heap.size w (w.alloc (.cells #[.int .i64 0, .string ⟨#[]⟩, .int .i64 0, .int .u64 0, .int .i64 0] 32)) := (Below.refl _ _).alloc (Nat.le_refl _) _
        go_wp2_with fail
        refine (hc _).mono ?_
        rintro e1 w1 ⟨rfl, hb1⟩
        replace rs := rs.below hb1
        replace hB := hB.trans (hb1.mono hB.size)
        clear hb1
        have bw : (w1.alloc (.cells #[.int .u64 (r : Int), .int .u64 (sh : Int)] 60)).cell? ⟨w1.heap.size, 0, none⟩ = some (.int .u64 (r : Int)) := by simp
        have bv : (w1.alloc (.cells #[.int .u64 (r : Int), .int .u64 (sh : Int)] 60)).cell? ⟨w1.heap.size, 1, none⟩ = some (.int .u64 (sh : Int)) := by simp
        replace rs := rs.alloc (.cells #[.int .u64 (r : Int), .int .u64 (sh : Int)] 60)
        replace hB : Below w.heap.size w (w1.alloc (.cells #[.int .u64 (r : Int), .int .u64 (sh : Int)] 60)) := hB.alloc hB.size _
        go_wp2_with fail
        refine (hru _).mono ?_
        rintro e2 w2 ⟨rfl, rfl⟩
        generalize w1.alloc (.cells #[.int .u64 (r : Int), .int .u64 (sh : Int)] 60) = w2 at *
        generalize w1.heap.size = gb at *
        have hdd := HD.out
        go_wp2_with fail
        refine (hal _).mono ?_
        rintro e3 w3 ⟨rfl, hb3⟩
        replace rs := rs.below hb3
        replace hB := hB.trans (hb3.mono hB.size)
        clear hb3
        go_wp2_with fail
        refine (wrong_any 21 _).mono ?_
        rintro ez wz ⟨rfl, hbz⟩
        replace rs := rs.below hbz
        replace hB := hB.trans (hbz.mono hB.size)
        clear hbz
        obtain ⟨x0, x1c, x2c, x3c, x4c⟩ := rs.cells
        have y0 := rs.free 0
        have y1 := rs.free 1
        have y2 := rs.free 2
        have y3 := rs.free 3
        have y4 := rs.free 4
        go_wp2
        refine bodyPost_ret (v := (badT 21).val) (by simp [results, Tryd.results44, go_sem, Tk.val, badT, *]) rfl ⟨by rw [HE.out], ?_⟩
        repeat (first | exact hB | (refine Below.setCell ?_ (by first | (simp; done) | (simp; omega) | omega) _))
      | true =>
        rw [hA] at hal
        obtain ⟨V, hV⟩ : ∃ V, num r ds = V := ⟨_, rfl⟩
        have hval2 := value_any r sh q2 HQ.out ds (by omega) hA
        rw [hV] at hval2
        obtain ⟨x1, hx1⟩ : ∃ x, N % 18446744073709551616 = x := ⟨_, rfl⟩
        obtain ⟨f1, hf1⟩ : ∃ x, decide (N < 18446744073709551616) = x := ⟨_, rfl⟩
        obtain ⟨x2, hx2⟩ : ∃ x, V % 18446744073709551616 = x := ⟨_, rfl⟩
        obtain ⟨f2, hf2⟩ : ∃ x, decide (V < 18446744073709551616) = x := ⟨_, rfl⟩
        rw [hx1, hf1] at hval
        rw [hx2, hf2] at hval2
        have p1 : f1 = true → N < 18446744073709551616 ∧ x1 = N := fun h => by rw [h] at hf1; have := of_decide_eq_true hf1; exact ⟨this, by rw [← hx1, Nat.mod_eq_of_lt this]⟩
        have p1n : f1 = false → ¬ N < 18446744073709551616 := fun h => by rw [h] at hf1; exact of_decide_eq_false hf1
        have p2 : f2 = true → V < 18446744073709551616 ∧ x2 = V := fun h => by rw [h] at hf2; have := of_decide_eq_true hf2; exact ⟨this, by rw [← hx2, Nat.mod_eq_of_lt this]⟩
        have p2n : f2 = false → ¬ V < 18446744073709551616 := fun h => by rw [h] at hf2; exact of_decide_eq_false hf2
        have hx2M : x2 < 18446744073709551616 := by rw [← hx2]; exact Nat.mod_lt _ (by omega)
        have hho := holds_any (x1 : Int) x2 hx2M
        have HX2 := Lib.hid hx2M
        clear hx2M
        obtain ⟨hh, hhh⟩ : ∃ x, holdsI (x1 : Int) x2 = x := ⟨_, rfl⟩
        rw [hhh] at hho
        have HHH := Lib.hid hhh
        replace HW : Hid (wideS l n = if ¬ N < 18446744073709551616 then badT 22 else if 64 < N then badT 22 else if ¬ V < 18446744073709551616 then badT 22 else if holdsI N V = false then badT 22 else ⟨3, [], N, V, n + 2 + k, 0⟩) := Lib.hid (by rw [HW.out, if_neg (by decide), if_neg HDS0.out, if_neg (by rw [hA]; decide), hV])
        have P1 := Lib.hid p1
        have P1n := Lib.hid p1n
        have P2 := Lib.hid p2
        have P2n := Lib.hid p2n
        clear hA hx1 hf1 hx2 hf2 p1 p1n p2 p2n hhh hV
        cases f1 with
        | false =>
          have HE : Hid (wideS l n = badT 22) := Lib.hid (by rw [HW.out]; rw [if_pos (P1n.out rfl)])
          go_enter Tryd.func44, Tryd.ntmps44
          have rs := res_new w
          have hB : Below w.heap.size w (w.alloc (.cells #[.int .i64 0, .string ⟨#[]⟩, .int .i64 0, .int .u64 0, .int .i64 0] 32)) := (Below.refl _ _).alloc (Nat.le_refl _) _
          go_wp2_with fail
          refine (hc _).mono ?_
          rintro e1 w1 ⟨rfl, hb1⟩
          replace rs := rs.below hb1
          replace hB := hB.trans (hb1.mono hB.size)
          clear hb1
          have bw : (w1.alloc (.cells #[.int .u64 (r : Int), .int .u64 (sh : Int)] 60)).cell? ⟨w1.heap.size, 0, none⟩ = some (.int .u64 (r : Int)) := by simp
          have bv : (w1.alloc (.cells #[.int .u64 (r : Int), .int .u64 (sh : Int)] 60)).cell? ⟨w1.heap.size, 1, none⟩ = some (.int .u64 (sh : Int)) := by simp
          replace rs := rs.alloc (.cells #[.int .u64 (r : Int), .int .u64 (sh : Int)] 60)
          replace hB : Below w.heap.size w (w1.alloc (.cells #[.int .u64 (r : Int), .int .u64 (sh : Int)] 60)) := hB.alloc hB.size _
          go_wp2_with fail
          refine (hru _).mono ?_
          rintro e2 w2 ⟨rfl, rfl⟩
          generalize w1.alloc (.cells #[.int .u64 (r : Int), .int .u64 (sh : Int)] 60) = w2 at *
          generalize w1.heap.size = gb at *
          have hdd := HD.out
          go_wp2_with fail
          refine (hal _).mono ?_
          rintro e3 w3 ⟨rfl, hb3⟩
          replace rs := rs.below hb3
          replace bw := keep_cell hb3 bw
          replace bv := keep_cell hb3 bv
          replace hB := hB.trans (hb3.mono hB.size)
          clear hb3
          have bwR := cell_regrown bw
          have bvR := cell_regrown bv
          go_wp2_with fail
          refine wp_region_quiet_below (by kernel_rfl) (by kernel_rfl) ?_
          repeat (go_big_quiet_step (first | (go_at_call 46; exact Calls.regrown_of (decimal_any _)) | (go_at_call 45; exact Calls.regrown_of (hval _))))
          refine wpQuiet_nil ?_
          intro _ hw'
          obtain ⟨⟨dq, osq⟩, hw''⟩ := hw'
          subst hw''
          have hbq := below_regrown w3 dq osq
          replace bw := bwR dq osq
          replace bv := bvR dq osq
          replace rs := rs.below hbq
          replace hB := hB.trans (hbq.mono hB.size)
          clear bwR bvR hbq
          generalize grow (redrawn w3 dq) osq = w4 at *
          go_wp2_with fail
          refine (hval2 _).mono ?_
          rintro e5 w5 ⟨rfl, hb5⟩
          replace rs := rs.below hb5
          replace hB := hB.trans (hb5.mono hB.size)
          clear hb5
          go_wp2_with fail
          refine (wrong_any 22 _).mono ?_
          rintro ez wz ⟨rfl, hbz⟩
          replace rs := rs.below hbz
          replace hB := hB.trans (hbz.mono hB.size)
          clear hbz
          obtain ⟨x0, x1c, x2c, x3c, x4c⟩ := rs.cells
          have y0 := rs.free 0
          have y1 := rs.free 1
          have y2 := rs.free 2
          have y3 := rs.free 3
          have y4 := rs.free 4
          go_wp2
          refine bodyPost_ret (v := (badT 22).val) (by simp [results, Tryd.results44, go_sem, Tk.val, badT, *]) rfl ⟨by rw [HE.out], ?_⟩
          repeat (first | exact hB | (refine Below.setCell ?_ (by first | (simp; done) | (simp; omega) | omega) _))
        | true =>
          obtain ⟨p1a, p1b⟩ := P1.out rfl
          subst p1b
          have HN := Lib.hid p1a
          clear p1a
          by_cases h64 : 64 < x1
          · have d64 : decide ((64 : Int) < (x1 : Int)) = true := by simp; omega
            have d64b : decide (64 < x1) = true := by simpa using h64
            have HE : Hid (wideS l n = badT 22) := Lib.hid (by rw [HW.out]; rw [if_neg (fun h => h HN.out), if_pos h64])
            go_enter Tryd.func44, Tryd.ntmps44
            have rs := res_new w
            have hB : Below w.heap.size w (w.alloc (.cells #[.int .i64 0, .string ⟨#[]⟩, .int .i64 0, .int .u64 0, .int .i64 0] 32)) := (Below.refl _ _).alloc (Nat.le_refl _) _
            go_wp2_with fail
            refine (hc _).mono ?_
            rintro e1 w1 ⟨rfl, hb1⟩
            replace rs := rs.below hb1
            replace hB := hB.trans (hb1.mono hB.size)
            clear hb1
            have bw : (w1.alloc (.cells #[.int .u64 (r : Int), .int .u64 (sh : Int)] 60)).cell? ⟨w1.heap.size, 0, none⟩ = some (.int .u64 (r : Int)) := by simp
            have bv : (w1.alloc (.cells #[.int .u64 (r : Int), .int .u64 (sh : Int)] 60)).cell? ⟨w1.heap.size, 1, none⟩ = some (.int .u64 (sh : Int)) := by simp
            replace rs := rs.alloc (.cells #[.int .u64 (r : Int), .int .u64 (sh : Int)] 60)
            replace hB : Below w.heap.size w (w1.alloc (.cells #[.int .u64 (r : Int), .int .u64 (sh : Int)] 60)) := hB.alloc hB.size _
            go_wp2_with fail
            refine (hru _).mono ?_
            rintro e2 w2 ⟨rfl, rfl⟩
            generalize w1.alloc (.cells #[.int .u64 (r : Int), .int .u64 (sh : Int)] 60) = w2 at *
            generalize w1.heap.size = gb at *
            have hdd := HD.out
            go_wp2_with fail
            refine (hal _).mono ?_
            rintro e3 w3 ⟨rfl, hb3⟩
            replace rs := rs.below hb3
            replace bw := keep_cell hb3 bw
            replace bv := keep_cell hb3 bv
            replace hB := hB.trans (hb3.mono hB.size)
            clear hb3
            have bwR := cell_regrown bw
            have bvR := cell_regrown bv
            go_wp2_with fail
            refine wp_region_quiet_below (by kernel_rfl) (by kernel_rfl) ?_
            repeat (go_big_quiet_step (first | (go_at_call 46; exact Calls.regrown_of (decimal_any _)) | (go_at_call 45; exact Calls.regrown_of (hval _))))
            refine wpQuiet_nil ?_
            intro _ hw'
            obtain ⟨⟨dq, osq⟩, hw''⟩ := hw'
            subst hw''
            have hbq := below_regrown w3 dq osq
            replace bw := bwR dq osq
            replace bv := bvR dq osq
            replace rs := rs.below hbq
            replace hB := hB.trans (hbq.mono hB.size)
            clear bwR bvR hbq
            generalize grow (redrawn w3 dq) osq = w4 at *
            go_wp2_with fail
            refine (hval2 _).mono ?_
            rintro e5 w5 ⟨rfl, hb5⟩
            replace rs := rs.below hb5
            replace hB := hB.trans (hb5.mono hB.size)
            clear hb5
            go_wp2_with fail
            refine (wrong_any 22 _).mono ?_
            rintro ez wz ⟨rfl, hbz⟩
            replace rs := rs.below hbz
            replace hB := hB.trans (hbz.mono hB.size)
            clear hbz
            obtain ⟨x0, x1c, x2c, x3c, x4c⟩ := rs.cells
            have y0 := rs.free 0
            have y1 := rs.free 1
            have y2 := rs.free 2
            have y3 := rs.free 3
            have y4 := rs.free 4
            go_wp2
            refine bodyPost_ret (v := (badT 22).val) (by simp [results, Tryd.results44, go_sem, Tk.val, badT, *]) rfl ⟨by rw [HE.out], ?_⟩
            repeat (first | exact hB | (refine Below.setCell ?_ (by first | (simp; done) | (simp; omega) | omega) _))
          · have d64 : decide ((64 : Int) < (x1 : Int)) = false := by simp; omega
            have d64b : decide (64 < x1) = false := by simpa using h64
            cases f2 with
            | false =>
              have HE : Hid (wideS l n = badT 22) := Lib.hid (by rw [HW.out]; rw [if_neg (fun h => h HN.out), if_neg h64, if_pos (P2n.out rfl)])
              go_enter Tryd.func44, Tryd.ntmps44
              have rs := res_new w
              have hB : Below w.heap.size w (w.alloc (.cells #[.int .i64 0, .string ⟨#[]⟩, .int .i64 0, .int .u64 0, .int .i64 0] 32)) := (Below.refl _ _).alloc (Nat.le_refl _) _
              go_wp2_with fail
              refine (hc _).mono ?_
              rintro e1 w1 ⟨rfl, hb1⟩
              replace rs := rs.below hb1
              replace hB := hB.trans (hb1.mono hB.size)
              clear hb1
              have bw : (w1.alloc (.cells #[.int .u64 (r : Int), .int .u64 (sh : Int)] 60)).cell? ⟨w1.heap.size, 0, none⟩ = some (.int .u64 (r : Int)) := by simp
              have bv : (w1.alloc (.cells #[.int .u64 (r : Int), .int .u64 (sh : Int)] 60)).cell? ⟨w1.heap.size, 1, none⟩ = some (.int .u64 (sh : Int)) := by simp
              replace rs := rs.alloc (.cells #[.int .u64 (r : Int), .int .u64 (sh : Int)] 60)
              replace hB : Below w.heap.size w (w1.alloc (.cells #[.int .u64 (r : Int), .int .u64 (sh : Int)] 60)) := hB.alloc hB.size _
              go_wp2_with fail
              refine (hru _).mono ?_
              rintro e2 w2 ⟨rfl, rfl⟩
              generalize w1.alloc (.cells #[.int .u64 (r : Int), .int .u64 (sh : Int)] 60) = w2 at *
              generalize w1.heap.size = gb at *
              have hdd := HD.out
              go_wp2_with fail
              refine (hal _).mono ?_
              rintro e3 w3 ⟨rfl, hb3⟩
              replace rs := rs.below hb3
              replace bw := keep_cell hb3 bw
              replace bv := keep_cell hb3 bv
              replace hB := hB.trans (hb3.mono hB.size)
              clear hb3
              have bwR := cell_regrown bw
              have bvR := cell_regrown bv
              go_wp2_with fail
              refine wp_region_quiet_below (by kernel_rfl) (by kernel_rfl) ?_
              repeat (go_big_quiet_step (first | (go_at_call 46; exact Calls.regrown_of (decimal_any _)) | (go_at_call 45; exact Calls.regrown_of (hval _))))
              refine wpQuiet_nil ?_
              intro _ hw'
              obtain ⟨⟨dq, osq⟩, hw''⟩ := hw'
              subst hw''
              have hbq := below_regrown w3 dq osq
              replace bw := bwR dq osq
              replace bv := bvR dq osq
              replace rs := rs.below hbq
              replace hB := hB.trans (hbq.mono hB.size)
              clear bwR bvR hbq
              generalize grow (redrawn w3 dq) osq = w4 at *
              go_wp2_with fail
              refine (hval2 _).mono ?_
              rintro e5 w5 ⟨rfl, hb5⟩
              replace rs := rs.below hb5
              replace hB := hB.trans (hb5.mono hB.size)
              clear hb5
              go_wp2_with fail
              refine (wrong_any 22 _).mono ?_
              rintro ez wz ⟨rfl, hbz⟩
              replace rs := rs.below hbz
              replace hB := hB.trans (hbz.mono hB.size)
              clear hbz
              obtain ⟨x0, x1c, x2c, x3c, x4c⟩ := rs.cells
              have y0 := rs.free 0
              have y1 := rs.free 1
              have y2 := rs.free 2
              have y3 := rs.free 3
              have y4 := rs.free 4
              go_wp2
              refine bodyPost_ret (v := (badT 22).val) (by simp [results, Tryd.results44, go_sem, Tk.val, badT, *]) rfl ⟨by rw [HE.out], ?_⟩
              repeat (first | exact hB | (refine Below.setCell ?_ (by first | (simp; done) | (simp; omega) | omega) _))
            | true =>
              obtain ⟨p2a, p2b⟩ := P2.out rfl
              subst p2b
              have HV := Lib.hid p2a
              clear p2a
              have wx : wrap64 (x1 : Int) = x1 := IntWalk.wrap64_in _ ⟨by omega, by omega⟩
              cases hh with
              | false =>
                have HE : Hid (wideS l n = badT 22) := Lib.hid (by rw [HW.out]; rw [if_neg (fun h => h HN.out), if_neg h64, if_neg (fun h => h HV.out), if_pos HHH.out])
                go_enter Tryd.func44, Tryd.ntmps44
                have rs := res_new w
                have hB : Below w.heap.size w (w.alloc (.cells #[.int .i64 0, .string ⟨#[]⟩, .int .i64 0, .int .u64 0, .int .i64 0] 32)) := (Below.refl _ _).alloc (Nat.le_refl _) _
                go_wp2_with fail
                refine (hc _).mono ?_
                rintro e1 w1 ⟨rfl, hb1⟩
                replace rs := rs.below hb1
                replace hB := hB.trans (hb1.mono hB.size)
                clear hb1
                have bw : (w1.alloc (.cells #[.int .u64 (r : Int), .int .u64 (sh : Int)] 60)).cell? ⟨w1.heap.size, 0, none⟩ = some (.int .u64 (r : Int)) := by simp
                have bv : (w1.alloc (.cells #[.int .u64 (r : Int), .int .u64 (sh : Int)] 60)).cell? ⟨w1.heap.size, 1, none⟩ = some (.int .u64 (sh : Int)) := by simp
                replace rs := rs.alloc (.cells #[.int .u64 (r : Int), .int .u64 (sh : Int)] 60)
                replace hB : Below w.heap.size w (w1.alloc (.cells #[.int .u64 (r : Int), .int .u64 (sh : Int)] 60)) := hB.alloc hB.size _
                go_wp2_with fail
                refine (hru _).mono ?_
                rintro e2 w2 ⟨rfl, rfl⟩
                generalize w1.alloc (.cells #[.int .u64 (r : Int), .int .u64 (sh : Int)] 60) = w2 at *
                generalize w1.heap.size = gb at *
                have hdd := HD.out
                go_wp2_with fail
                refine (hal _).mono ?_
                rintro e3 w3 ⟨rfl, hb3⟩
                replace rs := rs.below hb3
                replace bw := keep_cell hb3 bw
                replace bv := keep_cell hb3 bv
                replace hB := hB.trans (hb3.mono hB.size)
                clear hb3
                have bwR := cell_regrown bw
                have bvR := cell_regrown bv
                go_wp2_with fail
                refine wp_region_quiet_below (by kernel_rfl) (by kernel_rfl) ?_
                repeat (go_big_quiet_step (first | (go_at_call 46; exact Calls.regrown_of (decimal_any _)) | (go_at_call 45; exact Calls.regrown_of (hval _))))
                refine wpQuiet_nil ?_
                intro _ hw'
                obtain ⟨⟨dq, osq⟩, hw''⟩ := hw'
                subst hw''
                have hbq := below_regrown w3 dq osq
                replace bw := bwR dq osq
                replace bv := bvR dq osq
                replace rs := rs.below hbq
                replace hB := hB.trans (hbq.mono hB.size)
                clear bwR bvR hbq
                generalize grow (redrawn w3 dq) osq = w4 at *
                go_wp2_with fail
                refine (hval2 _).mono ?_
                rintro e5 w5 ⟨rfl, hb5⟩
                replace rs := rs.below hb5
                replace hB := hB.trans (hb5.mono hB.size)
                clear hb5
                go_wp2_with fail
                refine (hho _).mono ?_
                rintro e6 w6 ⟨rfl, rfl⟩
                go_wp2_with fail
                refine (wrong_any 22 _).mono ?_
                rintro ez wz ⟨rfl, hbz⟩
                replace rs := rs.below hbz
                replace hB := hB.trans (hbz.mono hB.size)
                clear hbz
                obtain ⟨x0, x1c, x2c, x3c, x4c⟩ := rs.cells
                have y0 := rs.free 0
                have y1 := rs.free 1
                have y2 := rs.free 2
                have y3 := rs.free 3
                have y4 := rs.free 4
                go_wp2
                refine bodyPost_ret (v := (badT 22).val) (by simp [results, Tryd.results44, go_sem, Tk.val, badT, *]) rfl ⟨by rw [HE.out], ?_⟩
                repeat (first | exact hB | (refine Below.setCell ?_ (by first | (simp; done) | (simp; omega) | omega) _))
              | true =>
                have HE : Hid (wideS l n = ⟨3, [], x1, x2, n + 2 + k, 0⟩) := Lib.hid (by rw [HW.out, if_neg (fun h => h HN.out), if_neg h64, if_neg (fun h => h HV.out), if_neg (by rw [HHH.out]; decide)])
                go_enter Tryd.func44, Tryd.ntmps44
                have rs := res_new w
                have hB : Below w.heap.size w (w.alloc (.cells #[.int .i64 0, .string ⟨#[]⟩, .int .i64 0, .int .u64 0, .int .i64 0] 32)) := (Below.refl _ _).alloc (Nat.le_refl _) _
                go_wp2_with fail
                refine (hc _).mono ?_
                rintro e1 w1 ⟨rfl, hb1⟩
                replace rs := rs.below hb1
                replace hB := hB.trans (hb1.mono hB.size)
                clear hb1
                have bw : (w1.alloc (.cells #[.int .u64 (r : Int), .int .u64 (sh : Int)] 60)).cell? ⟨w1.heap.size, 0, none⟩ = some (.int .u64 (r : Int)) := by simp
                have bv : (w1.alloc (.cells #[.int .u64 (r : Int), .int .u64 (sh : Int)] 60)).cell? ⟨w1.heap.size, 1, none⟩ = some (.int .u64 (sh : Int)) := by simp
                replace rs := rs.alloc (.cells #[.int .u64 (r : Int), .int .u64 (sh : Int)] 60)
                replace hB : Below w.heap.size w (w1.alloc (.cells #[.int .u64 (r : Int), .int .u64 (sh : Int)] 60)) := hB.alloc hB.size _
                go_wp2_with fail
                refine (hru _).mono ?_
                rintro e2 w2 ⟨rfl, rfl⟩
                generalize w1.alloc (.cells #[.int .u64 (r : Int), .int .u64 (sh : Int)] 60) = w2 at *
                generalize w1.heap.size = gb at *
                have hdd := HD.out
                go_wp2_with fail
                refine (hal _).mono ?_
                rintro e3 w3 ⟨rfl, hb3⟩
                replace rs := rs.below hb3
                replace bw := keep_cell hb3 bw
                replace bv := keep_cell hb3 bv
                replace hB := hB.trans (hb3.mono hB.size)
                clear hb3
                have bwR := cell_regrown bw
                have bvR := cell_regrown bv
                go_wp2_with fail
                refine wp_region_quiet_below (by kernel_rfl) (by kernel_rfl) ?_
                repeat (go_big_quiet_step (first | (go_at_call 46; exact Calls.regrown_of (decimal_any _)) | (go_at_call 45; exact Calls.regrown_of (hval _))))
                refine wpQuiet_nil ?_
                intro _ hw'
                obtain ⟨⟨dq, osq⟩, hw''⟩ := hw'
                subst hw''
                have hbq := below_regrown w3 dq osq
                replace bw := bwR dq osq
                replace bv := bvR dq osq
                replace rs := rs.below hbq
                replace hB := hB.trans (hbq.mono hB.size)
                clear bwR bvR hbq
                generalize grow (redrawn w3 dq) osq = w4 at *
                go_wp2_with fail
                refine (hval2 _).mono ?_
                rintro e5 w5 ⟨rfl, hb5⟩
                replace rs := rs.below hb5
                replace hB := hB.trans (hb5.mono hB.size)
                clear hb5
                go_wp2_with fail
                refine (hho _).mono ?_
                rintro e6 w6 ⟨rfl, rfl⟩
                have sz : (l.length : Int) - (rest.length : Int) + (ds.length : Int) = ((n + 2 + k : Nat) : Int) := by omega
                obtain ⟨x0, x1c, x2c, x3c, x4c⟩ := rs.cells
                have y0 := rs.free 0
                have y1 := rs.free 1
                have y2 := rs.free 2
                have y3 := rs.free 3
                have y4 := rs.free 4
                go_wp2
                refine bodyPost_ret (v := (⟨3, [], x1, x2, n + 2 + k, 0⟩ : Tk).val) (by simp [results, Tryd.results44, go_sem, Tk.val, *]; exact ⟨rfl, by omega⟩) rfl ⟨by rw [HE.out], ?_⟩
                repeat (first | exact hB | (refine Below.setCell ?_ (by first | (simp; done) | (simp; omega) | omega) _))
end Go.Proofs.YtigdegjhajdmhaaDoor
