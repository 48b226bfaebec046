/-
  The reference: figures, tokens.
-/
import Derived.Test.YtigdegjhajdmhaaDoorScRw
import Derived.Test.YtigdegjhajdmhaaDoorScSg
namespace Go.Proofs.YtigdegjhajdmhaaDoor
open Go Go.RowKit
set_option linter.unusedVariables false
set_option linter.unusedSimpArgs false
open Go.Sort


theorem gotV_form (t : Tk) (i : Nat) : ∃ (k : Int) (s : Bytes) (W V p n : Nat) (e : Int), gotV t i = .agg #[.int .i64 k, .string (bs s), .int .i64 (W : Int), .int .u64 (V : Int), .int .i64 (p : Int), .int .i64 (n : Int), .int .i64 e] := by
  unfold gotV
  split
  · exact ⟨t.k, t.s, t.W, t.V, i, t.size, 0, rfl⟩
  · exact ⟨0, [], 0, 0, 0, 0, t.err, rfl⟩
theorem run_pos {p : UInt8 → Bool} {l : Bytes} (i : Nat) (hi : i < l.length) (h : p l[i] = true) : 0 < run p (l.drop i) := by
  rw [← List.getElem_cons_drop hi]; exact run_cons h
set_option maxHeartbeats 8000000 in
set_option maxRecDepth 100000 in
theorem figures_any (l : Bytes) (hl : l.length ≤ 70000) (i : Nat) (hi : i < l.length) (hdg : digit l[i] = true) (w : World) : Calls Tryd.prog 35 #[.string (bs l), .int .i64 (i : Int)] w fun e w' => e = .returned (gotV (numberS (l.drop i)) i) ∧ Below w.heap.size w w' := by
  have hru := fun w => refdigits_any l (by omega) i (by omega) w
  have hle := run_le digit (l.drop i)
  rw [List.length_drop] at hle
  have hpos := run_pos (p := digit) i hi hdg
  have hal := allD_run (l.drop i)
  obtain ⟨n, hn⟩ : ∃ n, run digit (l.drop i) = n := ⟨_, rfl⟩
  have HN := Lib.hid hn
  rw [hn] at hru hle hpos hal
  clear hn
  obtain ⟨j, hj⟩ : ∃ j, i + n = j := ⟨_, rfl⟩
  have HJ := Lib.hid hj
  have a1 : IntKind.i64.wrap ((i : Int) + (n : Int)) = (j : Int) := by rw [show (i : Int) + (n : Int) = (j : Int) by omega]; exact IntWalk.i64_in _ (by omega)
  have hjl : j ≤ l.length := by omega
  have HDD : Hid ((l.drop i).drop n = l.drop j) := Lib.hid (by rw [List.drop_drop, hj])
  have sl2 : j - i = n := by omega
  have sl5 : (i : Int) ≤ (j : Int) := by omega
  have sl6 : (j : Int) ≤ (l.length : Int) := by omega
  have hnw := fun w => refnumber_any ((l.drop i).take n) (by simp; omega) 10 (by omega) (by omega) w
  have hwlt := numR_lt 10 ((l.drop i).take n)
  obtain ⟨K2, F, wv, hW⟩ : ∃ a b' c, numR 10 ((l.drop i).take n) = (a, b', c) := ⟨_, _, _, rfl⟩
  have HWW := Lib.hid hW
  rw [hW] at hnw hwlt
  simp only at hnw hwlt
  have HWL := Lib.hid hwlt
  have HNF := fun h1 => number_figures (l.drop i) n HN.out h1 hpos
  rw [HWW.out] at HNF
  simp only at HNF
  have HPOS := Lib.hid hpos
  clear hpos hW hwlt hdg hle hj
  by_cases hjl2 : j < l.length
  · have d1 : decide ((j : Int) < (l.length : Int)) = true := by rw [decide_eq_true_eq]; omega
    have d2 : decide (j < l.length) = true := by simpa using hjl2
    have x1 : (j : Int) < (l.length : Int) := by omega
    have HDC : Hid (l.drop j = l[j] :: l.drop (j + 1)) := Lib.hid (List.getElem_cons_drop hjl2).symm
    have HP : Hid (([39] : Bytes).isPrefixOf ((l.drop i).drop n) = (l[j] == 39)) := Lib.hid (by rw [HDD.out, HDC.out]; simp only [List.isPrefixOf, Bool.and_true]; exact Bool.beq_comm)
    have n1 : ((l[j].toNat : Int) == 39) = (l[j] == 39) := by have := i_neq l[j] 39 (by omega); rw [bne] at this; simpa using this
    have n2 : (l[j].toNat == 39) = (l[j] == 39) := by rw [← n1]; rw [Bool.eq_iff_iff]; simp only [beq_iff_eq]; omega
    have hle2 := fun w => refletter_any l[j] w
    have HNG : Hid ((l[j] == 39) = false → numberS (l.drop i) = if letter l[j] = true then badT 21 else if F = false then badT 22 else ⟨3, [], 0, wv, n, 0⟩) := Lib.hid (fun h => by have := HNF (by rw [HP.out]; exact h); rw [HDD.out, HDC.out] at this; exact this)
    have HNW : Hid ((l[j] == 39) = true → numberS (l.drop i) = wideS (l.drop i) n) := Lib.hid (fun h => by unfold numberS; rw [HN.out, if_pos (by rw [HP.out]; exact h)])
    clear HNF HP
    generalize (l[j] == 39) = b39 at *
    generalize letter l[j] = bl at *
    cases b39 with
    | true =>
      have HE := Lib.hid (HNW.out rfl)
      have hwi := fun w => refwide_any l hl i n (by have := HJ.out; omega) hal w
      obtain ⟨v0, v1, v2, v3, v4, v5, v6, hv⟩ := gotV_form (wideS (l.drop i) n) i
      rw [hv] at hwi
      have HV := Lib.hid hv
      clear hv HNG HNW
      go_enter Tryd.func35, Tryd.ntmps35
      have rs := Got0.new w
      have hB : Below w.heap.size w (w.alloc (.cells #[.int .i64 0, .string ⟨#[]⟩, .int .i64 0, .int .u64 0, .int .i64 0, .int .i64 0, .int .i64 0] 42)) := (Below.refl _ _).alloc (Nat.le_refl _) _
      go_wp2_with fail
      refine (hru _).mono ?_
      rintro e1 w1 ⟨rfl, rfl⟩
      generalize w.alloc (.cells #[.int .i64 0, .string ⟨#[]⟩, .int .i64 0, .int .u64 0, .int .i64 0, .int .i64 0, .int .i64 0] 42) = w0 at *
      go_wp2_with fail
      refine (hwi _).mono ?_
      rintro e2 w2 ⟨rfl, hb2⟩
      replace rs := rs.below hb2
      replace hB := hB.trans (hb2.mono hB.size)
      clear hb2 hwi hru hnw hle2
      obtain ⟨x0, x1c, x2c, x3c, x4c, x5c, x6c⟩ := rs.cells
      have y0 := rs.free 0
      have y1 := rs.free 1
      have y2 := rs.free 2
      have y3 := rs.free 3
      have y4 := rs.free 4
      have y5 := rs.free 5
      have y6 := rs.free 6
      go_wp2
      rw [got7_eq]
      have F := got7_cells rs (.int .i64 v0) (.string (bs v1)) (.int .i64 (v2 : Int)) (.int .u64 (v3 : Int)) (.int .i64 (v4 : Int)) (.int .i64 (v5 : Int)) (.int .i64 v6)
      obtain ⟨f0, f1, f2, f3, f4, f5, f6⟩ := F
      refine bodyPost_ret (v := .agg #[.int .i64 v0, .string (bs v1), .int .i64 (v2 : Int), .int .u64 (v3 : Int), .int .i64 (v4 : Int), .int .i64 (v5 : Int), .int .i64 v6]) (by simp only [results, Tryd.results35]; simp [go_sem, f0, f1, f2, f3, f4, f5, f6]) rfl ⟨by rw [HE.out, HV.out], ?_⟩
      exact got7_below hB (by first | (simp; done) | omega) _ _ _ _ _ _ _
    | false =>
      have HNB0 := Lib.hid (HNG.out rfl)
      clear HNG HNW
      cases bl with
      | true =>
        have HE : Hid (numberS (l.drop i) = badT 21) := Lib.hid (by rw [HNB0.out, if_pos rfl])
        go_enter Tryd.func35, Tryd.ntmps35
        have rs := Got0.new w
        have hB : Below w.heap.size w (w.alloc (.cells #[.int .i64 0, .string ⟨#[]⟩, .int .i64 0, .int .u64 0, .int .i64 0, .int .i64 0, .int .i64 0] 42)) := (Below.refl _ _).alloc (Nat.le_refl _) _
        go_wp2_with fail
        refine (hru _).mono ?_
        rintro e1 w1 ⟨rfl, rfl⟩
        generalize w.alloc (.cells #[.int .i64 0, .string ⟨#[]⟩, .int .i64 0, .int .u64 0, .int .i64 0, .int .i64 0, .int .i64 0] 42) = w0 at *
        go_wp2_with fail
        refine (hle2 _).mono ?_
        rintro e2 w2 ⟨rfl, rfl⟩
        clear hru hnw hle2
        obtain ⟨x0, x1c, x2c, x3c, x4c, x5c, x6c⟩ := rs.cells
        have y0 := rs.free 0
        have y1 := rs.free 1
        have y2 := rs.free 2
        have y3 := rs.free 3
        have y4 := rs.free 4
        have y5 := rs.free 5
        have y6 := rs.free 6
        go_wp2
        rw [got7_eq]
        have F := got7_cells rs (.int .i64 0) (.string ⟨#[]⟩) (.int .i64 0) (.int .u64 0) (.int .i64 0) (.int .i64 0) (.int .i64 21)
        obtain ⟨f0, f1, f2, f3, f4, f5, f6⟩ := F
        refine bodyPost_ret (v := .agg #[.int .i64 0, .string ⟨#[]⟩, .int .i64 0, .int .u64 0, .int .i64 0, .int .i64 0, .int .i64 21]) (by simp only [results, Tryd.results35]; simp [go_sem, f0, f1, f2, f3, f4, f5, f6]) rfl ⟨by rw [HE.out, gotV_bad 21 (by decide)]; rfl, ?_⟩
        exact got7_below hB (by first | (simp; done) | omega) _ _ _ _ _ _ _
      | false =>
        have HNB : Hid (numberS (l.drop i) = if F = false then badT 22 else ⟨3, [], 0, wv, n, 0⟩) := Lib.hid (by rw [HNB0.out, if_neg (by decide)])
        go_enter Tryd.func35, Tryd.ntmps35
        have rs := Got0.new w
        have hB : Below w.heap.size w (w.alloc (.cells #[.int .i64 0, .string ⟨#[]⟩, .int .i64 0, .int .u64 0, .int .i64 0, .int .i64 0, .int .i64 0] 42)) := (Below.refl _ _).alloc (Nat.le_refl _) _
        go_wp2_with fail
        refine (hru _).mono ?_
        rintro e1 w1 ⟨rfl, rfl⟩
        generalize w.alloc (.cells #[.int .i64 0, .string ⟨#[]⟩, .int .i64 0, .int .u64 0, .int .i64 0, .int .i64 0, .int .i64 0] 42) = w0 at *
        go_wp2_with fail
        refine (hle2 _).mono ?_
        rintro e2 w2 ⟨rfl, rfl⟩
        clear hle2
        go_wp2_with fail
        refine (hnw _).mono ?_
        rintro e4 w4 ⟨rfl, hb4⟩
        replace rs := rs.below hb4
        replace hB := hB.trans (hb4.mono hB.size)
        clear hb4 hnw hru
        have nw := NumAt.new w4 K2 F (wv : Int)
        replace rs := rs.alloc (.cells #[.bool K2, .bool F, .int .u64 (wv : Int)] 65)
        replace hB : Below w.heap.size w (w4.alloc (.cells #[.bool K2, .bool F, .int .u64 (wv : Int)] 65)) := hB.alloc hB.size _
        obtain ⟨m0, m1, m2⟩ := nw.cells
        go_upto_region 7 with (fail)
        generalize w4.alloc (.cells #[.bool K2, .bool F, .int .u64 (wv : Int)] 65) = w5 at *
        generalize w4.heap.size = g4 at *
        cases F with
        | false =>
          have HE : Hid (numberS (l.drop i) = badT 22) := Lib.hid (by rw [HNB.out, if_pos rfl])
          obtain ⟨x0, x1c, x2c, x3c, x4c, x5c, x6c⟩ := rs.cells
          have y0 := rs.free 0
          have y1 := rs.free 1
          have y2 := rs.free 2
          have y3 := rs.free 3
          have y4 := rs.free 4
          have y5 := rs.free 5
          have y6 := rs.free 6
          go_wp2
          rw [got7_eq]
          have F := got7_cells rs (.int .i64 0) (.string ⟨#[]⟩) (.int .i64 0) (.int .u64 0) (.int .i64 0) (.int .i64 0) (.int .i64 22)
          obtain ⟨f0, f1, f2, f3, f4, f5, f6⟩ := F
          refine bodyPost_ret (v := .agg #[.int .i64 0, .string ⟨#[]⟩, .int .i64 0, .int .u64 0, .int .i64 0, .int .i64 0, .int .i64 22]) (by simp only [results, Tryd.results35]; simp [go_sem, f0, f1, f2, f3, f4, f5, f6]) rfl ⟨by rw [HE.out, gotV_bad 22 (by decide)]; rfl, ?_⟩
          exact got7_below hB (by first | (simp; done) | omega) _ _ _ _ _ _ _
        | true =>
          have HE : Hid (numberS (l.drop i) = ⟨3, [], 0, wv, n, 0⟩) := Lib.hid (by rw [HNB.out, if_neg (by decide)])
          obtain ⟨x0, x1c, x2c, x3c, x4c, x5c, x6c⟩ := rs.cells
          have y0 := rs.free 0
          have y1 := rs.free 1
          have y2 := rs.free 2
          have y3 := rs.free 3
          have y4 := rs.free 4
          have y5 := rs.free 5
          have y6 := rs.free 6
          go_wp2
          rw [got7_eq]
          have F := got7_cells rs (.int .i64 3) (.string ⟨#[]⟩) (.int .i64 0) (.int .u64 (wv : Int)) (.int .i64 (i : Int)) (.int .i64 (n : Int)) (.int .i64 0)
          obtain ⟨f0, f1, f2, f3, f4, f5, f6⟩ := F
          refine bodyPost_ret (v := .agg #[.int .i64 3, .string ⟨#[]⟩, .int .i64 0, .int .u64 (wv : Int), .int .i64 (i : Int), .int .i64 (n : Int), .int .i64 0]) (by simp only [results, Tryd.results35]; simp [go_sem, f0, f1, f2, f3, f4, f5, f6]) rfl ⟨by rw [HE.out]; rfl, ?_⟩
          exact got7_below hB (by first | (simp; done) | omega) _ _ _ _ _ _ _
  · have d1 : decide ((j : Int) < (l.length : Int)) = false := by rw [decide_eq_false_iff_not]; omega
    have d2 : decide (j < l.length) = false := by rw [decide_eq_false_iff_not]; exact hjl2
    have HNB : Hid (numberS (l.drop i) = if F = false then badT 22 else ⟨3, [], 0, wv, n, 0⟩) := Lib.hid (by have hm : (l.drop i).drop n = [] := by { rw [HDD.out]; exact List.drop_eq_nil_of_le (by omega) }; have := HNF (by rw [hm]; rfl); rw [hm, if_neg (by decide)] at this; exact this)
    clear HNF
    go_enter Tryd.func35, Tryd.ntmps35
    have rs := Got0.new w
    have hB : Below w.heap.size w (w.alloc (.cells #[.int .i64 0, .string ⟨#[]⟩, .int .i64 0, .int .u64 0, .int .i64 0, .int .i64 0, .int .i64 0] 42)) := (Below.refl _ _).alloc (Nat.le_refl _) _
    go_wp2_with fail
    refine (hru _).mono ?_
    rintro e1 w1 ⟨rfl, rfl⟩
    generalize w.alloc (.cells #[.int .i64 0, .string ⟨#[]⟩, .int .i64 0, .int .u64 0, .int .i64 0, .int .i64 0, .int .i64 0] 42) = w0 at *
    go_wp2_with fail
    refine (hnw _).mono ?_
    rintro e4 w4 ⟨rfl, hb4⟩
    replace rs := rs.below hb4
    replace hB := hB.trans (hb4.mono hB.size)
    clear hb4 hnw hru
    have nw := NumAt.new w4 K2 F (wv : Int)
    replace rs := rs.alloc (.cells #[.bool K2, .bool F, .int .u64 (wv : Int)] 65)
    replace hB : Below w.heap.size w (w4.alloc (.cells #[.bool K2, .bool F, .int .u64 (wv : Int)] 65)) := hB.alloc hB.size _
    obtain ⟨m0, m1, m2⟩ := nw.cells
    go_upto_region 7 with (fail)
    generalize w4.alloc (.cells #[.bool K2, .bool F, .int .u64 (wv : Int)] 65) = w5 at *
    generalize w4.heap.size = g4 at *
    cases F with
    | false =>
      have HE : Hid (numberS (l.drop i) = badT 22) := Lib.hid (by rw [HNB.out, if_pos rfl])
      obtain ⟨x0, x1c, x2c, x3c, x4c, x5c, x6c⟩ := rs.cells
      have y0 := rs.free 0
      have y1 := rs.free 1
      have y2 := rs.free 2
      have y3 := rs.free 3
      have y4 := rs.free 4
      have y5 := rs.free 5
      have y6 := rs.free 6
      go_wp2
      rw [got7_eq]
      have F := got7_cells rs (.int .i64 0) (.string ⟨#[]⟩) (.int .i64 0) (.int .u64 0) (.int .i64 0) (.int .i64 0) (.int .i64 22)
      obtain ⟨f0, f1, f2, f3, f4, f5, f6⟩ := F
      refine bodyPost_ret (v := .agg #[.int .i64 0, .string ⟨#[]⟩, .int .i64 0, .int .u64 0, .int .i64 0, .int .i64 0, .int .i64 22]) (by simp only [results, Tryd.results35]; simp [go_sem, f0, f1, f2, f3, f4, f5, f6]) rfl ⟨by rw [HE.out, gotV_bad 22 (by decide)]; rfl, ?_⟩
      exact got7_below hB (by first | (simp; done) | omega) _ _ _ _ _ _ _
    | true =>
      have HE : Hid (numberS (l.drop i) = ⟨3, [], 0, wv, n, 0⟩) := Lib.hid (by rw [HNB.out, if_neg (by decide)])
      obtain ⟨x0, x1c, x2c, x3c, x4c, x5c, x6c⟩ := rs.cells
      have y0 := rs.free 0
      have y1 := rs.free 1
      have y2 := rs.free 2
      have y3 := rs.free 3
      have y4 := rs.free 4
      have y5 := rs.free 5
      have y6 := rs.free 6
      go_wp2
      rw [got7_eq]
      have F := got7_cells rs (.int .i64 3) (.string ⟨#[]⟩) (.int .i64 0) (.int .u64 (wv : Int)) (.int .i64 (i : Int)) (.int .i64 (n : Int)) (.int .i64 0)
      obtain ⟨f0, f1, f2, f3, f4, f5, f6⟩ := F
      refine bodyPost_ret (v := .agg #[.int .i64 3, .string ⟨#[]⟩, .int .i64 0, .int .u64 (wv : Int), .int .i64 (i : Int), .int .i64 (n : Int), .int .i64 0]) (by simp only [results, Tryd.results35]; simp [go_sem, f0, f1, f2, f3, f4, f5, f6]) rfl ⟨by rw [HE.out]; rfl, ?_⟩
      exact got7_below hB (by first | (simp; done) | omega) _ _ _ _ _ _ _
end Go.Proofs.YtigdegjhajdmhaaDoor
