/-
  A number of a width is read the same from each base, with zeros ahead or not; one that does not fit is refused. For every input; the listed variables hold what the program's text lays in them.
-/
import Derived.Test.YtoogncfpoecckaaDoorTie
import Derived.Test.YtoogncfpoecckaaDoorCards
import Derived.Test.YtoogncfpoecckaaDoorScOp
import Derived.Test.YtoogncfpoecckaaDoorScNb
import Derived.BigQuiet
namespace Go.Proofs.YtoogncfpoecckaaDoor.scanNumbers
open Go Go.ChangeShapes Go.WideShapes Go.ChangeAt Go.RowKit Go.Joins Go.Sort Go.Deep
set_option linter.unusedVariables false
set_option linter.unusedSimpArgs false

theorem digs_of (b : Nat) (bI : Int) (hI : bI = (b : Int)) (hb : 2 ≤ b) (hb2 : b ≤ 16) (v : Nat) (hv : v < 18446744073709551616) (n : Int) (h1 : 1 ≤ n) (h2 : n ≤ 80) : ∃ D, (∀ w, Calls Tryd.prog 25 #[.int .u64 (v : Int), .int .u64 bI, .int .i64 n] w fun e w' => e = .returned (.string (bs D)) ∧ w' = w) ∧ num b D = v ∧ D.all inName = true ∧ allD b D = true ∧ (b ≤ 10 → D.all digit = true) ∧ D ≠ [] ∧ D.length ≤ 200 := by
  subst hI
  have hvF : v < b ^ 200 := by
    have h1 : (2 : Nat) ^ 200 ≤ b ^ 200 := Nat.pow_le_pow_left hb 200
    have h2 : 18446744073709551616 ≤ (2 : Nat) ^ 200 := by decide
    omega
  obtain ⟨ds, e, f1, f2, f3, f4, f5, f6⟩ := digs_facts b hb hb2 200 v n [] hvF (by omega)
  rw [List.append_nil] at e
  refine ⟨ds, fun w => ?_, f1, f2, f3, f4, f5 h1, f6⟩
  have := digits_any b hb hb2 200 (by omega) v n hv hvF (by omega) (by omega) w
  rw [e] at this
  exact this
set_option maxHeartbeats 16000000 in
set_option maxRecDepth 100000 in
theorem walk_in (wd v : Nat) (hv : v < 18446744073709551616) (n : Int) (hw1 : 1 ≤ wd) (hw2 : wd ≤ 70) (hn1 : 1 ≤ n) (hn2 : n ≤ 80) (w : World) (he : Env2 w) : Calls Tryd.prog 12 #[.int .i64 (wd : Int), .int .u64 (v : Int), .int .i64 n] w fun e w' => e = .returned (.bool true) ∧ Below w.heap.size w w' := by
  obtain ⟨W, cW, nW, _, _, dW, zW, lW⟩ := digs_of 10 10 rfl (by omega) (by omega) wd (by omega) 1 (by omega) (by omega)
  obtain ⟨H, cH, nH, iH, aH, _, zH, lH⟩ := digs_of 16 16 rfl (by omega) (by omega) v hv n hn1 hn2
  obtain ⟨D, cD, nD, iD, aD, dD, zD, lD⟩ := digs_of 10 10 rfl (by omega) (by omega) v hv n hn1 hn2
  obtain ⟨B, cB, nB, iB, aB, _, zB, lB⟩ := digs_of 2 2 rfl (by omega) (by omega) v hv n hn1 hn2
  have S16 := lit_scan W H 104 16 wd v zW (dW (by omega)) nW zH iH ⟨rfl, rfl, rfl⟩ aH nH hw2 hv
  have S10 := lit_scan W D 100 10 wd v zW (dW (by omega)) nW zD iD ⟨rfl, rfl, rfl⟩ aD nD hw2 hv
  have S2 := lit_scan W B 98 2 wd v zW (dW (by omega)) nW zB iB ⟨rfl, rfl, rfl⟩ aB nB hw2 hv
  have SP := plain_scan D v zD (dD (by omega)) nD hv
  obtain ⟨TH, hTH⟩ : ∃ T, W ++ 39 :: 104 :: H = T := ⟨_, rfl⟩
  obtain ⟨TD, hTD⟩ : ∃ T, W ++ 39 :: 100 :: D = T := ⟨_, rfl⟩
  obtain ⟨TB, hTB⟩ : ∃ T, W ++ 39 :: 98 :: B = T := ⟨_, rfl⟩
  rw [hTH] at S16
  rw [hTD] at S10
  rw [hTB] at S2
  have g1 : decide ((wd : Int) < 1) = false := by rw [decide_eq_false_iff_not]; omega
  have g2 : decide ((70 : Int) < (wd : Int)) = false := by rw [decide_eq_false_iff_not]; omega
  have g3 : decide (n < 1) = false := by rw [decide_eq_false_iff_not]; omega
  have g4 : decide (80 < n) = false := by rw [decide_eq_false_iff_not]; omega
  have tn1 := fun w => tok_nsame 0 v w
  have tn2 := fun w => tok_nsame2 0 v w
  have te1 := fun w => tok_same (wd : Int) v w
  have te2 := fun w => tok_same2 (wd : Int) v w
  have wu : IntKind.u64.wrap (wd : Int) = (wd : Int) := IntWalk.u64_in _ (by omega)
  obtain ⟨W1, hW1⟩ : ∃ X, W ++ [39, 104] = X := ⟨_, rfl⟩
  have c1 : bs W ++ { data := #[39, 104] } = bs W1 := by rw [← hW1]; exact bs_append W [39, 104]
  have c2 : bs W1 ++ bs H = bs TH := by rw [bs_append, ← hTH, ← hW1]; simp
  have q1 : W1.length ≤ 300 := by rw [← hW1]; simp; omega
  clear hW1
  obtain ⟨W2, hW2⟩ : ∃ X, W ++ [39, 100] = X := ⟨_, rfl⟩
  have c3 : bs W ++ { data := #[39, 100] } = bs W2 := by rw [← hW2]; exact bs_append W [39, 100]
  have c4 : bs W2 ++ bs D = bs TD := by rw [bs_append, ← hTD, ← hW2]; simp
  have q2 : W2.length ≤ 300 := by rw [← hW2]; simp; omega
  clear hW2
  obtain ⟨W3, hW3⟩ : ∃ X, W ++ [39, 98] = X := ⟨_, rfl⟩
  have c5 : bs W ++ { data := #[39, 98] } = bs W3 := by rw [← hW3]; exact bs_append W [39, 98]
  have c6 : bs W3 ++ bs B = bs TB := by rw [bs_append, ← hTB, ← hW3]; simp
  have q3 : W3.length ≤ 300 := by rw [← hW3]; simp; omega
  clear hW3
  have LENA : TH.length ≤ 65536 := by rw [← hTH]; simp; omega
  have LENB : TD.length ≤ 65536 := by rw [← hTD]; simp; omega
  have LENC : TB.length ≤ 65536 := by rw [← hTB]; simp; omega
  have LEND : D.length ≤ 65536 := by omega
  have HH : Hid (holdsI wd v = (decide (wd < 64) && decide (v < 2 ^ wd) || decide (wd = 64))) := Lib.hid (by
    unfold holdsI
    have e1 : decide (1 ≤ (wd : Int)) = true := by rw [decide_eq_true_eq]; omega
    rw [e1, Bool.true_and, Int.toNat_natCast]
    by_cases h : wd < 64
    · have e2 : decide ((wd : Int) ≤ 64) = true := by rw [decide_eq_true_eq]; omega
      have e3 : decide (wd = 64) = false := by rw [decide_eq_false_iff_not]; omega
      rw [e2, decide_eq_true h, e3]; simp
    · by_cases h' : wd = 64
      · subst h'
        have : v < 2 ^ 64 := hv
        simp [this]
      · have e2 : decide ((wd : Int) ≤ 64) = false := by rw [decide_eq_false_iff_not]; omega
        have e3 : decide (wd = 64) = false := by rw [decide_eq_false_iff_not]; omega
        rw [e2, decide_eq_false h, e3]; simp)
  have HV := Lib.hid hv
  clear hTH hTD hTB nW nH nD nB iH iD iB aH aD aB dW dD zW zH zD zB hv
  by_cases h64 : wd < 64
  · have x1 : decide ((wd : Int) < 64) = true := by rw [decide_eq_true_eq]; omega
    have wu2 : IntKind.u64.wrap (wd : Int) = (wd : Int) := wu
    obtain ⟨p, hp⟩ : ∃ p, 2 ^ wd = p := ⟨_, rfl⟩
    have hpp : p ≤ 9223372036854775808 := by rw [← hp]; exact Nat.pow_le_pow_right (by omega) (show wd ≤ 63 by omega)
    have hq : (2 : Int) ^ wd = (p : Int) := by rw [← hp, Int.natCast_pow]; rfl
    have hw : IntKind.u64.wrap ((2 : Int) ^ wd) = (p : Int) := by rw [hq]; exact IntWalk.u64_in _ (by omega)
    have e64 : ((wd : Int) == 64) = false := by rw [beq_eq_false_iff_ne]; omega
    have e3 : decide (wd = 64) = false := by rw [decide_eq_false_iff_not]; omega
    have HP := Lib.hid hpp
    clear hpp hq
    by_cases hvp : v < p
    · have x2 : decide ((v : Int) < (p : Int)) = true := by rw [decide_eq_true_eq]; omega
      have x3 : decide (v < p) = true := by simpa using hvp
      have hf : holdsI wd v = true := by rw [HH.out, hp, x3, decide_eq_true h64]; rfl
      rw [hf, if_pos rfl] at S16 S10 S2
      clear hp
      go_enter Tryd.func12, Tryd.ntmps12
      go_wp2_with fail
      refine (live_any _ he).mono ?_
      rintro e1 w1 ⟨rfl, b1⟩
      have he1 := he.keep b1
      have z1 := b1.size
      go_wp2_with fail
      refine (cW _).mono ?_
      rintro e2 w2 ⟨rfl, rfl⟩
      have T0 : (w2.alloc (.cells #[.int .i64 3, .string ⟨#[]⟩, .int .i64 (wd : Int), .int .u64 (v : Int), .int .i64 0] 32)).cell? ⟨w2.heap.size, 0, none⟩ = some (.int .i64 3) := by simp
      have T1 : (w2.alloc (.cells #[.int .i64 3, .string ⟨#[]⟩, .int .i64 (wd : Int), .int .u64 (v : Int), .int .i64 0] 32)).cell? ⟨w2.heap.size, 1, none⟩ = some (.string ⟨#[]⟩) := by simp
      have T2 : (w2.alloc (.cells #[.int .i64 3, .string ⟨#[]⟩, .int .i64 (wd : Int), .int .u64 (v : Int), .int .i64 0] 32)).cell? ⟨w2.heap.size, 2, none⟩ = some (.int .i64 (wd : Int)) := by simp
      have T3 : (w2.alloc (.cells #[.int .i64 3, .string ⟨#[]⟩, .int .i64 (wd : Int), .int .u64 (v : Int), .int .i64 0] 32)).cell? ⟨w2.heap.size, 3, none⟩ = some (.int .u64 (v : Int)) := by simp
      have T4 : (w2.alloc (.cells #[.int .i64 3, .string ⟨#[]⟩, .int .i64 (wd : Int), .int .u64 (v : Int), .int .i64 0] 32)).cell? ⟨w2.heap.size, 4, none⟩ = some (.int .i64 0) := by simp
      have B3 : Below w.heap.size w (w2.alloc (.cells #[.int .i64 3, .string ⟨#[]⟩, .int .i64 (wd : Int), .int .u64 (v : Int), .int .i64 0] 32)) := b1.alloc z1 _
      have he3 := he.keep B3
      have z3 := B3.size
      go_wp2_with fail
      refine Calls.mono (R := fun e w' => e = .returned (.string (bs H)) ∧ w' = w2.alloc (.cells #[.int .i64 3, .string ⟨#[]⟩, .int .i64 (wd : Int), .int .u64 (v : Int), .int .i64 0] 32)) (cH _) ?_
      rintro e3 w3 ⟨rfl, hw3⟩
      rw [← hw3] at T0 T1 T2 T3 T4 B3 he3 z3
      clear hw3
      obtain ⟨cp3, fr3, hcv3⟩ := conv_new w3 (TH)
      have C3 : Below w.heap.size w (w3.drew.alloc (.cells (bytesRow (bs (TH)) cp3) 5 fr3)) := (Below.drew B3).alloc z3 _
      have hec3 := he.keep C3
      have hs3 := scan_call (some ⟨w3.heap.size, 0, none⟩) cp3 (TH) LENA (w3.drew.alloc (.cells (bytesRow (bs (TH)) cp3) 5 fr3)) hec3 (bytes_new w3.drew (TH) cp3 fr3)
      rw [S16] at hs3
      have zc3 := C3.size
      have kb3 : Below w3.heap.size w3 (w3.drew.alloc (.cells (bytesRow (bs (TH)) cp3) 5 fr3)) := (Below.drew (Below.refl _ _)).alloc (Nat.le_refl _) _
      go_wp2_with fail
      refine Calls.mono (R := Told (w3.drew.alloc (.cells (bytesRow (bs (TH)) cp3) 5 fr3)) _) hs3 ?_
      rintro ee3 w4 ⟨v3, rfl, own3, nil3, bb3⟩
      simp only at own3 nil3 bb3
      have B4 := C3.trans (bb3.mono zc3)
      have z4 := B4.size
      have kk3 := kb3.trans (bb3.mono kb3.size)
      replace T0 := keep_cell kk3 T0
      replace T1 := keep_cell kk3 T1
      replace T2 := keep_cell kk3 T2
      replace T3 := keep_cell kk3 T3
      replace T4 := keep_cell kk3 T4
      obtain ⟨aaA, ccA, rfl, lyA, _, _⟩ := told_lies own3
      clear own3 nil3 bb3 kk3 kb3 hs3 hcv3 hec3 C3 zc3
      go_wp2_with fail
      refine (cD w4).mono ?_
      rintro e4x wx ⟨rfl, hwx⟩
      subst wx
      obtain ⟨cp4, fr4, hcv4⟩ := conv_new w4 (TD)
      have C4 : Below w.heap.size w (w4.drew.alloc (.cells (bytesRow (bs (TD)) cp4) 5 fr4)) := (Below.drew B4).alloc z4 _
      have hec4 := he.keep C4
      have hs4 := scan_call (some ⟨w4.heap.size, 0, none⟩) cp4 (TD) LENB (w4.drew.alloc (.cells (bytesRow (bs (TD)) cp4) 5 fr4)) hec4 (bytes_new w4.drew (TD) cp4 fr4)
      rw [S10] at hs4
      have zc4 := C4.size
      have kb4 : Below w4.heap.size w4 (w4.drew.alloc (.cells (bytesRow (bs (TD)) cp4) 5 fr4)) := (Below.drew (Below.refl _ _)).alloc (Nat.le_refl _) _
      go_wp2_with fail
      refine Calls.mono (R := Told (w4.drew.alloc (.cells (bytesRow (bs (TD)) cp4) 5 fr4)) _) hs4 ?_
      rintro ee4 w5 ⟨v4, rfl, own4, nil4, bb4⟩
      simp only at own4 nil4 bb4
      have B5 := C4.trans (bb4.mono zc4)
      have z5 := B5.size
      have kk4 := kb4.trans (bb4.mono kb4.size)
      replace T0 := keep_cell kk4 T0
      replace T1 := keep_cell kk4 T1
      replace T2 := keep_cell kk4 T2
      replace T3 := keep_cell kk4 T3
      replace T4 := keep_cell kk4 T4
      replace lyA := lyA.keep kk4
      obtain ⟨aaB, ccB, rfl, lyB, _, _⟩ := told_lies own4
      clear own4 nil4 bb4 kk4 kb4 hs4 hcv4 hec4 C4 zc4
      go_wp2_with fail
      refine (cB w5).mono ?_
      rintro e5x wx ⟨rfl, hwx⟩
      subst wx
      obtain ⟨cp5, fr5, hcv5⟩ := conv_new w5 (TB)
      have C5 : Below w.heap.size w (w5.drew.alloc (.cells (bytesRow (bs (TB)) cp5) 5 fr5)) := (Below.drew B5).alloc z5 _
      have hec5 := he.keep C5
      have hs5 := scan_call (some ⟨w5.heap.size, 0, none⟩) cp5 (TB) LENC (w5.drew.alloc (.cells (bytesRow (bs (TB)) cp5) 5 fr5)) hec5 (bytes_new w5.drew (TB) cp5 fr5)
      rw [S2] at hs5
      have zc5 := C5.size
      have kb5 : Below w5.heap.size w5 (w5.drew.alloc (.cells (bytesRow (bs (TB)) cp5) 5 fr5)) := (Below.drew (Below.refl _ _)).alloc (Nat.le_refl _) _
      go_wp2_with fail
      refine Calls.mono (R := Told (w5.drew.alloc (.cells (bytesRow (bs (TB)) cp5) 5 fr5)) _) hs5 ?_
      rintro ee5 w6 ⟨v5, rfl, own5, nil5, bb5⟩
      simp only at own5 nil5 bb5
      have B6 := C5.trans (bb5.mono zc5)
      have z6 := B6.size
      have kk5 := kb5.trans (bb5.mono kb5.size)
      replace T0 := keep_cell kk5 T0
      replace T1 := keep_cell kk5 T1
      replace T2 := keep_cell kk5 T2
      replace T3 := keep_cell kk5 T3
      replace T4 := keep_cell kk5 T4
      replace lyA := lyA.keep kk5
      replace lyB := lyB.keep kk5
      obtain ⟨aaC, ccC, rfl, lyC, _, _⟩ := told_lies own5
      clear own5 nil5 bb5 kk5 kb5 hs5 hcv5 hec5 C5 zc5
      go_wp2_with fail
      refine (cD w6).mono ?_
      rintro e6x wx ⟨rfl, hwx⟩
      subst wx
      obtain ⟨cp6, fr6, hcv6⟩ := conv_new w6 (D)
      have C6 : Below w.heap.size w (w6.drew.alloc (.cells (bytesRow (bs (D)) cp6) 5 fr6)) := (Below.drew B6).alloc z6 _
      have hec6 := he.keep C6
      have hs6 := scan_call (some ⟨w6.heap.size, 0, none⟩) cp6 (D) LEND (w6.drew.alloc (.cells (bytesRow (bs (D)) cp6) 5 fr6)) hec6 (bytes_new w6.drew (D) cp6 fr6)
      rw [SP] at hs6
      have zc6 := C6.size
      have kb6 : Below w6.heap.size w6 (w6.drew.alloc (.cells (bytesRow (bs (D)) cp6) 5 fr6)) := (Below.drew (Below.refl _ _)).alloc (Nat.le_refl _) _
      go_wp2_with fail
      refine Calls.mono (R := Told (w6.drew.alloc (.cells (bytesRow (bs (D)) cp6) 5 fr6)) _) hs6 ?_
      rintro ee6 w7 ⟨v6, rfl, own6, nil6, bb6⟩
      simp only at own6 nil6 bb6
      have B7 := C6.trans (bb6.mono zc6)
      have z7 := B7.size
      have kk6 := kb6.trans (bb6.mono kb6.size)
      replace T0 := keep_cell kk6 T0
      replace T1 := keep_cell kk6 T1
      replace T2 := keep_cell kk6 T2
      replace T3 := keep_cell kk6 T3
      replace T4 := keep_cell kk6 T4
      replace lyA := lyA.keep kk6
      replace lyB := lyB.keep kk6
      replace lyC := lyC.keep kk6
      obtain ⟨aaD, ccD, rfl, lyD, _, _⟩ := told_lies own6
      clear own6 nil6 bb6 kk6 kb6 hs6 hcv6 hec6 C6 zc6
      obtain ⟨bD, oD, rfl, xd0, xd1, xd2, xd3, xd4⟩ := lyD.at (i := 0) (by simp)
      simp only [Nat.zero_mul, Nat.add_zero, List.map_cons, List.map_nil, List.getElem_cons_zero, T5.g, List.length_cons, List.length_nil, Nat.zero_add] at xd0 xd1 xd2 xd3 xd4
      obtain ⟨bA, oA, rfl, xa0, xa1, xa2, xa3, xa4⟩ := lyA.at (i := 0) (by simp)
      simp only [Nat.zero_mul, Nat.add_zero, List.map_cons, List.map_nil, List.getElem_cons_zero, T5.g, List.length_cons, List.length_nil, Nat.zero_add] at xa0 xa1 xa2 xa3 xa4
      obtain ⟨bB, oB, rfl, xb0, xb1, xb2, xb3, xb4⟩ := lyB.at (i := 0) (by simp)
      simp only [Nat.zero_mul, Nat.add_zero, List.map_cons, List.map_nil, List.getElem_cons_zero, T5.g, List.length_cons, List.length_nil, Nat.zero_add] at xb0 xb1 xb2 xb3 xb4
      obtain ⟨bC, oC, rfl, xc0, xc1, xc2, xc3, xc4⟩ := lyC.at (i := 0) (by simp)
      simp only [Nat.zero_mul, Nat.add_zero, List.map_cons, List.map_nil, List.getElem_cons_zero, T5.g, List.length_cons, List.length_nil, Nat.zero_add] at xc0 xc1 xc2 xc3 xc4
      go_wp2_with fail
      go_quiet (fail)
      go_wp2
      go_ret
      exact ⟨rfl, below_drewN B7 _⟩
    · have x2 : decide ((v : Int) < (p : Int)) = false := by rw [decide_eq_false_iff_not]; omega
      have x3 : decide (v < p) = false := by simpa using hvp
      have hf : holdsI wd v = false := by rw [HH.out, hp, x3, e3]; simp
      rw [hf, if_neg (by decide)] at S16 S10 S2
      clear hp
      go_enter Tryd.func12, Tryd.ntmps12
      go_wp2_with fail
      refine (live_any _ he).mono ?_
      rintro e1 w1 ⟨rfl, b1⟩
      have he1 := he.keep b1
      have z1 := b1.size
      go_wp2_with fail
      refine (cW _).mono ?_
      rintro e2 w2 ⟨rfl, rfl⟩
      have T0 : (w2.alloc (.cells #[.int .i64 3, .string ⟨#[]⟩, .int .i64 (wd : Int), .int .u64 (v : Int), .int .i64 0] 32)).cell? ⟨w2.heap.size, 0, none⟩ = some (.int .i64 3) := by simp
      have T1 : (w2.alloc (.cells #[.int .i64 3, .string ⟨#[]⟩, .int .i64 (wd : Int), .int .u64 (v : Int), .int .i64 0] 32)).cell? ⟨w2.heap.size, 1, none⟩ = some (.string ⟨#[]⟩) := by simp
      have T2 : (w2.alloc (.cells #[.int .i64 3, .string ⟨#[]⟩, .int .i64 (wd : Int), .int .u64 (v : Int), .int .i64 0] 32)).cell? ⟨w2.heap.size, 2, none⟩ = some (.int .i64 (wd : Int)) := by simp
      have T3 : (w2.alloc (.cells #[.int .i64 3, .string ⟨#[]⟩, .int .i64 (wd : Int), .int .u64 (v : Int), .int .i64 0] 32)).cell? ⟨w2.heap.size, 3, none⟩ = some (.int .u64 (v : Int)) := by simp
      have T4 : (w2.alloc (.cells #[.int .i64 3, .string ⟨#[]⟩, .int .i64 (wd : Int), .int .u64 (v : Int), .int .i64 0] 32)).cell? ⟨w2.heap.size, 4, none⟩ = some (.int .i64 0) := by simp
      have B3 : Below w.heap.size w (w2.alloc (.cells #[.int .i64 3, .string ⟨#[]⟩, .int .i64 (wd : Int), .int .u64 (v : Int), .int .i64 0] 32)) := b1.alloc z1 _
      have he3 := he.keep B3
      have z3 := B3.size
      go_wp2_with fail
      refine Calls.mono (R := fun e w' => e = .returned (.string (bs H)) ∧ w' = w2.alloc (.cells #[.int .i64 3, .string ⟨#[]⟩, .int .i64 (wd : Int), .int .u64 (v : Int), .int .i64 0] 32)) (cH _) ?_
      rintro e3 w3 ⟨rfl, hw3⟩
      rw [← hw3] at T0 T1 T2 T3 T4 B3 he3 z3
      clear hw3
      obtain ⟨cp3, fr3, hcv3⟩ := conv_new w3 (TH)
      have C3 : Below w.heap.size w (w3.drew.alloc (.cells (bytesRow (bs (TH)) cp3) 5 fr3)) := (Below.drew B3).alloc z3 _
      have hec3 := he.keep C3
      have hs3 := scan_call (some ⟨w3.heap.size, 0, none⟩) cp3 (TH) LENA (w3.drew.alloc (.cells (bytesRow (bs (TH)) cp3) 5 fr3)) hec3 (bytes_new w3.drew (TH) cp3 fr3)
      rw [S16] at hs3
      have zc3 := C3.size
      have kb3 : Below w3.heap.size w3 (w3.drew.alloc (.cells (bytesRow (bs (TH)) cp3) 5 fr3)) := (Below.drew (Below.refl _ _)).alloc (Nat.le_refl _) _
      go_wp2_with fail
      refine Calls.mono (R := Told (w3.drew.alloc (.cells (bytesRow (bs (TH)) cp3) 5 fr3)) _) hs3 ?_
      rintro ee3 w4 ⟨v3, rfl, own3, nil3, bb3⟩
      simp only at own3 nil3 bb3
      have B4 := C3.trans (bb3.mono zc3)
      have z4 := B4.size
      have kk3 := kb3.trans (bb3.mono kb3.size)
      replace T0 := keep_cell kk3 T0
      replace T1 := keep_cell kk3 T1
      replace T2 := keep_cell kk3 T2
      replace T3 := keep_cell kk3 T3
      replace T4 := keep_cell kk3 T4
      obtain rfl := nil3 (by first | rfl | trivial)
      clear own3 nil3 bb3 kk3 kb3 hs3 hcv3 hec3 C3 zc3
      go_wp2_with fail
      refine (cD w4).mono ?_
      rintro e4x wx ⟨rfl, hwx⟩
      subst wx
      obtain ⟨cp4, fr4, hcv4⟩ := conv_new w4 (TD)
      have C4 : Below w.heap.size w (w4.drew.alloc (.cells (bytesRow (bs (TD)) cp4) 5 fr4)) := (Below.drew B4).alloc z4 _
      have hec4 := he.keep C4
      have hs4 := scan_call (some ⟨w4.heap.size, 0, none⟩) cp4 (TD) LENB (w4.drew.alloc (.cells (bytesRow (bs (TD)) cp4) 5 fr4)) hec4 (bytes_new w4.drew (TD) cp4 fr4)
      rw [S10] at hs4
      have zc4 := C4.size
      have kb4 : Below w4.heap.size w4 (w4.drew.alloc (.cells (bytesRow (bs (TD)) cp4) 5 fr4)) := (Below.drew (Below.refl _ _)).alloc (Nat.le_refl _) _
      go_wp2_with fail
      refine Calls.mono (R := Told (w4.drew.alloc (.cells (bytesRow (bs (TD)) cp4) 5 fr4)) _) hs4 ?_
      rintro ee4 w5 ⟨v4, rfl, own4, nil4, bb4⟩
      simp only at own4 nil4 bb4
      have B5 := C4.trans (bb4.mono zc4)
      have z5 := B5.size
      have kk4 := kb4.trans (bb4.mono kb4.size)
      replace T0 := keep_cell kk4 T0
      replace T1 := keep_cell kk4 T1
      replace T2 := keep_cell kk4 T2
      replace T3 := keep_cell kk4 T3
      replace T4 := keep_cell kk4 T4
      obtain rfl := nil4 (by first | rfl | trivial)
      clear own4 nil4 bb4 kk4 kb4 hs4 hcv4 hec4 C4 zc4
      go_wp2_with fail
      refine (cB w5).mono ?_
      rintro e5x wx ⟨rfl, hwx⟩
      subst wx
      obtain ⟨cp5, fr5, hcv5⟩ := conv_new w5 (TB)
      have C5 : Below w.heap.size w (w5.drew.alloc (.cells (bytesRow (bs (TB)) cp5) 5 fr5)) := (Below.drew B5).alloc z5 _
      have hec5 := he.keep C5
      have hs5 := scan_call (some ⟨w5.heap.size, 0, none⟩) cp5 (TB) LENC (w5.drew.alloc (.cells (bytesRow (bs (TB)) cp5) 5 fr5)) hec5 (bytes_new w5.drew (TB) cp5 fr5)
      rw [S2] at hs5
      have zc5 := C5.size
      have kb5 : Below w5.heap.size w5 (w5.drew.alloc (.cells (bytesRow (bs (TB)) cp5) 5 fr5)) := (Below.drew (Below.refl _ _)).alloc (Nat.le_refl _) _
      go_wp2_with fail
      refine Calls.mono (R := Told (w5.drew.alloc (.cells (bytesRow (bs (TB)) cp5) 5 fr5)) _) hs5 ?_
      rintro ee5 w6 ⟨v5, rfl, own5, nil5, bb5⟩
      simp only at own5 nil5 bb5
      have B6 := C5.trans (bb5.mono zc5)
      have z6 := B6.size
      have kk5 := kb5.trans (bb5.mono kb5.size)
      replace T0 := keep_cell kk5 T0
      replace T1 := keep_cell kk5 T1
      replace T2 := keep_cell kk5 T2
      replace T3 := keep_cell kk5 T3
      replace T4 := keep_cell kk5 T4
      obtain rfl := nil5 (by first | rfl | trivial)
      clear own5 nil5 bb5 kk5 kb5 hs5 hcv5 hec5 C5 zc5
      go_wp2_with fail
      refine (cD w6).mono ?_
      rintro e6x wx ⟨rfl, hwx⟩
      subst wx
      obtain ⟨cp6, fr6, hcv6⟩ := conv_new w6 (D)
      have C6 : Below w.heap.size w (w6.drew.alloc (.cells (bytesRow (bs (D)) cp6) 5 fr6)) := (Below.drew B6).alloc z6 _
      have hec6 := he.keep C6
      have hs6 := scan_call (some ⟨w6.heap.size, 0, none⟩) cp6 (D) LEND (w6.drew.alloc (.cells (bytesRow (bs (D)) cp6) 5 fr6)) hec6 (bytes_new w6.drew (D) cp6 fr6)
      rw [SP] at hs6
      have zc6 := C6.size
      have kb6 : Below w6.heap.size w6 (w6.drew.alloc (.cells (bytesRow (bs (D)) cp6) 5 fr6)) := (Below.drew (Below.refl _ _)).alloc (Nat.le_refl _) _
      go_wp2_with fail
      refine Calls.mono (R := Told (w6.drew.alloc (.cells (bytesRow (bs (D)) cp6) 5 fr6)) _) hs6 ?_
      rintro ee6 w7 ⟨v6, rfl, own6, nil6, bb6⟩
      simp only at own6 nil6 bb6
      have B7 := C6.trans (bb6.mono zc6)
      have z7 := B7.size
      have kk6 := kb6.trans (bb6.mono kb6.size)
      replace T0 := keep_cell kk6 T0
      replace T1 := keep_cell kk6 T1
      replace T2 := keep_cell kk6 T2
      replace T3 := keep_cell kk6 T3
      replace T4 := keep_cell kk6 T4
      obtain ⟨aaD, ccD, rfl, lyD, _, _⟩ := told_lies own6
      clear own6 nil6 bb6 kk6 kb6 hs6 hcv6 hec6 C6 zc6
      obtain ⟨bD, oD, rfl, xd0, xd1, xd2, xd3, xd4⟩ := lyD.at (i := 0) (by simp)
      simp only [Nat.zero_mul, Nat.add_zero, List.map_cons, List.map_nil, List.getElem_cons_zero, T5.g, List.length_cons, List.length_nil, Nat.zero_add] at xd0 xd1 xd2 xd3 xd4
      go_wp2
      go_ret
      exact ⟨rfl, B7⟩
  · have x1 : decide ((wd : Int) < 64) = false := by rw [decide_eq_false_iff_not]; omega
    by_cases h65 : wd = 64
    · have e64 : ((wd : Int) == 64) = true := by rw [beq_iff_eq]; omega
      have hf : holdsI wd v = true := by rw [HH.out, decide_eq_true h65]; simp
      rw [hf, if_pos rfl] at S16 S10 S2
      have H65 := Lib.hid h65
      clear h65
      go_enter Tryd.func12, Tryd.ntmps12
      go_wp2_with fail
      refine (live_any _ he).mono ?_
      rintro e1 w1 ⟨rfl, b1⟩
      have he1 := he.keep b1
      have z1 := b1.size
      go_wp2_with fail
      refine (cW _).mono ?_
      rintro e2 w2 ⟨rfl, rfl⟩
      have T0 : (w2.alloc (.cells #[.int .i64 3, .string ⟨#[]⟩, .int .i64 (wd : Int), .int .u64 (v : Int), .int .i64 0] 32)).cell? ⟨w2.heap.size, 0, none⟩ = some (.int .i64 3) := by simp
      have T1 : (w2.alloc (.cells #[.int .i64 3, .string ⟨#[]⟩, .int .i64 (wd : Int), .int .u64 (v : Int), .int .i64 0] 32)).cell? ⟨w2.heap.size, 1, none⟩ = some (.string ⟨#[]⟩) := by simp
      have T2 : (w2.alloc (.cells #[.int .i64 3, .string ⟨#[]⟩, .int .i64 (wd : Int), .int .u64 (v : Int), .int .i64 0] 32)).cell? ⟨w2.heap.size, 2, none⟩ = some (.int .i64 (wd : Int)) := by simp
      have T3 : (w2.alloc (.cells #[.int .i64 3, .string ⟨#[]⟩, .int .i64 (wd : Int), .int .u64 (v : Int), .int .i64 0] 32)).cell? ⟨w2.heap.size, 3, none⟩ = some (.int .u64 (v : Int)) := by simp
      have T4 : (w2.alloc (.cells #[.int .i64 3, .string ⟨#[]⟩, .int .i64 (wd : Int), .int .u64 (v : Int), .int .i64 0] 32)).cell? ⟨w2.heap.size, 4, none⟩ = some (.int .i64 0) := by simp
      have B3 : Below w.heap.size w (w2.alloc (.cells #[.int .i64 3, .string ⟨#[]⟩, .int .i64 (wd : Int), .int .u64 (v : Int), .int .i64 0] 32)) := b1.alloc z1 _
      have he3 := he.keep B3
      have z3 := B3.size
      go_wp2_with fail
      refine Calls.mono (R := fun e w' => e = .returned (.string (bs H)) ∧ w' = w2.alloc (.cells #[.int .i64 3, .string ⟨#[]⟩, .int .i64 (wd : Int), .int .u64 (v : Int), .int .i64 0] 32)) (cH _) ?_
      rintro e3 w3 ⟨rfl, hw3⟩
      rw [← hw3] at T0 T1 T2 T3 T4 B3 he3 z3
      clear hw3
      obtain ⟨cp3, fr3, hcv3⟩ := conv_new w3 (TH)
      have C3 : Below w.heap.size w (w3.drew.alloc (.cells (bytesRow (bs (TH)) cp3) 5 fr3)) := (Below.drew B3).alloc z3 _
      have hec3 := he.keep C3
      have hs3 := scan_call (some ⟨w3.heap.size, 0, none⟩) cp3 (TH) LENA (w3.drew.alloc (.cells (bytesRow (bs (TH)) cp3) 5 fr3)) hec3 (bytes_new w3.drew (TH) cp3 fr3)
      rw [S16] at hs3
      have zc3 := C3.size
      have kb3 : Below w3.heap.size w3 (w3.drew.alloc (.cells (bytesRow (bs (TH)) cp3) 5 fr3)) := (Below.drew (Below.refl _ _)).alloc (Nat.le_refl _) _
      go_wp2_with fail
      refine Calls.mono (R := Told (w3.drew.alloc (.cells (bytesRow (bs (TH)) cp3) 5 fr3)) _) hs3 ?_
      rintro ee3 w4 ⟨v3, rfl, own3, nil3, bb3⟩
      simp only at own3 nil3 bb3
      have B4 := C3.trans (bb3.mono zc3)
      have z4 := B4.size
      have kk3 := kb3.trans (bb3.mono kb3.size)
      replace T0 := keep_cell kk3 T0
      replace T1 := keep_cell kk3 T1
      replace T2 := keep_cell kk3 T2
      replace T3 := keep_cell kk3 T3
      replace T4 := keep_cell kk3 T4
      obtain ⟨aaA, ccA, rfl, lyA, _, _⟩ := told_lies own3
      clear own3 nil3 bb3 kk3 kb3 hs3 hcv3 hec3 C3 zc3
      go_wp2_with fail
      refine (cD w4).mono ?_
      rintro e4x wx ⟨rfl, hwx⟩
      subst wx
      obtain ⟨cp4, fr4, hcv4⟩ := conv_new w4 (TD)
      have C4 : Below w.heap.size w (w4.drew.alloc (.cells (bytesRow (bs (TD)) cp4) 5 fr4)) := (Below.drew B4).alloc z4 _
      have hec4 := he.keep C4
      have hs4 := scan_call (some ⟨w4.heap.size, 0, none⟩) cp4 (TD) LENB (w4.drew.alloc (.cells (bytesRow (bs (TD)) cp4) 5 fr4)) hec4 (bytes_new w4.drew (TD) cp4 fr4)
      rw [S10] at hs4
      have zc4 := C4.size
      have kb4 : Below w4.heap.size w4 (w4.drew.alloc (.cells (bytesRow (bs (TD)) cp4) 5 fr4)) := (Below.drew (Below.refl _ _)).alloc (Nat.le_refl _) _
      go_wp2_with fail
      refine Calls.mono (R := Told (w4.drew.alloc (.cells (bytesRow (bs (TD)) cp4) 5 fr4)) _) hs4 ?_
      rintro ee4 w5 ⟨v4, rfl, own4, nil4, bb4⟩
      simp only at own4 nil4 bb4
      have B5 := C4.trans (bb4.mono zc4)
      have z5 := B5.size
      have kk4 := kb4.trans (bb4.mono kb4.size)
      replace T0 := keep_cell kk4 T0
      replace T1 := keep_cell kk4 T1
      replace T2 := keep_cell kk4 T2
      replace T3 := keep_cell kk4 T3
      replace T4 := keep_cell kk4 T4
      replace lyA := lyA.keep kk4
      obtain ⟨aaB, ccB, rfl, lyB, _, _⟩ := told_lies own4
      clear own4 nil4 bb4 kk4 kb4 hs4 hcv4 hec4 C4 zc4
      go_wp2_with fail
      refine (cB w5).mono ?_
      rintro e5x wx ⟨rfl, hwx⟩
      subst wx
      obtain ⟨cp5, fr5, hcv5⟩ := conv_new w5 (TB)
      have C5 : Below w.heap.size w (w5.drew.alloc (.cells (bytesRow (bs (TB)) cp5) 5 fr5)) := (Below.drew B5).alloc z5 _
      have hec5 := he.keep C5
      have hs5 := scan_call (some ⟨w5.heap.size, 0, none⟩) cp5 (TB) LENC (w5.drew.alloc (.cells (bytesRow (bs (TB)) cp5) 5 fr5)) hec5 (bytes_new w5.drew (TB) cp5 fr5)
      rw [S2] at hs5
      have zc5 := C5.size
      have kb5 : Below w5.heap.size w5 (w5.drew.alloc (.cells (bytesRow (bs (TB)) cp5) 5 fr5)) := (Below.drew (Below.refl _ _)).alloc (Nat.le_refl _) _
      go_wp2_with fail
      refine Calls.mono (R := Told (w5.drew.alloc (.cells (bytesRow (bs (TB)) cp5) 5 fr5)) _) hs5 ?_
      rintro ee5 w6 ⟨v5, rfl, own5, nil5, bb5⟩
      simp only at own5 nil5 bb5
      have B6 := C5.trans (bb5.mono zc5)
      have z6 := B6.size
      have kk5 := kb5.trans (bb5.mono kb5.size)
      replace T0 := keep_cell kk5 T0
      replace T1 := keep_cell kk5 T1
      replace T2 := keep_cell kk5 T2
      replace T3 := keep_cell kk5 T3
      replace T4 := keep_cell kk5 T4
      replace lyA := lyA.keep kk5
      replace lyB := lyB.keep kk5
      obtain ⟨aaC, ccC, rfl, lyC, _, _⟩ := told_lies own5
      clear own5 nil5 bb5 kk5 kb5 hs5 hcv5 hec5 C5 zc5
      go_wp2_with fail
      refine (cD w6).mono ?_
      rintro e6x wx ⟨rfl, hwx⟩
      subst wx
      obtain ⟨cp6, fr6, hcv6⟩ := conv_new w6 (D)
      have C6 : Below w.heap.size w (w6.drew.alloc (.cells (bytesRow (bs (D)) cp6) 5 fr6)) := (Below.drew B6).alloc z6 _
      have hec6 := he.keep C6
      have hs6 := scan_call (some ⟨w6.heap.size, 0, none⟩) cp6 (D) LEND (w6.drew.alloc (.cells (bytesRow (bs (D)) cp6) 5 fr6)) hec6 (bytes_new w6.drew (D) cp6 fr6)
      rw [SP] at hs6
      have zc6 := C6.size
      have kb6 : Below w6.heap.size w6 (w6.drew.alloc (.cells (bytesRow (bs (D)) cp6) 5 fr6)) := (Below.drew (Below.refl _ _)).alloc (Nat.le_refl _) _
      go_wp2_with fail
      refine Calls.mono (R := Told (w6.drew.alloc (.cells (bytesRow (bs (D)) cp6) 5 fr6)) _) hs6 ?_
      rintro ee6 w7 ⟨v6, rfl, own6, nil6, bb6⟩
      simp only at own6 nil6 bb6
      have B7 := C6.trans (bb6.mono zc6)
      have z7 := B7.size
      have kk6 := kb6.trans (bb6.mono kb6.size)
      replace T0 := keep_cell kk6 T0
      replace T1 := keep_cell kk6 T1
      replace T2 := keep_cell kk6 T2
      replace T3 := keep_cell kk6 T3
      replace T4 := keep_cell kk6 T4
      replace lyA := lyA.keep kk6
      replace lyB := lyB.keep kk6
      replace lyC := lyC.keep kk6
      obtain ⟨aaD, ccD, rfl, lyD, _, _⟩ := told_lies own6
      clear own6 nil6 bb6 kk6 kb6 hs6 hcv6 hec6 C6 zc6
      obtain ⟨bD, oD, rfl, xd0, xd1, xd2, xd3, xd4⟩ := lyD.at (i := 0) (by simp)
      simp only [Nat.zero_mul, Nat.add_zero, List.map_cons, List.map_nil, List.getElem_cons_zero, T5.g, List.length_cons, List.length_nil, Nat.zero_add] at xd0 xd1 xd2 xd3 xd4
      obtain ⟨bA, oA, rfl, xa0, xa1, xa2, xa3, xa4⟩ := lyA.at (i := 0) (by simp)
      simp only [Nat.zero_mul, Nat.add_zero, List.map_cons, List.map_nil, List.getElem_cons_zero, T5.g, List.length_cons, List.length_nil, Nat.zero_add] at xa0 xa1 xa2 xa3 xa4
      obtain ⟨bB, oB, rfl, xb0, xb1, xb2, xb3, xb4⟩ := lyB.at (i := 0) (by simp)
      simp only [Nat.zero_mul, Nat.add_zero, List.map_cons, List.map_nil, List.getElem_cons_zero, T5.g, List.length_cons, List.length_nil, Nat.zero_add] at xb0 xb1 xb2 xb3 xb4
      obtain ⟨bC, oC, rfl, xc0, xc1, xc2, xc3, xc4⟩ := lyC.at (i := 0) (by simp)
      simp only [Nat.zero_mul, Nat.add_zero, List.map_cons, List.map_nil, List.getElem_cons_zero, T5.g, List.length_cons, List.length_nil, Nat.zero_add] at xc0 xc1 xc2 xc3 xc4
      go_wp2_with fail
      go_quiet (fail)
      go_wp2
      go_ret
      exact ⟨rfl, below_drewN B7 _⟩
    · have e64 : ((wd : Int) == 64) = false := by rw [beq_eq_false_iff_ne]; omega
      have hf : holdsI wd v = false := by rw [HH.out, decide_eq_false h65, decide_eq_false h64]; rfl
      rw [hf, if_neg (by decide)] at S16 S10 S2
      go_enter Tryd.func12, Tryd.ntmps12
      go_wp2_with fail
      refine (live_any _ he).mono ?_
      rintro e1 w1 ⟨rfl, b1⟩
      have he1 := he.keep b1
      have z1 := b1.size
      go_wp2_with fail
      refine (cW _).mono ?_
      rintro e2 w2 ⟨rfl, rfl⟩
      have T0 : (w2.alloc (.cells #[.int .i64 3, .string ⟨#[]⟩, .int .i64 (wd : Int), .int .u64 (v : Int), .int .i64 0] 32)).cell? ⟨w2.heap.size, 0, none⟩ = some (.int .i64 3) := by simp
      have T1 : (w2.alloc (.cells #[.int .i64 3, .string ⟨#[]⟩, .int .i64 (wd : Int), .int .u64 (v : Int), .int .i64 0] 32)).cell? ⟨w2.heap.size, 1, none⟩ = some (.string ⟨#[]⟩) := by simp
      have T2 : (w2.alloc (.cells #[.int .i64 3, .string ⟨#[]⟩, .int .i64 (wd : Int), .int .u64 (v : Int), .int .i64 0] 32)).cell? ⟨w2.heap.size, 2, none⟩ = some (.int .i64 (wd : Int)) := by simp
      have T3 : (w2.alloc (.cells #[.int .i64 3, .string ⟨#[]⟩, .int .i64 (wd : Int), .int .u64 (v : Int), .int .i64 0] 32)).cell? ⟨w2.heap.size, 3, none⟩ = some (.int .u64 (v : Int)) := by simp
      have T4 : (w2.alloc (.cells #[.int .i64 3, .string ⟨#[]⟩, .int .i64 (wd : Int), .int .u64 (v : Int), .int .i64 0] 32)).cell? ⟨w2.heap.size, 4, none⟩ = some (.int .i64 0) := by simp
      have B3 : Below w.heap.size w (w2.alloc (.cells #[.int .i64 3, .string ⟨#[]⟩, .int .i64 (wd : Int), .int .u64 (v : Int), .int .i64 0] 32)) := b1.alloc z1 _
      have he3 := he.keep B3
      have z3 := B3.size
      go_wp2_with fail
      refine Calls.mono (R := fun e w' => e = .returned (.string (bs H)) ∧ w' = w2.alloc (.cells #[.int .i64 3, .string ⟨#[]⟩, .int .i64 (wd : Int), .int .u64 (v : Int), .int .i64 0] 32)) (cH _) ?_
      rintro e3 w3 ⟨rfl, hw3⟩
      rw [← hw3] at T0 T1 T2 T3 T4 B3 he3 z3
      clear hw3
      obtain ⟨cp3, fr3, hcv3⟩ := conv_new w3 (TH)
      have C3 : Below w.heap.size w (w3.drew.alloc (.cells (bytesRow (bs (TH)) cp3) 5 fr3)) := (Below.drew B3).alloc z3 _
      have hec3 := he.keep C3
      have hs3 := scan_call (some ⟨w3.heap.size, 0, none⟩) cp3 (TH) LENA (w3.drew.alloc (.cells (bytesRow (bs (TH)) cp3) 5 fr3)) hec3 (bytes_new w3.drew (TH) cp3 fr3)
      rw [S16] at hs3
      have zc3 := C3.size
      have kb3 : Below w3.heap.size w3 (w3.drew.alloc (.cells (bytesRow (bs (TH)) cp3) 5 fr3)) := (Below.drew (Below.refl _ _)).alloc (Nat.le_refl _) _
      go_wp2_with fail
      refine Calls.mono (R := Told (w3.drew.alloc (.cells (bytesRow (bs (TH)) cp3) 5 fr3)) _) hs3 ?_
      rintro ee3 w4 ⟨v3, rfl, own3, nil3, bb3⟩
      simp only at own3 nil3 bb3
      have B4 := C3.trans (bb3.mono zc3)
      have z4 := B4.size
      have kk3 := kb3.trans (bb3.mono kb3.size)
      replace T0 := keep_cell kk3 T0
      replace T1 := keep_cell kk3 T1
      replace T2 := keep_cell kk3 T2
      replace T3 := keep_cell kk3 T3
      replace T4 := keep_cell kk3 T4
      obtain rfl := nil3 (by first | rfl | trivial)
      clear own3 nil3 bb3 kk3 kb3 hs3 hcv3 hec3 C3 zc3
      go_wp2_with fail
      refine (cD w4).mono ?_
      rintro e4x wx ⟨rfl, hwx⟩
      subst wx
      obtain ⟨cp4, fr4, hcv4⟩ := conv_new w4 (TD)
      have C4 : Below w.heap.size w (w4.drew.alloc (.cells (bytesRow (bs (TD)) cp4) 5 fr4)) := (Below.drew B4).alloc z4 _
      have hec4 := he.keep C4
      have hs4 := scan_call (some ⟨w4.heap.size, 0, none⟩) cp4 (TD) LENB (w4.drew.alloc (.cells (bytesRow (bs (TD)) cp4) 5 fr4)) hec4 (bytes_new w4.drew (TD) cp4 fr4)
      rw [S10] at hs4
      have zc4 := C4.size
      have kb4 : Below w4.heap.size w4 (w4.drew.alloc (.cells (bytesRow (bs (TD)) cp4) 5 fr4)) := (Below.drew (Below.refl _ _)).alloc (Nat.le_refl _) _
      go_wp2_with fail
      refine Calls.mono (R := Told (w4.drew.alloc (.cells (bytesRow (bs (TD)) cp4) 5 fr4)) _) hs4 ?_
      rintro ee4 w5 ⟨v4, rfl, own4, nil4, bb4⟩
      simp only at own4 nil4 bb4
      have B5 := C4.trans (bb4.mono zc4)
      have z5 := B5.size
      have kk4 := kb4.trans (bb4.mono kb4.size)
      replace T0 := keep_cell kk4 T0
      replace T1 := keep_cell kk4 T1
      replace T2 := keep_cell kk4 T2
      replace T3 := keep_cell kk4 T3
      replace T4 := keep_cell kk4 T4
      obtain rfl := nil4 (by first | rfl | trivial)
      clear own4 nil4 bb4 kk4 kb4 hs4 hcv4 hec4 C4 zc4
      go_wp2_with fail
      refine (cB w5).mono ?_
      rintro e5x wx ⟨rfl, hwx⟩
      subst wx
      obtain ⟨cp5, fr5, hcv5⟩ := conv_new w5 (TB)
      have C5 : Below w.heap.size w (w5.drew.alloc (.cells (bytesRow (bs (TB)) cp5) 5 fr5)) := (Below.drew B5).alloc z5 _
      have hec5 := he.keep C5
      have hs5 := scan_call (some ⟨w5.heap.size, 0, none⟩) cp5 (TB) LENC (w5.drew.alloc (.cells (bytesRow (bs (TB)) cp5) 5 fr5)) hec5 (bytes_new w5.drew (TB) cp5 fr5)
      rw [S2] at hs5
      have zc5 := C5.size
      have kb5 : Below w5.heap.size w5 (w5.drew.alloc (.cells (bytesRow (bs (TB)) cp5) 5 fr5)) := (Below.drew (Below.refl _ _)).alloc (Nat.le_refl _) _
      go_wp2_with fail
      refine Calls.mono (R := Told (w5.drew.alloc (.cells (bytesRow (bs (TB)) cp5) 5 fr5)) _) hs5 ?_
      rintro ee5 w6 ⟨v5, rfl, own5, nil5, bb5⟩
      simp only at own5 nil5 bb5
      have B6 := C5.trans (bb5.mono zc5)
      have z6 := B6.size
      have kk5 := kb5.trans (bb5.mono kb5.size)
      replace T0 := keep_cell kk5 T0
      replace T1 := keep_cell kk5 T1
      replace T2 := keep_cell kk5 T2
      replace T3 := keep_cell kk5 T3
      replace T4 := keep_cell kk5 T4
      obtain rfl := nil5 (by first | rfl | trivial)
      clear own5 nil5 bb5 kk5 kb5 hs5 hcv5 hec5 C5 zc5
      go_wp2_with fail
      refine (cD w6).mono ?_
      rintro e6x wx ⟨rfl, hwx⟩
      subst wx
      obtain ⟨cp6, fr6, hcv6⟩ := conv_new w6 (D)
      have C6 : Below w.heap.size w (w6.drew.alloc (.cells (bytesRow (bs (D)) cp6) 5 fr6)) := (Below.drew B6).alloc z6 _
      have hec6 := he.keep C6
      have hs6 := scan_call (some ⟨w6.heap.size, 0, none⟩) cp6 (D) LEND (w6.drew.alloc (.cells (bytesRow (bs (D)) cp6) 5 fr6)) hec6 (bytes_new w6.drew (D) cp6 fr6)
      rw [SP] at hs6
      have zc6 := C6.size
      have kb6 : Below w6.heap.size w6 (w6.drew.alloc (.cells (bytesRow (bs (D)) cp6) 5 fr6)) := (Below.drew (Below.refl _ _)).alloc (Nat.le_refl _) _
      go_wp2_with fail
      refine Calls.mono (R := Told (w6.drew.alloc (.cells (bytesRow (bs (D)) cp6) 5 fr6)) _) hs6 ?_
      rintro ee6 w7 ⟨v6, rfl, own6, nil6, bb6⟩
      simp only at own6 nil6 bb6
      have B7 := C6.trans (bb6.mono zc6)
      have z7 := B7.size
      have kk6 := kb6.trans (bb6.mono kb6.size)
      replace T0 := keep_cell kk6 T0
      replace T1 := keep_cell kk6 T1
      replace T2 := keep_cell kk6 T2
      replace T3 := keep_cell kk6 T3
      replace T4 := keep_cell kk6 T4
      obtain ⟨aaD, ccD, rfl, lyD, _, _⟩ := told_lies own6
      clear own6 nil6 bb6 kk6 kb6 hs6 hcv6 hec6 C6 zc6
      obtain ⟨bD, oD, rfl, xd0, xd1, xd2, xd3, xd4⟩ := lyD.at (i := 0) (by simp)
      simp only [Nat.zero_mul, Nat.add_zero, List.map_cons, List.map_nil, List.getElem_cons_zero, T5.g, List.length_cons, List.length_nil, Nat.zero_add] at xd0 xd1 xd2 xd3 xd4
      go_wp2
      go_ret
      exact ⟨rfl, B7⟩
set_option maxHeartbeats 2000000 in
set_option maxRecDepth 100000 in
theorem walk (x y n : Int) (wy : (Lit.int .u64 y).wf = true) (w : World) (he : Env2 w) : Calls Tryd.prog 12 #[.int .i64 x, .int .u64 y, .int .i64 n] w fun e w' => e = .returned (.bool true) ∧ Below w.heap.size w w' := by
  by_cases h1 : x < 1
  · have g1 : decide (x < 1) = true := by simpa using h1
    go_enter Tryd.func12, Tryd.ntmps12
    go_wp2_with fail
    refine (live_any _ he).mono ?_
    rintro e1 w1 ⟨rfl, b1⟩
    have he1 := he.keep b1
    have z1 := b1.size
    go_wp2
    go_ret
    exact ⟨rfl, b1⟩
  · have g1 : decide (x < 1) = false := by simpa using h1
    by_cases h2 : 70 < x
    · have g2 : decide (70 < x) = true := by simpa using h2
      go_enter Tryd.func12, Tryd.ntmps12
      go_wp2_with fail
      refine (live_any _ he).mono ?_
      rintro e1 w1 ⟨rfl, b1⟩
      have he1 := he.keep b1
      have z1 := b1.size
      go_wp2
      go_ret
      exact ⟨rfl, b1⟩
    · have g2 : decide (70 < x) = false := by simpa using h2
      by_cases h3 : n < 1
      · have g3 : decide (n < 1) = true := by simpa using h3
        go_enter Tryd.func12, Tryd.ntmps12
        go_wp2_with fail
        refine (live_any _ he).mono ?_
        rintro e1 w1 ⟨rfl, b1⟩
        have he1 := he.keep b1
        have z1 := b1.size
        go_wp2
        go_ret
        exact ⟨rfl, b1⟩
      · have g3 : decide (n < 1) = false := by simpa using h3
        by_cases h4 : 80 < n
        · have g4 : decide (80 < n) = true := by simpa using h4
          go_enter Tryd.func12, Tryd.ntmps12
          go_wp2_with fail
          refine (live_any _ he).mono ?_
          rintro e1 w1 ⟨rfl, b1⟩
          have he1 := he.keep b1
          have z1 := b1.size
          go_wp2
          go_ret
          exact ⟨rfl, b1⟩
        · have hy := bounds_u64 wy
          obtain ⟨wd, rfl⟩ : ∃ wd : Nat, x = wd := ⟨x.toNat, by omega⟩
          obtain ⟨v, rfl⟩ : ∃ v : Nat, y = v := ⟨y.toNat, by omega⟩
          exact walk_in wd v (by omega) n (by omega) (by omega) (by omega) (by omega) w he

/-! ### The row's step -/
set_option maxRecDepth 100000 in
theorem lifted (os : Os) (started : os.Started) (H : Type) (enc : TypeId × Value → H) :
    ReturnsInHanded {} Tryd.checked os 12 .any (fun w args => (Rows.scanNumbersSpec.pre enc Tryd.prog Tryd.f12 [] false w args ∧ laidMetH Tryd.prog LD w) ∧ sizedMet enc Tryd.prog Tryd.f12 (OpenSpec.ofChange Rows.scanNumbersSpec) false w args) (Rows.scanNumbersSpec.post enc Tryd.prog Tryd.f12 false true false false) := by
  refine returnsLaid (C := Tryd.checked) own started (by kernel_rfl) Tryd.func12
    (ChangeSpec.witness_shaped (enc := enc) (C := Tryd.checked) (os := os) (X := fun w _ => laidMetH Tryd.prog LD w) false (World.doorLaid Tryd.prog 29 os) #[.int .i64 0, .int .u64 0, .int .i64 0] 8 rfl (World.shaped_of_RefB (by kernel_rfl) (by kernel_rfl)) (by kernel_rfl) (by kernel_rfl) (by kernel_rfl) (door_met os _)) ?_
  intro W base args ds gs before hval0 hW hwt0 hL hsh
  have hval : ∀ (j : Nat) t v, Tryd.f12.params[j]? = some t → args[j]? = some v → Value.okWide Tryd.prog W .any base t v := hval0
  have hW' := hW
  obtain ⟨p, q, hA0, hV, rfl, hfz, hnd⟩ := hW
  have hA : DataW.TrodAll enc Tryd.prog W 0 (fun _ => true) true Tryd.f12.params.toList args.toList ds p := hA0
  rw [Tryd.params12] at hA hval
  obtain ⟨v0, vs0, d0, ds0, p0, q0, hargs, rfl, rfl, h0, r0⟩ := trodAll_cons hA
  obtain ⟨v1, vs1, d1, ds1, p1, q1, rfl, rfl, rfl, h1, r1⟩ := trodAll_cons r0
  obtain ⟨v2, vs2, d2, ds2, p2, q2, rfl, rfl, rfl, h2, r2⟩ := trodAll_cons r1
  obtain ⟨rfl, rfl, rfl⟩ := trodAll_nil r2
  obtain rfl : args = #[v0, v1, v2] := by cases args; simp_all
  obtain ⟨rfl, rfl⟩ := trodVars_none hV
  have he := env_of hL hsh
  have k0 : ∀ (W' : World), Below W.heap.size W W' → DataW.Trod enc Tryd.prog W' 0 (fun b => decide (b < W.heap.size)) true 3 v0 d0 p0 := fun W' hn => Below.trod laidOut (by kernel_rfl) (of_decide_eq_true (by kernel_rfl)) h0 hn (fun x hx => by simpa using hW'.lt x (by simp [hx]))
  have k1 : ∀ (W' : World), Below W.heap.size W W' → DataW.Trod enc Tryd.prog W' 0 (fun b => decide (b < W.heap.size)) true 30 v1 d1 p1 := fun W' hn => Below.trod laidOut (by kernel_rfl) (of_decide_eq_true (by kernel_rfl)) h1 hn (fun x hx => by simpa using hW'.lt x (by simp [hx]))
  have k2 : ∀ (W' : World), Below W.heap.size W W' → DataW.Trod enc Tryd.prog W' 0 (fun b => decide (b < W.heap.size)) true 3 v2 d2 p2 := fun W' hn => Below.trod laidOut (by kernel_rfl) (of_decide_eq_true (by kernel_rfl)) h2 hn (fun x hx => by simpa using hW'.lt x (by simp [hx]))
  obtain ⟨x0, rfl, _, _, wf0⟩ := open_int Tryd.underlying3 (hval 0 3 v0 rfl rfl) h0
  obtain ⟨x1, rfl, _, _, wf1⟩ := open_int Tryd.underlying30 (hval 1 30 v1 rfl rfl) h1
  obtain ⟨x2, rfl, _, _, wf2⟩ := open_int Tryd.underlying3 (hval 2 3 v2 rfl rfl) h2
  clear hA0 hval0
  simp only [List.append_nil] at hW'
  refine (walk x0 x1 x2 wf1 W he).mono fun e W' ⟨hr, bel⟩ => ?_
  subst hr
  exact ⟨_, rfl, _, _, _, [], _, [], hW', trodAll_mk1 (shut_bool Tryd.underlying4 _), (trodAll_cons_mk (k0 _ bel) (trodAll_cons_mk (k1 _ bel) (trodAll_cons_mk (k2 _ bel) trodAll_mk0))), rfl, bel.frame _, fun h => by cases h⟩

theorem over : Rows.ScanNumbersSaid :=
  OpenClaim.holds_of_wide 12 Tryd.f12 rfl rfl rfl rfl rfl rfl rfl ⟨rfl, rfl, rfl, rfl, rfl⟩ rfl rfl rfl rfl rfl (by kernel_rfl) Tryd.func12 (by kernel_rfl)
    (of_decide_eq_true (by kernel_rfl)) (by unfold Func.isWrapper; first | (rw [if_pos (by decide +kernel)]; kernel_rfl) | (rw [if_neg (by decide +kernel)]; exact ⟨rfl, rfl⟩))
    (fun os started H enc _ => lifted os started H enc)

/-- The given statement. -/
theorem proved : Rows.ScanNumbersCardSaid :=
  Claim7.holds_tied_plain_at .later [] [.data, .data, .data, .data] true _ false
    over (fun _ h => by cases h) (by kernel_rfl) (fun _ h => by cases h) scanNumbers_row_tie rfl ⟨rfl, rfl⟩ (by kernel_rfl) rfl
    (fun f fn hf hfn => by
      obtain rfl : f = 12 := Option.some.inj ((show Tryd.prog.funcNamed "filigree/filigreelaw02.ScanNumbers" = some 12 by kernel_rfl).symm.trans hf) |>.symm
      obtain rfl : fn = Tryd.f12 := (Option.some.inj (Tryd.func12.symm.trans hfn)).symm
      exact ⟨by kernel_rfl, fun j t ht => by
        rw [Tryd.params12] at ht
        have hm : t ∈ [3, 30, 3] := by simpa using Array.mem_of_getElem? ht
        have hall : ([3, 30, 3].all fun u => !Tryd.prog.wantsStandIn u) = true := by kernel_rfl
        exact (show Tryd.prog.wantsStandIn t = false by simpa using List.all_eq_true.1 hall t hm)⟩)
    (by kernel_rfl)
#print axioms proved
end Go.Proofs.YtoogncfpoecckaaDoor.scanNumbers
