/-
  The law of numbers: digits to any base; numbers as texts; two tokens that are the same.
-/
import Derived.Test.YtoogncfpoecckaaDoorScLw
import Derived.Deep.LoopGhost
import Derived.BigQuiet
namespace Go.Proofs.YtoogncfpoecckaaDoor
open Go Go.RowKit
set_option linter.unusedVariables false
set_option linter.unusedSimpArgs false
open Go.Sort

section
attribute [local go_sem] run_eql_struct run_neq_struct tok_held tok_guard
theorem tok_same (W : Int) (V : Nat) (w : World) : (binOp .eql 32 (.agg #[.int .i64 3, .string (bs []), .int .i64 W, .int .u64 (V : Int), .int .i64 0]) (.agg #[.int .i64 3, .string ⟨#[]⟩, .int .i64 W, .int .u64 (V : Int), .int .i64 0])).run Tryd.prog w = .ok (.bool true) w := by
  show (binOp .eql 32 (.agg #[.int .i64 3, .string (bs []), .int .i64 W, .int .u64 (V : Int), .int .i64 0]) (.agg #[.int .i64 3, .string (bs []), .int .i64 W, .int .u64 (V : Int), .int .i64 0])).run Tryd.prog w = .ok (.bool true) w
  simp [go_sem]
theorem tok_same2 (W : Int) (V : Nat) (w : World) : (binOp .eql 32 (.agg #[.int .i64 3, .string ⟨#[]⟩, .int .i64 W, .int .u64 (V : Int), .int .i64 0]) (.agg #[.int .i64 3, .string ⟨#[]⟩, .int .i64 W, .int .u64 (V : Int), .int .i64 0])).run Tryd.prog w = .ok (.bool true) w := tok_same W V w
theorem tok_nsame (W : Int) (V : Nat) (w : World) : (binOp .neq 32 (.agg #[.int .i64 3, .string (bs []), .int .i64 W, .int .u64 (V : Int), .int .i64 0]) (.agg #[.int .i64 3, .string ⟨#[]⟩, .int .i64 W, .int .u64 (V : Int), .int .i64 0])).run Tryd.prog w = .ok (.bool false) w := by
  show (binOp .neq 32 (.agg #[.int .i64 3, .string (bs []), .int .i64 W, .int .u64 (V : Int), .int .i64 0]) (.agg #[.int .i64 3, .string (bs []), .int .i64 W, .int .u64 (V : Int), .int .i64 0])).run Tryd.prog w = .ok (.bool false) w
  simp [go_sem]
theorem tok_nsame2 (W : Int) (V : Nat) (w : World) : (binOp .neq 32 (.agg #[.int .i64 3, .string ⟨#[]⟩, .int .i64 W, .int .u64 (V : Int), .int .i64 0]) (.agg #[.int .i64 3, .string ⟨#[]⟩, .int .i64 W, .int .u64 (V : Int), .int .i64 0])).run Tryd.prog w = .ok (.bool false) w := tok_nsame W V w
end
theorem up_slice (d : Nat) (h : d < 16) : ByteArray.extract { data := #[48, 49, 50, 51, 52, 53, 54, 55, 56, 57, 65, 66, 67, 68, 69, 70] } d (d + 1) = bs [upc d] := by
  have : d = 0 ∨ d = 1 ∨ d = 2 ∨ d = 3 ∨ d = 4 ∨ d = 5 ∨ d = 6 ∨ d = 7 ∨ d = 8 ∨ d = 9 ∨ d = 10 ∨ d = 11 ∨ d = 12 ∨ d = 13 ∨ d = 14 ∨ d = 15 := by omega
  rcases this with rfl | rfl | rfl | rfl | rfl | rfl | rfl | rfl | rfl | rfl | rfl | rfl | rfl | rfl | rfl | rfl <;> rfl
theorem up_size : ByteArray.size { data := #[48, 49, 50, 51, 52, 53, 54, 55, 56, 57, 65, 66, 67, 68, 69, 70] } = 16 := rfl
set_option maxHeartbeats 4000000 in
set_option maxRecDepth 100000 in
theorem digits_any (b : Nat) (hb : 2 ≤ b) (hb2 : b ≤ 16) (F : Nat) (hF : F ≤ 200) : ∀ (v : Nat) (n : Int) (hv : v < 18446744073709551616) (hvF : v < b ^ F) (hn : n ≤ F) (hn0 : -100 ≤ n) (w : World), Calls Tryd.prog 25 #[.int .u64 (v : Int), .int .u64 (b : Int), .int .i64 n] w fun e w' => e = .returned (.string (bs (digsF F b v n []))) ∧ w' = w := by
  intro v0 n0 hv0 hvF hn hn0 w
  obtain ⟨R, hR⟩ : ∃ R, digsF F b v0 n0 [] = R := ⟨_, rfl⟩
  have HR := Lib.hid hR
  have HV := Lib.hid hv0
  rw [hR]
  clear hR hv0
  go_enter Tryd.func25, Tryd.ntmps25
  go_wp2
  go_loopg [0, 2, 7] F (fun g x y s wr => ∃ (v : Nat) (n : Int) (acc : Bytes), x = .int .u64 (v : Int) ∧ y = .int .i64 n ∧ s = .string (bs acc) ∧ digsF g b v n acc = R ∧ v ≤ v0 ∧ v < b ^ g ∧ n ≤ g ∧ n0 - F ≤ n - g ∧ g ≤ F ∧ acc.length + g ≤ F ∧ wr = w)
  case atStart => exact ⟨v0, n0, [], rfl, rfl, rfl, HR.out, Nat.le_refl _, hvF, hn, by omega, by omega, by simp, rfl⟩
  case round =>
    obtain ⟨v, n, acc, rfl, rfl, rfl, hd, hvv, hvg, hng, hnn, hg, hac, rfl⟩ := hrel
    have HD := Lib.hid hd
    have HVG := Lib.hid hvg
    have HVV : Hid (v < 18446744073709551616) := Lib.hid (by have := HV.out; omega)
    clear hd hvg
    by_cases hgo : 0 < v ∨ 0 < n
    · cases gk with
      | zero =>
        exfalso
        have : v = 0 := by have := HVG.out; simpa using this
        omega
      | succ gg =>
        have HN : Hid (digsF gg b (v / b) (n - 1) (upc (v % b) :: acc) = R) := Lib.hid (by rw [← HD.out, digsF, if_pos hgo])
        have HG2 : Hid (v / b < b ^ gg) := Lib.hid (by rw [Nat.div_lt_iff_lt_mul (by omega)]; have := HVG.out; rw [Nat.pow_succ] at this; exact this)
        have HL : Hid (v / b ≤ v) := Lib.hid (Nat.div_le_self v b)
        have hm : v % b < b := Nat.mod_lt _ (by omega)
        have hdm : Hid (((v : Int) % (b : Int) = ((v % b : Nat) : Int)) ∧ ((v : Int) / (b : Int) = ((v / b : Nat) : Int))) := Lib.hid ⟨by rw [Int.natCast_emod], by rw [Int.natCast_ediv]⟩
        obtain ⟨dd, hdd⟩ : ∃ dd, v % b = dd := ⟨_, rfl⟩
        obtain ⟨q, hq⟩ : ∃ q, v / b = q := ⟨_, rfl⟩
        rw [hdd] at hm hdm HN
        rw [hq] at hdm HN HG2 HL
        have w1 : IntKind.u64.wrap ((v : Int) % (b : Int)) = (dd : Int) := by rw [hdm.out.1]; exact IntWalk.u64_in _ (by omega)
        have w1b : (v : Int) % (b : Int) = (dd : Int) := hdm.out.1
        have w2 : IntKind.u64.wrap ((v : Int) / (b : Int)) = (q : Int) := by rw [hdm.out.2]; have := HL.out; have := HVV.out; exact IntWalk.u64_in _ (by omega)
        have w3 : IntKind.u64.wrap ((dd : Int) + 1) = (dd : Int) + 1 := IntWalk.u64_in _ (by omega)
        have w4 : IntKind.i64.wrap (n - 1) = n - 1 := IntWalk.i64_in _ (by omega)
        have nz : (b : Int) ≠ 0 := by omega
        have us := up_slice dd (by omega)
        have uz := up_size
        have cat : bs [upc dd] ++ bs acc = bs (upc dd :: acc) := by rw [bs_append]; rfl
        have i1 : (0 : Int) ≤ (dd : Int) := by omega
        have i2 : (dd : Int) ≤ (dd : Int) + 1 := by omega
        have i3 : (dd : Int) + 1 ≤ 16 := by omega
        have i4 : dd + 1 ≤ 16 := by omega
        have i5 : ((dd : Int) + 1).toNat = dd + 1 := by omega
        clear hdd hq
        by_cases hv1 : 0 < v
        · have g1 : decide ((0 : Int) < (v : Int)) = true := by rw [decide_eq_true_eq]; omega
          have g2 : decide (0 < v) = true := by rw [decide_eq_true_eq]; omega
          go_wp2
          go_roundg gg
          case rel => exact ⟨q, n - 1, upc dd :: acc, rfl, rfl, rfl, HN.out, by have := HL.out; omega, HG2.out, by omega, by omega, by omega, by simp only [List.length_cons]; omega, rfl⟩
          case measure => omega
        · have g1 : decide ((0 : Int) < (v : Int)) = false := by rw [decide_eq_false_iff_not]; omega
          have g2 : decide (0 < v) = false := by rw [decide_eq_false_iff_not]; omega
          have g3 : decide (0 < n) = true := by rw [decide_eq_true_eq]; omega
          go_wp2
          go_roundg gg
          case rel => exact ⟨q, n - 1, upc dd :: acc, rfl, rfl, rfl, HN.out, by have := HL.out; omega, HG2.out, by omega, by omega, by omega, by simp only [List.length_cons]; omega, rfl⟩
          case measure => omega
    · have g1 : decide ((0 : Int) < (v : Int)) = false := by rw [decide_eq_false_iff_not]; omega
      have g2 : decide (0 < v) = false := by rw [decide_eq_false_iff_not]; omega
      have g3 : decide (0 < n) = false := by rw [decide_eq_false_iff_not]; omega
      have HE : Hid (R = acc) := Lib.hid (by
        rw [← HD.out]
        cases gk with
        | zero => rfl
        | succ gg => rw [digsF, if_neg hgo])
      clear HD
      go_wp2
      go_ret
      have hee := HE.out
      subst hee
      exact ⟨rfl, rfl⟩
/-- A number with a width, as a text. -/
theorem lit_scan (W H : Bytes) (c : UInt8) (b wd v : Nat) (h0 : W ≠ []) (hW : W.all digit = true) (hw : num 10 W = wd) (hH : H ≠ []) (hin : H.all inName = true) (hb : (rbS (c :: H)).1 = b ∧ (rbS (c :: H)).2.2.1 = H ∧ (rbS (c :: H)).2.2.2 = true) (hD : allD b H = true) (hv : num b H = v) (hwd : wd ≤ 70) (hvM : v < 18446744073709551616) :
    scanS (W ++ 39 :: c :: H) = if holdsI wd v = true then ([⟨3, [], wd, v, 0⟩], 0, 0) else ([], 0, 22) := by
  have hne : W ++ 39 :: c :: H ≠ [] := by simp
  obtain ⟨ht, hs⟩ := wide_lit W H c b h0 hW hH hin hb hD (by omega) (by omega)
  rw [hw, hv] at ht
  by_cases h64 : 64 < wd
  · rw [if_pos h64] at ht
    have : holdsI wd v = false := by
      unfold holdsI
      have : decide ((wd : Int) ≤ 64) = false := by rw [decide_eq_false_iff_not]; omega
      rw [this]; simp
    rw [this, if_neg (by decide), scan_bad_first _ hne hs (by rw [ht]; decide), ht]; rfl
  · rw [if_neg h64] at ht
    by_cases hh : holdsI wd v = true
    · rw [if_neg (by rw [hh]; decide)] at ht
      rw [if_pos hh, scan_single _ _ hne ht rfl (by simp only [List.length_append, List.length_cons]; omega)]
      rfl
    · have hf : holdsI wd v = false := by simpa using hh
      rw [if_pos hf] at ht
      rw [if_neg hh, scan_bad_first _ hne hs (by rw [ht]; decide), ht]; rfl
theorem plain_scan (D : Bytes) (v : Nat) (h0 : D ≠ []) (hd : D.all digit = true) (hv : num 10 D = v) (hvM : v < 18446744073709551616) : scanS D = ([⟨3, [], 0, v, 0⟩], 0, 0) := by
  have ht := plain_lit D h0 hd (by omega)
  rw [hv] at ht
  rw [scan_single D _ h0 ht rfl rfl]; rfl
end Go.Proofs.YtoogncfpoecckaaDoor
