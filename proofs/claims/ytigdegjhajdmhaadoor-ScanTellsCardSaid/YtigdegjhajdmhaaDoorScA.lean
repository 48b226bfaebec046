/-
  Contracts of what asks of one byte.
-/
import Derived.Test.YtigdegjhajdmhaaDoorScP
import Derived.Test.YtigdegjhajdmhaaDoorProg
import Derived.WalkSmall
import Derived.Lib.Hide
import Derived.Below
namespace Go.Proofs.YtigdegjhajdmhaaDoor
open Go Go.RowKit
theorem ret_b {a b : Bool} (h : a = b) : Ending.returned (.bool a) = .returned (.bool b) := by rw [h]
theorem ret_n {k : IntKind} {a b : Int} (h : a = b) : Ending.returned (.int k a) = .returned (.int k b) := by rw [h]

theorem begins_i (n : Int) (w : World) : Calls Tryd.prog 25 #[.int .u8 n] w fun e w' => e = .returned (.bool (letterI n)) ∧ w = w' := by
  by_cases g65 : n < 65
  · skip
    have t0 : decide (97 ≤ n) = false := by simp; omega
    have t1 : decide (n ≤ 122) = true := by simp; omega
    have t2 : decide (65 ≤ n) = false := by simp; omega
    have t3 : decide (n ≤ 90) = true := by simp; omega
    have t4 : (n == 95) = false := by simp; omega
    go_enter Tryd.func25, Tryd.ntmps25
    go_wp2
    go_ret
    exact ⟨ret_b (by simp [letterI, *]), rfl⟩
  · skip
    by_cases g91 : n < 91
    · skip
      have t0 : decide (97 ≤ n) = false := by simp; omega
      have t1 : decide (n ≤ 122) = true := by simp; omega
      have t2 : decide (65 ≤ n) = true := by simp; omega
      have t3 : decide (n ≤ 90) = true := by simp; omega
      have t4 : (n == 95) = false := by simp; omega
      go_enter Tryd.func25, Tryd.ntmps25
      go_wp2
      go_ret
      exact ⟨ret_b (by simp [letterI, *]), rfl⟩
    · skip
      by_cases g95 : n < 95
      · skip
        have t0 : decide (97 ≤ n) = false := by simp; omega
        have t1 : decide (n ≤ 122) = true := by simp; omega
        have t2 : decide (65 ≤ n) = true := by simp; omega
        have t3 : decide (n ≤ 90) = false := by simp; omega
        have t4 : (n == 95) = false := by simp; omega
        go_enter Tryd.func25, Tryd.ntmps25
        go_wp2
        go_ret
        exact ⟨ret_b (by simp [letterI, *]), rfl⟩
      · skip
        by_cases g96 : n < 96
        · skip
          have en : n = 95 := by omega
          subst en
          go_enter Tryd.func25, Tryd.ntmps25
          go_wp2
          go_ret
          exact ⟨ret_b (by simp [letterI, *]), rfl⟩
        · skip
          by_cases g97 : n < 97
          · skip
            have en : n = 96 := by omega
            subst en
            go_enter Tryd.func25, Tryd.ntmps25
            go_wp2
            go_ret
            exact ⟨ret_b (by simp [letterI, *]), rfl⟩
          · skip
            by_cases g123 : n < 123
            · skip
              have t0 : decide (97 ≤ n) = true := by simp; omega
              have t1 : decide (n ≤ 122) = true := by simp; omega
              have t2 : decide (65 ≤ n) = true := by simp; omega
              have t3 : decide (n ≤ 90) = false := by simp; omega
              have t4 : (n == 95) = false := by simp; omega
              go_enter Tryd.func25, Tryd.ntmps25
              go_wp2
              go_ret
              exact ⟨ret_b (by simp [letterI, *]), rfl⟩
            · skip
              have t0 : decide (97 ≤ n) = true := by simp; omega
              have t1 : decide (n ≤ 122) = false := by simp; omega
              have t2 : decide (65 ≤ n) = true := by simp; omega
              have t3 : decide (n ≤ 90) = false := by simp; omega
              have t4 : (n == 95) = false := by simp; omega
              go_enter Tryd.func25, Tryd.ntmps25
              go_wp2
              go_ret
              exact ⟨ret_b (by simp [letterI, *]), rfl⟩

theorem digit_i (n : Int) (w : World) : Calls Tryd.prog 27 #[.int .u8 n] w fun e w' => e = .returned (.bool (digitI n)) ∧ w = w' := by
  by_cases g48 : n < 48
  · skip
    have t0 : decide (48 ≤ n) = false := by simp; omega
    have t1 : decide (n ≤ 57) = true := by simp; omega
    go_enter Tryd.func27, Tryd.ntmps27
    go_wp2
    go_ret
    exact ⟨ret_b (by simp [digitI, *]), rfl⟩
  · skip
    by_cases g58 : n < 58
    · skip
      have t0 : decide (48 ≤ n) = true := by simp; omega
      have t1 : decide (n ≤ 57) = true := by simp; omega
      go_enter Tryd.func27, Tryd.ntmps27
      go_wp2
      go_ret
      exact ⟨ret_b (by simp [digitI, *]), rfl⟩
    · skip
      have t0 : decide (48 ≤ n) = true := by simp; omega
      have t1 : decide (n ≤ 57) = false := by simp; omega
      go_enter Tryd.func27, Tryd.ntmps27
      go_wp2
      go_ret
      exact ⟨ret_b (by simp [digitI, *]), rfl⟩

theorem blank_i (n : Int) (w : World) : Calls Tryd.prog 22 #[.int .u8 n] w fun e w' => e = .returned (.bool (blankI n)) ∧ w = w' := by
  by_cases g9 : n < 9
  · skip
    have t0 : (n == 32) = false := by simp; omega
    have t1 : (n == 9) = false := by simp; omega
    have t2 : (n == 10) = false := by simp; omega
    have t3 : (n == 13) = false := by simp; omega
    go_enter Tryd.func22, Tryd.ntmps22
    go_wp2
    go_ret
    exact ⟨ret_b (by simp [blankI, *]), rfl⟩
  · skip
    by_cases g10 : n < 10
    · skip
      have en : n = 9 := by omega
      subst en
      go_enter Tryd.func22, Tryd.ntmps22
      go_wp2
      go_ret
      exact ⟨ret_b (by simp [blankI, *]), rfl⟩
    · skip
      by_cases g11 : n < 11
      · skip
        have en : n = 10 := by omega
        subst en
        go_enter Tryd.func22, Tryd.ntmps22
        go_wp2
        go_ret
        exact ⟨ret_b (by simp [blankI, *]), rfl⟩
      · skip
        by_cases g13 : n < 13
        · skip
          have t0 : (n == 32) = false := by simp; omega
          have t1 : (n == 9) = false := by simp; omega
          have t2 : (n == 10) = false := by simp; omega
          have t3 : (n == 13) = false := by simp; omega
          go_enter Tryd.func22, Tryd.ntmps22
          go_wp2
          go_ret
          exact ⟨ret_b (by simp [blankI, *]), rfl⟩
        · skip
          by_cases g14 : n < 14
          · skip
            have en : n = 13 := by omega
            subst en
            go_enter Tryd.func22, Tryd.ntmps22
            go_wp2
            go_ret
            exact ⟨ret_b (by simp [blankI, *]), rfl⟩
          · skip
            by_cases g32 : n < 32
            · skip
              have t0 : (n == 32) = false := by simp; omega
              have t1 : (n == 9) = false := by simp; omega
              have t2 : (n == 10) = false := by simp; omega
              have t3 : (n == 13) = false := by simp; omega
              go_enter Tryd.func22, Tryd.ntmps22
              go_wp2
              go_ret
              exact ⟨ret_b (by simp [blankI, *]), rfl⟩
            · skip
              by_cases g33 : n < 33
              · skip
                have en : n = 32 := by omega
                subst en
                go_enter Tryd.func22, Tryd.ntmps22
                go_wp2
                go_ret
                exact ⟨ret_b (by simp [blankI, *]), rfl⟩
              · skip
                have t0 : (n == 32) = false := by simp; omega
                have t1 : (n == 9) = false := by simp; omega
                have t2 : (n == 10) = false := by simp; omega
                have t3 : (n == 13) = false := by simp; omega
                go_enter Tryd.func22, Tryd.ntmps22
                go_wp2
                go_ret
                exact ⟨ret_b (by simp [blankI, *]), rfl⟩

theorem refblank_i (n : Int) (w : World) : Calls Tryd.prog 13 #[.int .u8 n] w fun e w' => e = .returned (.bool (blankI n)) ∧ w = w' := by
  by_cases g9 : n < 9
  · skip
    have t0 : (n == 32) = false := by simp; omega
    have t1 : (n == 9) = false := by simp; omega
    have t2 : (n == 10) = false := by simp; omega
    have t3 : (n == 13) = false := by simp; omega
    go_enter Tryd.func13, Tryd.ntmps13
    go_wp2
    go_ret
    exact ⟨ret_b (by simp [blankI, *]), rfl⟩
  · skip
    by_cases g10 : n < 10
    · skip
      have en : n = 9 := by omega
      subst en
      go_enter Tryd.func13, Tryd.ntmps13
      go_wp2
      go_ret
      exact ⟨ret_b (by simp [blankI, *]), rfl⟩
    · skip
      by_cases g11 : n < 11
      · skip
        have en : n = 10 := by omega
        subst en
        go_enter Tryd.func13, Tryd.ntmps13
        go_wp2
        go_ret
        exact ⟨ret_b (by simp [blankI, *]), rfl⟩
      · skip
        by_cases g13 : n < 13
        · skip
          have t0 : (n == 32) = false := by simp; omega
          have t1 : (n == 9) = false := by simp; omega
          have t2 : (n == 10) = false := by simp; omega
          have t3 : (n == 13) = false := by simp; omega
          go_enter Tryd.func13, Tryd.ntmps13
          go_wp2
          go_ret
          exact ⟨ret_b (by simp [blankI, *]), rfl⟩
        · skip
          by_cases g14 : n < 14
          · skip
            have en : n = 13 := by omega
            subst en
            go_enter Tryd.func13, Tryd.ntmps13
            go_wp2
            go_ret
            exact ⟨ret_b (by simp [blankI, *]), rfl⟩
          · skip
            by_cases g32 : n < 32
            · skip
              have t0 : (n == 32) = false := by simp; omega
              have t1 : (n == 9) = false := by simp; omega
              have t2 : (n == 10) = false := by simp; omega
              have t3 : (n == 13) = false := by simp; omega
              go_enter Tryd.func13, Tryd.ntmps13
              go_wp2
              go_ret
              exact ⟨ret_b (by simp [blankI, *]), rfl⟩
            · skip
              by_cases g33 : n < 33
              · skip
                have en : n = 32 := by omega
                subst en
                go_enter Tryd.func13, Tryd.ntmps13
                go_wp2
                go_ret
                exact ⟨ret_b (by simp [blankI, *]), rfl⟩
              · skip
                have t0 : (n == 32) = false := by simp; omega
                have t1 : (n == 9) = false := by simp; omega
                have t2 : (n == 10) = false := by simp; omega
                have t3 : (n == 13) = false := by simp; omega
                go_enter Tryd.func13, Tryd.ntmps13
                go_wp2
                go_ret
                exact ⟨ret_b (by simp [blankI, *]), rfl⟩

theorem refletter_i (n : Int) (w : World) : Calls Tryd.prog 31 #[.int .u8 n] w fun e w' => e = .returned (.bool (letterI n)) ∧ w = w' := by
  by_cases g65 : n < 65
  · skip
    have t0 : decide (97 ≤ n) = false := by simp; omega
    have t1 : decide (n ≤ 122) = true := by simp; omega
    have t2 : decide (65 ≤ n) = false := by simp; omega
    have t3 : decide (n ≤ 90) = true := by simp; omega
    have t4 : (n == 95) = false := by simp; omega
    go_enter Tryd.func31, Tryd.ntmps31
    go_wp2
    go_ret
    exact ⟨ret_b (by simp [letterI, *]), rfl⟩
  · skip
    by_cases g91 : n < 91
    · skip
      have t0 : decide (97 ≤ n) = false := by simp; omega
      have t1 : decide (n ≤ 122) = true := by simp; omega
      have t2 : decide (65 ≤ n) = true := by simp; omega
      have t3 : decide (n ≤ 90) = true := by simp; omega
      have t4 : (n == 95) = false := by simp; omega
      go_enter Tryd.func31, Tryd.ntmps31
      go_wp2
      go_ret
      exact ⟨ret_b (by simp [letterI, *]), rfl⟩
    · skip
      by_cases g95 : n < 95
      · skip
        have t0 : decide (97 ≤ n) = false := by simp; omega
        have t1 : decide (n ≤ 122) = true := by simp; omega
        have t2 : decide (65 ≤ n) = true := by simp; omega
        have t3 : decide (n ≤ 90) = false := by simp; omega
        have t4 : (n == 95) = false := by simp; omega
        go_enter Tryd.func31, Tryd.ntmps31
        go_wp2
        go_ret
        exact ⟨ret_b (by simp [letterI, *]), rfl⟩
      · skip
        by_cases g96 : n < 96
        · skip
          have en : n = 95 := by omega
          subst en
          go_enter Tryd.func31, Tryd.ntmps31
          go_wp2
          go_ret
          exact ⟨ret_b (by simp [letterI, *]), rfl⟩
        · skip
          by_cases g97 : n < 97
          · skip
            have en : n = 96 := by omega
            subst en
            go_enter Tryd.func31, Tryd.ntmps31
            go_wp2
            go_ret
            exact ⟨ret_b (by simp [letterI, *]), rfl⟩
          · skip
            by_cases g123 : n < 123
            · skip
              have t0 : decide (97 ≤ n) = true := by simp; omega
              have t1 : decide (n ≤ 122) = true := by simp; omega
              have t2 : decide (65 ≤ n) = true := by simp; omega
              have t3 : decide (n ≤ 90) = false := by simp; omega
              have t4 : (n == 95) = false := by simp; omega
              go_enter Tryd.func31, Tryd.ntmps31
              go_wp2
              go_ret
              exact ⟨ret_b (by simp [letterI, *]), rfl⟩
            · skip
              have t0 : decide (97 ≤ n) = true := by simp; omega
              have t1 : decide (n ≤ 122) = false := by simp; omega
              have t2 : decide (65 ≤ n) = true := by simp; omega
              have t3 : decide (n ≤ 90) = false := by simp; omega
              have t4 : (n == 95) = false := by simp; omega
              go_enter Tryd.func31, Tryd.ntmps31
              go_wp2
              go_ret
              exact ⟨ret_b (by simp [letterI, *]), rfl⟩

theorem refdigit_i (n : Int) (w : World) : Calls Tryd.prog 34 #[.int .u8 n] w fun e w' => e = .returned (.bool (digitI n)) ∧ w = w' := by
  by_cases g48 : n < 48
  · skip
    have t0 : decide (48 ≤ n) = false := by simp; omega
    have t1 : decide (n ≤ 57) = true := by simp; omega
    go_enter Tryd.func34, Tryd.ntmps34
    go_wp2
    go_ret
    exact ⟨ret_b (by simp [digitI, *]), rfl⟩
  · skip
    by_cases g58 : n < 58
    · skip
      have t0 : decide (48 ≤ n) = true := by simp; omega
      have t1 : decide (n ≤ 57) = true := by simp; omega
      go_enter Tryd.func34, Tryd.ntmps34
      go_wp2
      go_ret
      exact ⟨ret_b (by simp [digitI, *]), rfl⟩
    · skip
      have t0 : decide (48 ≤ n) = true := by simp; omega
      have t1 : decide (n ≤ 57) = false := by simp; omega
      go_enter Tryd.func34, Tryd.ntmps34
      go_wp2
      go_ret
      exact ⟨ret_b (by simp [digitI, *]), rfl⟩

theorem inName_i (n : Int) (w : World) : Calls Tryd.prog 19 #[.int .u8 n] w fun e w' => e = .returned (.bool (letterI n || digitI n)) ∧ w = w' := by
  cases h : letterI n with
  | true =>
    have hb : ∀ w, Calls Tryd.prog 25 #[.int .u8 n] w fun e w' => e = .returned (.bool true) ∧ w = w' := fun w => h ▸ begins_i n w
    go_enter Tryd.func19, Tryd.ntmps19
    go_wp2_with (go_at_call 25; refine (hb _).mono ?_; rintro e w' ⟨rfl, rfl⟩)
    go_ret
    exact ⟨ret_b (by simp), rfl⟩
  | false =>
    have hb : ∀ w, Calls Tryd.prog 25 #[.int .u8 n] w fun e w' => e = .returned (.bool false) ∧ w = w' := fun w => h ▸ begins_i n w
    go_enter Tryd.func19, Tryd.ntmps19
    go_wp2_with (first | (go_at_call 25; refine (hb _).mono ?_; rintro e w' ⟨rfl, rfl⟩) | (go_at_call 27; refine (digit_i _ _).mono ?_; rintro e w' ⟨rfl, rfl⟩))
    go_ret
    exact ⟨ret_b (by simp), rfl⟩

theorem inLine_i (n : Int) (w : World) : Calls Tryd.prog 24 #[.int .u8 n] w fun e w' => e = .returned (.bool (!(n == 10))) ∧ w = w' := by
  go_enter Tryd.func24, Tryd.ntmps24
  go_wp2
  go_ret
  exact ⟨ret_b (by first | rfl | (simp [bne]; done)), rfl⟩
theorem begins_any (c : UInt8) (w : World) : Calls Tryd.prog 25 #[.int .u8 (c.toNat : Int)] w fun e w' => e = .returned (.bool (letter c)) ∧ w = w' := begins_i _ w
theorem digit_any (c : UInt8) (w : World) : Calls Tryd.prog 27 #[.int .u8 (c.toNat : Int)] w fun e w' => e = .returned (.bool (digit c)) ∧ w = w' := digit_i _ w
theorem blank_any (c : UInt8) (w : World) : Calls Tryd.prog 22 #[.int .u8 (c.toNat : Int)] w fun e w' => e = .returned (.bool (blank c)) ∧ w = w' := blank_i _ w
theorem inName_any (c : UInt8) (w : World) : Calls Tryd.prog 19 #[.int .u8 (c.toNat : Int)] w fun e w' => e = .returned (.bool (inName c)) ∧ w = w' := inName_i _ w
theorem inLine_any (c : UInt8) (w : World) : Calls Tryd.prog 24 #[.int .u8 (c.toNat : Int)] w fun e w' => e = .returned (.bool (inLine c)) ∧ w = w' := inLine_i _ w
theorem refblank_any (c : UInt8) (w : World) : Calls Tryd.prog 13 #[.int .u8 (c.toNat : Int)] w fun e w' => e = .returned (.bool (blank c)) ∧ w = w' := refblank_i _ w
theorem refletter_any (c : UInt8) (w : World) : Calls Tryd.prog 31 #[.int .u8 (c.toNat : Int)] w fun e w' => e = .returned (.bool (letter c)) ∧ w = w' := refletter_i _ w
theorem refdigit_any (c : UInt8) (w : World) : Calls Tryd.prog 34 #[.int .u8 (c.toNat : Int)] w fun e w' => e = .returned (.bool (digit c)) ∧ w = w' := refdigit_i _ w
end Go.Proofs.YtigdegjhajdmhaaDoor
