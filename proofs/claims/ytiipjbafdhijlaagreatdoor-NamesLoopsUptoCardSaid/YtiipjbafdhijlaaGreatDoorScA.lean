/-
  Contracts of what asks of one byte.
-/
import Derived.Test.YtiipjbafdhijlaaGreatDoorScP
import Derived.Test.YtiipjbafdhijlaaGreatDoorProg
import Derived.WalkSmall
import Derived.Lib.Hide
import Derived.Below
namespace Go.Proofs.YtiipjbafdhijlaaGreatDoor
open Go Go.RowKit
theorem ret_b {a b : Bool} (h : a = b) : Ending.returned (.bool a) = .returned (.bool b) := by rw [h]
theorem ret_n {k : IntKind} {a b : Int} (h : a = b) : Ending.returned (.int k a) = .returned (.int k b) := by rw [h]

theorem begins_i (n : Int) (w : World) : Calls Tryz.prog 171 #[.int .u8 n] w fun e w' => e = .returned (.bool (letterI n)) ∧ w = w' := by
  by_cases g65 : n < 65
  · skip
    have t0 : decide (97 ≤ n) = false := by simp; omega
    have t1 : decide (n ≤ 122) = true := by simp; omega
    have t2 : decide (65 ≤ n) = false := by simp; omega
    have t3 : decide (n ≤ 90) = true := by simp; omega
    have t4 : (n == 95) = false := by simp; omega
    go_enter Tryz.func171, Tryz.ntmps171
    go_wp2
    go_ret
    exact ⟨ret_b (by simp [letterI, *]), rfl⟩
  · skip
    by_cases g91 : n < 91
    · skip
      have t0 : decide (97 ≤ n) = false := by simp; omega
      have t1 : decide (n ≤ 122) = true := by simp; omega
      have t2 : decide (65 ≤ n) = true := by simp; omega
      have t3 : decide (n ≤ 90) = true := by simp; omega
      have t4 : (n == 95) = false := by simp; omega
      go_enter Tryz.func171, Tryz.ntmps171
      go_wp2
      go_ret
      exact ⟨ret_b (by simp [letterI, *]), rfl⟩
    · skip
      by_cases g95 : n < 95
      · skip
        have t0 : decide (97 ≤ n) = false := by simp; omega
        have t1 : decide (n ≤ 122) = true := by simp; omega
        have t2 : decide (65 ≤ n) = true := by simp; omega
        have t3 : decide (n ≤ 90) = false := by simp; omega
        have t4 : (n == 95) = false := by simp; omega
        go_enter Tryz.func171, Tryz.ntmps171
        go_wp2
        go_ret
        exact ⟨ret_b (by simp [letterI, *]), rfl⟩
      · skip
        by_cases g96 : n < 96
        · skip
          have en : n = 95 := by omega
          subst en
          go_enter Tryz.func171, Tryz.ntmps171
          go_wp2
          go_ret
          exact ⟨ret_b (by simp [letterI, *]), rfl⟩
        · skip
          by_cases g97 : n < 97
          · skip
            have en : n = 96 := by omega
            subst en
            go_enter Tryz.func171, Tryz.ntmps171
            go_wp2
            go_ret
            exact ⟨ret_b (by simp [letterI, *]), rfl⟩
          · skip
            by_cases g123 : n < 123
            · skip
              have t0 : decide (97 ≤ n) = true := by simp; omega
              have t1 : decide (n ≤ 122) = true := by simp; omega
              have t2 : decide (65 ≤ n) = true := by simp; omega
              have t3 : decide (n ≤ 90) = false := by simp; omega
              have t4 : (n == 95) = false := by simp; omega
              go_enter Tryz.func171, Tryz.ntmps171
              go_wp2
              go_ret
              exact ⟨ret_b (by simp [letterI, *]), rfl⟩
            · skip
              have t0 : decide (97 ≤ n) = true := by simp; omega
              have t1 : decide (n ≤ 122) = false := by simp; omega
              have t2 : decide (65 ≤ n) = true := by simp; omega
              have t3 : decide (n ≤ 90) = false := by simp; omega
              have t4 : (n == 95) = false := by simp; omega
              go_enter Tryz.func171, Tryz.ntmps171
              go_wp2
              go_ret
              exact ⟨ret_b (by simp [letterI, *]), rfl⟩

theorem digit_i (n : Int) (w : World) : Calls Tryz.prog 177 #[.int .u8 n] w fun e w' => e = .returned (.bool (digitI n)) ∧ w = w' := by
  by_cases g48 : n < 48
  · skip
    have t0 : decide (48 ≤ n) = false := by simp; omega
    have t1 : decide (n ≤ 57) = true := by simp; omega
    go_enter Tryz.func177, Tryz.ntmps177
    go_wp2
    go_ret
    exact ⟨ret_b (by simp [digitI, *]), rfl⟩
  · skip
    by_cases g58 : n < 58
    · skip
      have t0 : decide (48 ≤ n) = true := by simp; omega
      have t1 : decide (n ≤ 57) = true := by simp; omega
      go_enter Tryz.func177, Tryz.ntmps177
      go_wp2
      go_ret
      exact ⟨ret_b (by simp [digitI, *]), rfl⟩
    · skip
      have t0 : decide (48 ≤ n) = true := by simp; omega
      have t1 : decide (n ≤ 57) = false := by simp; omega
      go_enter Tryz.func177, Tryz.ntmps177
      go_wp2
      go_ret
      exact ⟨ret_b (by simp [digitI, *]), rfl⟩

theorem inName_i (n : Int) (w : World) : Calls Tryz.prog 173 #[.int .u8 n] w fun e w' => e = .returned (.bool (letterI n || digitI n)) ∧ w = w' := by
  cases h : letterI n with
  | true =>
    have hb : ∀ w, Calls Tryz.prog 171 #[.int .u8 n] w fun e w' => e = .returned (.bool true) ∧ w = w' := fun w => h ▸ begins_i n w
    go_enter Tryz.func173, Tryz.ntmps173
    go_wp2_with (go_at_call 171; refine (hb _).mono ?_; rintro e w' ⟨rfl, rfl⟩)
    go_ret
    exact ⟨ret_b (by simp), rfl⟩
  | false =>
    have hb : ∀ w, Calls Tryz.prog 171 #[.int .u8 n] w fun e w' => e = .returned (.bool false) ∧ w = w' := fun w => h ▸ begins_i n w
    go_enter Tryz.func173, Tryz.ntmps173
    go_wp2_with (first | (go_at_call 171; refine (hb _).mono ?_; rintro e w' ⟨rfl, rfl⟩) | (go_at_call 177; refine (digit_i _ _).mono ?_; rintro e w' ⟨rfl, rfl⟩))
    go_ret
    exact ⟨ret_b (by simp), rfl⟩

theorem begins_any (c : UInt8) (w : World) : Calls Tryz.prog 171 #[.int .u8 (c.toNat : Int)] w fun e w' => e = .returned (.bool (letter c)) ∧ w = w' := begins_i _ w
theorem digit_any (c : UInt8) (w : World) : Calls Tryz.prog 177 #[.int .u8 (c.toNat : Int)] w fun e w' => e = .returned (.bool (digit c)) ∧ w = w' := digit_i _ w
theorem inName_any (c : UInt8) (w : World) : Calls Tryz.prog 173 #[.int .u8 (c.toNat : Int)] w fun e w' => e = .returned (.bool (inName c)) ∧ w = w' := inName_i _ w
end Go.Proofs.YtiipjbafdhijlaaGreatDoor
