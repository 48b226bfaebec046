/-
  Contracts: runs of bytes, beginnings.
-/
import Derived.Test.YtiipjbafdhijlaaGreatDoorScA
import Derived.LoopTactic
import Derived.WalkSpells
namespace Go.Proofs.YtiipjbafdhijlaaGreatDoor
open Go Go.RowKit

set_option maxHeartbeats 1000000 in
theorem run_name (l : Bytes) (hl : l.length ≤ 9000000) (w : World) : Calls Tryz.prog 172 #[.string (bs l), .func (.func 173) #[] #[]] w fun e w' => e = .returned (.int .i64 (run inName l)) ∧ w = w' := by
  have hz := bs_size l
  go_enter Tryz.func172, Tryz.ntmps172
  go_wp2
  go_loop [8] (fun i => ∃ k : Nat, k ≤ l.length ∧ i = .int .i64 k ∧ (l.take k).all inName = true) (fun i => l.length - (intOf i).toNat)
  case atStart => exact ⟨0, Nat.zero_le _, rfl, rfl⟩
  case round =>
    obtain ⟨k, hk, rfl, ha⟩ := hrel
    have HA := Lib.hid ha
    clear ha
    by_cases hlt : k < l.length
    · have HS := Lib.hid (all_take_succ inName l k hlt)
      cases hp : inName l[k] with
      | true =>
        have hc : ∀ w, Calls Tryz.prog 173 #[.int .u8 (l[k].toNat : Int)] w fun e w' => e = .returned (.bool true) ∧ w = w' := fun w => hp ▸ inName_any l[k] w
        have HP := Lib.hid hp
        clear hp
        go_wp2_with (go_at_call 173; refine (hc _).mono ?_; rintro e w' ⟨rfl, rfl⟩)
        go_round
        case rel => exact ⟨k + 1, by omega, by go_num, by rw [HS.out, HA.out, HP.out]; rfl⟩
        case measure => simp [intOf]; omega
      | false =>
        have hc : ∀ w, Calls Tryz.prog 173 #[.int .u8 (l[k].toNat : Int)] w fun e w' => e = .returned (.bool false) ∧ w = w' := fun w => hp ▸ inName_any l[k] w
        have HR := Lib.hid (run_at inName l k hlt HA.out hp)
        clear hp
        go_wp2_with (go_at_call 173; refine (hc _).mono ?_; rintro e w' ⟨rfl, rfl⟩)
        go_ret
        exact ⟨ret_n (by rw [HR.out]), rfl⟩
    · obtain rfl : k = l.length := by omega
      have HR : Hid (run inName l = l.length) := Lib.hid (run_all inName l (by have := HA.out; rwa [List.take_length] at this))
      go_wp2
      go_ret
      exact ⟨ret_n (by rw [HR.out]), rfl⟩

set_option maxHeartbeats 1000000 in
theorem run_digit (l : Bytes) (hl : l.length ≤ 9000000) (w : World) : Calls Tryz.prog 172 #[.string (bs l), .func (.func 177) #[] #[]] w fun e w' => e = .returned (.int .i64 (run digit l)) ∧ w = w' := by
  have hz := bs_size l
  go_enter Tryz.func172, Tryz.ntmps172
  go_wp2
  go_loop [8] (fun i => ∃ k : Nat, k ≤ l.length ∧ i = .int .i64 k ∧ (l.take k).all digit = true) (fun i => l.length - (intOf i).toNat)
  case atStart => exact ⟨0, Nat.zero_le _, rfl, rfl⟩
  case round =>
    obtain ⟨k, hk, rfl, ha⟩ := hrel
    have HA := Lib.hid ha
    clear ha
    by_cases hlt : k < l.length
    · have HS := Lib.hid (all_take_succ digit l k hlt)
      cases hp : digit l[k] with
      | true =>
        have hc : ∀ w, Calls Tryz.prog 177 #[.int .u8 (l[k].toNat : Int)] w fun e w' => e = .returned (.bool true) ∧ w = w' := fun w => hp ▸ digit_any l[k] w
        have HP := Lib.hid hp
        clear hp
        go_wp2_with (go_at_call 177; refine (hc _).mono ?_; rintro e w' ⟨rfl, rfl⟩)
        go_round
        case rel => exact ⟨k + 1, by omega, by go_num, by rw [HS.out, HA.out, HP.out]; rfl⟩
        case measure => simp [intOf]; omega
      | false =>
        have hc : ∀ w, Calls Tryz.prog 177 #[.int .u8 (l[k].toNat : Int)] w fun e w' => e = .returned (.bool false) ∧ w = w' := fun w => hp ▸ digit_any l[k] w
        have HR := Lib.hid (run_at digit l k hlt HA.out hp)
        clear hp
        go_wp2_with (go_at_call 177; refine (hc _).mono ?_; rintro e w' ⟨rfl, rfl⟩)
        go_ret
        exact ⟨ret_n (by rw [HR.out]), rfl⟩
    · obtain rfl : k = l.length := by omega
      have HR : Hid (run digit l = l.length) := Lib.hid (run_all digit l (by have := HA.out; rwa [List.take_length] at this))
      go_wp2
      go_ret
      exact ⟨ret_n (by rw [HR.out]), rfl⟩

end Go.Proofs.YtiipjbafdhijlaaGreatDoor
