/-
  Contracts: numbers to the base 16, written.
-/
import Derived.Test.YtigdegjhajdmhaaDoorScMb
import Derived.Lib.AppendStr
import Derived.Lib.UnsafeStr
namespace Go.Proofs.YtigdegjhajdmhaaDoor
open Go Go.RowKit
set_option linter.unusedVariables false
open Go.Sort

set_option maxHeartbeats 1000000 in
theorem tz64 (w : World) (ht : w.cell? ⟨4, 15, none⟩ = some (.int .u8 4)) : Calls Tryd.prog 80 #[.int .u64 16] w fun e w' => e = .returned (.int .i64 4) ∧ w = w' := by
  have k0 : IntKind.u64.wrap (-16) = 18446744073709551600 := by decide +kernel
  have k1 : bits .and .u64 16 18446744073709551600 = 16 := by decide +kernel
  have k2 : IntKind.u64.wrap (16 * 285870213051353865) = 4573923408821661840 := by decide +kernel
  go_enter Tryd.func80, Tryd.ntmps80
  go_wp2
  go_ret
  exact ⟨rfl, rfl⟩
set_option maxHeartbeats 1000000 in
theorem tz (w : World) (ht : w.cell? ⟨4, 15, none⟩ = some (.int .u8 4)) : Calls Tryd.prog 76 #[.int .u64 16] w fun e w' => e = .returned (.int .i64 4) ∧ w = w' := by
  go_enter Tryd.func76, Tryd.ntmps76
  go_wp2_with (go_at_call 80; refine (tz64 _ ht).mono ?_; rintro e w' ⟨rfl, rfl⟩)
  go_ret
  exact ⟨rfl, rfl⟩
set_option maxHeartbeats 1000000 in
theorem isPow (w : World) : Calls Tryd.prog 75 #[.int .i64 16] w fun e w' => e = .returned (.bool true) ∧ w = w' := by
  have k1 : bits .and .i64 16 15 = 0 := by decide +kernel
  go_enter Tryd.func75, Tryd.ntmps75
  go_wp2
  go_ret
  exact ⟨rfl, rfl⟩
end Go.Proofs.YtigdegjhajdmhaaDoor
