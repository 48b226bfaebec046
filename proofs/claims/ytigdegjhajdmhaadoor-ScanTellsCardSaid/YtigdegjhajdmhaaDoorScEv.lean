/-
  The specifications, at the closed texts of the law.
-/
import Derived.Test.YtigdegjhajdmhaaDoorScTx
namespace Go.Proofs.YtigdegjhajdmhaaDoor
open Go Go.RowKit
set_option linter.unusedVariables false
open Go.Sort

set_option maxRecDepth 100000
theorem ev_scan1 : scanS [97, 60, 61, 52, 39, 104, 70, 59] = ([⟨1, [97], 0, 0, 0⟩, ⟨4, [60, 61], 0, 0, 1⟩, ⟨3, [], 4, 15, 3⟩, ⟨4, [59], 0, 0, 7⟩], 0, 0) := by kernel_rfl
theorem ev_scan2 : scanS [97, 32, 36] = ([], 2, 20) := by kernel_rfl
theorem ev_tick : isWord [116, 105, 99, 107] = true := by kernel_rfl
theorem ev_tock : isWord [116, 111, 99, 107] = false := by kernel_rfl
theorem ev_c0 : checkS 1 [97] 0 0 0 = 0 := by kernel_rfl
theorem ev_c1 : checkS 0 [] 0 0 0 = 1 := by kernel_rfl
theorem ev_text : textS [⟨1, [97], 0, 0, 0⟩, ⟨4, [60, 61], 0, 0, 1⟩, ⟨3, [], 4, 15, 3⟩, ⟨4, [59], 0, 0, 7⟩] = ([97, 32, 60, 61, 32, 52, 39, 104, 102, 32, 59], 0) := by kernel_rfl
end Go.Proofs.YtigdegjhajdmhaaDoor
