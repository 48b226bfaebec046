/-
  NvO, in one text.
-/
import Derived.Test.YtiipjbafdhijlaaGreatDoorZAp
namespace Go.Proofs.YtiipjbafdhijlaaGreatDoor
open Go Go.ChangeShapes Go.WideShapes Go.ChangeAt Go.RowKit Go.Joins Go.Sort Go.Deep
set_option linter.unusedVariables false
set_option linter.unusedSimpArgs false
section
variable {H : Type} {enc : TypeId × Value → H}
set_option maxRecDepth 3000000 in
theorem rowI_of {W : World} {base : Nat} {v : Value} {d : DataW H} {p : List MemPlace} (hv : Value.okWide Tryz.prog W .any base 37 v) (h : DataW.Trod enc Tryz.prog W 0 (fun _ => true) true 37 v d p) : ∃ (a : Option Addr) (c : Nat) (l : List IT), v = .slice a l.length c ∧ InRow 9 IT.cells (IT.In W.heap.size W) W.heap.size W l a ∧ IT.WfL l ∧ IT.bkL l ≤ Rows.uptoBulk d ∧ (a = none → c = 0) := by
 obtain ⟨a0, n0, c0, rfl⟩ := okWide_slice Tryz.underlying37 hv
 obtain ⟨fuel, hf⟩ := h
 obtain ⟨a, c, l, h1, h2, h3, h4, h5, h6⟩ := row_open (k := 9) (cells := IT.cells) (inn := IT.In W.heap.size W) (wf := IT.Wf) (bk := IT.bk) Tryz.underlying37 (by kernel_rfl) (by omega) (fun t => by cases t; rfl) (fun m cs z hm hz => it_data m cs z hz) (show DataW.trod enc Tryz.prog W 0 (fun _ => true) true fuel 37 [.slice a0 n0 c0] = some _ from hf)
 exact ⟨a, c, l, h1, h2, (IT.wfL_iff l).2 h3, by
  have h4' : (l.map IT.bk).sum + 1 ≤ Rows.uptoBulk d := by first | exact h4 | exact h5
  rw [IT.bkL_sum]; omega, h6⟩
end
end Go.Proofs.YtiipjbafdhijlaaGreatDoor
