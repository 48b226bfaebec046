/-
  The rows of stage 6: arguments opened.
-/
import Derived.Test.YtlbjmnakiflfpaaGreatDoorKpAsOp
import Derived.Test.YtlbjmnakiflfpaaGreatDoorKpKsA
namespace Go.Proofs.YtlbjmnakiflfpaaGreatDoor
open Go Go.ChangeShapes Go.WideShapes Go.ChangeAt Go.RowKit Go.Joins Go.Sort Go.Deep
set_option linter.unusedVariables false
set_option linter.unusedSimpArgs false
section
variable {H : Type} {enc : TypeId × Value → H}
theorem NT.bkL_sum : ∀ l : List NT, NT.bkL l = (l.map NT.bk).sum
  | [] => rfl
  | x :: r => by rw [NT.bkL, NT.bkL_sum r]; simp
set_option maxRecDepth 3000000 in
theorem nt_data {W : World} : ∀ (fuel : Nat) (cs : List Value) (z : DataW H × List MemPlace), DataW.trod enc Tryz.prog W 0 (fun _ => true) true fuel 96 cs = some z → ∃ t : NT, cs = t.cells ∧ t.Wf ∧ t.bk ≤ Rows.uptoBulk z.1 := by
  intro fuel cs z h
  obtain ⟨xs, n, hfu, rfl, hl, hlen, hf⟩ := DataW.trod_struct Tryz.underlying96 h
  have hl5 : cs.length = 2 := hl.trans (by kernel_rfl)
  match cs, hl5 with
  | [c0, c1], _ =>
    have e0 : DataW.trod enc Tryz.prog W 0 (fun _ => true) true n 9 (([c0, c1].drop 0).take (Tryz.prog.cellsOf 9)) = xs[0]? := hf 0 _ rfl
    have e1 : DataW.trod enc Tryz.prog W 0 (fun _ => true) true n 3 (([c0, c1].drop 1).take (Tryz.prog.cellsOf 3)) = xs[1]? := hf 1 _ rfl
    have k0 : Tryz.prog.cellsOf 9 = 1 := by kernel_rfl
    have k1 : Tryz.prog.cellsOf 3 = 1 := by kernel_rfl
    simp only [k0, k1] at e0 e1
    simp only [List.drop_zero, List.drop_succ_cons, List.take_succ_cons, List.take_zero, List.take_nil] at e0 e1
    match xs, hlen with
    | [x0, x1], _ =>
      obtain ⟨nm, a0, z0, _⟩ := DataW.trod_string Tryz.underlying9 e0
      obtain ⟨v, a1, z1, hw⟩ := DataW.trod_int Tryz.underlying3 e1
      simp only [List.cons.injEq, and_true] at a0 a1
      subst z0
      subst z1
      refine ⟨⟨nm.data.toList, v⟩, ?_, ?_, ?_⟩
      · rw [a0, a1]
        simp only [NT.cells, ← bs_toList]
      · unfold Lit.wf at hw
        rw [Bool.and_eq_true, decide_eq_true_eq, decide_eq_true_eq] at hw
        exact hw
      · simp only [NT.bk, Rows.uptoBulk, Rows.uptoBulkAll, List.map_cons, List.map_nil]
        omega
set_option maxRecDepth 3000000 in
theorem rowN_of {W : World} {base : Nat} {v : Value} {d : DataW H} {p : List MemPlace} (hv : Value.okWide Tryz.prog W .any base 47 v) (h : DataW.Trod enc Tryz.prog W 0 (fun _ => true) true 47 v d p) : ∃ (a : Option Addr) (c : Nat) (l : List NT), v = .slice a l.length c ∧ NRow W.heap.size W l a ∧ NT.bkL l ≤ Rows.uptoBulk d ∧ (a = none → c = 0) := by
  obtain ⟨a0, n0, c0, rfl⟩ := okWide_slice Tryz.underlying47 hv
  obtain ⟨fuel, hf⟩ := h
  obtain ⟨a, c, l, h1, h2, h3, h4, h5, h6⟩ := row_open (k := 2) (cells := NT.cells) (inn := NT.Wf) (wf := NT.Wf) (bk := NT.bk) Tryz.underlying47 (by kernel_rfl) (by omega) (fun t => by cases t; rfl) (fun m cs z hm hz => by obtain ⟨t, g1, g2, g3⟩ := nt_data m cs z hz; exact ⟨t, g1, g2, g2, g3⟩) (show DataW.trod enc Tryz.prog W 0 (fun _ => true) true fuel 47 [.slice a0 n0 c0] = some _ from hf)
  exact ⟨a, c, l, h1, h2, by
    have h4' : (l.map NT.bk).sum + 1 ≤ Rows.uptoBulk d := by first | exact h4 | exact h5
    rw [NT.bkL_sum]; omega, h6⟩
end
end Go.Proofs.YtlbjmnakiflfpaaGreatDoor
