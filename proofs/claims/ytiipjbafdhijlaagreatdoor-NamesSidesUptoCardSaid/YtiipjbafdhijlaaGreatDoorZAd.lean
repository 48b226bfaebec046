/-
  AsOd, in one text.
-/
import Derived.Test.YtiipjbafdhijlaaGreatDoorRows
import Derived.ProofKit
import Derived.LaidMore
import Derived.OpenShut
import Derived.Stop.Joined
import Derived.Lib.SmallJoins
import Derived.Lib.LaidTab
import Derived.Stop.LaidErr
import Derived.Shelf.Vars
import Derived.Deep.Slices
import Derived.Carry
import Derived.Deep.DeepHandedRow
import Derived.Test.YtiipjbafdhijlaaGreatDoorZAK
namespace Go.Proofs.YtiipjbafdhijlaaGreatDoor
open Go Go.ChangeShapes Go.WideShapes Go.ChangeAt Go.RowKit Go.Joins Go.Sort Go.Deep
set_option linter.unusedVariables false
set_option linter.unusedSimpArgs false
section
variable {H : Type} {enc : TypeId × Value → H}
/-- Plain data as cells. -/
def gV : DataW H → List Value
 | .lit (.bool b) => [.bool b]
 | .lit (.int k n) => [.int k n]
 | _ => []
def gA : DataW H → List Value
 | .agg l => l.flatMap gV
 | _ => []
/-- An array of one-cell elements, each element's value read off its datum. -/
theorem arr_vals {P : Program} {w : World} {base : Nat} {spare : Nat → Bool} {held : Bool} {fuel : Nat} {t e : TypeId} {n : Nat} {cs : List Value} {x : DataW H × List MemPlace} (g : DataW H → Value)
  (ht : P.underlying t = some (.array n e)) (hc : P.cellsOf e = 1) (hct : P.cellsOf t = n) (hel : ∀ m c d q, DataW.trod enc P w base spare held m e [c] = some (d, q) → c = g d)
  (h : DataW.trod enc P w base spare held fuel t cs = some x) : ∃ ds, x.1 = .agg ds ∧ cs = ds.map g := by
 obtain ⟨xs, m, rfl, hx, hlen, hn, hxi⟩ := DataW.trod_array ht h
 refine ⟨xs.map (·.1), by rw [hx], ?_⟩
 apply List.ext_getElem (by simp [hlen, hct, hn])
 intro i h1 h2
 have hi : i < n := by rw [hlen, hct] at h1; exact h1
 have h3 := hxi i hi
 rw [hc, Nat.mul_one] at h3
 have e1 : (cs.drop i).take 1 = [cs[i]] := by rw [List.drop_eq_getElem_cons h1]; rfl
 rw [e1, List.getElem?_eq_getElem (by omega)] at h3
 have h4 := hel m cs[i] xs[i].1 xs[i].2 h3
 rw [h4]; simp
/-- An array of elements of k cells, each element's cells read off its datum. -/
theorem arr_rows {P : Program} {w : World} {base : Nat} {spare : Nat → Bool} {held : Bool} {fuel : Nat} {t e : TypeId} {n k : Nat} {cs : List Value} {x : DataW H × List MemPlace} (g : DataW H → List Value)
  (ht : P.underlying t = some (.array n e)) (hc : P.cellsOf e = k) (hel : ∀ m c d q, DataW.trod enc P w base spare held m e c = some (d, q) → c = g d)
  (h : DataW.trod enc P w base spare held fuel t cs = some x) : ∃ ds, x.1 = .agg ds ∧ ds.length = n ∧ ∀ i d, ds[i]? = some d → (cs.drop (i * k)).take k = g d := by
 obtain ⟨xs, m, rfl, hx, hlen, hn, hxi⟩ := DataW.trod_array ht h
 refine ⟨xs.map (·.1), by rw [hx], by simpa using hn, fun i d hd => ?_⟩
 rw [List.getElem?_map] at hd
 obtain ⟨y, hy, rfl⟩ := Option.map_eq_some_iff.1 hd
 have hi : i < n := by
  have := (List.getElem?_eq_some_iff.1 hy).1
  omega
 have h3 := hxi i hi
 rw [hc, hy] at h3
 exact hel m _ y.1 y.2 h3
def gS : DataW H → Value
 | .lit (.string s) => .string ⟨s.toArray⟩
 | _ => .bool false
set_option maxRecDepth 9000000 in
theorem expressionKind_data {W : World} {base : Nat} {sp : Nat → Bool} {held : Bool} {fuel : Nat} {cs : List Value} {d : DataW H} {q : List MemPlace} (h : DataW.trod enc Tryz.prog W base sp held fuel 188 cs = some (d, q)) : cs = gA d := by
 obtain ⟨xs, n, _, hx, hl, hlen, hf⟩ := DataW.trod_struct Tryz.underlying188 h
 have hl5 : cs.length = 5 := hl.trans (by kernel_rfl)
 obtain rfl := (Prod.mk.inj hx).1
 match cs, hl5 with
 | [c0, c1, c2, c3, c4], _ =>
  have e0 : DataW.trod enc Tryz.prog W base sp held n 4 (([c0, c1, c2, c3, c4].drop 0).take (Tryz.prog.cellsOf 4)) = xs[0]? := hf 0 _ rfl
  have e1 : DataW.trod enc Tryz.prog W base sp held n 3 (([c0, c1, c2, c3, c4].drop 1).take (Tryz.prog.cellsOf 3)) = xs[1]? := hf 1 _ rfl
  have e2 : DataW.trod enc Tryz.prog W base sp held n 4 (([c0, c1, c2, c3, c4].drop 2).take (Tryz.prog.cellsOf 4)) = xs[2]? := hf 2 _ rfl
  have e3 : DataW.trod enc Tryz.prog W base sp held n 3 (([c0, c1, c2, c3, c4].drop 3).take (Tryz.prog.cellsOf 3)) = xs[3]? := hf 3 _ rfl
  have e4 : DataW.trod enc Tryz.prog W base sp held n 3 (([c0, c1, c2, c3, c4].drop 4).take (Tryz.prog.cellsOf 3)) = xs[4]? := hf 4 _ rfl
  have k0 : Tryz.prog.cellsOf 4 = 1 := by kernel_rfl
  have k1 : Tryz.prog.cellsOf 3 = 1 := by kernel_rfl
  simp only [k0, k1] at e0 e1 e2 e3 e4
  simp only [List.drop_zero, List.drop_succ_cons, List.take_succ_cons, List.take_zero] at e0 e1 e2 e3 e4
  match xs, hlen with
  | [x0, x1, x2, x3, x4], _ =>
   obtain ⟨b0, a0, z0⟩ := DataW.trod_bool Tryz.underlying4 e0
   obtain ⟨b1, a1, z1, _⟩ := DataW.trod_int Tryz.underlying3 e1
   obtain ⟨b2, a2, z2⟩ := DataW.trod_bool Tryz.underlying4 e2
   obtain ⟨b3, a3, z3, _⟩ := DataW.trod_int Tryz.underlying3 e3
   obtain ⟨b4, a4, z4, _⟩ := DataW.trod_int Tryz.underlying3 e4
   simp only [List.cons.injEq, and_true] at a0 a1 a2 a3 a4
   rw [a0, a1, a2, a3, a4, z0, z1, z2, z3, z4]
   rfl
set_option maxRecDepth 9000000 in
theorem statementKind_data {W : World} {base : Nat} {sp : Nat → Bool} {held : Bool} {fuel : Nat} {cs : List Value} {d : DataW H} {q : List MemPlace} (h : DataW.trod enc Tryz.prog W base sp held fuel 194 cs = some (d, q)) : cs = gA d := by
 obtain ⟨xs, n, _, hx, hl, hlen, hf⟩ := DataW.trod_struct Tryz.underlying194 h
 have hl5 : cs.length = 8 := hl.trans (by kernel_rfl)
 obtain rfl := (Prod.mk.inj hx).1
 match cs, hl5 with
 | [c0, c1, c2, c3, c4, c5, c6, c7], _ =>
  have e0 : DataW.trod enc Tryz.prog W base sp held n 4 (([c0, c1, c2, c3, c4, c5, c6, c7].drop 0).take (Tryz.prog.cellsOf 4)) = xs[0]? := hf 0 _ rfl
  have e1 : DataW.trod enc Tryz.prog W base sp held n 4 (([c0, c1, c2, c3, c4, c5, c6, c7].drop 1).take (Tryz.prog.cellsOf 4)) = xs[1]? := hf 1 _ rfl
  have e2 : DataW.trod enc Tryz.prog W base sp held n 3 (([c0, c1, c2, c3, c4, c5, c6, c7].drop 2).take (Tryz.prog.cellsOf 3)) = xs[2]? := hf 2 _ rfl
  have e3 : DataW.trod enc Tryz.prog W base sp held n 3 (([c0, c1, c2, c3, c4, c5, c6, c7].drop 3).take (Tryz.prog.cellsOf 3)) = xs[3]? := hf 3 _ rfl
  have e4 : DataW.trod enc Tryz.prog W base sp held n 4 (([c0, c1, c2, c3, c4, c5, c6, c7].drop 4).take (Tryz.prog.cellsOf 4)) = xs[4]? := hf 4 _ rfl
  have e5 : DataW.trod enc Tryz.prog W base sp held n 4 (([c0, c1, c2, c3, c4, c5, c6, c7].drop 5).take (Tryz.prog.cellsOf 4)) = xs[5]? := hf 5 _ rfl
  have e6 : DataW.trod enc Tryz.prog W base sp held n 192 (([c0, c1, c2, c3, c4, c5, c6, c7].drop 6).take (Tryz.prog.cellsOf 192)) = xs[6]? := hf 6 _ rfl
  have e7 : DataW.trod enc Tryz.prog W base sp held n 192 (([c0, c1, c2, c3, c4, c5, c6, c7].drop 7).take (Tryz.prog.cellsOf 192)) = xs[7]? := hf 7 _ rfl
  have k0 : Tryz.prog.cellsOf 192 = 1 := by kernel_rfl
  have k1 : Tryz.prog.cellsOf 4 = 1 := by kernel_rfl
  have k2 : Tryz.prog.cellsOf 3 = 1 := by kernel_rfl
  simp only [k0, k1, k2] at e0 e1 e2 e3 e4 e5 e6 e7
  simp only [List.drop_zero, List.drop_succ_cons, List.take_succ_cons, List.take_zero] at e0 e1 e2 e3 e4 e5 e6 e7
  match xs, hlen with
  | [x0, x1, x2, x3, x4, x5, x6, x7], _ =>
   obtain ⟨b0, a0, z0⟩ := DataW.trod_bool Tryz.underlying4 e0
   obtain ⟨b1, a1, z1⟩ := DataW.trod_bool Tryz.underlying4 e1
   obtain ⟨b2, a2, z2, _⟩ := DataW.trod_int Tryz.underlying3 e2
   obtain ⟨b3, a3, z3, _⟩ := DataW.trod_int Tryz.underlying3 e3
   obtain ⟨b4, a4, z4⟩ := DataW.trod_bool Tryz.underlying4 e4
   obtain ⟨b5, a5, z5⟩ := DataW.trod_bool Tryz.underlying4 e5
   obtain ⟨b6, a6, z6, _⟩ := DataW.trod_int Tryz.underlying192 e6
   obtain ⟨b7, a7, z7, _⟩ := DataW.trod_int Tryz.underlying192 e7
   simp only [List.cons.injEq, and_true] at a0 a1 a2 a3 a4 a5 a6 a7
   rw [a0, a1, a2, a3, a4, a5, a6, a7, z0, z1, z2, z3, z4, z5, z6, z7]
   rfl
set_option maxRecDepth 9000000 in
theorem itemKind_data {W : World} {base : Nat} {sp : Nat → Bool} {held : Bool} {fuel : Nat} {cs : List Value} {d : DataW H} {q : List MemPlace} (h : DataW.trod enc Tryz.prog W base sp held fuel 170 cs = some (d, q)) : cs = gA d := by
 obtain ⟨xs, n, _, hx, hl, hlen, hf⟩ := DataW.trod_struct Tryz.underlying170 h
 have hl5 : cs.length = 8 := hl.trans (by kernel_rfl)
 obtain rfl := (Prod.mk.inj hx).1
 match cs, hl5 with
 | [c0, c1, c2, c3, c4, c5, c6, c7], _ =>
  have e0 : DataW.trod enc Tryz.prog W base sp held n 4 (([c0, c1, c2, c3, c4, c5, c6, c7].drop 0).take (Tryz.prog.cellsOf 4)) = xs[0]? := hf 0 _ rfl
  have e1 : DataW.trod enc Tryz.prog W base sp held n 4 (([c0, c1, c2, c3, c4, c5, c6, c7].drop 1).take (Tryz.prog.cellsOf 4)) = xs[1]? := hf 1 _ rfl
  have e2 : DataW.trod enc Tryz.prog W base sp held n 4 (([c0, c1, c2, c3, c4, c5, c6, c7].drop 2).take (Tryz.prog.cellsOf 4)) = xs[2]? := hf 2 _ rfl
  have e3 : DataW.trod enc Tryz.prog W base sp held n 3 (([c0, c1, c2, c3, c4, c5, c6, c7].drop 3).take (Tryz.prog.cellsOf 3)) = xs[3]? := hf 3 _ rfl
  have e4 : DataW.trod enc Tryz.prog W base sp held n 4 (([c0, c1, c2, c3, c4, c5, c6, c7].drop 4).take (Tryz.prog.cellsOf 4)) = xs[4]? := hf 4 _ rfl
  have e5 : DataW.trod enc Tryz.prog W base sp held n 4 (([c0, c1, c2, c3, c4, c5, c6, c7].drop 5).take (Tryz.prog.cellsOf 4)) = xs[5]? := hf 5 _ rfl
  have e6 : DataW.trod enc Tryz.prog W base sp held n 4 (([c0, c1, c2, c3, c4, c5, c6, c7].drop 6).take (Tryz.prog.cellsOf 4)) = xs[6]? := hf 6 _ rfl
  have e7 : DataW.trod enc Tryz.prog W base sp held n 4 (([c0, c1, c2, c3, c4, c5, c6, c7].drop 7).take (Tryz.prog.cellsOf 4)) = xs[7]? := hf 7 _ rfl
  have k0 : Tryz.prog.cellsOf 4 = 1 := by kernel_rfl
  have k1 : Tryz.prog.cellsOf 3 = 1 := by kernel_rfl
  simp only [k0, k1] at e0 e1 e2 e3 e4 e5 e6 e7
  simp only [List.drop_zero, List.drop_succ_cons, List.take_succ_cons, List.take_zero] at e0 e1 e2 e3 e4 e5 e6 e7
  match xs, hlen with
  | [x0, x1, x2, x3, x4, x5, x6, x7], _ =>
   obtain ⟨b0, a0, z0⟩ := DataW.trod_bool Tryz.underlying4 e0
   obtain ⟨b1, a1, z1⟩ := DataW.trod_bool Tryz.underlying4 e1
   obtain ⟨b2, a2, z2⟩ := DataW.trod_bool Tryz.underlying4 e2
   obtain ⟨b3, a3, z3, _⟩ := DataW.trod_int Tryz.underlying3 e3
   obtain ⟨b4, a4, z4⟩ := DataW.trod_bool Tryz.underlying4 e4
   obtain ⟨b5, a5, z5⟩ := DataW.trod_bool Tryz.underlying4 e5
   obtain ⟨b6, a6, z6⟩ := DataW.trod_bool Tryz.underlying4 e6
   obtain ⟨b7, a7, z7⟩ := DataW.trod_bool Tryz.underlying4 e7
   simp only [List.cons.injEq, and_true] at a0 a1 a2 a3 a4 a5 a6 a7
   rw [a0, a1, a2, a3, a4, a5, a6, a7, z0, z1, z2, z3, z4, z5, z6, z7]
   rfl
end
theorem own : ownKnob Tryz.prog.godebug = none := by kernel_rfl
theorem laidOut : laidOutB Tryz.prog = true := by kernel_rfl
def LD : List (String × DataW Unit) := [("filigree/scan.signs", Rows.laid_filigree_scan_signs), ("filigree/ast.expressionKinds", Rows.laid_filigree_ast_expressionKinds), ("filigree/ast.statementKinds", Rows.laid_filigree_ast_statementKinds), ("filigree/ast.itemKinds", Rows.laid_filigree_ast_itemKinds)]
theorem gSig : Tryz.prog.globalNamed "filigree/scan.signs" = some 3 := by kernel_rfl
theorem gX : Tryz.prog.globalNamed "filigree/ast.expressionKinds" = some 1 := by kernel_rfl
theorem gSt : Tryz.prog.globalNamed "filigree/ast.statementKinds" = some 2 := by kernel_rfl
theorem gI : Tryz.prog.globalNamed "filigree/ast.itemKinds" = some 0 := by kernel_rfl
theorem tSig : (Tryz.prog.globals[3]?).map (·.type) = some 204 := by kernel_rfl
theorem tX : (Tryz.prog.globals[1]?).map (·.type) = some 189 := by kernel_rfl
theorem tSt : (Tryz.prog.globals[2]?).map (·.type) = some 195 := by kernel_rfl
theorem tI : (Tryz.prog.globals[0]?).map (·.type) = some 171 := by kernel_rfl
theorem tab_x {W : World} {r : List (String × DataW Unit)} (h : laidMet Tryz.prog (("filigree/ast.expressionKinds", Rows.laid_filigree_ast_expressionKinds) :: r) W) : ∀ k, k < 11 → RowC W 1 (k * 5) (kxC k) := by
 obtain ⟨ps, ⟨g, t, cs, fuel, p, q, hg, ht, hv, hd, _, _⟩, _⟩ := h
 obtain rfl := Option.some.inj (gX.symm.trans hg)
 obtain rfl := Option.some.inj (tX.symm.trans ht)
 obtain ⟨ds, hx, hn, hcs⟩ := arr_rows gA Tryz.underlying189 (by kernel_rfl) (fun m c d q hc => expressionKind_data hc) hd
 have hds : ∀ k, k < 11 → ∃ d, ds[k]? = some d ∧ gA d = kxC k := by
  have hx2 := hx.symm
  simp only [Rows.laid_filigree_ast_expressionKinds, DataW.agg.injEq] at hx2
  intro k hk
  subst hx2
  match k, hk with
  | 0, _ => exact ⟨_, rfl, rfl⟩
  | 1, _ => exact ⟨_, rfl, rfl⟩
  | 2, _ => exact ⟨_, rfl, rfl⟩
  | 3, _ => exact ⟨_, rfl, rfl⟩
  | 4, _ => exact ⟨_, rfl, rfl⟩
  | 5, _ => exact ⟨_, rfl, rfl⟩
  | 6, _ => exact ⟨_, rfl, rfl⟩
  | 7, _ => exact ⟨_, rfl, rfl⟩
  | 8, _ => exact ⟨_, rfl, rfl⟩
  | 9, _ => exact ⟨_, rfl, rfl⟩
  | 10, _ => exact ⟨_, rfl, rfl⟩
 intro k hk j v hj
 obtain ⟨d, h1, h2⟩ := hds k hk
 have h3 := hcs k d h1
 rw [h2] at h3
 have hlt : j < 5 := by
  have hl : (kxC k).length = 5 := rfl
  have := (List.getElem?_eq_some_iff.1 hj).1
  omega
 have h4 : cs.toList[k * 5 + j]? = some v := by rw [← List.getElem?_drop, ← hj, ← h3, List.getElem?_take_of_lt hlt]
 rw [World.var?_cell hg hv (k * 5 + j)]
 simpa using h4
theorem tab_s {W : World} {r : List (String × DataW Unit)} (h : laidMet Tryz.prog (("filigree/ast.statementKinds", Rows.laid_filigree_ast_statementKinds) :: r) W) : ∀ k, k < 7 → RowC W 2 (k * 8) (ksC k) := by
 obtain ⟨ps, ⟨g, t, cs, fuel, p, q, hg, ht, hv, hd, _, _⟩, _⟩ := h
 obtain rfl := Option.some.inj (gSt.symm.trans hg)
 obtain rfl := Option.some.inj (tSt.symm.trans ht)
 obtain ⟨ds, hx, hn, hcs⟩ := arr_rows gA Tryz.underlying195 (by kernel_rfl) (fun m c d q hc => statementKind_data hc) hd
 have hds : ∀ k, k < 7 → ∃ d, ds[k]? = some d ∧ gA d = ksC k := by
  have hx2 := hx.symm
  simp only [Rows.laid_filigree_ast_statementKinds, DataW.agg.injEq] at hx2
  intro k hk
  subst hx2
  match k, hk with
  | 0, _ => exact ⟨_, rfl, rfl⟩
  | 1, _ => exact ⟨_, rfl, rfl⟩
  | 2, _ => exact ⟨_, rfl, rfl⟩
  | 3, _ => exact ⟨_, rfl, rfl⟩
  | 4, _ => exact ⟨_, rfl, rfl⟩
  | 5, _ => exact ⟨_, rfl, rfl⟩
  | 6, _ => exact ⟨_, rfl, rfl⟩
 intro k hk j v hj
 obtain ⟨d, h1, h2⟩ := hds k hk
 have h3 := hcs k d h1
 rw [h2] at h3
 have hlt : j < 8 := by
  have hl : (ksC k).length = 8 := rfl
  have := (List.getElem?_eq_some_iff.1 hj).1
  omega
 have h4 : cs.toList[k * 8 + j]? = some v := by rw [← List.getElem?_drop, ← hj, ← h3, List.getElem?_take_of_lt hlt]
 rw [World.var?_cell hg hv (k * 8 + j)]
 simpa using h4
theorem tab_i {W : World} {r : List (String × DataW Unit)} (h : laidMet Tryz.prog (("filigree/ast.itemKinds", Rows.laid_filigree_ast_itemKinds) :: r) W) : ∀ k, k < 11 → RowC W 0 (k * 8) (kiC k) := by
 obtain ⟨ps, ⟨g, t, cs, fuel, p, q, hg, ht, hv, hd, _, _⟩, _⟩ := h
 obtain rfl := Option.some.inj (gI.symm.trans hg)
 obtain rfl := Option.some.inj (tI.symm.trans ht)
 obtain ⟨ds, hx, hn, hcs⟩ := arr_rows gA Tryz.underlying171 (by kernel_rfl) (fun m c d q hc => itemKind_data hc) hd
 have hds : ∀ k, k < 11 → ∃ d, ds[k]? = some d ∧ gA d = kiC k := by
  have hx2 := hx.symm
  simp only [Rows.laid_filigree_ast_itemKinds, DataW.agg.injEq] at hx2
  intro k hk
  subst hx2
  match k, hk with
  | 0, _ => exact ⟨_, rfl, rfl⟩
  | 1, _ => exact ⟨_, rfl, rfl⟩
  | 2, _ => exact ⟨_, rfl, rfl⟩
  | 3, _ => exact ⟨_, rfl, rfl⟩
  | 4, _ => exact ⟨_, rfl, rfl⟩
  | 5, _ => exact ⟨_, rfl, rfl⟩
  | 6, _ => exact ⟨_, rfl, rfl⟩
  | 7, _ => exact ⟨_, rfl, rfl⟩
  | 8, _ => exact ⟨_, rfl, rfl⟩
  | 9, _ => exact ⟨_, rfl, rfl⟩
  | 10, _ => exact ⟨_, rfl, rfl⟩
 intro k hk j v hj
 obtain ⟨d, h1, h2⟩ := hds k hk
 have h3 := hcs k d h1
 rw [h2] at h3
 have hlt : j < 8 := by
  have hl : (kiC k).length = 8 := rfl
  have := (List.getElem?_eq_some_iff.1 hj).1
  omega
 have h4 : cs.toList[k * 8 + j]? = some v := by rw [← List.getElem?_drop, ← hj, ← h3, List.getElem?_take_of_lt hlt]
 rw [World.var?_cell hg hv (k * 8 + j)]
 simpa using h4
/-- The cells of the listed variables. -/
theorem env_of {W : World} (h0 : laidMetH Tryz.prog LD W) (hsh : W.ShapedOpen Tryz.prog) : EnvA W := by
 have h : laidMet Tryz.prog LD W := by rw [← MakeChecks.laidMetH_plain _ _ _ (by kernel_rfl)]; exact h0
 have h1 : laidMet Tryz.prog [("filigree/ast.expressionKinds", Rows.laid_filigree_ast_expressionKinds), ("filigree/ast.statementKinds", Rows.laid_filigree_ast_statementKinds), ("filigree/ast.itemKinds", Rows.laid_filigree_ast_itemKinds)] W := laidMet.tail h
 have h2 : laidMet Tryz.prog [("filigree/ast.statementKinds", Rows.laid_filigree_ast_statementKinds), ("filigree/ast.itemKinds", Rows.laid_filigree_ast_itemKinds)] W := laidMet.tail h1
 have h3 : laidMet Tryz.prog [("filigree/ast.itemKinds", Rows.laid_filigree_ast_itemKinds)] W := laidMet.tail h2
 refine ⟨⟨?_, ?_⟩, tab_x h1, tab_s h2, tab_i h3⟩
 ·exact cell_of_shapedOpen_int (P := Tryz.prog) (g := 4) (t := 3) (zero := #[.int .i64 0]) hsh (of_decide_eq_true (by kernel_rfl)) (by kernel_rfl) rfl (by kernel_rfl) (by kernel_rfl) Tryz.underlying3
 ·obtain ⟨ps, ⟨g, t, cs, fuel, p, q, hg, ht, hv, hd, _, _⟩, _⟩ := h
  obtain rfl := Option.some.inj (gSig.symm.trans hg)
  obtain rfl := Option.some.inj (tSig.symm.trans ht)
  obtain ⟨ds, hx, hcs⟩ := arr_vals gS Tryz.underlying204 (by kernel_rfl) (by kernel_rfl) (fun m c d q hc => by
   obtain ⟨s, e1, e2, _⟩ := DataW.trod_string Tryz.underlying9 hc
   simp only [List.cons.injEq, and_true] at e1
   simp only [Prod.mk.injEq] at e2
   rw [e1, e2.1]; rfl) hd
  have hds : ds.map gS = signCells := by
   have : ds = (signList.map fun s => (DataW.lit (.string s) : DataW _)) := by
    have := hx.symm
    simp only [Rows.laid_filigree_scan_signs, DataW.agg.injEq] at this
    exact this
   rw [this]; rfl
  rw [hds] at hcs
  intro j v hj
  rw [Nat.zero_add, World.var?_cell hg hv j, ← hj, ← hcs]
  simp
/-- The door's own heap meets the condition. -/
theorem door_met (os : Os) (args : Array Value) : laidMetH Tryz.prog LD ((World.doorLaid Tryz.prog 55 os).forCall (fun _ _ => 0) ⟨#[], args, []⟩).memory :=
 laidMetH_of_parts3 (fuel := 8) (laidMet_of_run' 8 (by kernel_rfl) (by kernel_rfl)) (by kernel_rfl) (by kernel_rfl)
end Go.Proofs.YtiipjbafdhijlaaGreatDoor
