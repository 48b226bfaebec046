/-
  The rows of the laws of sized: what the listed variable holds.
-/
import Derived.Test.YtbcgeglkmpcnpaaDoorRows
import Derived.ProofKit
import Derived.LaidMore
import Derived.OpenShut
import Derived.Stop.Joined
import Derived.Lib.SmallJoins
import Derived.Lib.LaidTab
import Derived.Stop.LaidErr
import Derived.Shelf.Vars
import Derived.Deep.Slices
import Derived.Carry
import Derived.Deep.DeepHandedRow
import Derived.Test.YtbcgeglkmpcnpaaDoorEzE
namespace Go.Proofs.YtbcgeglkmpcnpaaDoor
open Go Go.ChangeShapes Go.WideShapes Go.ChangeAt Go.RowKit Go.Joins Go.Sort Go.Deep
set_option linter.unusedVariables false
set_option linter.unusedSimpArgs false

section
variable {H : Type} {enc : TypeId × Value → H}
/-- Plain data as cells. -/
def gV : DataW H → List Value
  | .lit (.bool b) => [.bool b]
  | .lit (.int k n) => [.int k n]
  | _ => []
def gA : DataW H → List Value
  | .agg l => l.flatMap gV
  | _ => []
/-- An array of one-cell elements, each element's value read off its datum. -/
theorem arr_vals {P : Program} {w : World} {base : Nat} {spare : Nat → Bool} {held : Bool} {fuel : Nat} {t e : TypeId} {n : Nat} {cs : List Value} {x : DataW H × List MemPlace} (g : DataW H → Value)
    (ht : P.underlying t = some (.array n e)) (hc : P.cellsOf e = 1) (hct : P.cellsOf t = n) (hel : ∀ m c d q, DataW.trod enc P w base spare held m e [c] = some (d, q) → c = g d)
    (h : DataW.trod enc P w base spare held fuel t cs = some x) : ∃ ds, x.1 = .agg ds ∧ cs = ds.map g := by
  obtain ⟨xs, m, rfl, hx, hlen, hn, hxi⟩ := DataW.trod_array ht h
  refine ⟨xs.map (·.1), by rw [hx], ?_⟩
  apply List.ext_getElem (by simp [hlen, hct, hn])
  intro i h1 h2
  have hi : i < n := by rw [hlen, hct] at h1; exact h1
  have h3 := hxi i hi
  rw [hc, Nat.mul_one] at h3
  have e1 : (cs.drop i).take 1 = [cs[i]] := by rw [List.drop_eq_getElem_cons h1]; rfl
  rw [e1, List.getElem?_eq_getElem (by omega)] at h3
  have h4 := hel m cs[i] xs[i].1 xs[i].2 h3
  rw [h4]; simp
/-- An array of elements of k cells, each element's cells read off its datum. -/
theorem arr_rows {P : Program} {w : World} {base : Nat} {spare : Nat → Bool} {held : Bool} {fuel : Nat} {t e : TypeId} {n k : Nat} {cs : List Value} {x : DataW H × List MemPlace} (g : DataW H → List Value)
    (ht : P.underlying t = some (.array n e)) (hc : P.cellsOf e = k) (hel : ∀ m c d q, DataW.trod enc P w base spare held m e c = some (d, q) → c = g d)
    (h : DataW.trod enc P w base spare held fuel t cs = some x) : ∃ ds, x.1 = .agg ds ∧ ds.length = n ∧ ∀ i d, ds[i]? = some d → (cs.drop (i * k)).take k = g d := by
  obtain ⟨xs, m, rfl, hx, hlen, hn, hxi⟩ := DataW.trod_array ht h
  refine ⟨xs.map (·.1), by rw [hx], by simpa using hn, fun i d hd => ?_⟩
  rw [List.getElem?_map] at hd
  obtain ⟨y, hy, rfl⟩ := Option.map_eq_some_iff.1 hd
  have hi : i < n := by
    have := (List.getElem?_eq_some_iff.1 hy).1
    omega
  have h3 := hxi i hi
  rw [hc, hy] at h3
  exact hel m _ y.1 y.2 h3
set_option maxRecDepth 100000 in
theorem kind_data {W : World} {base : Nat} {sp : Nat → Bool} {held : Bool} {fuel : Nat} {cs : List Value} {d : DataW H} {q : List MemPlace} (h : DataW.trod enc Tryd.prog W base sp held fuel 85 cs = some (d, q)) : cs = gA d := by
  obtain ⟨xs, n, _, hx, hl, hlen, hf⟩ := DataW.trod_struct Tryd.underlying85 h
  have hl5 : cs.length = 4 := hl.trans (by kernel_rfl)
  obtain rfl := (Prod.mk.inj hx).1
  match cs, hl5 with
  | [c0, c1, c2, c3], _ =>
    have e0 : DataW.trod enc Tryd.prog W base sp held n 3 (([c0, c1, c2, c3].drop 0).take (Tryd.prog.cellsOf 3)) = xs[0]? := hf 0 _ rfl
    have e1 : DataW.trod enc Tryd.prog W base sp held n 4 (([c0, c1, c2, c3].drop 1).take (Tryd.prog.cellsOf 4)) = xs[1]? := hf 1 _ rfl
    have e2 : DataW.trod enc Tryd.prog W base sp held n 3 (([c0, c1, c2, c3].drop 2).take (Tryd.prog.cellsOf 3)) = xs[2]? := hf 2 _ rfl
    have e3 : DataW.trod enc Tryd.prog W base sp held n 3 (([c0, c1, c2, c3].drop 3).take (Tryd.prog.cellsOf 3)) = xs[3]? := hf 3 _ rfl
    have k0 : Tryd.prog.cellsOf 4 = 1 := by kernel_rfl
    have k1 : Tryd.prog.cellsOf 3 = 1 := by kernel_rfl
    simp only [k0, k1] at e0 e1 e2 e3
    simp only [List.drop_zero, List.drop_succ_cons, List.take_succ_cons, List.take_zero] at e0 e1 e2 e3
    match xs, hlen with
    | [x0, x1, x2, x3], _ =>
      obtain ⟨b0, a0, z0, _⟩ := DataW.trod_int Tryd.underlying3 e0
      obtain ⟨b1, a1, z1⟩ := DataW.trod_bool Tryd.underlying4 e1
      obtain ⟨b2, a2, z2, _⟩ := DataW.trod_int Tryd.underlying3 e2
      obtain ⟨b3, a3, z3, _⟩ := DataW.trod_int Tryd.underlying3 e3
      simp only [List.cons.injEq, and_true] at a0 a1 a2 a3
      rw [a0, a1, a2, a3, z0, z1, z2, z3]
      rfl
end

theorem own : ownKnob Tryd.prog.godebug = none := by kernel_rfl
theorem laidOut : laidOutB Tryd.prog = true := by kernel_rfl
def LD : List (String × DataW Unit) := [("filigree/sized.kinds", Rows.laid_filigree_sized_kinds)]
theorem gK : Tryd.prog.globalNamed "filigree/sized.kinds" = some 0 := by kernel_rfl
theorem tK : (Tryd.prog.globals[0]?).map (·.type) = some 86 := by kernel_rfl
theorem tab_k {W : World} {r : List (String × DataW Unit)} (h : laidMet Tryd.prog (("filigree/sized.kinds", Rows.laid_filigree_sized_kinds) :: r) W) : ∀ k, k < 9 → RowC W 0 (k * 4) (keC k) := by
  obtain ⟨ps, ⟨g, t, cs, fuel, p, q, hg, ht, hv, hd, _, _⟩, _⟩ := h
  obtain rfl := Option.some.inj (gK.symm.trans hg)
  obtain rfl := Option.some.inj (tK.symm.trans ht)
  obtain ⟨ds, hx, hn, hcs⟩ := arr_rows gA Tryd.underlying86 (by kernel_rfl) (fun m c d q hc => kind_data hc) hd
  have hds : ∀ k, k < 9 → ∃ d, ds[k]? = some d ∧ gA d = keC k := by
    have hx2 := hx.symm
    simp only [Rows.laid_filigree_sized_kinds, DataW.agg.injEq] at hx2
    intro k hk
    subst hx2
    match k, hk with
    | 0, _ => exact ⟨_, rfl, rfl⟩
    | 1, _ => exact ⟨_, rfl, rfl⟩
    | 2, _ => exact ⟨_, rfl, rfl⟩
    | 3, _ => exact ⟨_, rfl, rfl⟩
    | 4, _ => exact ⟨_, rfl, rfl⟩
    | 5, _ => exact ⟨_, rfl, rfl⟩
    | 6, _ => exact ⟨_, rfl, rfl⟩
    | 7, _ => exact ⟨_, rfl, rfl⟩
    | 8, _ => exact ⟨_, rfl, rfl⟩
  intro k hk j v hj
  obtain ⟨d, h1, h2⟩ := hds k hk
  have h3 := hcs k d h1
  rw [h2] at h3
  have hlt : j < 4 := by
    have hl : (keC k).length = 4 := rfl
    have := (List.getElem?_eq_some_iff.1 hj).1
    omega
  have h4 : cs.toList[k * 4 + j]? = some v := by rw [← List.getElem?_drop, ← hj, ← h3, List.getElem?_take_of_lt hlt]
  rw [World.var?_cell hg hv (k * 4 + j)]
  simpa using h4
/-- The cells of the listed variable. -/
theorem env_of {W : World} (h0 : laidMetH Tryd.prog LD W) (hsh : W.ShapedOpen Tryd.prog) : EnvZ W := by
  have h : laidMet Tryd.prog LD W := by rw [← MakeChecks.laidMetH_plain _ _ _ (by kernel_rfl)]; exact h0
  exact tab_k h
/-- The door's own heap meets the condition. -/
theorem door_met (os : Os) (args : Array Value) : laidMetH Tryd.prog LD ((World.doorLaid Tryd.prog 55 os).forCall (fun _ _ => 0) ⟨#[], args, []⟩).memory :=
  laidMetH_of_parts3 (fuel := 8) (laidMet_of_run' 8 (by kernel_rfl) (by kernel_rfl)) (by kernel_rfl) (by kernel_rfl)
end Go.Proofs.YtbcgeglkmpcnpaaDoor
