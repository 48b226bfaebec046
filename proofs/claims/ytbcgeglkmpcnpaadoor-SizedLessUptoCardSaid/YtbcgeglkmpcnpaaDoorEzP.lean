/-
  Blocks opened to cells, rows kept: no program.
-/
import Derived.Test.YtbcgeglkmpcnpaaDoorAsD
import Derived.Test.YtbcgeglkmpcnpaaDoorAsJ
import Derived.Lib.QuietBelow
import Derived.BigQuiet
import Derived.RangeFuncRecord
namespace Go.Proofs.YtbcgeglkmpcnpaaDoor
open Go Go.RowKit
set_option linter.unusedVariables false
set_option linter.unusedSimpArgs false
theorem open6 {w : World} {g : Nat} {v0 v1 v2 v3 v4 v5 : Value} {t : TypeId} (h : w.heap[g]? = some (.cells #[v0, v1, v2, v3, v4, v5] t (0, 0))) : w.cell? ⟨g, 0, none⟩ = some v0 ∧ w.cell? ⟨g, 1, none⟩ = some v1 ∧ w.cell? ⟨g, 2, none⟩ = some v2 ∧ w.cell? ⟨g, 3, none⟩ = some v3 ∧ w.cell? ⟨g, 4, none⟩ = some v4 ∧ w.cell? ⟨g, 5, none⟩ = some v5 := by
  simp [World.cell?, h]
theorem block_kept {w w' : World} {g : Nat} {o : Obj} (h : w.heap[g]? = some o) (hb : Below w.heap.size w w') : w'.heap[g]? = some o := (hb.block g (Array.getElem?_eq_some_iff.1 h).1).trans h
theorem block_alloc {w : World} {g : Nat} {o : Obj} (h : w.heap[g]? = some o) (x : Obj) : (w.alloc x).heap[g]? = some o := block_kept h ((Below.refl _ _).alloc (Nat.le_refl _) x)

theorem InRow.kept {α : Type} {k : Nat} {cells : α → List Value} {inn : α → Prop} {n : Nat} {W W' : World} {l : List α} {a : Option Addr} (h : InRow k cells inn n W l a) (hk : KeptTo n W W') {i : Nat} (hi : i < l.length) : ∃ b o, a = some ⟨b, o, none⟩ ∧ b < n ∧ RowC W' b (o + i * k) (cells l[i]) ∧ inn l[i] := by
  obtain ⟨b, o, ha, hb, hr, hx⟩ := h.at hi
  exact ⟨b, o, ha, hb, fun j v hv => hk b _ v hb (hr j v hv), hx⟩
end Go.Proofs.YtbcgeglkmpcnpaaDoor
