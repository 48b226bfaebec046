/-
  NlN, in one text.
-/
import Derived.Test.YtiipjbafdhijlaaGreatDoorZAW
import Derived.Test.YtiipjbafdhijlaaGreatDoorZAG
import Derived.Laws.AppendOwn
import Derived.Laws.AppendOwnNone
import Derived.OwnWalk
import Derived.WalkSpells
import Derived.Test.YtiipjbafdhijlaaGreatDoorZaG
import Derived.Deep.LoopGhost
import Derived.Test.YtiipjbafdhijlaaGreatDoorZAp
import Derived.Test.YtiipjbafdhijlaaGreatDoorZtP
namespace Go.Proofs.YtiipjbafdhijlaaGreatDoor
open Go Go.RowKit
set_option linter.unusedVariables false
set_option linter.unusedSimpArgs false
open Go.Sort
/-! ### Trees without their places -/
end Go.Proofs.YtiipjbafdhijlaaGreatDoor
namespace Go.Proofs.YtiipjbafdhijlaaGreatDoor
open Go Go.RowKit
set_option linter.unusedVariables false
set_option linter.unusedSimpArgs false
open Go.Sort
end Go.Proofs.YtiipjbafdhijlaaGreatDoor
namespace Go.Proofs.YtiipjbafdhijlaaGreatDoor
open Go Go.RowKit
set_option linter.unusedVariables false
set_option linter.unusedSimpArgs false
open Go.Sort
end Go.Proofs.YtiipjbafdhijlaaGreatDoor
namespace Go.Proofs.YtiipjbafdhijlaaGreatDoor
open Go Go.RowKit
set_option linter.unusedVariables false
set_option linter.unusedSimpArgs false
open Go.Sort
end Go.Proofs.YtiipjbafdhijlaaGreatDoor
namespace Go.Proofs.YtiipjbafdhijlaaGreatDoor
open Go Go.ChangeShapes Go.WideShapes Go.ChangeAt Go.RowKit Go.Joins Go.Sort Go.Deep
set_option linter.unusedVariables false
set_option linter.unusedSimpArgs false
section
variable {H : Type} {enc : TypeId × Value → H}
end
end Go.Proofs.YtiipjbafdhijlaaGreatDoor
namespace Go.Proofs.YtiipjbafdhijlaaGreatDoor
open Go Go.RowKit
set_option linter.unusedVariables false
set_option linter.unusedSimpArgs false
open Go.Sort
structure Wo7 (W V : World) (n0 g : Nat) (f : FT) : Prop where
 env : EnvA V
 low : Below W.heap.size W V
 hn : n0 ≤ V.heap.size
 fin : FT.In n0 V f
 box : V.heap[g]? = some (.cells #[.slice f.ma f.ml.length f.mc] 24 (0, 0))
theorem Wo7.keep {W V V' : World} {n0 g : Nat} {f : FT} (h : Wo7 W V n0 g f) (hb : Below V.heap.size V V') : Wo7 W V' n0 g f :=
 ⟨h.env.keep hb, h.low.trans (hb.mono h.low.size), Nat.le_trans h.hn hb.size, FT.In.keep (Below.keptTo hb h.hn) _ h.fin, block_kept h.box hb⟩
theorem checkF_zero7 {f : FT} (h : checkF f = 0) : f.ml.length ≤ 64 ∧ f.sz ≤ 65536 ∧ f.dp ≤ 64 ∧ ∀ m ∈ f.ml, mayM m = true := by
 unfold checkF at h
 by_cases h1 : 64 < f.ml.length
 ·rw [if_pos (by simpa using h1)] at h; exact absurd h (by decide)
 ·rw [if_neg (by simpa using h1)] at h
  by_cases h2 : (decide (65536 < f.sz) || decide (64 < f.dp)) = true
  ·rw [if_pos h2] at h; exact absurd h (by decide)
  ·rw [if_neg h2] at h
   simp only [Bool.or_eq_true, decide_eq_true_eq, not_or] at h2
   by_cases h3 : f.ml.all mayM = true
   ·exact ⟨by omega, by omega, by omega, List.all_eq_true.1 h3⟩
   ·rw [if_neg h3] at h; exact absurd h (by decide)
end Go.Proofs.YtiipjbafdhijlaaGreatDoor
