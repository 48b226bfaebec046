/-
  The laws of sized over any design: what Expr leaves of an expression made of sized ones.
-/
import Derived.Test.YtglpkfeokojdkaaDoorEyR
namespace Go.Proofs.YtglpkfeokojdkaaDoor
open Go Go.RowKit
set_option linter.unusedVariables false
set_option linter.unusedSimpArgs false
open Go.Sort

theorem tells_same {gl : List GT} {x y : ET} {w0 F wv : Int} (h : Tells gl x w0 F wv) (hn : nrmE x = nrmE y) : Tells gl y w0 F wv := by
  obtain ⟨a1, a2⟩ := exprS_nrm gl x w0
  obtain ⟨b1, b2⟩ := exprS_nrm gl y w0
  rw [hn] at a1 a2
  exact ⟨by rw [← b1, a1]; exact h.f, fun q => by rw [← nrm_wd, ← b2, a2, nrm_wd]; exact h.w q⟩
/-- What a call of Expr leaves: the fault, and, of none, the width. -/
def XpP (F wv : Int) (W : World) : Ending → World → Prop := fun e w' => ∃ y : ET, e = .returned (.tuple #[y.val, .int .i64 F]) ∧ (F = 0 → y.wd = wv) ∧ y.Own w' W.heap.size w'.heap.size ∧ Below W.heap.size W w'
theorem xp_of {gl : List GT} {x : ET} {w0 F wv : Int} (t : Tells gl x w0 F wv) {W : World} {e : Ending} {w' : World} (h : ExprP gl x w0 W e w') : XpP F wv W e w' := by
  obtain ⟨y, h1, h2, h3, h4⟩ := h
  exact ⟨y, by rw [h1, t.f], fun q => by rw [same_wd h2]; exact t.w q, h3, h4⟩
/-- A design's signals, and two expressions, in a world. -/
structure In2 (n0 : Nat) (gl : List GT) (ga : Option Addr) (a b : ET) (W : World) : Prop where
  n : n0 ≤ W.heap.size
  z : EnvZ W
  g : GsIn n0 W gl ga
  a : a.In n0 W
  b : b.In n0 W
theorem In2.keep {n0 : Nat} {gl : List GT} {ga : Option Addr} {a b : ET} {w W : World} (h : In2 n0 gl ga a b w) (hb : Below w.heap.size w W) : In2 n0 gl ga a b W := ⟨Nat.le_trans h.n hb.size, h.z.keep hb, h.g.keep (Below.keptTo hb h.n), h.a.keep (Below.keptTo hb h.n), h.b.keep (Below.keptTo hb h.n)⟩
theorem xcall {gl : List GT} {ga : Option Addr} {gc : Nat} {qa : Option Addr} {qn qc : Nat} {ka : Option Addr} {kn kc : Nat} {a b x : ET} {w0 F wv : Int} (hgl : gl.length ≤ 9000000) (hnl : ∀ g ∈ gl, g.nm.length ≤ 12000000) (t : Tells gl x w0 F wv) (hk : x.bk ≤ 4500000) (hw : x.Wf) {n0 : Nat} {W : World} (h : In2 n0 gl ga a b W) (hi : x.In W.heap.size W) :
    Calls Tryd.prog 14 #[.agg #[.slice ga gl.length gc, .slice qa qn qc, .slice ka kn kc], x.val, .int .i64 w0] W (XpP F wv W) :=
  (expr_any gl ga gc qa qn qc ka kn kc hgl hnl x hk hw w0 W.heap.size W (Nat.le_refl _) h.z (InRow.less h.n (fun _ _ h => h) h.g) hi).mono (fun e w' h => xp_of t h)
theorem binT_bk (xn : Int) (g : Nat) (a b : ET) : (binT xn g a b).bk = 1 + (a.bk + b.bk) := by simp [binT, ET.bk, ET.bkL]
theorem hs3 {n g1 g2 g3 : Nat} {o1 o2 o3 : Obj} {w V V' : World} (h : Below n w V ∧ V.heap[g1]? = some o1 ∧ V.heap[g2]? = some o2 ∧ V.heap[g3]? = some o3) (hb : Below V.heap.size V V') (hn : n ≤ V.heap.size) : Below n w V' ∧ V'.heap[g1]? = some o1 ∧ V'.heap[g2]? = some o2 ∧ V'.heap[g3]? = some o3 := ⟨h.1.trans (hb.mono hn), block_kept h.2.1 hb, block_kept h.2.2.1 hb, block_kept h.2.2.2 hb⟩
end Go.Proofs.YtglpkfeokojdkaaDoor
