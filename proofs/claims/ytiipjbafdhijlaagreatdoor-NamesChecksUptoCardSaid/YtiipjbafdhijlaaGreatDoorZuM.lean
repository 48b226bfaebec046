/-
  NuM, in one text.
-/
import Derived.Test.YtiipjbafdhijlaaGreatDoorZuG
import Derived.Test.YtiipjbafdhijlaaGreatDoorZuK
namespace Go.Proofs.YtiipjbafdhijlaaGreatDoor
open Go Go.RowKit
set_option linter.unusedVariables false
set_option linter.unusedSimpArgs false
open Go.Sort
theorem refitem_any : ∀ x : IT, ItC x := by
 refine IT.ind ?_
 intro op nm nf xa xc xl sa sc sl la lc ll ea ec el pa pc pl ba bc bl ih0 ih1 n0 w hbk hwf hn0 hin
 rw [item_ref]
 have hon := fun V => refonly_any (.mk op nm nf xa xc xl sa sc sl la lc ll ea ec el pa pc pl ba bc bl) hbk V
 rw [IT.bk] at hbk
 rw [IT.Wf] at hwf
 rw [IT.In_mk] at hin
 obtain ⟨g1, g2, g3, g4, g5, g6⟩ := hwf
 obtain ⟨i1, i2, i3, i4, i5, i6⟩ := hin
 have l0 := XT.bkL_len xl
 have l1 := ST.bkL_len sl
 have hwx := (XT.wfL_iff xl).1 g1
 have hws := (ST.wfL_iff sl).1 g2
 refine refitem_walk op nm nf xa xc xl sa sc sl la lc ll ea ec el pa pc pl ba bc bl _ _ _ _ _ _ _ _ w (by omega) hon ?_ ?_ ?_ ?_ ?_ ?_ ?_
 all_goals intro V hV
 all_goals have hk := Below.keptTo hV hn0
 ·exact (reftarget_any xl (by omega) xa xc n0 V (InRow.keep hk (fun x _ h => XT.In.keep hk x h) i1)).mono fun e w' h => ⟨h.1, by rw [← h.2]; exact Below.refl _ _⟩
 ·exact refmayL_any xl (by omega) hwx xa xc n0 V (Nat.le_trans hn0 hV.size) (InRow.keep hk (fun x _ h => XT.In.keep hk x h) i1)
 ·exact refMayAll_of standS n0 sl (by omega) (fun y hy w2 e1 e2 => (refMayS_in y (by have := ST.bkL_mem hy; omega) (hws y hy)).1 n0 w2 e1 e2) sa sc V (Nat.le_trans hn0 hV.size) (InRow.keep hk (fun x _ h => ST.In.keep hk x h) i2)
 ·exact refitems_of ll ih0 (by omega) g3 la lc n0 V (Nat.le_trans hn0 hV.size) (InRow.keep hk (fun x _ h => IT.In.keep hk x h) i3)
 ·exact refitems_of el ih1 (by omega) g4 ea ec n0 V (Nat.le_trans hn0 hV.size) (InRow.keep hk (fun x _ h => IT.In.keep hk x h) i4)
 ·exact refbinds_any pl (by omega) g5 pa pc n0 V (Nat.le_trans hn0 hV.size) (InRow.keep hk (fun x _ h => BT.In.keep hk x h) i5)
 ·exact refbinds_any bl (by omega) g6 ba bc n0 V (Nat.le_trans hn0 hV.size) (InRow.keep hk (fun x _ h => BT.In.keep hk x h) i6)
theorem refcheckF_any (f : FT) (hbk : f.bk ≤ 4500000) (hwf : f.Wf) (n0 : Nat) (w : World) (hn0 : n0 ≤ w.heap.size) (hin : f.In n0 w) : Calls Tryz.prog 31 #[f.val] w fun e w' => e = .returned (.int .i64 (checkF f)) ∧ Below w.heap.size w w' :=
 refcheckF_of f (fun m _ x _ => refitem_any x) hbk hwf n0 w hn0 hin
theorem refCheck9 (W : World) (n0 : Nat) (f : FT) (hn0 : n0 ≤ W.heap.size) (he : EnvA W) (hwf : f.Wf) (hin : f.In n0 W) (hbk : f.bk ≤ 4500000) (hsz : f.sz ≤ 2000) :
  Calls Tryz.prog 11 #[f.val] W fun e W' => e = .returned (.int .i64 (checkP f)) ∧ Below W.heap.size W W' :=
 refCheck_any W n0 f hn0 he hwf hin hbk hsz (fun V hV => refcheckF_any f hbk hwf n0 V (Nat.le_trans hn0 hV.size) (FT.In.keep (Below.keptTo hV hn0) _ hin))
end Go.Proofs.YtiipjbafdhijlaaGreatDoor
