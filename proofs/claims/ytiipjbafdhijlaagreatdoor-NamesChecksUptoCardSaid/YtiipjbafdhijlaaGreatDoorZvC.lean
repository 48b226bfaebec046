/-
  NvC, in one text.
-/
import Derived.Test.YtiipjbafdhijlaaGreatDoorZuM
import Derived.Test.YtiipjbafdhijlaaGreatDoorZlP
import Derived.Lib.QuietBelow
import Derived.BigQuiet
namespace Go.Proofs.YtiipjbafdhijlaaGreatDoor
open Go Go.RowKit
set_option linter.unusedVariables false
set_option linter.unusedSimpArgs false
open Go.Sort
set_option maxHeartbeats 16000000 in
set_option maxRecDepth 100000 in
theorem checks_any (W : World) (n0 : Nat) (f : FT) (hn0 : n0 ≤ W.heap.size) (he : EnvA W) (hwf : f.Wf) (hin : f.In n0 W) (hbk : f.bk ≤ 1100000) :
  Calls Tryz.prog 3 #[f.val] W fun e W' => e = .returned (.bool true) ∧ Below W.heap.size W W' := by
 obtain ⟨ma, mc, ml⟩ := f
 have hbl : MT.bkL ml ≤ 1100000 := by have : 1 + MT.bkL ml ≤ 1100000 := hbk; omega
 have hsz : FT.sz ⟨ma, mc, ml⟩ ≤ 4500000 := by have := MT.szL_bk ml; show MT.szL ml ≤ _; omega
 obtain ⟨g, hg⟩ : ∃ g, W.heap.size = g := ⟨_, rfl⟩
 obtain ⟨W1, hW1⟩ : ∃ W1, W.alloc (.cells #[.slice ma ml.length mc] 24) = W1 := ⟨_, rfl⟩
 have hB1 : Below W.heap.size W W1 := by rw [← hW1]; exact (Below.refl _ _).alloc (Nat.le_refl _) _
 have hwo : Wo7 W W1 n0 g ⟨ma, mc, ml⟩ := ⟨he.keep hB1, hB1, Nat.le_trans hn0 hB1.size, FT.In.keep (Below.keptTo hB1 hn0) _ hin, by rw [← hW1, ← hg]; exact World.alloc_heap_new W _⟩
 have HO := Lib.hid hwo
 have HWF := Lib.hid hwf
 have HS := Lib.hid hsz
 have HBK := Lib.hid hbk
 simp only [FT.val, FT.cells]
 clear he hwf hin hB1 hwo hsz hbk
 go_enter Tryz.func3, Tryz.ntmps3
 go_wp2_with fail
 (try rw [hW1])
 refine (live7_any _ HO.out.env).mono ?_
 rintro e V1 ⟨rfl, hb⟩
 replace HO := Lib.hid (HO.out.keep hb)
 clear hW1 hb
 have y0 := (cell_of_box_1 HO.out.box).1
 have q2 := few7_any ⟨ma, mc, ml⟩ HS.out n0 V1 HO.out.hn HO.out.fin
 obtain ⟨fw, hfw⟩ : ∃ b, (decide (FT.sz ⟨ma, mc, ml⟩ ≤ 2000) && decide (FT.dp ⟨ma, mc, ml⟩ ≤ 100)) = b := ⟨_, rfl⟩
 have HFW := Lib.hid hfw
 rw [hfw] at q2
 simp only [FT.val, FT.cells] at q2
 clear hfw
 go_wp2_with fail
 refine q2.mono ?_
 rintro e V2 ⟨rfl, hb⟩
 replace HO := Lib.hid (HO.out.keep hb)
 clear hb y0 q2
 have y0 := (cell_of_box_1 HO.out.box).1
 cases fw with
 | false =>
  go_wp2
  go_ret
  exact ⟨rfl, HO.out.low⟩
 | true =>
  have hsz2 : FT.sz ⟨ma, mc, ml⟩ ≤ 2000 := by have := HFW.out; simp only [Bool.and_eq_true, decide_eq_true_eq] at this; exact this.1
  obtain ⟨CP, hCP⟩ : ∃ CP, checkP ⟨ma, mc, ml⟩ = CP := ⟨_, rfl⟩
  have q3 : ∀ (dq : Nat) (osq : Array Obj), Calls Tryz.prog 10 #[.agg #[.slice ma ml.length mc]] (grow (redrawn V2 dq) osq) fun e w' => e = .returned (.int .i64 CP) ∧ Below (grow (redrawn V2 dq) osq).heap.size (grow (redrawn V2 dq) osq) w' := fun dq osq => by
   have ho := HO.out.keep (below_regrown V2 dq osq)
   have q := namesCheck_any (grow (redrawn V2 dq) osq) n0 ⟨ma, mc, ml⟩ ho.hn ho.env HWF.out ho.fin (by have := HBK.out; omega)
   rw [hCP] at q
   exact q
  have q4 : ∀ (dq : Nat) (osq : Array Obj), Calls Tryz.prog 11 #[.agg #[.slice ma ml.length mc]] (grow (redrawn V2 dq) osq) fun e w' => e = .returned (.int .i64 CP) ∧ Below (grow (redrawn V2 dq) osq).heap.size (grow (redrawn V2 dq) osq) w' := fun dq osq => by
   have ho := HO.out.keep (below_regrown V2 dq osq)
   have q := refCheck9 (grow (redrawn V2 dq) osq) n0 ⟨ma, mc, ml⟩ ho.hn ho.env HWF.out ho.fin (by have := HBK.out; omega) hsz2
   rw [hCP] at q
   exact q
  have Q3 := Lib.hid q3
  have Q4 := Lib.hid q4
  have y0R := cell_regrown y0
  clear q3 q4 hsz2 hCP HFW hbl
  go_upto_region 6 with (fail)
  refine wp_region_quiet_below (by kernel_rfl) (by kernel_rfl) ?_
  repeat (go_big_quiet_step (first | (go_at_call 10; exact Calls.regrown_of (Q3.out _ _)) | (go_at_call 11; exact Calls.regrown_of (Q4.out _ _))))
  refine wpQuiet_nil ?_
  intro _ hw'
  obtain ⟨⟨dq, osq⟩, hw''⟩ := hw'
  subst hw''
  have hlow := (HO.out.keep (below_regrown V2 dq osq)).low
  clear y0R y0
  generalize grow (redrawn V2 dq) osq = w3 at *
  have ec : (CP == CP) = true := by simp
  go_wp2
  go_ret
  exact ⟨by simp, hlow⟩
end Go.Proofs.YtiipjbafdhijlaaGreatDoor
