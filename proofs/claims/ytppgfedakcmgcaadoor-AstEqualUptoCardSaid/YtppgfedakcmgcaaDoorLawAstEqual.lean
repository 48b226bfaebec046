/-
  Same is same. For every input of the bulk that the statement names; the listed variables hold what the program's text lays in them.
-/
import Derived.Test.YtppgfedakcmgcaaDoorTie
import Derived.Test.YtppgfedakcmgcaaDoorCards
import Derived.Test.YtppgfedakcmgcaaDoorAsOp
import Derived.Test.YtppgfedakcmgcaaDoorAsLv
import Derived.JoinedCond
import Derived.Deep.DeepHandedRow
import Derived.Test.YtppgfedakcmgcaaDoorAsMe
import Derived.Lib.QuietBelow
import Derived.BigQuiet
namespace Go.Proofs.YtppgfedakcmgcaaDoor.astEqual
open Go Go.ChangeShapes Go.WideShapes Go.ChangeAt Go.RowKit Go.Joins Go.Sort Go.Deep
set_option linter.unusedVariables false
set_option linter.unusedSimpArgs false

set_option maxHeartbeats 8000000 in
set_option maxRecDepth 100000 in
theorem walk (x y z : FT) (hb0 : x.bk ≤ 1048576) (hb1 : y.bk ≤ 1048576) (hb2 : z.bk ≤ 1048576) (hw0 : x.Wf) (hw1 : y.Wf) (hw2 : z.Wf) (W : World) (he : EnvA W) (hx : x.In W.heap.size W) (hy : y.In W.heap.size W) (hz : z.In W.heap.size W) : Calls Tryd.prog 8 #[x.val, y.val, z.val] W fun e w' => e = .returned (.bool true) ∧ Below W.heap.size W w' := by
  have e0 : x.sz ≤ 1048576 := by have := MT.szL_bk x.ml; have h2 : 1 + MT.bkL x.ml ≤ 1048576 := hb0; show MT.szL x.ml ≤ _; omega
  have e1 : y.sz ≤ 1048576 := by have := MT.szL_bk y.ml; have h2 : 1 + MT.bkL y.ml ≤ 1048576 := hb1; show MT.szL y.ml ≤ _; omega
  have e2 : z.sz ≤ 1048576 := by have := MT.szL_bk z.ml; have h2 : 1 + MT.bkL z.ml ≤ 1048576 := hb2; show MT.szL z.ml ≤ _; omega
  have few0 := fun (w' : World) h1 h2 => few_any x (by omega) W.heap.size w' h1 h2
  obtain ⟨q0, hq0⟩ : ∃ b, (decide (x.sz ≤ 2000) && decide (x.dp ≤ 100)) = b := ⟨_, rfl⟩
  rw [hq0] at few0
  have few1 := fun (w' : World) h1 h2 => few_any y (by omega) W.heap.size w' h1 h2
  obtain ⟨q1, hq1⟩ : ∃ b, (decide (y.sz ≤ 2000) && decide (y.dp ≤ 100)) = b := ⟨_, rfl⟩
  rw [hq1] at few1
  have few2 := fun (w' : World) h1 h2 => few_any z (by omega) W.heap.size w' h1 h2
  obtain ⟨q2, hq2⟩ : ∃ b, (decide (z.sz ≤ 2000) && decide (z.dp ≤ 100)) = b := ⟨_, rfl⟩
  rw [hq2] at few2
  have sxy := fun (w' : World) h1 h2 h3 => same_any x y (by omega) (by omega) W.heap.size w' h1 h2 h3
  have sxx := fun (w' : World) h1 h2 h3 => same_any x x (by omega) (by omega) W.heap.size w' h1 h2 h3
  have syx := fun (w' : World) h1 h2 h3 => same_any y x (by omega) (by omega) W.heap.size w' h1 h2 h3
  have syz := fun (w' : World) h1 h2 h3 => same_any y z (by omega) (by omega) W.heap.size w' h1 h2 h3
  have sxz := fun (w' : World) h1 h2 h3 => same_any x z (by omega) (by omega) W.heap.size w' h1 h2 h3
  have c0 := fun (w' : World) h1 h2 h3 => check_file_any x (by omega) hw0 W.heap.size w' h1 h2 h3
  have z0 := fun (w' : World) h1 h2 => size_any x (by omega) W.heap.size w' h1 h2
  have d0 := fun (w' : World) h1 h2 => deep_any x (by omega) W.heap.size w' h1 h2
  have c1 := fun (w' : World) h1 h2 h3 => check_file_any y (by omega) hw1 W.heap.size w' h1 h2 h3
  have z1 := fun (w' : World) h1 h2 => size_any y (by omega) W.heap.size w' h1 h2
  have d1 := fun (w' : World) h1 h2 => deep_any y (by omega) W.heap.size w' h1 h2
  rw [sameF_refl] at sxx
  rw [sameF_symm x y] at syx
  obtain ⟨s, hs⟩ : ∃ s, sameF x y = s := ⟨_, rfl⟩
  rw [hs] at sxy syx
  have hsm := same_facts x y
  rw [hs] at hsm
  have htr := sameF_trans x y z
  rw [hs] at htr
  obtain ⟨C0, hC0⟩ : ∃ c, checkF x = c := ⟨_, rfl⟩
  obtain ⟨C1, hC1⟩ : ∃ c, checkF y = c := ⟨_, rfl⟩
  obtain ⟨S0, hS0⟩ : ∃ c, x.sz = c := ⟨_, rfl⟩
  obtain ⟨S1, hS1⟩ : ∃ c, y.sz = c := ⟨_, rfl⟩
  obtain ⟨D0, hD0⟩ : ∃ c, x.dp = c := ⟨_, rfl⟩
  obtain ⟨D1, hD1⟩ : ∃ c, y.dp = c := ⟨_, rfl⟩
  obtain ⟨r1, hr1⟩ : ∃ c, sameF y z = c := ⟨_, rfl⟩
  obtain ⟨r2, hr2⟩ : ∃ c, sameF x z = c := ⟨_, rfl⟩
  rw [hC0] at c0 hsm
  rw [hC1] at c1 hsm
  rw [hS0] at z0 hsm
  rw [hS1] at z1 hsm
  rw [hD0] at d0 hsm
  rw [hD1] at d1 hsm
  rw [hr1] at syz htr
  rw [hr2] at sxz htr
  have HSM := Lib.hid hsm
  have HTR := Lib.hid htr
  clear hq0 hq1 hq2 e0 e1 e2 hs hC0 hC1 hS0 hS1 hD0 hD1 hr1 hr2 hsm htr hb0 hb1 hb2 hw0 hw1 hw2
  have j0 := hx
  have j1 := hy
  have j2 := hz
  obtain ⟨ma, mc, ml⟩ := x
  obtain ⟨na, nc, nl⟩ := y
  obtain ⟨oa, oc, ol⟩ := z
  simp only [FT.val, FT.cells] at few0 few1 few2 sxy sxx syx syz sxz c0 c1 z0 z1 d0 d1 ⊢
  have Hfew0 := Lib.hid few0
  have Hfew1 := Lib.hid few1
  have Hfew2 := Lib.hid few2
  have Hsxy := Lib.hid sxy
  have Hsxx := Lib.hid sxx
  have Hsyx := Lib.hid syx
  have Hsyz := Lib.hid syz
  have Hsxz := Lib.hid sxz
  have Hc0 := Lib.hid c0
  have Hc1 := Lib.hid c1
  have Hz0 := Lib.hid z0
  have Hz1 := Lib.hid z1
  have Hd0 := Lib.hid d0
  have Hd1 := Lib.hid d1
  clear few0 few1 few2 sxy sxx syx syz sxz c0 c1 z0 z1 d0 d1 hx hy hz
  have B0 := World.alloc_heap_new W (.cells #[.slice ma ml.length mc] 41)
  have B1 := World.alloc_heap_new (W.alloc (.cells #[.slice ma ml.length mc] 41)) (.cells #[.slice na nl.length nc] 41)
  have B2 := World.alloc_heap_new ((W.alloc (.cells #[.slice ma ml.length mc] 41)).alloc (.cells #[.slice na nl.length nc] 41)) (.cells #[.slice oa ol.length oc] 41)
  simp only [World.size_alloc] at B1 B2
  replace B0 := block_alloc (block_alloc B0 (.cells #[.slice na nl.length nc] 41)) (.cells #[.slice oa ol.length oc] 41)
  replace B1 := block_alloc B1 (.cells #[.slice oa ol.length oc] 41)
  have k1 : Below W.heap.size W (W.alloc (.cells #[.slice ma ml.length mc] 41)) := (Below.refl _ _).alloc (Nat.le_refl _) _
  have k2 := k1.alloc k1.size (.cells #[.slice na nl.length nc] 41)
  have hB := k2.alloc k2.size (.cells #[.slice oa ol.length oc] 41)
  clear k1 k2
  have he1 := he.keep hB
  have hn := hB.size
  replace j0 := FT.In.keep (Below.keptTo hB (Nat.le_refl _)) _ j0
  replace j1 := FT.In.keep (Below.keptTo hB (Nat.le_refl _)) _ j1
  replace j2 := FT.In.keep (Below.keptTo hB (Nat.le_refl _)) _ j2
  have HA := Lib.hid (And.intro j0 (And.intro j1 (And.intro j2 (And.intro he1 hn))))
  clear j0 j1 j2 he1 hn he
  go_enter Tryd.func8, Tryd.ntmps8
  go_upto_region 1 with (fail)
  generalize ((W.alloc (.cells #[.slice ma ml.length mc] 41)).alloc (.cells #[.slice na nl.length nc] 41)).alloc (.cells #[.slice oa ol.length oc] 41) = w1 at *
  generalize W.heap.size + 1 + 1 = g2 at *
  generalize W.heap.size + 1 = g1 at *
  go_wp2_with fail
  obtain ⟨j0, j1, j2, he1, hn⟩ := HA.out
  clear HA
  refine (live_any _ he1).mono ?_
  rintro e w9 ⟨rfl, hb⟩
  replace B0 := block_kept B0 hb
  replace B1 := block_kept B1 hb
  replace B2 := block_kept B2 hb
  replace j0 := FT.In.keep (Below.keptTo hb hn) _ j0
  replace j1 := FT.In.keep (Below.keptTo hb hn) _ j1
  replace j2 := FT.In.keep (Below.keptTo hb hn) _ j2
  replace he1 := he1.keep hb
  replace hB := hB.trans (hb.mono hB.size)
  replace hn := Nat.le_trans hn hb.size
  clear hb
  have HA := Lib.hid (And.intro j0 (And.intro j1 (And.intro j2 (And.intro he1 hn))))
  clear j0 j1 j2 he1 hn
  have f0 := (cell_of_box_1 B0).1
  have f1 := (cell_of_box_1 B1).1
  have f2 := (cell_of_box_1 B2).1
  go_wp2_with fail
  obtain ⟨j0, j1, j2, he1, hn⟩ := HA.out
  clear HA
  refine (Hfew0.out _ hn j0).mono ?_
  rintro e w9 ⟨rfl, hb⟩
  clear f0 f1 f2
  replace B0 := block_kept B0 hb
  replace B1 := block_kept B1 hb
  replace B2 := block_kept B2 hb
  replace j0 := FT.In.keep (Below.keptTo hb hn) _ j0
  replace j1 := FT.In.keep (Below.keptTo hb hn) _ j1
  replace j2 := FT.In.keep (Below.keptTo hb hn) _ j2
  replace he1 := he1.keep hb
  replace hB := hB.trans (hb.mono hB.size)
  replace hn := Nat.le_trans hn hb.size
  clear hb
  have HA := Lib.hid (And.intro j0 (And.intro j1 (And.intro j2 (And.intro he1 hn))))
  clear j0 j1 j2 he1 hn
  cases q0 with
  | false =>
    have f0 := (cell_of_box_1 B0).1
    have f1 := (cell_of_box_1 B1).1
    have f2 := (cell_of_box_1 B2).1
    go_wp2
    go_ret
    exact ⟨rfl, hB⟩
  | true =>
    have f0 := (cell_of_box_1 B0).1
    have f1 := (cell_of_box_1 B1).1
    have f2 := (cell_of_box_1 B2).1
    go_wp2_with fail
    obtain ⟨j0, j1, j2, he1, hn⟩ := HA.out
    clear HA
    refine (Hfew1.out _ hn j1).mono ?_
    rintro e w9 ⟨rfl, hb⟩
    clear f0 f1 f2
    replace B0 := block_kept B0 hb
    replace B1 := block_kept B1 hb
    replace B2 := block_kept B2 hb
    replace j0 := FT.In.keep (Below.keptTo hb hn) _ j0
    replace j1 := FT.In.keep (Below.keptTo hb hn) _ j1
    replace j2 := FT.In.keep (Below.keptTo hb hn) _ j2
    replace he1 := he1.keep hb
    replace hB := hB.trans (hb.mono hB.size)
    replace hn := Nat.le_trans hn hb.size
    clear hb
    have HA := Lib.hid (And.intro j0 (And.intro j1 (And.intro j2 (And.intro he1 hn))))
    clear j0 j1 j2 he1 hn
    cases q1 with
    | false =>
      have f0 := (cell_of_box_1 B0).1
      have f1 := (cell_of_box_1 B1).1
      have f2 := (cell_of_box_1 B2).1
      go_wp2
      go_ret
      exact ⟨rfl, hB⟩
    | true =>
      have f0 := (cell_of_box_1 B0).1
      have f1 := (cell_of_box_1 B1).1
      have f2 := (cell_of_box_1 B2).1
      go_wp2_with fail
      obtain ⟨j0, j1, j2, he1, hn⟩ := HA.out
      clear HA
      refine (Hfew2.out _ hn j2).mono ?_
      rintro e w9 ⟨rfl, hb⟩
      clear f0 f1 f2
      replace B0 := block_kept B0 hb
      replace B1 := block_kept B1 hb
      replace B2 := block_kept B2 hb
      replace j0 := FT.In.keep (Below.keptTo hb hn) _ j0
      replace j1 := FT.In.keep (Below.keptTo hb hn) _ j1
      replace j2 := FT.In.keep (Below.keptTo hb hn) _ j2
      replace he1 := he1.keep hb
      replace hB := hB.trans (hb.mono hB.size)
      replace hn := Nat.le_trans hn hb.size
      clear hb
      have HA := Lib.hid (And.intro j0 (And.intro j1 (And.intro j2 (And.intro he1 hn))))
      clear j0 j1 j2 he1 hn
      cases q2 with
      | false =>
        have f0 := (cell_of_box_1 B0).1
        have f1 := (cell_of_box_1 B1).1
        have f2 := (cell_of_box_1 B2).1
        go_wp2
        go_ret
        exact ⟨rfl, hB⟩
      | true =>
        have f0 := (cell_of_box_1 B0).1
        have f1 := (cell_of_box_1 B1).1
        have f2 := (cell_of_box_1 B2).1
        go_wp2_with fail
        obtain ⟨j0, j1, j2, he1, hn⟩ := HA.out
        clear HA
        refine (Hsxy.out _ hn j0 j1).mono ?_
        rintro e w9 ⟨rfl, hb⟩
        clear f0 f1 f2
        replace B0 := block_kept B0 hb
        replace B1 := block_kept B1 hb
        replace B2 := block_kept B2 hb
        replace j0 := FT.In.keep (Below.keptTo hb hn) _ j0
        replace j1 := FT.In.keep (Below.keptTo hb hn) _ j1
        replace j2 := FT.In.keep (Below.keptTo hb hn) _ j2
        replace he1 := he1.keep hb
        replace hB := hB.trans (hb.mono hB.size)
        replace hn := Nat.le_trans hn hb.size
        clear hb
        have HA := Lib.hid (And.intro j0 (And.intro j1 (And.intro j2 (And.intro he1 hn))))
        clear j0 j1 j2 he1 hn
        cases s with
        | true =>
          have h := HSM.out rfl
          obtain ⟨hc, hs, hd⟩ := h
          subst hc
          subst hs
          subst hd
          have h := HTR.out rfl
          subst h
          go_upto_region 5 with (fail)
          have f0 := (cell_of_box_1 B0).1
          have f1 := (cell_of_box_1 B1).1
          have f2 := (cell_of_box_1 B2).1
          have f0R := cell_regrown f0
          have f1R := cell_regrown f1
          have f2R := cell_regrown f2
          obtain ⟨j0, j1, j2, he1, hn⟩ := HA.out
          have bq := fun (dq : Nat) (os : Array Obj) => below_regrown w9 dq os
          have Qc0 := Lib.hid (fun (dq : Nat) (os : Array Obj) => Hc0.out (grow (redrawn w9 dq) os) (Nat.le_trans hn (bq dq os).size) (he1.keep (bq dq os)) (FT.In.keep (Below.keptTo (bq dq os) hn) _ j0))
          have Qc1 := Lib.hid (fun (dq : Nat) (os : Array Obj) => Hc1.out (grow (redrawn w9 dq) os) (Nat.le_trans hn (bq dq os).size) (he1.keep (bq dq os)) (FT.In.keep (Below.keptTo (bq dq os) hn) _ j1))
          have Qz0 := Lib.hid (fun (dq : Nat) (os : Array Obj) => Hz0.out (grow (redrawn w9 dq) os) (Nat.le_trans hn (bq dq os).size) (FT.In.keep (Below.keptTo (bq dq os) hn) _ j0))
          have Qz1 := Lib.hid (fun (dq : Nat) (os : Array Obj) => Hz1.out (grow (redrawn w9 dq) os) (Nat.le_trans hn (bq dq os).size) (FT.In.keep (Below.keptTo (bq dq os) hn) _ j1))
          have Qd0 := Lib.hid (fun (dq : Nat) (os : Array Obj) => Hd0.out (grow (redrawn w9 dq) os) (Nat.le_trans hn (bq dq os).size) (FT.In.keep (Below.keptTo (bq dq os) hn) _ j0))
          have Qd1 := Lib.hid (fun (dq : Nat) (os : Array Obj) => Hd1.out (grow (redrawn w9 dq) os) (Nat.le_trans hn (bq dq os).size) (FT.In.keep (Below.keptTo (bq dq os) hn) _ j1))
          clear bq j0 j1 j2 he1 hn
          refine wp_region_quiet_below (by kernel_rfl) (by kernel_rfl) ?_
          repeat (go_big_quiet_step (first | (go_at_call_of 19 (Value.agg #[Value.slice ma (List.length ml) mc]); exact Calls.regrown_of (Qc0.out _ _)) | (go_at_call 19; exact Calls.regrown_of (Qc1.out _ _)) | (go_at_call_of 17 (Value.agg #[Value.slice ma (List.length ml) mc]); exact Calls.regrown_of (Qz0.out _ _)) | (go_at_call 17; exact Calls.regrown_of (Qz1.out _ _)) | (go_at_call_of 18 (Value.agg #[Value.slice ma (List.length ml) mc]); exact Calls.regrown_of (Qd0.out _ _)) | (go_at_call 18; exact Calls.regrown_of (Qd1.out _ _))))
          refine wpQuiet_nil ?_
          intro _ hw'
          obtain ⟨⟨dq, osq⟩, hw''⟩ := hw'
          subst hw''
          have hb := below_regrown w9 dq osq
          obtain ⟨j0, j1, j2, he1, hn⟩ := HA.out
          clear HA
          clear f0R f1R f2R f0 f1 f2 Qc0 Qc1 Qz0 Qz1 Qd0 Qd1
          replace B0 := block_kept B0 hb
          replace B1 := block_kept B1 hb
          replace B2 := block_kept B2 hb
          replace j0 := FT.In.keep (Below.keptTo hb hn) _ j0
          replace j1 := FT.In.keep (Below.keptTo hb hn) _ j1
          replace j2 := FT.In.keep (Below.keptTo hb hn) _ j2
          replace he1 := he1.keep hb
          replace hB := hB.trans (hb.mono hB.size)
          replace hn := Nat.le_trans hn hb.size
          clear hb
          have HA := Lib.hid (And.intro j0 (And.intro j1 (And.intro j2 (And.intro he1 hn))))
          clear j0 j1 j2 he1 hn
          generalize grow (redrawn w9 dq) osq = w9 at *
          go_upto_region 7 with (fail)
          have f0 := (cell_of_box_1 B0).1
          have f1 := (cell_of_box_1 B1).1
          have f2 := (cell_of_box_1 B2).1
          have f0R := cell_regrown f0
          have f1R := cell_regrown f1
          have f2R := cell_regrown f2
          obtain ⟨j0, j1, j2, he1, hn⟩ := HA.out
          have bq := fun (dq : Nat) (os : Array Obj) => below_regrown w9 dq os
          have Qxx := Lib.hid (fun (dq : Nat) (os : Array Obj) => Hsxx.out (grow (redrawn w9 dq) os) (Nat.le_trans hn (bq dq os).size) (FT.In.keep (Below.keptTo (bq dq os) hn) _ j0) (FT.In.keep (Below.keptTo (bq dq os) hn) _ j0))
          have Qyx := Lib.hid (fun (dq : Nat) (os : Array Obj) => Hsyx.out (grow (redrawn w9 dq) os) (Nat.le_trans hn (bq dq os).size) (FT.In.keep (Below.keptTo (bq dq os) hn) _ j1) (FT.In.keep (Below.keptTo (bq dq os) hn) _ j0))
          have Qyz := Lib.hid (fun (dq : Nat) (os : Array Obj) => Hsyz.out (grow (redrawn w9 dq) os) (Nat.le_trans hn (bq dq os).size) (FT.In.keep (Below.keptTo (bq dq os) hn) _ j1) (FT.In.keep (Below.keptTo (bq dq os) hn) _ j2))
          have Qxz := Lib.hid (fun (dq : Nat) (os : Array Obj) => Hsxz.out (grow (redrawn w9 dq) os) (Nat.le_trans hn (bq dq os).size) (FT.In.keep (Below.keptTo (bq dq os) hn) _ j0) (FT.In.keep (Below.keptTo (bq dq os) hn) _ j2))
          clear bq j0 j1 j2 he1 hn
          refine wp_region_quiet_below (by kernel_rfl) (by kernel_rfl) ?_
          repeat (go_big_quiet_step (first | (go_at_call_of 25 (Value.agg #[Value.slice na (List.length nl) nc]); go_at_call_of 25 (Value.agg #[Value.slice oa (List.length ol) oc]); exact Calls.regrown_of (Qyz.out _ _)) | (go_at_call_of 25 (Value.agg #[Value.slice ma (List.length ml) mc]); go_at_call_of 25 (Value.agg #[Value.slice oa (List.length ol) oc]); exact Calls.regrown_of (Qxz.out _ _)) | (go_at_call_of 25 (Value.agg #[Value.slice na (List.length nl) nc]); go_at_call_of 25 (Value.agg #[Value.slice ma (List.length ml) mc]); exact Calls.regrown_of (Qyx.out _ _)) | (go_at_call_of 25 (Value.agg #[Value.slice ma (List.length ml) mc]); go_at_call_of 25 (Value.agg #[Value.slice ma (List.length ml) mc]); exact Calls.regrown_of (Qxx.out _ _))))
          refine wpQuiet_nil ?_
          intro _ hw'
          obtain ⟨⟨dq, osq⟩, hw''⟩ := hw'
          subst hw''
          have hb := below_regrown w9 dq osq
          obtain ⟨j0, j1, j2, he1, hn⟩ := HA.out
          clear HA
          clear f0R f1R f2R f0 f1 f2 Qxx Qyx Qyz Qxz
          replace B0 := block_kept B0 hb
          replace B1 := block_kept B1 hb
          replace B2 := block_kept B2 hb
          replace j0 := FT.In.keep (Below.keptTo hb hn) _ j0
          replace j1 := FT.In.keep (Below.keptTo hb hn) _ j1
          replace j2 := FT.In.keep (Below.keptTo hb hn) _ j2
          replace he1 := he1.keep hb
          replace hB := hB.trans (hb.mono hB.size)
          replace hn := Nat.le_trans hn hb.size
          clear hb
          have HA := Lib.hid (And.intro j0 (And.intro j1 (And.intro j2 (And.intro he1 hn))))
          clear j0 j1 j2 he1 hn
          generalize grow (redrawn w9 dq) osq = w9 at *
          go_wp2
          go_ret
          exact ⟨rfl, hB⟩
        | false =>
          go_upto_region 5 with (fail)
          have f0 := (cell_of_box_1 B0).1
          have f1 := (cell_of_box_1 B1).1
          have f2 := (cell_of_box_1 B2).1
          have f0R := cell_regrown f0
          have f1R := cell_regrown f1
          have f2R := cell_regrown f2
          obtain ⟨j0, j1, j2, he1, hn⟩ := HA.out
          have bq := fun (dq : Nat) (os : Array Obj) => below_regrown w9 dq os
          have Qc0 := Lib.hid (fun (dq : Nat) (os : Array Obj) => Hc0.out (grow (redrawn w9 dq) os) (Nat.le_trans hn (bq dq os).size) (he1.keep (bq dq os)) (FT.In.keep (Below.keptTo (bq dq os) hn) _ j0))
          have Qc1 := Lib.hid (fun (dq : Nat) (os : Array Obj) => Hc1.out (grow (redrawn w9 dq) os) (Nat.le_trans hn (bq dq os).size) (he1.keep (bq dq os)) (FT.In.keep (Below.keptTo (bq dq os) hn) _ j1))
          have Qz0 := Lib.hid (fun (dq : Nat) (os : Array Obj) => Hz0.out (grow (redrawn w9 dq) os) (Nat.le_trans hn (bq dq os).size) (FT.In.keep (Below.keptTo (bq dq os) hn) _ j0))
          have Qz1 := Lib.hid (fun (dq : Nat) (os : Array Obj) => Hz1.out (grow (redrawn w9 dq) os) (Nat.le_trans hn (bq dq os).size) (FT.In.keep (Below.keptTo (bq dq os) hn) _ j1))
          have Qd0 := Lib.hid (fun (dq : Nat) (os : Array Obj) => Hd0.out (grow (redrawn w9 dq) os) (Nat.le_trans hn (bq dq os).size) (FT.In.keep (Below.keptTo (bq dq os) hn) _ j0))
          have Qd1 := Lib.hid (fun (dq : Nat) (os : Array Obj) => Hd1.out (grow (redrawn w9 dq) os) (Nat.le_trans hn (bq dq os).size) (FT.In.keep (Below.keptTo (bq dq os) hn) _ j1))
          clear bq j0 j1 j2 he1 hn
          refine wp_region_quiet_below (by kernel_rfl) (by kernel_rfl) ?_
          repeat (go_big_quiet_step (first | (go_at_call_of 19 (Value.agg #[Value.slice ma (List.length ml) mc]); exact Calls.regrown_of (Qc0.out _ _)) | (go_at_call 19; exact Calls.regrown_of (Qc1.out _ _)) | (go_at_call_of 17 (Value.agg #[Value.slice ma (List.length ml) mc]); exact Calls.regrown_of (Qz0.out _ _)) | (go_at_call 17; exact Calls.regrown_of (Qz1.out _ _)) | (go_at_call_of 18 (Value.agg #[Value.slice ma (List.length ml) mc]); exact Calls.regrown_of (Qd0.out _ _)) | (go_at_call 18; exact Calls.regrown_of (Qd1.out _ _))))
          refine wpQuiet_nil ?_
          intro _ hw'
          obtain ⟨⟨dq, osq⟩, hw''⟩ := hw'
          subst hw''
          have hb := below_regrown w9 dq osq
          obtain ⟨j0, j1, j2, he1, hn⟩ := HA.out
          clear HA
          clear f0R f1R f2R f0 f1 f2 Qc0 Qc1 Qz0 Qz1 Qd0 Qd1
          replace B0 := block_kept B0 hb
          replace B1 := block_kept B1 hb
          replace B2 := block_kept B2 hb
          replace j0 := FT.In.keep (Below.keptTo hb hn) _ j0
          replace j1 := FT.In.keep (Below.keptTo hb hn) _ j1
          replace j2 := FT.In.keep (Below.keptTo hb hn) _ j2
          replace he1 := he1.keep hb
          replace hB := hB.trans (hb.mono hB.size)
          replace hn := Nat.le_trans hn hb.size
          clear hb
          have HA := Lib.hid (And.intro j0 (And.intro j1 (And.intro j2 (And.intro he1 hn))))
          clear j0 j1 j2 he1 hn
          generalize grow (redrawn w9 dq) osq = w9 at *
          go_upto_region 7 with (fail)
          have f0 := (cell_of_box_1 B0).1
          have f1 := (cell_of_box_1 B1).1
          have f2 := (cell_of_box_1 B2).1
          have f0R := cell_regrown f0
          have f1R := cell_regrown f1
          have f2R := cell_regrown f2
          obtain ⟨j0, j1, j2, he1, hn⟩ := HA.out
          have bq := fun (dq : Nat) (os : Array Obj) => below_regrown w9 dq os
          have Qxx := Lib.hid (fun (dq : Nat) (os : Array Obj) => Hsxx.out (grow (redrawn w9 dq) os) (Nat.le_trans hn (bq dq os).size) (FT.In.keep (Below.keptTo (bq dq os) hn) _ j0) (FT.In.keep (Below.keptTo (bq dq os) hn) _ j0))
          have Qyx := Lib.hid (fun (dq : Nat) (os : Array Obj) => Hsyx.out (grow (redrawn w9 dq) os) (Nat.le_trans hn (bq dq os).size) (FT.In.keep (Below.keptTo (bq dq os) hn) _ j1) (FT.In.keep (Below.keptTo (bq dq os) hn) _ j0))
          clear bq j0 j1 j2 he1 hn
          refine wp_region_quiet_below (by kernel_rfl) (by kernel_rfl) ?_
          repeat (go_big_quiet_step (first | (go_at_call_of 25 (Value.agg #[Value.slice na (List.length nl) nc]); go_at_call_of 25 (Value.agg #[Value.slice ma (List.length ml) mc]); exact Calls.regrown_of (Qyx.out _ _)) | (go_at_call_of 25 (Value.agg #[Value.slice ma (List.length ml) mc]); go_at_call_of 25 (Value.agg #[Value.slice ma (List.length ml) mc]); exact Calls.regrown_of (Qxx.out _ _))))
          refine wpQuiet_nil ?_
          intro _ hw'
          obtain ⟨⟨dq, osq⟩, hw''⟩ := hw'
          subst hw''
          have hb := below_regrown w9 dq osq
          obtain ⟨j0, j1, j2, he1, hn⟩ := HA.out
          clear HA
          clear f0R f1R f2R f0 f1 f2 Qxx Qyx
          replace B0 := block_kept B0 hb
          replace B1 := block_kept B1 hb
          replace B2 := block_kept B2 hb
          replace j0 := FT.In.keep (Below.keptTo hb hn) _ j0
          replace j1 := FT.In.keep (Below.keptTo hb hn) _ j1
          replace j2 := FT.In.keep (Below.keptTo hb hn) _ j2
          replace he1 := he1.keep hb
          replace hB := hB.trans (hb.mono hB.size)
          replace hn := Nat.le_trans hn hb.size
          clear hb
          have HA := Lib.hid (And.intro j0 (And.intro j1 (And.intro j2 (And.intro he1 hn))))
          clear j0 j1 j2 he1 hn
          generalize grow (redrawn w9 dq) osq = w9 at *
          go_wp2
          go_ret
          exact ⟨rfl, hB⟩

/-! ### The row's step -/
set_option maxRecDepth 100000 in
theorem contract (H : Type) (enc : TypeId × Value → H) (W : World) (base : Nat) (args : Array Value) (ds gs : List (DataW H)) (before : List MemPlace)
    (hval0 : ∀ (j : Nat) t v, Tryd.f8.params[j]? = some t → args[j]? = some v → Value.okWide Tryd.prog W .any base t v)
    (hW : DataW.Whole enc Tryd.prog Tryd.f8.params.toList Rows.astEqualSpec.vars false W args.toList ds gs before) (hbk : Rows.uptoBulkAll (ds ++ gs) ≤ 1048576) (hL : laidMetH Tryd.prog LD W) (hsh : W.ShapedOpen Tryd.prog) :
    Calls Tryd.prog 8 args W fun e W' => ∃ v, e = .returned v ∧ Rows.astEqualSpec.post enc Tryd.prog Tryd.f8 false true false false W args v W' := by
  have hval : ∀ (j : Nat) t v, Tryd.f8.params[j]? = some t → args[j]? = some v → Value.okWide Tryd.prog W .any base t v := hval0
  have hW' := hW
  obtain ⟨p, q, hA0, hV, rfl, hfz, hnd⟩ := hW
  have hA : DataW.TrodAll enc Tryd.prog W 0 (fun _ => true) true Tryd.f8.params.toList args.toList ds p := hA0
  rw [Tryd.params8] at hA hval
  obtain ⟨v0, vs0, d0, ds0, p0, q0, hargs, rfl, rfl, h0, r0⟩ := trodAll_cons hA
  obtain ⟨v1, vs1, d1, ds1, p1, q1, rfl, rfl, rfl, h1, r1⟩ := trodAll_cons r0
  obtain ⟨v2, vs2, d2, ds2, p2, q2, rfl, rfl, rfl, h2, r2⟩ := trodAll_cons r1
  obtain ⟨rfl, rfl, rfl⟩ := trodAll_nil r2
  obtain rfl : args = #[v0, v1, v2] := by cases args; simp_all
  obtain ⟨rfl, rfl⟩ := trodVars_none hV
  have he := env_of hL hsh
  simp only [List.append_nil, Rows.uptoBulkAll] at hbk
  have k0 : ∀ (W' : World), Below W.heap.size W W' → DataW.Trod enc Tryd.prog W' 0 (fun b => decide (b < W.heap.size)) true 41 v0 d0 p0 := fun W' hn => Below.trod laidOut (by kernel_rfl) (of_decide_eq_true (by kernel_rfl)) h0 hn (fun x hx => by simpa using hW'.lt x (by simp [hx]))
  have k1 : ∀ (W' : World), Below W.heap.size W W' → DataW.Trod enc Tryd.prog W' 0 (fun b => decide (b < W.heap.size)) true 41 v1 d1 p1 := fun W' hn => Below.trod laidOut (by kernel_rfl) (of_decide_eq_true (by kernel_rfl)) h1 hn (fun x hx => by simpa using hW'.lt x (by simp [hx]))
  have k2 : ∀ (W' : World), Below W.heap.size W W' → DataW.Trod enc Tryd.prog W' 0 (fun b => decide (b < W.heap.size)) true 41 v2 d2 p2 := fun W' hn => Below.trod laidOut (by kernel_rfl) (of_decide_eq_true (by kernel_rfl)) h2 hn (fun x hx => by simpa using hW'.lt x (by simp [hx]))
  obtain ⟨t0, rfl, i0, w0, b0, m0, n0⟩ := ft_of (hval 0 41 v0 rfl rfl) h0
  obtain ⟨t1, rfl, i1, w1, b1, m1, n1⟩ := ft_of (hval 1 41 v1 rfl rfl) h1
  obtain ⟨t2, rfl, i2, w2, b2, m2, n2⟩ := ft_of (hval 2 41 v2 rfl rfl) h2
  clear hA0 hval0
  simp only [List.append_nil] at hW'
  refine (walk t0 t1 t2 (by omega) (by omega) (by omega) w0 w1 w2 W he i0 i1 i2).mono fun e W' ⟨hr, bel⟩ => ?_
  subst hr
  exact ⟨_, rfl, _, _, _, [], _, [], hW', trodAll_mk1 (shut_bool Tryd.underlying4 _), (trodAll_cons_mk (k0 _ bel) (trodAll_cons_mk (k1 _ bel) (trodAll_cons_mk (k2 _ bel) trodAll_mk0))), rfl, bel.frame _, fun h => by cases h⟩
theorem reads (os : Os) {H : Type} (enc : TypeId × Value → H) : ∃ places, DataW.whole enc Tryd.prog ((World.doorLaid Tryd.prog 55 os).forCall (fun _ _ => 0) ⟨#[], #[.agg #[.slice none 0 0], .agg #[.slice none 0 0], .agg #[.slice none 0 0]], []⟩).memory Tryd.f8.params.toList Rows.astEqualSpec.vars false #[.agg #[.slice none 0 0], .agg #[.slice none 0 0], .agg #[.slice none 0 0]].toList 8 = some ([.agg [.nil], .agg [.nil], .agg [.nil]], [], places) :=
  ⟨[], by kernel_rfl⟩
set_option maxRecDepth 100000 in
theorem lifted (os : Os) (started : os.Started) (H : Type) (enc : TypeId × Value → H) (F : Stop.Interp) :
    ReturnsInHanded {} Tryd.checked os 8 .any ((Rows.OpenSpec.upto Rows.astEqualSpec).preRow enc Tryd.prog Tryd.f8 Rows.astEqualUptoRow.domain false Rows.astEqualUptoRow.laid) (((Rows.OpenSpec.upto Rows.astEqualSpec).at F).post enc Tryd.prog Tryd.f8 false true false false) := by
  obtain ⟨places, hx⟩ := reads os enc
  refine returnsInHanded_of_row (C := Tryd.checked) (s := Rows.OpenSpec.upto Rows.astEqualSpec) own started (by kernel_rfl) Tryd.func8
    (witness_row_at (enc := enc) (C := Tryd.checked) false (World.doorLaid Tryd.prog 55 os) #[.agg #[.slice none 0 0], .agg #[.slice none 0 0], .agg #[.slice none 0 0]] rfl (by kernel_rfl) (by kernel_rfl) (by kernel_rfl)
      (OpenSpec.preRow_of_cond 8 hx (by kernel_rfl) (fun k hk => by cases hk; kernel_rfl) (by kernel_rfl) (door_met os _))) ?_
  intro W base args ds gs before hval hW _ hcond _ hL hsh _
  have hbk : Rows.uptoBulkAll (ds ++ gs) ≤ 1048576 := of_decide_eq_true (hcond _ rfl)
  exact contract H enc W base args ds gs before hval hW hbk hL hsh
theorem over : Rows.AstEqualUptoSaid :=
  OpenClaim.holds_of_cond 8 Tryd.f8 rfl rfl rfl rfl rfl rfl rfl ⟨rfl, rfl, rfl, rfl, rfl⟩ rfl rfl rfl rfl rfl (by kernel_rfl) Tryd.func8 (by kernel_rfl)
    (of_decide_eq_true (by kernel_rfl)) (by unfold Func.isWrapper; first | (rw [if_pos (by decide +kernel)]; kernel_rfl) | (rw [if_neg (by decide +kernel)]; exact ⟨rfl, rfl⟩))
    (fun os started H enc _ F => by rw [OpenClaim.pre_eq_preRow]; exact lifted os started H enc F)
/-- The given statement. -/
theorem proved : Rows.AstEqualUptoCardSaid :=
  Claim7.holds_tied_plain_at .later [] _ _ _ _
    over (fun _ h => by cases h) (by kernel_rfl) (fun _ h => by cases h) astEqualUpto_row_tie rfl ⟨rfl, rfl⟩ (by kernel_rfl) rfl
    (fun f fn hf hfn => by
      obtain rfl : f = 8 := Option.some.inj ((show Tryd.prog.funcNamed "filigree/filigreelaw03.AstEqual" = some 8 by kernel_rfl).symm.trans hf) |>.symm
      obtain rfl : fn = Tryd.f8 := (Option.some.inj (Tryd.func8.symm.trans hfn)).symm
      exact ⟨by kernel_rfl, fun j t ht => by
        rw [Tryd.params8] at ht
        have hm : t ∈ [41, 41, 41] := by simpa using Array.mem_of_getElem? ht
        have hall : ([41, 41, 41].all fun u => !Tryd.prog.wantsStandIn u) = true := by kernel_rfl
        exact (show Tryd.prog.wantsStandIn t = false by simpa using List.all_eq_true.1 hall t hm)⟩)
    (by kernel_rfl)
#print axioms proved
end Go.Proofs.YtppgfedakcmgcaaDoor.astEqual
