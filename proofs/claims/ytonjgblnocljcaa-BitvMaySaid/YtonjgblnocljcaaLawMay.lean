/-
  Whatever any call of layer 1 tells, of any values, may be; or there is an error, and nothing is told. For every input.
-/
import Derived.Test.YtonjgblnocljcaaRows
import Derived.Test.YtonjgblnocljcaaY
import Derived.ProofKit
import Derived.OpenShut
import Derived.Lib.SmallJoins
namespace Go.Proofs.Ytonjgblnocljcaa.bitvMay
open Go Go.ChangeShapes Go.WideShapes Go.ChangeAt Go.RowKit Go.Joins Go.Sort
set_option linter.unusedVariables false

set_option maxRecDepth 100000 in
set_option maxHeartbeats 4000000 in
theorem walk (W0 : Int) (wW0 : (Lit.int .i64 W0).wf = true) (V0 : Int) (wV0 : (Lit.int .u64 V0).wf = true) (W1 : Int) (wW1 : (Lit.int .i64 W1).wf = true) (V1 : Int) (wV1 : (Lit.int .u64 V1).wf = true) (a2 : Int) (w2 : (Lit.int .i64 a2).wf = true) (a3 : Int) (w3 : (Lit.int .i64 a3).wf = true) (a4 : Int) (w4 : (Lit.int .i64 a4).wf = true) (w : World) :
    Calls Try.prog 12 #[.agg #[.int .i64 W0, .int .u64 V0], .agg #[.int .i64 W1, .int .u64 V1], .int .i64 a2, .int .i64 a3, .int .i64 a4] w fun e w' => e = .returned (.bool true) ∧ Below w.heap.size w w' := by
  obtain ⟨x, rfl⟩ := u_of V0 wV0
  obtain ⟨y, rfl⟩ := u_of V1 wV1
  obtain ⟨R0, S0, E0, hr0⟩ : ∃ R S E, sUn a2 W0 x = (R, S, E) := ⟨_, _, _, rfl⟩
  have F0 : Fine (R0, S0, E0) := by rw [← hr0]; exact fine_un _ _ _
  have G0 := Lib.hid F0
  have H0 := Lib.hid hr0
  clear F0 hr0
  obtain ⟨R1, S1, E1, hr1⟩ : ∃ R S E, sBin a2 W0 x W1 y = (R, S, E) := ⟨_, _, _, rfl⟩
  have F1 : Fine (R1, S1, E1) := by rw [← hr1]; exact fine_bin _ _ _ _ _
  have G1 := Lib.hid F1
  have H1 := Lib.hid hr1
  clear F1 hr1
  obtain ⟨R2, S2, E2, hr2⟩ : ∃ R S E, sExt a2 a3 W0 x = (R, S, E) := ⟨_, _, _, rfl⟩
  have F2 : Fine (R2, S2, E2) := by rw [← hr2]; exact fine_ext _ _ _ _
  have G2 := Lib.hid F2
  have H2 := Lib.hid hr2
  clear F2 hr2
  obtain ⟨R3, S3, E3, hr3⟩ : ∃ R S E, sSlice W0 x a3 a4 = (R, S, E) := ⟨_, _, _, rfl⟩
  have F3 : Fine (R3, S3, E3) := by rw [← hr3]; exact fine_slice _ _ _ _
  have G3 := Lib.hid F3
  have H3 := Lib.hid hr3
  clear F3 hr3
  obtain ⟨R4, S4, E4, hr4⟩ : ∃ R S E, sCat [(W0, x), (W1, y)] = (R, S, E) := ⟨_, _, _, rfl⟩
  have F4 : Fine (R4, S4, E4) := by rw [← hr4]; exact fine_cat2 _ _ _ _
  have G4 := Lib.hid F4
  have H4 := Lib.hid hr4
  clear F4 hr4
  obtain ⟨R5, S5, E5, hr5⟩ : ∃ R S E, sSet W0 x a3 a4 W1 y = (R, S, E) := ⟨_, _, _, rfl⟩
  have F5 : Fine (R5, S5, E5) := by rw [← hr5]; exact fine_set _ _ _ _ _ _
  have G5 := Lib.hid F5
  have H5 := Lib.hid hr5
  clear F5 hr5
  go_enter Try.func12, Try.ntmps12
  have hB : Below w.heap.size w w := Below.refl _ _
  have hz := hB.size
  go_wp2_with fail
  refine (tolds R0 S0 E0 H0.out (un_any a2 W0 wW0 x _)).mono ?_
  rintro e1 w1 ⟨rfl, hb⟩
  replace a0 : w1.cell? ⟨w.heap.size, 0, none⟩ = some (.int .i64 W0) := by first | exact keep_cell hb a0 | exact keep_cell hb (alloc_cell a0 _) | exact keep_cell hb (alloc_cell (alloc_cell a0 _) _) | exact keep_cell hb (by go_simp)
  replace a1 : w1.cell? ⟨w.heap.size, 1, none⟩ = some (.int .u64 (u x)) := by first | exact keep_cell hb a1 | exact keep_cell hb (alloc_cell a1 _) | exact keep_cell hb (alloc_cell (alloc_cell a1 _) _) | exact keep_cell hb (by go_simp)
  replace b0 : w1.cell? ⟨w.heap.size + 1, 0, none⟩ = some (.int .i64 W1) := by first | exact keep_cell hb b0 | exact keep_cell hb (alloc_cell b0 _) | exact keep_cell hb (alloc_cell (alloc_cell b0 _) _) | exact keep_cell hb (by go_simp)
  replace b1 : w1.cell? ⟨w.heap.size + 1, 1, none⟩ = some (.int .u64 (u y)) := by first | exact keep_cell hb b1 | exact keep_cell hb (alloc_cell b1 _) | exact keep_cell hb (alloc_cell (alloc_cell b1 _) _) | exact keep_cell hb (by go_simp)
  replace hB : Below w.heap.size w w1 := by repeat (first | exact Below.refl _ _ | exact hB | (refine Below.setCell ?_ (by first | omega | (simp; omega) | (simp; done)) _) | (refine Below.alloc ?_ (by first | omega | (simp; omega) | (simp; done)) _) | (refine below_drewN ?_ _) | (refine Below.drew ?_) | (refine below_via hb ?_ (by first | omega | (simp; omega) | (simp; done))))
  replace hz := hB.size
  clear hb
  have a0A := alloc_cell a0
  have a1A := alloc_cell a1
  have b0A := alloc_cell b0
  have b1A := alloc_cell b1
  go_wp2_with fail
  refine (tolds R1 S1 E1 H1.out (bin_any a2 W0 wW0 x W1 wW1 y _)).mono ?_
  rintro e2 w2 ⟨rfl, hb⟩
  clear a0A a1A b0A b1A
  replace a0 : w2.cell? ⟨w.heap.size, 0, none⟩ = some (.int .i64 W0) := by first | exact keep_cell hb a0 | exact keep_cell hb (alloc_cell a0 _) | exact keep_cell hb (alloc_cell (alloc_cell a0 _) _) | exact keep_cell hb (by go_simp)
  replace a1 : w2.cell? ⟨w.heap.size, 1, none⟩ = some (.int .u64 (u x)) := by first | exact keep_cell hb a1 | exact keep_cell hb (alloc_cell a1 _) | exact keep_cell hb (alloc_cell (alloc_cell a1 _) _) | exact keep_cell hb (by go_simp)
  replace b0 : w2.cell? ⟨w.heap.size + 1, 0, none⟩ = some (.int .i64 W1) := by first | exact keep_cell hb b0 | exact keep_cell hb (alloc_cell b0 _) | exact keep_cell hb (alloc_cell (alloc_cell b0 _) _) | exact keep_cell hb (by go_simp)
  replace b1 : w2.cell? ⟨w.heap.size + 1, 1, none⟩ = some (.int .u64 (u y)) := by first | exact keep_cell hb b1 | exact keep_cell hb (alloc_cell b1 _) | exact keep_cell hb (alloc_cell (alloc_cell b1 _) _) | exact keep_cell hb (by go_simp)
  have r0 : w2.cell? ⟨w1.heap.size, 0, none⟩ = some (.int .i64 R0) := keep_cell hb (by first | (simp; done) | (simp [World.cell?_alloc_new]; done))
  have r1 : w2.cell? ⟨w1.heap.size, 1, none⟩ = some (.int .u64 (u S0)) := keep_cell hb (by first | (simp; done) | (simp [World.cell?_alloc_new]; done))
  replace hB : Below w.heap.size w w2 := by repeat (first | exact Below.refl _ _ | exact hB | (refine Below.setCell ?_ (by first | omega | (simp; omega) | (simp; done)) _) | (refine Below.alloc ?_ (by first | omega | (simp; omega) | (simp; done)) _) | (refine below_drewN ?_ _) | (refine Below.drew ?_) | (refine below_via hb ?_ (by first | omega | (simp; omega) | (simp; done))))
  replace hz := hB.size
  clear hb
  have a0A := alloc_cell a0
  have a1A := alloc_cell a1
  have b0A := alloc_cell b0
  have b1A := alloc_cell b1
  have r0A := alloc_cell r0
  have r1A := alloc_cell r1
  go_wp2_with fail
  refine (tolds R2 S2 E2 H2.out (ext_any a2 a3 w3 W0 wW0 x _)).mono ?_
  rintro e3 w3 ⟨rfl, hb⟩
  clear a0A a1A b0A b1A r0A r1A
  replace a0 : w3.cell? ⟨w.heap.size, 0, none⟩ = some (.int .i64 W0) := by first | exact keep_cell hb a0 | exact keep_cell hb (alloc_cell a0 _) | exact keep_cell hb (alloc_cell (alloc_cell a0 _) _) | exact keep_cell hb (by go_simp)
  replace a1 : w3.cell? ⟨w.heap.size, 1, none⟩ = some (.int .u64 (u x)) := by first | exact keep_cell hb a1 | exact keep_cell hb (alloc_cell a1 _) | exact keep_cell hb (alloc_cell (alloc_cell a1 _) _) | exact keep_cell hb (by go_simp)
  replace b0 : w3.cell? ⟨w.heap.size + 1, 0, none⟩ = some (.int .i64 W1) := by first | exact keep_cell hb b0 | exact keep_cell hb (alloc_cell b0 _) | exact keep_cell hb (alloc_cell (alloc_cell b0 _) _) | exact keep_cell hb (by go_simp)
  replace b1 : w3.cell? ⟨w.heap.size + 1, 1, none⟩ = some (.int .u64 (u y)) := by first | exact keep_cell hb b1 | exact keep_cell hb (alloc_cell b1 _) | exact keep_cell hb (alloc_cell (alloc_cell b1 _) _) | exact keep_cell hb (by go_simp)
  replace r0 : w3.cell? ⟨w1.heap.size, 0, none⟩ = some (.int .i64 R0) := by first | exact keep_cell hb r0 | exact keep_cell hb (alloc_cell r0 _) | exact keep_cell hb (alloc_cell (alloc_cell r0 _) _) | exact keep_cell hb (by go_simp)
  replace r1 : w3.cell? ⟨w1.heap.size, 1, none⟩ = some (.int .u64 (u S0)) := by first | exact keep_cell hb r1 | exact keep_cell hb (alloc_cell r1 _) | exact keep_cell hb (alloc_cell (alloc_cell r1 _) _) | exact keep_cell hb (by go_simp)
  have s0 : w3.cell? ⟨w2.heap.size, 0, none⟩ = some (.int .i64 R1) := keep_cell hb (by first | (simp; done) | (simp [World.cell?_alloc_new]; done))
  have s1 : w3.cell? ⟨w2.heap.size, 1, none⟩ = some (.int .u64 (u S1)) := keep_cell hb (by first | (simp; done) | (simp [World.cell?_alloc_new]; done))
  replace hB : Below w.heap.size w w3 := by repeat (first | exact Below.refl _ _ | exact hB | (refine Below.setCell ?_ (by first | omega | (simp; omega) | (simp; done)) _) | (refine Below.alloc ?_ (by first | omega | (simp; omega) | (simp; done)) _) | (refine below_drewN ?_ _) | (refine Below.drew ?_) | (refine below_via hb ?_ (by first | omega | (simp; omega) | (simp; done))))
  replace hz := hB.size
  clear hb
  have a0A := alloc_cell a0
  have a1A := alloc_cell a1
  have b0A := alloc_cell b0
  have b1A := alloc_cell b1
  have r0A := alloc_cell r0
  have r1A := alloc_cell r1
  have s0A := alloc_cell s0
  have s1A := alloc_cell s1
  go_wp2_with fail
  refine (tolds R3 S3 E3 H3.out (slice_any W0 wW0 x a3 a4 _)).mono ?_
  rintro e4 w4 ⟨rfl, hb⟩
  clear a0A a1A b0A b1A r0A r1A s0A s1A
  replace a0 : w4.cell? ⟨w.heap.size, 0, none⟩ = some (.int .i64 W0) := by first | exact keep_cell hb a0 | exact keep_cell hb (alloc_cell a0 _) | exact keep_cell hb (alloc_cell (alloc_cell a0 _) _) | exact keep_cell hb (by go_simp)
  replace a1 : w4.cell? ⟨w.heap.size, 1, none⟩ = some (.int .u64 (u x)) := by first | exact keep_cell hb a1 | exact keep_cell hb (alloc_cell a1 _) | exact keep_cell hb (alloc_cell (alloc_cell a1 _) _) | exact keep_cell hb (by go_simp)
  replace b0 : w4.cell? ⟨w.heap.size + 1, 0, none⟩ = some (.int .i64 W1) := by first | exact keep_cell hb b0 | exact keep_cell hb (alloc_cell b0 _) | exact keep_cell hb (alloc_cell (alloc_cell b0 _) _) | exact keep_cell hb (by go_simp)
  replace b1 : w4.cell? ⟨w.heap.size + 1, 1, none⟩ = some (.int .u64 (u y)) := by first | exact keep_cell hb b1 | exact keep_cell hb (alloc_cell b1 _) | exact keep_cell hb (alloc_cell (alloc_cell b1 _) _) | exact keep_cell hb (by go_simp)
  replace r0 : w4.cell? ⟨w1.heap.size, 0, none⟩ = some (.int .i64 R0) := by first | exact keep_cell hb r0 | exact keep_cell hb (alloc_cell r0 _) | exact keep_cell hb (alloc_cell (alloc_cell r0 _) _) | exact keep_cell hb (by go_simp)
  replace r1 : w4.cell? ⟨w1.heap.size, 1, none⟩ = some (.int .u64 (u S0)) := by first | exact keep_cell hb r1 | exact keep_cell hb (alloc_cell r1 _) | exact keep_cell hb (alloc_cell (alloc_cell r1 _) _) | exact keep_cell hb (by go_simp)
  replace s0 : w4.cell? ⟨w2.heap.size, 0, none⟩ = some (.int .i64 R1) := by first | exact keep_cell hb s0 | exact keep_cell hb (alloc_cell s0 _) | exact keep_cell hb (alloc_cell (alloc_cell s0 _) _) | exact keep_cell hb (by go_simp)
  replace s1 : w4.cell? ⟨w2.heap.size, 1, none⟩ = some (.int .u64 (u S1)) := by first | exact keep_cell hb s1 | exact keep_cell hb (alloc_cell s1 _) | exact keep_cell hb (alloc_cell (alloc_cell s1 _) _) | exact keep_cell hb (by go_simp)
  have t0 : w4.cell? ⟨w3.heap.size, 0, none⟩ = some (.int .i64 R2) := keep_cell hb (by first | (simp; done) | (simp [World.cell?_alloc_new]; done))
  have t1 : w4.cell? ⟨w3.heap.size, 1, none⟩ = some (.int .u64 (u S2)) := keep_cell hb (by first | (simp; done) | (simp [World.cell?_alloc_new]; done))
  replace hB : Below w.heap.size w w4 := by repeat (first | exact Below.refl _ _ | exact hB | (refine Below.setCell ?_ (by first | omega | (simp; omega) | (simp; done)) _) | (refine Below.alloc ?_ (by first | omega | (simp; omega) | (simp; done)) _) | (refine below_drewN ?_ _) | (refine Below.drew ?_) | (refine below_via hb ?_ (by first | omega | (simp; omega) | (simp; done))))
  replace hz := hB.size
  clear hb
  have a0A := alloc_cell a0
  have a1A := alloc_cell a1
  have b0A := alloc_cell b0
  have b1A := alloc_cell b1
  have r0A := alloc_cell r0
  have r1A := alloc_cell r1
  have s0A := alloc_cell s0
  have s1A := alloc_cell s1
  have t0A := alloc_cell t0
  have t1A := alloc_cell t1
  go_wp2_with fail
  refine (tolds R4 S4 E4 H4.out (cat_two W0 wW0 x W1 wW1 y _ _ ?_ ?_ ?_ ?_ ?_)).mono ?_
  · go_simp
  · go_simp
  · go_simp
  · go_simp
  · simp
  rintro e5 w5 ⟨rfl, hb⟩
  clear a0A a1A b0A b1A r0A r1A s0A s1A t0A t1A
  replace a0 : w5.cell? ⟨w.heap.size, 0, none⟩ = some (.int .i64 W0) := by first | exact keep_cell hb a0 | exact keep_cell hb (alloc_cell a0 _) | exact keep_cell hb (alloc_cell (alloc_cell a0 _) _) | exact keep_cell hb (by go_simp)
  replace a1 : w5.cell? ⟨w.heap.size, 1, none⟩ = some (.int .u64 (u x)) := by first | exact keep_cell hb a1 | exact keep_cell hb (alloc_cell a1 _) | exact keep_cell hb (alloc_cell (alloc_cell a1 _) _) | exact keep_cell hb (by go_simp)
  replace b0 : w5.cell? ⟨w.heap.size + 1, 0, none⟩ = some (.int .i64 W1) := by first | exact keep_cell hb b0 | exact keep_cell hb (alloc_cell b0 _) | exact keep_cell hb (alloc_cell (alloc_cell b0 _) _) | exact keep_cell hb (by go_simp)
  replace b1 : w5.cell? ⟨w.heap.size + 1, 1, none⟩ = some (.int .u64 (u y)) := by first | exact keep_cell hb b1 | exact keep_cell hb (alloc_cell b1 _) | exact keep_cell hb (alloc_cell (alloc_cell b1 _) _) | exact keep_cell hb (by go_simp)
  replace r0 : w5.cell? ⟨w1.heap.size, 0, none⟩ = some (.int .i64 R0) := by first | exact keep_cell hb r0 | exact keep_cell hb (alloc_cell r0 _) | exact keep_cell hb (alloc_cell (alloc_cell r0 _) _) | exact keep_cell hb (by go_simp)
  replace r1 : w5.cell? ⟨w1.heap.size, 1, none⟩ = some (.int .u64 (u S0)) := by first | exact keep_cell hb r1 | exact keep_cell hb (alloc_cell r1 _) | exact keep_cell hb (alloc_cell (alloc_cell r1 _) _) | exact keep_cell hb (by go_simp)
  replace s0 : w5.cell? ⟨w2.heap.size, 0, none⟩ = some (.int .i64 R1) := by first | exact keep_cell hb s0 | exact keep_cell hb (alloc_cell s0 _) | exact keep_cell hb (alloc_cell (alloc_cell s0 _) _) | exact keep_cell hb (by go_simp)
  replace s1 : w5.cell? ⟨w2.heap.size, 1, none⟩ = some (.int .u64 (u S1)) := by first | exact keep_cell hb s1 | exact keep_cell hb (alloc_cell s1 _) | exact keep_cell hb (alloc_cell (alloc_cell s1 _) _) | exact keep_cell hb (by go_simp)
  replace t0 : w5.cell? ⟨w3.heap.size, 0, none⟩ = some (.int .i64 R2) := by first | exact keep_cell hb t0 | exact keep_cell hb (alloc_cell t0 _) | exact keep_cell hb (alloc_cell (alloc_cell t0 _) _) | exact keep_cell hb (by go_simp)
  replace t1 : w5.cell? ⟨w3.heap.size, 1, none⟩ = some (.int .u64 (u S2)) := by first | exact keep_cell hb t1 | exact keep_cell hb (alloc_cell t1 _) | exact keep_cell hb (alloc_cell (alloc_cell t1 _) _) | exact keep_cell hb (by go_simp)
  have u0 : w5.cell? ⟨w4.heap.size, 0, none⟩ = some (.int .i64 R3) := keep_cell hb (by first | (simp; done) | (simp [World.cell?_alloc_new]; done))
  have u1 : w5.cell? ⟨w4.heap.size, 1, none⟩ = some (.int .u64 (u S3)) := keep_cell hb (by first | (simp; done) | (simp [World.cell?_alloc_new]; done))
  replace hB : Below w.heap.size w w5 := by repeat (first | exact Below.refl _ _ | exact hB | (refine Below.setCell ?_ (by first | omega | (simp; omega) | (simp; done)) _) | (refine Below.alloc ?_ (by first | omega | (simp; omega) | (simp; done)) _) | (refine below_drewN ?_ _) | (refine Below.drew ?_) | (refine below_via hb ?_ (by first | omega | (simp; omega) | (simp; done))))
  replace hz := hB.size
  clear hb
  have a0A := alloc_cell a0
  have a1A := alloc_cell a1
  have b0A := alloc_cell b0
  have b1A := alloc_cell b1
  have r0A := alloc_cell r0
  have r1A := alloc_cell r1
  have s0A := alloc_cell s0
  have s1A := alloc_cell s1
  have t0A := alloc_cell t0
  have t1A := alloc_cell t1
  have u0A := alloc_cell u0
  have u1A := alloc_cell u1
  go_wp2_with fail
  refine (tolds R5 S5 E5 H5.out (set_any W0 wW0 x a3 a4 W1 wW1 y _)).mono ?_
  rintro e6 w6 ⟨rfl, hb⟩
  clear a0A a1A b0A b1A r0A r1A s0A s1A t0A t1A u0A u1A
  replace a0 : w6.cell? ⟨w.heap.size, 0, none⟩ = some (.int .i64 W0) := by first | exact keep_cell hb a0 | exact keep_cell hb (alloc_cell a0 _) | exact keep_cell hb (alloc_cell (alloc_cell a0 _) _) | exact keep_cell hb (by go_simp)
  replace a1 : w6.cell? ⟨w.heap.size, 1, none⟩ = some (.int .u64 (u x)) := by first | exact keep_cell hb a1 | exact keep_cell hb (alloc_cell a1 _) | exact keep_cell hb (alloc_cell (alloc_cell a1 _) _) | exact keep_cell hb (by go_simp)
  replace b0 : w6.cell? ⟨w.heap.size + 1, 0, none⟩ = some (.int .i64 W1) := by first | exact keep_cell hb b0 | exact keep_cell hb (alloc_cell b0 _) | exact keep_cell hb (alloc_cell (alloc_cell b0 _) _) | exact keep_cell hb (by go_simp)
  replace b1 : w6.cell? ⟨w.heap.size + 1, 1, none⟩ = some (.int .u64 (u y)) := by first | exact keep_cell hb b1 | exact keep_cell hb (alloc_cell b1 _) | exact keep_cell hb (alloc_cell (alloc_cell b1 _) _) | exact keep_cell hb (by go_simp)
  replace r0 : w6.cell? ⟨w1.heap.size, 0, none⟩ = some (.int .i64 R0) := by first | exact keep_cell hb r0 | exact keep_cell hb (alloc_cell r0 _) | exact keep_cell hb (alloc_cell (alloc_cell r0 _) _) | exact keep_cell hb (by go_simp)
  replace r1 : w6.cell? ⟨w1.heap.size, 1, none⟩ = some (.int .u64 (u S0)) := by first | exact keep_cell hb r1 | exact keep_cell hb (alloc_cell r1 _) | exact keep_cell hb (alloc_cell (alloc_cell r1 _) _) | exact keep_cell hb (by go_simp)
  replace s0 : w6.cell? ⟨w2.heap.size, 0, none⟩ = some (.int .i64 R1) := by first | exact keep_cell hb s0 | exact keep_cell hb (alloc_cell s0 _) | exact keep_cell hb (alloc_cell (alloc_cell s0 _) _) | exact keep_cell hb (by go_simp)
  replace s1 : w6.cell? ⟨w2.heap.size, 1, none⟩ = some (.int .u64 (u S1)) := by first | exact keep_cell hb s1 | exact keep_cell hb (alloc_cell s1 _) | exact keep_cell hb (alloc_cell (alloc_cell s1 _) _) | exact keep_cell hb (by go_simp)
  replace t0 : w6.cell? ⟨w3.heap.size, 0, none⟩ = some (.int .i64 R2) := by first | exact keep_cell hb t0 | exact keep_cell hb (alloc_cell t0 _) | exact keep_cell hb (alloc_cell (alloc_cell t0 _) _) | exact keep_cell hb (by go_simp)
  replace t1 : w6.cell? ⟨w3.heap.size, 1, none⟩ = some (.int .u64 (u S2)) := by first | exact keep_cell hb t1 | exact keep_cell hb (alloc_cell t1 _) | exact keep_cell hb (alloc_cell (alloc_cell t1 _) _) | exact keep_cell hb (by go_simp)
  replace u0 : w6.cell? ⟨w4.heap.size, 0, none⟩ = some (.int .i64 R3) := by first | exact keep_cell hb u0 | exact keep_cell hb (alloc_cell u0 _) | exact keep_cell hb (alloc_cell (alloc_cell u0 _) _) | exact keep_cell hb (by go_simp)
  replace u1 : w6.cell? ⟨w4.heap.size, 1, none⟩ = some (.int .u64 (u S3)) := by first | exact keep_cell hb u1 | exact keep_cell hb (alloc_cell u1 _) | exact keep_cell hb (alloc_cell (alloc_cell u1 _) _) | exact keep_cell hb (by go_simp)
  have v0 : w6.cell? ⟨w5.heap.size, 0, none⟩ = some (.int .i64 R4) := keep_cell hb (by first | (simp; done) | (simp [World.cell?_alloc_new]; done))
  have v1 : w6.cell? ⟨w5.heap.size, 1, none⟩ = some (.int .u64 (u S4)) := keep_cell hb (by first | (simp; done) | (simp [World.cell?_alloc_new]; done))
  replace hB : Below w.heap.size w w6 := by repeat (first | exact Below.refl _ _ | exact hB | (refine Below.setCell ?_ (by first | omega | (simp; omega) | (simp; done)) _) | (refine Below.alloc ?_ (by first | omega | (simp; omega) | (simp; done)) _) | (refine below_drewN ?_ _) | (refine Below.drew ?_) | (refine below_via hb ?_ (by first | omega | (simp; omega) | (simp; done))))
  replace hz := hB.size
  clear hb
  have a0A := alloc_cell a0
  have a1A := alloc_cell a1
  have b0A := alloc_cell b0
  have b1A := alloc_cell b1
  have r0A := alloc_cell r0
  have r1A := alloc_cell r1
  have s0A := alloc_cell s0
  have s1A := alloc_cell s1
  have t0A := alloc_cell t0
  have t1A := alloc_cell t1
  have u0A := alloc_cell u0
  have u1A := alloc_cell u1
  have v0A := alloc_cell v0
  have v1A := alloc_cell v1
  go_wp2_with fail
  refine (live_any _).mono ?_
  rintro e7 w7 ⟨rfl, hb⟩
  clear a0A a1A b0A b1A r0A r1A s0A s1A t0A t1A u0A u1A v0A v1A
  replace a0 : w7.cell? ⟨w.heap.size, 0, none⟩ = some (.int .i64 W0) := by first | exact keep_cell hb a0 | exact keep_cell hb (alloc_cell a0 _) | exact keep_cell hb (alloc_cell (alloc_cell a0 _) _) | exact keep_cell hb (by go_simp)
  replace a1 : w7.cell? ⟨w.heap.size, 1, none⟩ = some (.int .u64 (u x)) := by first | exact keep_cell hb a1 | exact keep_cell hb (alloc_cell a1 _) | exact keep_cell hb (alloc_cell (alloc_cell a1 _) _) | exact keep_cell hb (by go_simp)
  replace b0 : w7.cell? ⟨w.heap.size + 1, 0, none⟩ = some (.int .i64 W1) := by first | exact keep_cell hb b0 | exact keep_cell hb (alloc_cell b0 _) | exact keep_cell hb (alloc_cell (alloc_cell b0 _) _) | exact keep_cell hb (by go_simp)
  replace b1 : w7.cell? ⟨w.heap.size + 1, 1, none⟩ = some (.int .u64 (u y)) := by first | exact keep_cell hb b1 | exact keep_cell hb (alloc_cell b1 _) | exact keep_cell hb (alloc_cell (alloc_cell b1 _) _) | exact keep_cell hb (by go_simp)
  replace r0 : w7.cell? ⟨w1.heap.size, 0, none⟩ = some (.int .i64 R0) := by first | exact keep_cell hb r0 | exact keep_cell hb (alloc_cell r0 _) | exact keep_cell hb (alloc_cell (alloc_cell r0 _) _) | exact keep_cell hb (by go_simp)
  replace r1 : w7.cell? ⟨w1.heap.size, 1, none⟩ = some (.int .u64 (u S0)) := by first | exact keep_cell hb r1 | exact keep_cell hb (alloc_cell r1 _) | exact keep_cell hb (alloc_cell (alloc_cell r1 _) _) | exact keep_cell hb (by go_simp)
  replace s0 : w7.cell? ⟨w2.heap.size, 0, none⟩ = some (.int .i64 R1) := by first | exact keep_cell hb s0 | exact keep_cell hb (alloc_cell s0 _) | exact keep_cell hb (alloc_cell (alloc_cell s0 _) _) | exact keep_cell hb (by go_simp)
  replace s1 : w7.cell? ⟨w2.heap.size, 1, none⟩ = some (.int .u64 (u S1)) := by first | exact keep_cell hb s1 | exact keep_cell hb (alloc_cell s1 _) | exact keep_cell hb (alloc_cell (alloc_cell s1 _) _) | exact keep_cell hb (by go_simp)
  replace t0 : w7.cell? ⟨w3.heap.size, 0, none⟩ = some (.int .i64 R2) := by first | exact keep_cell hb t0 | exact keep_cell hb (alloc_cell t0 _) | exact keep_cell hb (alloc_cell (alloc_cell t0 _) _) | exact keep_cell hb (by go_simp)
  replace t1 : w7.cell? ⟨w3.heap.size, 1, none⟩ = some (.int .u64 (u S2)) := by first | exact keep_cell hb t1 | exact keep_cell hb (alloc_cell t1 _) | exact keep_cell hb (alloc_cell (alloc_cell t1 _) _) | exact keep_cell hb (by go_simp)
  replace u0 : w7.cell? ⟨w4.heap.size, 0, none⟩ = some (.int .i64 R3) := by first | exact keep_cell hb u0 | exact keep_cell hb (alloc_cell u0 _) | exact keep_cell hb (alloc_cell (alloc_cell u0 _) _) | exact keep_cell hb (by go_simp)
  replace u1 : w7.cell? ⟨w4.heap.size, 1, none⟩ = some (.int .u64 (u S3)) := by first | exact keep_cell hb u1 | exact keep_cell hb (alloc_cell u1 _) | exact keep_cell hb (alloc_cell (alloc_cell u1 _) _) | exact keep_cell hb (by go_simp)
  replace v0 : w7.cell? ⟨w5.heap.size, 0, none⟩ = some (.int .i64 R4) := by first | exact keep_cell hb v0 | exact keep_cell hb (alloc_cell v0 _) | exact keep_cell hb (alloc_cell (alloc_cell v0 _) _) | exact keep_cell hb (by go_simp)
  replace v1 : w7.cell? ⟨w5.heap.size, 1, none⟩ = some (.int .u64 (u S4)) := by first | exact keep_cell hb v1 | exact keep_cell hb (alloc_cell v1 _) | exact keep_cell hb (alloc_cell (alloc_cell v1 _) _) | exact keep_cell hb (by go_simp)
  have z0 : w7.cell? ⟨w6.heap.size, 0, none⟩ = some (.int .i64 R5) := keep_cell hb (by first | (simp; done) | (simp [World.cell?_alloc_new]; done))
  have z1 : w7.cell? ⟨w6.heap.size, 1, none⟩ = some (.int .u64 (u S5)) := keep_cell hb (by first | (simp; done) | (simp [World.cell?_alloc_new]; done))
  replace hB : Below w.heap.size w w7 := by repeat (first | exact Below.refl _ _ | exact hB | (refine Below.setCell ?_ (by first | omega | (simp; omega) | (simp; done)) _) | (refine Below.alloc ?_ (by first | omega | (simp; omega) | (simp; done)) _) | (refine below_drewN ?_ _) | (refine Below.drew ?_) | (refine below_via hb ?_ (by first | omega | (simp; omega) | (simp; done))))
  replace hz := hB.size
  clear hb
  go_wp2_with fail
  refine (may_fine R0 S0 E0 G0.out _).mono ?_
  rintro e8 w8 ⟨rfl, hb⟩
  replace a0 : w8.cell? ⟨w.heap.size, 0, none⟩ = some (.int .i64 W0) := by first | exact keep_cell hb a0 | exact keep_cell hb (alloc_cell a0 _) | exact keep_cell hb (alloc_cell (alloc_cell a0 _) _) | exact keep_cell hb (by go_simp)
  replace a1 : w8.cell? ⟨w.heap.size, 1, none⟩ = some (.int .u64 (u x)) := by first | exact keep_cell hb a1 | exact keep_cell hb (alloc_cell a1 _) | exact keep_cell hb (alloc_cell (alloc_cell a1 _) _) | exact keep_cell hb (by go_simp)
  replace b0 : w8.cell? ⟨w.heap.size + 1, 0, none⟩ = some (.int .i64 W1) := by first | exact keep_cell hb b0 | exact keep_cell hb (alloc_cell b0 _) | exact keep_cell hb (alloc_cell (alloc_cell b0 _) _) | exact keep_cell hb (by go_simp)
  replace b1 : w8.cell? ⟨w.heap.size + 1, 1, none⟩ = some (.int .u64 (u y)) := by first | exact keep_cell hb b1 | exact keep_cell hb (alloc_cell b1 _) | exact keep_cell hb (alloc_cell (alloc_cell b1 _) _) | exact keep_cell hb (by go_simp)
  replace s0 : w8.cell? ⟨w2.heap.size, 0, none⟩ = some (.int .i64 R1) := by first | exact keep_cell hb s0 | exact keep_cell hb (alloc_cell s0 _) | exact keep_cell hb (alloc_cell (alloc_cell s0 _) _) | exact keep_cell hb (by go_simp)
  replace s1 : w8.cell? ⟨w2.heap.size, 1, none⟩ = some (.int .u64 (u S1)) := by first | exact keep_cell hb s1 | exact keep_cell hb (alloc_cell s1 _) | exact keep_cell hb (alloc_cell (alloc_cell s1 _) _) | exact keep_cell hb (by go_simp)
  replace t0 : w8.cell? ⟨w3.heap.size, 0, none⟩ = some (.int .i64 R2) := by first | exact keep_cell hb t0 | exact keep_cell hb (alloc_cell t0 _) | exact keep_cell hb (alloc_cell (alloc_cell t0 _) _) | exact keep_cell hb (by go_simp)
  replace t1 : w8.cell? ⟨w3.heap.size, 1, none⟩ = some (.int .u64 (u S2)) := by first | exact keep_cell hb t1 | exact keep_cell hb (alloc_cell t1 _) | exact keep_cell hb (alloc_cell (alloc_cell t1 _) _) | exact keep_cell hb (by go_simp)
  replace u0 : w8.cell? ⟨w4.heap.size, 0, none⟩ = some (.int .i64 R3) := by first | exact keep_cell hb u0 | exact keep_cell hb (alloc_cell u0 _) | exact keep_cell hb (alloc_cell (alloc_cell u0 _) _) | exact keep_cell hb (by go_simp)
  replace u1 : w8.cell? ⟨w4.heap.size, 1, none⟩ = some (.int .u64 (u S3)) := by first | exact keep_cell hb u1 | exact keep_cell hb (alloc_cell u1 _) | exact keep_cell hb (alloc_cell (alloc_cell u1 _) _) | exact keep_cell hb (by go_simp)
  replace v0 : w8.cell? ⟨w5.heap.size, 0, none⟩ = some (.int .i64 R4) := by first | exact keep_cell hb v0 | exact keep_cell hb (alloc_cell v0 _) | exact keep_cell hb (alloc_cell (alloc_cell v0 _) _) | exact keep_cell hb (by go_simp)
  replace v1 : w8.cell? ⟨w5.heap.size, 1, none⟩ = some (.int .u64 (u S4)) := by first | exact keep_cell hb v1 | exact keep_cell hb (alloc_cell v1 _) | exact keep_cell hb (alloc_cell (alloc_cell v1 _) _) | exact keep_cell hb (by go_simp)
  replace z0 : w8.cell? ⟨w6.heap.size, 0, none⟩ = some (.int .i64 R5) := by first | exact keep_cell hb z0 | exact keep_cell hb (alloc_cell z0 _) | exact keep_cell hb (alloc_cell (alloc_cell z0 _) _) | exact keep_cell hb (by go_simp)
  replace z1 : w8.cell? ⟨w6.heap.size, 1, none⟩ = some (.int .u64 (u S5)) := by first | exact keep_cell hb z1 | exact keep_cell hb (alloc_cell z1 _) | exact keep_cell hb (alloc_cell (alloc_cell z1 _) _) | exact keep_cell hb (by go_simp)
  replace hB : Below w.heap.size w w8 := by repeat (first | exact Below.refl _ _ | exact hB | (refine Below.setCell ?_ (by first | omega | (simp; omega) | (simp; done)) _) | (refine Below.alloc ?_ (by first | omega | (simp; omega) | (simp; done)) _) | (refine below_drewN ?_ _) | (refine Below.drew ?_) | (refine below_via hb ?_ (by first | omega | (simp; omega) | (simp; done))))
  replace hz := hB.size
  clear hb
  clear r0 r1
  go_wp2_with fail
  refine (may_fine R1 S1 E1 G1.out _).mono ?_
  rintro e9 w9 ⟨rfl, hb⟩
  replace a0 : w9.cell? ⟨w.heap.size, 0, none⟩ = some (.int .i64 W0) := by first | exact keep_cell hb a0 | exact keep_cell hb (alloc_cell a0 _) | exact keep_cell hb (alloc_cell (alloc_cell a0 _) _) | exact keep_cell hb (by go_simp)
  replace a1 : w9.cell? ⟨w.heap.size, 1, none⟩ = some (.int .u64 (u x)) := by first | exact keep_cell hb a1 | exact keep_cell hb (alloc_cell a1 _) | exact keep_cell hb (alloc_cell (alloc_cell a1 _) _) | exact keep_cell hb (by go_simp)
  replace b0 : w9.cell? ⟨w.heap.size + 1, 0, none⟩ = some (.int .i64 W1) := by first | exact keep_cell hb b0 | exact keep_cell hb (alloc_cell b0 _) | exact keep_cell hb (alloc_cell (alloc_cell b0 _) _) | exact keep_cell hb (by go_simp)
  replace b1 : w9.cell? ⟨w.heap.size + 1, 1, none⟩ = some (.int .u64 (u y)) := by first | exact keep_cell hb b1 | exact keep_cell hb (alloc_cell b1 _) | exact keep_cell hb (alloc_cell (alloc_cell b1 _) _) | exact keep_cell hb (by go_simp)
  replace t0 : w9.cell? ⟨w3.heap.size, 0, none⟩ = some (.int .i64 R2) := by first | exact keep_cell hb t0 | exact keep_cell hb (alloc_cell t0 _) | exact keep_cell hb (alloc_cell (alloc_cell t0 _) _) | exact keep_cell hb (by go_simp)
  replace t1 : w9.cell? ⟨w3.heap.size, 1, none⟩ = some (.int .u64 (u S2)) := by first | exact keep_cell hb t1 | exact keep_cell hb (alloc_cell t1 _) | exact keep_cell hb (alloc_cell (alloc_cell t1 _) _) | exact keep_cell hb (by go_simp)
  replace u0 : w9.cell? ⟨w4.heap.size, 0, none⟩ = some (.int .i64 R3) := by first | exact keep_cell hb u0 | exact keep_cell hb (alloc_cell u0 _) | exact keep_cell hb (alloc_cell (alloc_cell u0 _) _) | exact keep_cell hb (by go_simp)
  replace u1 : w9.cell? ⟨w4.heap.size, 1, none⟩ = some (.int .u64 (u S3)) := by first | exact keep_cell hb u1 | exact keep_cell hb (alloc_cell u1 _) | exact keep_cell hb (alloc_cell (alloc_cell u1 _) _) | exact keep_cell hb (by go_simp)
  replace v0 : w9.cell? ⟨w5.heap.size, 0, none⟩ = some (.int .i64 R4) := by first | exact keep_cell hb v0 | exact keep_cell hb (alloc_cell v0 _) | exact keep_cell hb (alloc_cell (alloc_cell v0 _) _) | exact keep_cell hb (by go_simp)
  replace v1 : w9.cell? ⟨w5.heap.size, 1, none⟩ = some (.int .u64 (u S4)) := by first | exact keep_cell hb v1 | exact keep_cell hb (alloc_cell v1 _) | exact keep_cell hb (alloc_cell (alloc_cell v1 _) _) | exact keep_cell hb (by go_simp)
  replace z0 : w9.cell? ⟨w6.heap.size, 0, none⟩ = some (.int .i64 R5) := by first | exact keep_cell hb z0 | exact keep_cell hb (alloc_cell z0 _) | exact keep_cell hb (alloc_cell (alloc_cell z0 _) _) | exact keep_cell hb (by go_simp)
  replace z1 : w9.cell? ⟨w6.heap.size, 1, none⟩ = some (.int .u64 (u S5)) := by first | exact keep_cell hb z1 | exact keep_cell hb (alloc_cell z1 _) | exact keep_cell hb (alloc_cell (alloc_cell z1 _) _) | exact keep_cell hb (by go_simp)
  replace hB : Below w.heap.size w w9 := by repeat (first | exact Below.refl _ _ | exact hB | (refine Below.setCell ?_ (by first | omega | (simp; omega) | (simp; done)) _) | (refine Below.alloc ?_ (by first | omega | (simp; omega) | (simp; done)) _) | (refine below_drewN ?_ _) | (refine Below.drew ?_) | (refine below_via hb ?_ (by first | omega | (simp; omega) | (simp; done))))
  replace hz := hB.size
  clear hb
  clear s0 s1
  go_wp2_with fail
  refine (may_fine R2 S2 E2 G2.out _).mono ?_
  rintro e10 w10 ⟨rfl, hb⟩
  replace a0 : w10.cell? ⟨w.heap.size, 0, none⟩ = some (.int .i64 W0) := by first | exact keep_cell hb a0 | exact keep_cell hb (alloc_cell a0 _) | exact keep_cell hb (alloc_cell (alloc_cell a0 _) _) | exact keep_cell hb (by go_simp)
  replace a1 : w10.cell? ⟨w.heap.size, 1, none⟩ = some (.int .u64 (u x)) := by first | exact keep_cell hb a1 | exact keep_cell hb (alloc_cell a1 _) | exact keep_cell hb (alloc_cell (alloc_cell a1 _) _) | exact keep_cell hb (by go_simp)
  replace b0 : w10.cell? ⟨w.heap.size + 1, 0, none⟩ = some (.int .i64 W1) := by first | exact keep_cell hb b0 | exact keep_cell hb (alloc_cell b0 _) | exact keep_cell hb (alloc_cell (alloc_cell b0 _) _) | exact keep_cell hb (by go_simp)
  replace b1 : w10.cell? ⟨w.heap.size + 1, 1, none⟩ = some (.int .u64 (u y)) := by first | exact keep_cell hb b1 | exact keep_cell hb (alloc_cell b1 _) | exact keep_cell hb (alloc_cell (alloc_cell b1 _) _) | exact keep_cell hb (by go_simp)
  replace u0 : w10.cell? ⟨w4.heap.size, 0, none⟩ = some (.int .i64 R3) := by first | exact keep_cell hb u0 | exact keep_cell hb (alloc_cell u0 _) | exact keep_cell hb (alloc_cell (alloc_cell u0 _) _) | exact keep_cell hb (by go_simp)
  replace u1 : w10.cell? ⟨w4.heap.size, 1, none⟩ = some (.int .u64 (u S3)) := by first | exact keep_cell hb u1 | exact keep_cell hb (alloc_cell u1 _) | exact keep_cell hb (alloc_cell (alloc_cell u1 _) _) | exact keep_cell hb (by go_simp)
  replace v0 : w10.cell? ⟨w5.heap.size, 0, none⟩ = some (.int .i64 R4) := by first | exact keep_cell hb v0 | exact keep_cell hb (alloc_cell v0 _) | exact keep_cell hb (alloc_cell (alloc_cell v0 _) _) | exact keep_cell hb (by go_simp)
  replace v1 : w10.cell? ⟨w5.heap.size, 1, none⟩ = some (.int .u64 (u S4)) := by first | exact keep_cell hb v1 | exact keep_cell hb (alloc_cell v1 _) | exact keep_cell hb (alloc_cell (alloc_cell v1 _) _) | exact keep_cell hb (by go_simp)
  replace z0 : w10.cell? ⟨w6.heap.size, 0, none⟩ = some (.int .i64 R5) := by first | exact keep_cell hb z0 | exact keep_cell hb (alloc_cell z0 _) | exact keep_cell hb (alloc_cell (alloc_cell z0 _) _) | exact keep_cell hb (by go_simp)
  replace z1 : w10.cell? ⟨w6.heap.size, 1, none⟩ = some (.int .u64 (u S5)) := by first | exact keep_cell hb z1 | exact keep_cell hb (alloc_cell z1 _) | exact keep_cell hb (alloc_cell (alloc_cell z1 _) _) | exact keep_cell hb (by go_simp)
  replace hB : Below w.heap.size w w10 := by repeat (first | exact Below.refl _ _ | exact hB | (refine Below.setCell ?_ (by first | omega | (simp; omega) | (simp; done)) _) | (refine Below.alloc ?_ (by first | omega | (simp; omega) | (simp; done)) _) | (refine below_drewN ?_ _) | (refine Below.drew ?_) | (refine below_via hb ?_ (by first | omega | (simp; omega) | (simp; done))))
  replace hz := hB.size
  clear hb
  clear t0 t1
  go_wp2_with fail
  refine (may_fine R3 S3 E3 G3.out _).mono ?_
  rintro e11 w11 ⟨rfl, hb⟩
  replace a0 : w11.cell? ⟨w.heap.size, 0, none⟩ = some (.int .i64 W0) := by first | exact keep_cell hb a0 | exact keep_cell hb (alloc_cell a0 _) | exact keep_cell hb (alloc_cell (alloc_cell a0 _) _) | exact keep_cell hb (by go_simp)
  replace a1 : w11.cell? ⟨w.heap.size, 1, none⟩ = some (.int .u64 (u x)) := by first | exact keep_cell hb a1 | exact keep_cell hb (alloc_cell a1 _) | exact keep_cell hb (alloc_cell (alloc_cell a1 _) _) | exact keep_cell hb (by go_simp)
  replace b0 : w11.cell? ⟨w.heap.size + 1, 0, none⟩ = some (.int .i64 W1) := by first | exact keep_cell hb b0 | exact keep_cell hb (alloc_cell b0 _) | exact keep_cell hb (alloc_cell (alloc_cell b0 _) _) | exact keep_cell hb (by go_simp)
  replace b1 : w11.cell? ⟨w.heap.size + 1, 1, none⟩ = some (.int .u64 (u y)) := by first | exact keep_cell hb b1 | exact keep_cell hb (alloc_cell b1 _) | exact keep_cell hb (alloc_cell (alloc_cell b1 _) _) | exact keep_cell hb (by go_simp)
  replace v0 : w11.cell? ⟨w5.heap.size, 0, none⟩ = some (.int .i64 R4) := by first | exact keep_cell hb v0 | exact keep_cell hb (alloc_cell v0 _) | exact keep_cell hb (alloc_cell (alloc_cell v0 _) _) | exact keep_cell hb (by go_simp)
  replace v1 : w11.cell? ⟨w5.heap.size, 1, none⟩ = some (.int .u64 (u S4)) := by first | exact keep_cell hb v1 | exact keep_cell hb (alloc_cell v1 _) | exact keep_cell hb (alloc_cell (alloc_cell v1 _) _) | exact keep_cell hb (by go_simp)
  replace z0 : w11.cell? ⟨w6.heap.size, 0, none⟩ = some (.int .i64 R5) := by first | exact keep_cell hb z0 | exact keep_cell hb (alloc_cell z0 _) | exact keep_cell hb (alloc_cell (alloc_cell z0 _) _) | exact keep_cell hb (by go_simp)
  replace z1 : w11.cell? ⟨w6.heap.size, 1, none⟩ = some (.int .u64 (u S5)) := by first | exact keep_cell hb z1 | exact keep_cell hb (alloc_cell z1 _) | exact keep_cell hb (alloc_cell (alloc_cell z1 _) _) | exact keep_cell hb (by go_simp)
  replace hB : Below w.heap.size w w11 := by repeat (first | exact Below.refl _ _ | exact hB | (refine Below.setCell ?_ (by first | omega | (simp; omega) | (simp; done)) _) | (refine Below.alloc ?_ (by first | omega | (simp; omega) | (simp; done)) _) | (refine below_drewN ?_ _) | (refine Below.drew ?_) | (refine below_via hb ?_ (by first | omega | (simp; omega) | (simp; done))))
  replace hz := hB.size
  clear hb
  clear u0 u1
  go_wp2_with fail
  refine (may_fine R4 S4 E4 G4.out _).mono ?_
  rintro e12 w12 ⟨rfl, hb⟩
  replace a0 : w12.cell? ⟨w.heap.size, 0, none⟩ = some (.int .i64 W0) := by first | exact keep_cell hb a0 | exact keep_cell hb (alloc_cell a0 _) | exact keep_cell hb (alloc_cell (alloc_cell a0 _) _) | exact keep_cell hb (by go_simp)
  replace a1 : w12.cell? ⟨w.heap.size, 1, none⟩ = some (.int .u64 (u x)) := by first | exact keep_cell hb a1 | exact keep_cell hb (alloc_cell a1 _) | exact keep_cell hb (alloc_cell (alloc_cell a1 _) _) | exact keep_cell hb (by go_simp)
  replace b0 : w12.cell? ⟨w.heap.size + 1, 0, none⟩ = some (.int .i64 W1) := by first | exact keep_cell hb b0 | exact keep_cell hb (alloc_cell b0 _) | exact keep_cell hb (alloc_cell (alloc_cell b0 _) _) | exact keep_cell hb (by go_simp)
  replace b1 : w12.cell? ⟨w.heap.size + 1, 1, none⟩ = some (.int .u64 (u y)) := by first | exact keep_cell hb b1 | exact keep_cell hb (alloc_cell b1 _) | exact keep_cell hb (alloc_cell (alloc_cell b1 _) _) | exact keep_cell hb (by go_simp)
  replace z0 : w12.cell? ⟨w6.heap.size, 0, none⟩ = some (.int .i64 R5) := by first | exact keep_cell hb z0 | exact keep_cell hb (alloc_cell z0 _) | exact keep_cell hb (alloc_cell (alloc_cell z0 _) _) | exact keep_cell hb (by go_simp)
  replace z1 : w12.cell? ⟨w6.heap.size, 1, none⟩ = some (.int .u64 (u S5)) := by first | exact keep_cell hb z1 | exact keep_cell hb (alloc_cell z1 _) | exact keep_cell hb (alloc_cell (alloc_cell z1 _) _) | exact keep_cell hb (by go_simp)
  replace hB : Below w.heap.size w w12 := by repeat (first | exact Below.refl _ _ | exact hB | (refine Below.setCell ?_ (by first | omega | (simp; omega) | (simp; done)) _) | (refine Below.alloc ?_ (by first | omega | (simp; omega) | (simp; done)) _) | (refine below_drewN ?_ _) | (refine Below.drew ?_) | (refine below_via hb ?_ (by first | omega | (simp; omega) | (simp; done))))
  replace hz := hB.size
  clear hb
  clear v0 v1
  go_wp2_with fail
  refine (may_fine R5 S5 E5 G5.out _).mono ?_
  rintro e13 w13 ⟨rfl, hb⟩
  replace a0 : w13.cell? ⟨w.heap.size, 0, none⟩ = some (.int .i64 W0) := by first | exact keep_cell hb a0 | exact keep_cell hb (alloc_cell a0 _) | exact keep_cell hb (alloc_cell (alloc_cell a0 _) _) | exact keep_cell hb (by go_simp)
  replace a1 : w13.cell? ⟨w.heap.size, 1, none⟩ = some (.int .u64 (u x)) := by first | exact keep_cell hb a1 | exact keep_cell hb (alloc_cell a1 _) | exact keep_cell hb (alloc_cell (alloc_cell a1 _) _) | exact keep_cell hb (by go_simp)
  replace b0 : w13.cell? ⟨w.heap.size + 1, 0, none⟩ = some (.int .i64 W1) := by first | exact keep_cell hb b0 | exact keep_cell hb (alloc_cell b0 _) | exact keep_cell hb (alloc_cell (alloc_cell b0 _) _) | exact keep_cell hb (by go_simp)
  replace b1 : w13.cell? ⟨w.heap.size + 1, 1, none⟩ = some (.int .u64 (u y)) := by first | exact keep_cell hb b1 | exact keep_cell hb (alloc_cell b1 _) | exact keep_cell hb (alloc_cell (alloc_cell b1 _) _) | exact keep_cell hb (by go_simp)
  replace hB : Below w.heap.size w w13 := by repeat (first | exact Below.refl _ _ | exact hB | (refine Below.setCell ?_ (by first | omega | (simp; omega) | (simp; done)) _) | (refine Below.alloc ?_ (by first | omega | (simp; omega) | (simp; done)) _) | (refine below_drewN ?_ _) | (refine Below.drew ?_) | (refine below_via hb ?_ (by first | omega | (simp; omega) | (simp; done))))
  replace hz := hB.size
  clear hb
  clear z0 z1
  go_wp2
  go_ret
  exact ⟨rfl, hB⟩

theorem own : ownKnob Try.prog.godebug = none := by kernel_rfl
theorem cellsB : Try.prog.cellsOf 24 = 2 := by kernel_rfl

theorem reads {H : Type} (enc : TypeId × Value → H) (W : World) (base : Nat) (sp : Nat → Bool) (held : Bool) (a b : Int) (wa : (Lit.int .i64 a).wf = true) (wb : (Lit.int .u64 b).wf = true) :
    DataW.Trod enc Try.prog W base sp held 24 (.agg #[.int .i64 a, .int .u64 b]) (.agg [.lit (.int .i64 a), .lit (.int .u64 b)]) [] :=
  shut_agg2 (y0 := (.lit (.int .i64 a), [])) (y1 := (.lit (.int .u64 b), [])) Try.underlying24 (by kernel_rfl) cellsB ⟨1, by simp [DataW.trod, Try.underlying3, wa]⟩ ⟨1, by simp [DataW.trod, Try.underlying22, wb]⟩

/-! ### The row's step -/
set_option maxRecDepth 100000 in
theorem lifted (os : Os) (started : os.Started) (H : Type) (enc : TypeId × Value → H) :
    ReturnsInHanded {} Try.checked os 12 .any (Rows.bitvMaySpec.pre6 enc Try.prog Try.f12 Rows.bitvMayRow.domain false) (Rows.bitvMaySpec.post enc Try.prog Try.f12 false true false false) := by
  refine returnsInHanded_of_change (C := Try.checked) own started (by kernel_rfl) Try.func12
    (ChangeSpec.witness6 (enc := enc) (C := Try.checked) false ⟨#[], #[.agg #[.int .i64 0, .int .u64 0], .agg #[.int .i64 0, .int .u64 0], .int .i64 0, .int .i64 0, .int .i64 0], []⟩ 8 (by kernel_rfl) (by kernel_rfl) (by kernel_rfl) (by kernel_rfl)) ?_
  intro W base args ds gs before hval0 hW hcnd _
  have hval : ∀ (j : Nat) t v, Try.f12.params[j]? = some t → args[j]? = some v → Value.okWide Try.prog W .any base t v := hval0
  have hW' := hW
  obtain ⟨p, q, hA0, hV, rfl, hfz, hnd⟩ := hW
  have hA : DataW.TrodAll enc Try.prog W 0 (fun _ => true) true Try.f12.params.toList args.toList ds p := hA0
  rw [Try.params12] at hA hval
  obtain ⟨v0, vs0, d0, ds0, p0, q0, hargs, rfl, rfl, h0, r0⟩ := trodAll_cons hA
  obtain ⟨v1, vs1, d1, ds1, p1, q1, rfl, rfl, rfl, h1, r1⟩ := trodAll_cons r0
  obtain ⟨v2, vs2, d2, ds2, p2, q2, rfl, rfl, rfl, h2, r2⟩ := trodAll_cons r1
  obtain ⟨v3, vs3, d3, ds3, p3, q3, rfl, rfl, rfl, h3, r3⟩ := trodAll_cons r2
  obtain ⟨v4, vs4, d4, ds4, p4, q4, rfl, rfl, rfl, h4, r4⟩ := trodAll_cons r3
  obtain ⟨rfl, rfl, rfl⟩ := trodAll_nil r4
  obtain rfl : args = #[v0, v1, v2, v3, v4] := by cases args; simp_all
  obtain ⟨rfl, rfl⟩ := trodVars_none hV
  obtain ⟨x0, y0, ya0, yb0, m0, rfl, rfl, rfl, ka0, kb0⟩ := open_agg2 Try.underlying24 (by kernel_rfl) cellsB (hval 0 24 v0 rfl rfl) h0
  obtain ⟨W0, ea0, rfl, wW0⟩ := DataW.trod_int Try.underlying3 ka0
  obtain ⟨V0, eb0, rfl, wV0⟩ := DataW.trod_int Try.underlying22 kb0
  simp at ea0 eb0
  subst ea0 eb0
  obtain ⟨x1, y1, ya1, yb1, m1, rfl, rfl, rfl, ka1, kb1⟩ := open_agg2 Try.underlying24 (by kernel_rfl) cellsB (hval 1 24 v1 rfl rfl) h1
  obtain ⟨W1, ea1, rfl, wW1⟩ := DataW.trod_int Try.underlying3 ka1
  obtain ⟨V1, eb1, rfl, wV1⟩ := DataW.trod_int Try.underlying22 kb1
  simp at ea1 eb1
  subst ea1 eb1
  obtain ⟨a2, rfl, rfl, rfl, w2⟩ := open_int Try.underlying3 (hval 2 3 v2 rfl rfl) h2
  obtain ⟨a3, rfl, rfl, rfl, w3⟩ := open_int Try.underlying3 (hval 3 3 v3 rfl rfl) h3
  obtain ⟨a4, rfl, rfl, rfl, w4⟩ := open_int Try.underlying3 (hval 4 3 v4 rfl rfl) h4
  clear hA0 hval0
  simp only [List.append_nil] at hW'
  refine (walk W0 wW0 V0 wV0 W1 wW1 V1 wV1 a2 w2 a3 w3 a4 w4 W).mono fun e W' ⟨he, bel⟩ => ?_
  subst he
  exact ⟨_, rfl, _, _, _, [], _, [], hW', trodAll_mk1 (shut_bool Try.underlying4 _), (trodAll_cons_mk (reads enc _ _ _ _ W0 V0 wW0 wV0) (trodAll_cons_mk (reads enc _ _ _ _ W1 V1 wW1 wV1) (trodAll_cons_mk (shut_int Try.underlying3 w2) (trodAll_cons_mk (shut_int Try.underlying3 w3) (trodAll_cons_mk (shut_int Try.underlying3 w4) trodAll_mk0))))), rfl, bel.frame _, fun h => by cases h⟩

theorem over : Rows.bitvMayRow.holds Try.pinned (OpenSpec.ofChange Rows.bitvMaySpec) :=
  OpenClaim.holds_of_wide 12 Try.f12 rfl rfl rfl rfl rfl rfl rfl ⟨rfl, rfl, rfl, rfl, rfl⟩ rfl rfl rfl rfl rfl (by kernel_rfl) Try.func12 (by kernel_rfl)
    (of_decide_eq_true (by kernel_rfl)) (by unfold Func.isWrapper; first | (rw [if_pos (by decide +kernel)]; kernel_rfl) | (rw [if_neg (by decide +kernel)]; exact ⟨rfl, rfl⟩))
    (fun os started H enc _ => lifted os started H enc)

/-- The given statement. -/
theorem proved : Rows.BitvMaySaid := over
#print axioms proved
end Go.Proofs.Ytonjgblnocljcaa.bitvMay
