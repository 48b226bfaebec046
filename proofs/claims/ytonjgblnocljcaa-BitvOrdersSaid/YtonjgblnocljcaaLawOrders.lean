/-
  Two of one width are less, the same or more, just one of them; the other tests of the statement likewise. For every input.
-/
import Derived.Test.YtonjgblnocljcaaRows
import Derived.Test.YtonjgblnocljcaaJ
import Derived.BigQuiet
import Derived.ProofKit
import Derived.OpenShut
import Derived.Lib.SmallJoins
namespace Go.Proofs.Ytonjgblnocljcaa.bitvOrders
open Go Go.ChangeShapes Go.WideShapes Go.ChangeAt Go.RowKit Go.Joins Go.Sort
set_option linter.unusedVariables false

set_option maxRecDepth 100000 in
set_option maxHeartbeats 4000000 in
theorem walk (a0 : Int) (w0 : (Lit.int .u8 a0).wf = true) (a1 : Int) (w1 : (Lit.int .u64 a1).wf = true) (a2 : Int) (w2 : (Lit.int .u64 a2).wf = true) (w : World) :
    Calls Try.prog 8 #[.int .u8 a0, .int .u64 a1, .int .u64 a2] w fun e w' => e = .returned (.bool true) ∧ Below w.heap.size w w' := by
  obtain ⟨r0, r1⟩ := bounds_u8 w0
  obtain ⟨W, hW⟩ : ∃ W : Int, W = 1 + a0 % 64 := ⟨_, rfl⟩
  have W1 : 1 ≤ W := by omega
  have W2 : W ≤ 64 := by omega
  have HW := Lib.hid hW
  clear hW
  obtain ⟨xa, rfl⟩ := u_of a1 w1
  obtain ⟨A, hA⟩ : ∃ A : BitVec 64, A = xa &&& msk W := ⟨_, rfl⟩
  have okA : ok W A = true := by rw [hA]; exact ok_masked W1 W2 _
  have HA := Lib.hid hA
  clear hA
  obtain ⟨xb, rfl⟩ := u_of a2 w2
  obtain ⟨B, hB⟩ : ∃ A : BitVec 64, A = xb &&& msk W := ⟨_, rfl⟩
  have okB : ok W B = true := by rw [hB]; exact ok_masked W1 W2 _
  have HB := Lib.hid hB
  clear hB
  have okP : ok 1 (ru 4 W A) = true := (un_one okA (by decide)).2
  have okQ : ok 1 (ru 4 W B) = true := (un_one okB (by decide)).2
  have okL : ok 1 (rb 21 W A B) = true := (bin_one okA okB (by decide)).2
  have okS : ok 1 (rb 19 W A B) = true := (bin_one okA okB (by decide)).2
  have okM : ok 1 (rb 23 W A B) = true := (bin_one okA okB (by decide)).2
  have q0 : (rb 21 W A B + rb 19 W A B + rb 23 W A B == 1#64) = true := by rw [beq_iff_eq]; exact law_once okA okB
  have q1 : (rb 22 W A B == ru 6 1 (rb 23 W A B)) = true := by rw [beq_iff_eq]; exact law_le okA okB
  have q2 : (rb 24 W A B == ru 6 1 (rb 21 W A B)) = true := by rw [beq_iff_eq]; exact law_ge okA okB
  have q3 : (rb 20 W A B == ru 6 1 (rb 19 W A B)) = true := by rw [beq_iff_eq]; exact law_ne okA okB
  have q4 : (rb 25 1 (ru 4 W A) (ru 4 W B) == rb 11 1 (ru 4 W A) (ru 4 W B)) = true := by rw [beq_iff_eq]; exact law_bothAnd okP okQ
  have q5 : (rb 26 1 (ru 4 W A) (ru 4 W B) == rb 12 1 (ru 4 W A) (ru 4 W B)) = true := by rw [beq_iff_eq]; exact law_oneOr okP okQ
  obtain ⟨b, q6, q7⟩ : ∃ b, (rb 19 W A B == 1#64) = b ∧ (A == B) = b := ⟨_, law_same okA okB, rfl⟩
  go_enter Try.func8, Try.ntmps8
  have hB : Below w.heap.size w w := Below.refl _ _
  have hz := hB.size
  go_wp2_with fail
  refine (masked_is a0 ⟨r0, r1⟩ xa _ rfl W A HW.out HA.out _).mono ?_
  rintro e1 w1 ⟨rfl, hb⟩
  replace hB : Below w.heap.size w w1 := by repeat (first | exact Below.refl _ _ | exact hB | (refine Below.setCell ?_ (by first | omega | (simp; omega) | (simp; done)) _) | (refine Below.alloc ?_ (by first | omega | (simp; omega) | (simp; done)) _) | (refine below_drewN ?_ _) | (refine Below.drew ?_) | (refine below_via hb ?_ (by first | omega | (simp; omega) | (simp; done))))
  replace hz := hB.size
  clear hb
  go_wp2_with fail
  refine (masked_is a0 ⟨r0, r1⟩ xb _ rfl W B HW.out HB.out _).mono ?_
  rintro e2 w2 ⟨rfl, hb⟩
  have va0 : w2.cell? ⟨w1.heap.size, 0, none⟩ = some (.int .i64 W) := keep_cell hb (by first | (simp; done) | (simp [World.cell?_alloc_new]; done))
  have va1 : w2.cell? ⟨w1.heap.size, 1, none⟩ = some (.int .u64 (u A)) := keep_cell hb (by first | (simp; done) | (simp [World.cell?_alloc_new]; done))
  replace hB : Below w.heap.size w w2 := by repeat (first | exact Below.refl _ _ | exact hB | (refine Below.setCell ?_ (by first | omega | (simp; omega) | (simp; done)) _) | (refine Below.alloc ?_ (by first | omega | (simp; omega) | (simp; done)) _) | (refine below_drewN ?_ _) | (refine Below.drew ?_) | (refine below_via hb ?_ (by first | omega | (simp; omega) | (simp; done))))
  replace hz := hB.size
  clear hb
  have va0A := alloc_cell va0
  have va1A := alloc_cell va1
  go_wp2_with fail
  refine (binb 21 W A B okA okB (by decide) _).mono ?_
  rintro e3 w3 ⟨rfl, hb⟩
  clear va0A va1A
  replace va0 : w3.cell? ⟨w1.heap.size, 0, none⟩ = some (.int .i64 W) := by first | exact keep_cell hb va0 | exact keep_cell hb (alloc_cell va0 _) | exact keep_cell hb (alloc_cell (alloc_cell va0 _) _) | exact keep_cell hb (by go_simp)
  replace va1 : w3.cell? ⟨w1.heap.size, 1, none⟩ = some (.int .u64 (u A)) := by first | exact keep_cell hb va1 | exact keep_cell hb (alloc_cell va1 _) | exact keep_cell hb (alloc_cell (alloc_cell va1 _) _) | exact keep_cell hb (by go_simp)
  have vb0 : w3.cell? ⟨w2.heap.size, 0, none⟩ = some (.int .i64 W) := keep_cell hb (by first | (simp; done) | (simp [World.cell?_alloc_new]; done))
  have vb1 : w3.cell? ⟨w2.heap.size, 1, none⟩ = some (.int .u64 (u B)) := keep_cell hb (by first | (simp; done) | (simp [World.cell?_alloc_new]; done))
  replace hB : Below w.heap.size w w3 := by repeat (first | exact Below.refl _ _ | exact hB | (refine Below.setCell ?_ (by first | omega | (simp; omega) | (simp; done)) _) | (refine Below.alloc ?_ (by first | omega | (simp; omega) | (simp; done)) _) | (refine below_drewN ?_ _) | (refine Below.drew ?_) | (refine below_via hb ?_ (by first | omega | (simp; omega) | (simp; done))))
  replace hz := hB.size
  clear hb
  have va0A := alloc_cell va0
  have va1A := alloc_cell va1
  have vb0A := alloc_cell vb0
  have vb1A := alloc_cell vb1
  go_wp2_with fail
  refine (binb 19 W A B okA okB (by decide) _).mono ?_
  rintro e4 w4 ⟨rfl, hb⟩
  clear va0A va1A vb0A vb1A
  replace va0 : w4.cell? ⟨w1.heap.size, 0, none⟩ = some (.int .i64 W) := by first | exact keep_cell hb va0 | exact keep_cell hb (alloc_cell va0 _) | exact keep_cell hb (alloc_cell (alloc_cell va0 _) _) | exact keep_cell hb (by go_simp)
  replace va1 : w4.cell? ⟨w1.heap.size, 1, none⟩ = some (.int .u64 (u A)) := by first | exact keep_cell hb va1 | exact keep_cell hb (alloc_cell va1 _) | exact keep_cell hb (alloc_cell (alloc_cell va1 _) _) | exact keep_cell hb (by go_simp)
  replace vb0 : w4.cell? ⟨w2.heap.size, 0, none⟩ = some (.int .i64 W) := by first | exact keep_cell hb vb0 | exact keep_cell hb (alloc_cell vb0 _) | exact keep_cell hb (alloc_cell (alloc_cell vb0 _) _) | exact keep_cell hb (by go_simp)
  replace vb1 : w4.cell? ⟨w2.heap.size, 1, none⟩ = some (.int .u64 (u B)) := by first | exact keep_cell hb vb1 | exact keep_cell hb (alloc_cell vb1 _) | exact keep_cell hb (alloc_cell (alloc_cell vb1 _) _) | exact keep_cell hb (by go_simp)
  have vl0 : w4.cell? ⟨w3.heap.size, 0, none⟩ = some (.int .i64 1) := keep_cell hb (by first | (simp; done) | (simp [World.cell?_alloc_new]; done))
  have vl1 : w4.cell? ⟨w3.heap.size, 1, none⟩ = some (.int .u64 (u (rb 21 W A B))) := keep_cell hb (by first | (simp; done) | (simp [World.cell?_alloc_new]; done))
  replace hB : Below w.heap.size w w4 := by repeat (first | exact Below.refl _ _ | exact hB | (refine Below.setCell ?_ (by first | omega | (simp; omega) | (simp; done)) _) | (refine Below.alloc ?_ (by first | omega | (simp; omega) | (simp; done)) _) | (refine below_drewN ?_ _) | (refine Below.drew ?_) | (refine below_via hb ?_ (by first | omega | (simp; omega) | (simp; done))))
  replace hz := hB.size
  clear hb
  have va0A := alloc_cell va0
  have va1A := alloc_cell va1
  have vb0A := alloc_cell vb0
  have vb1A := alloc_cell vb1
  have vl0A := alloc_cell vl0
  have vl1A := alloc_cell vl1
  go_wp2_with fail
  refine (binb 23 W A B okA okB (by decide) _).mono ?_
  rintro e5 w5 ⟨rfl, hb⟩
  clear va0A va1A vb0A vb1A vl0A vl1A
  replace va0 : w5.cell? ⟨w1.heap.size, 0, none⟩ = some (.int .i64 W) := by first | exact keep_cell hb va0 | exact keep_cell hb (alloc_cell va0 _) | exact keep_cell hb (alloc_cell (alloc_cell va0 _) _) | exact keep_cell hb (by go_simp)
  replace va1 : w5.cell? ⟨w1.heap.size, 1, none⟩ = some (.int .u64 (u A)) := by first | exact keep_cell hb va1 | exact keep_cell hb (alloc_cell va1 _) | exact keep_cell hb (alloc_cell (alloc_cell va1 _) _) | exact keep_cell hb (by go_simp)
  replace vb0 : w5.cell? ⟨w2.heap.size, 0, none⟩ = some (.int .i64 W) := by first | exact keep_cell hb vb0 | exact keep_cell hb (alloc_cell vb0 _) | exact keep_cell hb (alloc_cell (alloc_cell vb0 _) _) | exact keep_cell hb (by go_simp)
  replace vb1 : w5.cell? ⟨w2.heap.size, 1, none⟩ = some (.int .u64 (u B)) := by first | exact keep_cell hb vb1 | exact keep_cell hb (alloc_cell vb1 _) | exact keep_cell hb (alloc_cell (alloc_cell vb1 _) _) | exact keep_cell hb (by go_simp)
  replace vl0 : w5.cell? ⟨w3.heap.size, 0, none⟩ = some (.int .i64 1) := by first | exact keep_cell hb vl0 | exact keep_cell hb (alloc_cell vl0 _) | exact keep_cell hb (alloc_cell (alloc_cell vl0 _) _) | exact keep_cell hb (by go_simp)
  replace vl1 : w5.cell? ⟨w3.heap.size, 1, none⟩ = some (.int .u64 (u (rb 21 W A B))) := by first | exact keep_cell hb vl1 | exact keep_cell hb (alloc_cell vl1 _) | exact keep_cell hb (alloc_cell (alloc_cell vl1 _) _) | exact keep_cell hb (by go_simp)
  have vs0 : w5.cell? ⟨w4.heap.size, 0, none⟩ = some (.int .i64 1) := keep_cell hb (by first | (simp; done) | (simp [World.cell?_alloc_new]; done))
  have vs1 : w5.cell? ⟨w4.heap.size, 1, none⟩ = some (.int .u64 (u (rb 19 W A B))) := keep_cell hb (by first | (simp; done) | (simp [World.cell?_alloc_new]; done))
  replace hB : Below w.heap.size w w5 := by repeat (first | exact Below.refl _ _ | exact hB | (refine Below.setCell ?_ (by first | omega | (simp; omega) | (simp; done)) _) | (refine Below.alloc ?_ (by first | omega | (simp; omega) | (simp; done)) _) | (refine below_drewN ?_ _) | (refine Below.drew ?_) | (refine below_via hb ?_ (by first | omega | (simp; omega) | (simp; done))))
  replace hz := hB.size
  clear hb
  have va0A := alloc_cell va0
  have va1A := alloc_cell va1
  have vb0A := alloc_cell vb0
  have vb1A := alloc_cell vb1
  have vl0A := alloc_cell vl0
  have vl1A := alloc_cell vl1
  have vs0A := alloc_cell vs0
  have vs1A := alloc_cell vs1
  go_wp2_with fail
  refine (unb 4 W A okA (by decide) _).mono ?_
  rintro e6 w6 ⟨rfl, hb⟩
  clear va0A va1A vb0A vb1A vl0A vl1A vs0A vs1A
  replace va0 : w6.cell? ⟨w1.heap.size, 0, none⟩ = some (.int .i64 W) := by first | exact keep_cell hb va0 | exact keep_cell hb (alloc_cell va0 _) | exact keep_cell hb (alloc_cell (alloc_cell va0 _) _) | exact keep_cell hb (by go_simp)
  replace va1 : w6.cell? ⟨w1.heap.size, 1, none⟩ = some (.int .u64 (u A)) := by first | exact keep_cell hb va1 | exact keep_cell hb (alloc_cell va1 _) | exact keep_cell hb (alloc_cell (alloc_cell va1 _) _) | exact keep_cell hb (by go_simp)
  replace vb0 : w6.cell? ⟨w2.heap.size, 0, none⟩ = some (.int .i64 W) := by first | exact keep_cell hb vb0 | exact keep_cell hb (alloc_cell vb0 _) | exact keep_cell hb (alloc_cell (alloc_cell vb0 _) _) | exact keep_cell hb (by go_simp)
  replace vb1 : w6.cell? ⟨w2.heap.size, 1, none⟩ = some (.int .u64 (u B)) := by first | exact keep_cell hb vb1 | exact keep_cell hb (alloc_cell vb1 _) | exact keep_cell hb (alloc_cell (alloc_cell vb1 _) _) | exact keep_cell hb (by go_simp)
  replace vl0 : w6.cell? ⟨w3.heap.size, 0, none⟩ = some (.int .i64 1) := by first | exact keep_cell hb vl0 | exact keep_cell hb (alloc_cell vl0 _) | exact keep_cell hb (alloc_cell (alloc_cell vl0 _) _) | exact keep_cell hb (by go_simp)
  replace vl1 : w6.cell? ⟨w3.heap.size, 1, none⟩ = some (.int .u64 (u (rb 21 W A B))) := by first | exact keep_cell hb vl1 | exact keep_cell hb (alloc_cell vl1 _) | exact keep_cell hb (alloc_cell (alloc_cell vl1 _) _) | exact keep_cell hb (by go_simp)
  replace vs0 : w6.cell? ⟨w4.heap.size, 0, none⟩ = some (.int .i64 1) := by first | exact keep_cell hb vs0 | exact keep_cell hb (alloc_cell vs0 _) | exact keep_cell hb (alloc_cell (alloc_cell vs0 _) _) | exact keep_cell hb (by go_simp)
  replace vs1 : w6.cell? ⟨w4.heap.size, 1, none⟩ = some (.int .u64 (u (rb 19 W A B))) := by first | exact keep_cell hb vs1 | exact keep_cell hb (alloc_cell vs1 _) | exact keep_cell hb (alloc_cell (alloc_cell vs1 _) _) | exact keep_cell hb (by go_simp)
  have vm0 : w6.cell? ⟨w5.heap.size, 0, none⟩ = some (.int .i64 1) := keep_cell hb (by first | (simp; done) | (simp [World.cell?_alloc_new]; done))
  have vm1 : w6.cell? ⟨w5.heap.size, 1, none⟩ = some (.int .u64 (u (rb 23 W A B))) := keep_cell hb (by first | (simp; done) | (simp [World.cell?_alloc_new]; done))
  replace hB : Below w.heap.size w w6 := by repeat (first | exact Below.refl _ _ | exact hB | (refine Below.setCell ?_ (by first | omega | (simp; omega) | (simp; done)) _) | (refine Below.alloc ?_ (by first | omega | (simp; omega) | (simp; done)) _) | (refine below_drewN ?_ _) | (refine Below.drew ?_) | (refine below_via hb ?_ (by first | omega | (simp; omega) | (simp; done))))
  replace hz := hB.size
  clear hb
  have va0A := alloc_cell va0
  have va1A := alloc_cell va1
  have vb0A := alloc_cell vb0
  have vb1A := alloc_cell vb1
  have vl0A := alloc_cell vl0
  have vl1A := alloc_cell vl1
  have vs0A := alloc_cell vs0
  have vs1A := alloc_cell vs1
  have vm0A := alloc_cell vm0
  have vm1A := alloc_cell vm1
  go_wp2_with fail
  refine (unb 4 W B okB (by decide) _).mono ?_
  rintro e7 w7 ⟨rfl, hb⟩
  clear va0A va1A vb0A vb1A vl0A vl1A vs0A vs1A vm0A vm1A
  replace va0 : w7.cell? ⟨w1.heap.size, 0, none⟩ = some (.int .i64 W) := by first | exact keep_cell hb va0 | exact keep_cell hb (alloc_cell va0 _) | exact keep_cell hb (alloc_cell (alloc_cell va0 _) _) | exact keep_cell hb (by go_simp)
  replace va1 : w7.cell? ⟨w1.heap.size, 1, none⟩ = some (.int .u64 (u A)) := by first | exact keep_cell hb va1 | exact keep_cell hb (alloc_cell va1 _) | exact keep_cell hb (alloc_cell (alloc_cell va1 _) _) | exact keep_cell hb (by go_simp)
  replace vb0 : w7.cell? ⟨w2.heap.size, 0, none⟩ = some (.int .i64 W) := by first | exact keep_cell hb vb0 | exact keep_cell hb (alloc_cell vb0 _) | exact keep_cell hb (alloc_cell (alloc_cell vb0 _) _) | exact keep_cell hb (by go_simp)
  replace vb1 : w7.cell? ⟨w2.heap.size, 1, none⟩ = some (.int .u64 (u B)) := by first | exact keep_cell hb vb1 | exact keep_cell hb (alloc_cell vb1 _) | exact keep_cell hb (alloc_cell (alloc_cell vb1 _) _) | exact keep_cell hb (by go_simp)
  replace vl0 : w7.cell? ⟨w3.heap.size, 0, none⟩ = some (.int .i64 1) := by first | exact keep_cell hb vl0 | exact keep_cell hb (alloc_cell vl0 _) | exact keep_cell hb (alloc_cell (alloc_cell vl0 _) _) | exact keep_cell hb (by go_simp)
  replace vl1 : w7.cell? ⟨w3.heap.size, 1, none⟩ = some (.int .u64 (u (rb 21 W A B))) := by first | exact keep_cell hb vl1 | exact keep_cell hb (alloc_cell vl1 _) | exact keep_cell hb (alloc_cell (alloc_cell vl1 _) _) | exact keep_cell hb (by go_simp)
  replace vs0 : w7.cell? ⟨w4.heap.size, 0, none⟩ = some (.int .i64 1) := by first | exact keep_cell hb vs0 | exact keep_cell hb (alloc_cell vs0 _) | exact keep_cell hb (alloc_cell (alloc_cell vs0 _) _) | exact keep_cell hb (by go_simp)
  replace vs1 : w7.cell? ⟨w4.heap.size, 1, none⟩ = some (.int .u64 (u (rb 19 W A B))) := by first | exact keep_cell hb vs1 | exact keep_cell hb (alloc_cell vs1 _) | exact keep_cell hb (alloc_cell (alloc_cell vs1 _) _) | exact keep_cell hb (by go_simp)
  replace vm0 : w7.cell? ⟨w5.heap.size, 0, none⟩ = some (.int .i64 1) := by first | exact keep_cell hb vm0 | exact keep_cell hb (alloc_cell vm0 _) | exact keep_cell hb (alloc_cell (alloc_cell vm0 _) _) | exact keep_cell hb (by go_simp)
  replace vm1 : w7.cell? ⟨w5.heap.size, 1, none⟩ = some (.int .u64 (u (rb 23 W A B))) := by first | exact keep_cell hb vm1 | exact keep_cell hb (alloc_cell vm1 _) | exact keep_cell hb (alloc_cell (alloc_cell vm1 _) _) | exact keep_cell hb (by go_simp)
  have vp0 : w7.cell? ⟨w6.heap.size, 0, none⟩ = some (.int .i64 1) := keep_cell hb (by first | (simp; done) | (simp [World.cell?_alloc_new]; done))
  have vp1 : w7.cell? ⟨w6.heap.size, 1, none⟩ = some (.int .u64 (u (ru 4 W A))) := keep_cell hb (by first | (simp; done) | (simp [World.cell?_alloc_new]; done))
  replace hB : Below w.heap.size w w7 := by repeat (first | exact Below.refl _ _ | exact hB | (refine Below.setCell ?_ (by first | omega | (simp; omega) | (simp; done)) _) | (refine Below.alloc ?_ (by first | omega | (simp; omega) | (simp; done)) _) | (refine below_drewN ?_ _) | (refine Below.drew ?_) | (refine below_via hb ?_ (by first | omega | (simp; omega) | (simp; done))))
  replace hz := hB.size
  clear hb
  go_wp2_with fail
  replace va0 := alloc_cell va0 (.cells #[.int .i64 1, .int .u64 (u (ru 4 W B))] 24)
  replace va1 := alloc_cell va1 (.cells #[.int .i64 1, .int .u64 (u (ru 4 W B))] 24)
  replace vb0 := alloc_cell vb0 (.cells #[.int .i64 1, .int .u64 (u (ru 4 W B))] 24)
  replace vb1 := alloc_cell vb1 (.cells #[.int .i64 1, .int .u64 (u (ru 4 W B))] 24)
  replace vl0 := alloc_cell vl0 (.cells #[.int .i64 1, .int .u64 (u (ru 4 W B))] 24)
  replace vl1 := alloc_cell vl1 (.cells #[.int .i64 1, .int .u64 (u (ru 4 W B))] 24)
  replace vs0 := alloc_cell vs0 (.cells #[.int .i64 1, .int .u64 (u (ru 4 W B))] 24)
  replace vs1 := alloc_cell vs1 (.cells #[.int .i64 1, .int .u64 (u (ru 4 W B))] 24)
  replace vm0 := alloc_cell vm0 (.cells #[.int .i64 1, .int .u64 (u (ru 4 W B))] 24)
  replace vm1 := alloc_cell vm1 (.cells #[.int .i64 1, .int .u64 (u (ru 4 W B))] 24)
  replace vp0 := alloc_cell vp0 (.cells #[.int .i64 1, .int .u64 (u (ru 4 W B))] 24)
  replace vp1 := alloc_cell vp1 (.cells #[.int .i64 1, .int .u64 (u (ru 4 W B))] 24)
  have vq0 : (w7.alloc (.cells #[.int .i64 1, .int .u64 (u (ru 4 W B))] 24)).cell? ⟨w7.heap.size, 0, none⟩ = some (.int .i64 1) := by first | (simp; done) | (simp [World.cell?_alloc_new]; done)
  have vq1 : (w7.alloc (.cells #[.int .i64 1, .int .u64 (u (ru 4 W B))] 24)).cell? ⟨w7.heap.size, 1, none⟩ = some (.int .u64 (u (ru 4 W B))) := by first | (simp; done) | (simp [World.cell?_alloc_new]; done)
  replace hB : Below w.heap.size w (w7.alloc (.cells #[.int .i64 1, .int .u64 (u (ru 4 W B))] 24)) := hB.alloc (by first | omega | (simp; omega) | (simp; done)) _
  clear hz
  generalize w7.alloc (.cells #[.int .i64 1, .int .u64 (u (ru 4 W B))] 24) = w8 at *
  have hz := hB.size
  cases b
  · go_wp2_with fail
    have va0R := cell_regrown va0
    have va1R := cell_regrown va1
    have vb0R := cell_regrown vb0
    have vb1R := cell_regrown vb1
    have vl0R := cell_regrown vl0
    have vl1R := cell_regrown vl1
    have vs0R := cell_regrown vs0
    have vs1R := cell_regrown vs1
    have vm0R := cell_regrown vm0
    have vm1R := cell_regrown vm1
    have vp0R := cell_regrown vp0
    have vp1R := cell_regrown vp1
    have vq0R := cell_regrown vq0
    have vq1R := cell_regrown vq1
    refine wp_region_quiet_below (by kernel_rfl) (by kernel_rfl) ?_
    repeat (go_big_quiet_step (first | (go_at_call 15; exact Calls.regrown_of (live_any _)) | (go_at_call_of 25 (Value.int .i64 22); exact Calls.regrown_of (binb _ _ _ _ (by first | assumption | exact (bin_w (by assumption) (by assumption) (by decide)).2 | exact (un_w (by assumption) (by decide)).2 | exact (un_one (by assumption) (by decide)).2 | exact (bin_w (by assumption) (un_w (by assumption) (by decide)).2 (by decide)).2) (by first | assumption | exact (bin_w (by assumption) (by assumption) (by decide)).2 | exact (un_w (by assumption) (by decide)).2 | exact (un_one (by assumption) (by decide)).2 | exact (bin_w (by assumption) (un_w (by assumption) (by decide)).2 (by decide)).2) (by decide) _)) | (go_at_call_of 25 (Value.int .i64 24); exact Calls.regrown_of (binb _ _ _ _ (by first | assumption | exact (bin_w (by assumption) (by assumption) (by decide)).2 | exact (un_w (by assumption) (by decide)).2 | exact (un_one (by assumption) (by decide)).2 | exact (bin_w (by assumption) (un_w (by assumption) (by decide)).2 (by decide)).2) (by first | assumption | exact (bin_w (by assumption) (by assumption) (by decide)).2 | exact (un_w (by assumption) (by decide)).2 | exact (un_one (by assumption) (by decide)).2 | exact (bin_w (by assumption) (un_w (by assumption) (by decide)).2 (by decide)).2) (by decide) _)) | (go_at_call_of 25 (Value.int .i64 20); exact Calls.regrown_of (binb _ _ _ _ (by first | assumption | exact (bin_w (by assumption) (by assumption) (by decide)).2 | exact (un_w (by assumption) (by decide)).2 | exact (un_one (by assumption) (by decide)).2 | exact (bin_w (by assumption) (un_w (by assumption) (by decide)).2 (by decide)).2) (by first | assumption | exact (bin_w (by assumption) (by assumption) (by decide)).2 | exact (un_w (by assumption) (by decide)).2 | exact (un_one (by assumption) (by decide)).2 | exact (bin_w (by assumption) (un_w (by assumption) (by decide)).2 (by decide)).2) (by decide) _)) | (go_at_call_of 26 (Value.int .i64 6); exact Calls.regrown_of (unn _ (by first | assumption | exact (bin_one (by assumption) (by assumption) (by decide)).2) _)) | (go_at_call_of 25 (Value.int .i64 25); exact Calls.regrown_of (binl _ _ _ (by first | assumption | exact (bin_w (by assumption) (by assumption) (by decide)).2 | exact (un_w (by assumption) (by decide)).2 | exact (un_one (by assumption) (by decide)).2 | exact (bin_w (by assumption) (un_w (by assumption) (by decide)).2 (by decide)).2) (by first | assumption | exact (bin_w (by assumption) (by assumption) (by decide)).2 | exact (un_w (by assumption) (by decide)).2 | exact (un_one (by assumption) (by decide)).2 | exact (bin_w (by assumption) (un_w (by assumption) (by decide)).2 (by decide)).2) (by decide) _)) | (go_at_call_of 25 (Value.int .i64 26); exact Calls.regrown_of (binl _ _ _ (by first | assumption | exact (bin_w (by assumption) (by assumption) (by decide)).2 | exact (un_w (by assumption) (by decide)).2 | exact (un_one (by assumption) (by decide)).2 | exact (bin_w (by assumption) (un_w (by assumption) (by decide)).2 (by decide)).2) (by first | assumption | exact (bin_w (by assumption) (by assumption) (by decide)).2 | exact (un_w (by assumption) (by decide)).2 | exact (un_one (by assumption) (by decide)).2 | exact (bin_w (by assumption) (un_w (by assumption) (by decide)).2 (by decide)).2) (by decide) _)) | (go_at_call_of 25 (Value.int .i64 11); exact Calls.regrown_of (binw _ _ _ _ (by first | assumption | exact (bin_w (by assumption) (by assumption) (by decide)).2 | exact (un_w (by assumption) (by decide)).2 | exact (un_one (by assumption) (by decide)).2 | exact (bin_w (by assumption) (un_w (by assumption) (by decide)).2 (by decide)).2) (by first | assumption | exact (bin_w (by assumption) (by assumption) (by decide)).2 | exact (un_w (by assumption) (by decide)).2 | exact (un_one (by assumption) (by decide)).2 | exact (bin_w (by assumption) (un_w (by assumption) (by decide)).2 (by decide)).2) (by decide) _)) | (go_at_call_of 25 (Value.int .i64 12); exact Calls.regrown_of (binw _ _ _ _ (by first | assumption | exact (bin_w (by assumption) (by assumption) (by decide)).2 | exact (un_w (by assumption) (by decide)).2 | exact (un_one (by assumption) (by decide)).2 | exact (bin_w (by assumption) (un_w (by assumption) (by decide)).2 (by decide)).2) (by first | assumption | exact (bin_w (by assumption) (by assumption) (by decide)).2 | exact (un_w (by assumption) (by decide)).2 | exact (un_one (by assumption) (by decide)).2 | exact (bin_w (by assumption) (un_w (by assumption) (by decide)).2 (by decide)).2) (by decide) _))))
    refine wpQuiet_nil ?_
    intro _ hw'
    obtain ⟨⟨dq, osq⟩, hw''⟩ := hw'
    subst hw''
    replace hB := hB.trans ((below_regrown w8 dq osq).mono hB.size)
    go_wp2
    go_ret
    exact ⟨rfl, hB⟩
  · go_wp2_with fail
    have va0R := cell_regrown va0
    have va1R := cell_regrown va1
    have vb0R := cell_regrown vb0
    have vb1R := cell_regrown vb1
    have vl0R := cell_regrown vl0
    have vl1R := cell_regrown vl1
    have vs0R := cell_regrown vs0
    have vs1R := cell_regrown vs1
    have vm0R := cell_regrown vm0
    have vm1R := cell_regrown vm1
    have vp0R := cell_regrown vp0
    have vp1R := cell_regrown vp1
    have vq0R := cell_regrown vq0
    have vq1R := cell_regrown vq1
    refine wp_region_quiet_below (by kernel_rfl) (by kernel_rfl) ?_
    repeat (go_big_quiet_step (first | (go_at_call 15; exact Calls.regrown_of (live_any _)) | (go_at_call_of 25 (Value.int .i64 22); exact Calls.regrown_of (binb _ _ _ _ (by first | assumption | exact (bin_w (by assumption) (by assumption) (by decide)).2 | exact (un_w (by assumption) (by decide)).2 | exact (un_one (by assumption) (by decide)).2 | exact (bin_w (by assumption) (un_w (by assumption) (by decide)).2 (by decide)).2) (by first | assumption | exact (bin_w (by assumption) (by assumption) (by decide)).2 | exact (un_w (by assumption) (by decide)).2 | exact (un_one (by assumption) (by decide)).2 | exact (bin_w (by assumption) (un_w (by assumption) (by decide)).2 (by decide)).2) (by decide) _)) | (go_at_call_of 25 (Value.int .i64 24); exact Calls.regrown_of (binb _ _ _ _ (by first | assumption | exact (bin_w (by assumption) (by assumption) (by decide)).2 | exact (un_w (by assumption) (by decide)).2 | exact (un_one (by assumption) (by decide)).2 | exact (bin_w (by assumption) (un_w (by assumption) (by decide)).2 (by decide)).2) (by first | assumption | exact (bin_w (by assumption) (by assumption) (by decide)).2 | exact (un_w (by assumption) (by decide)).2 | exact (un_one (by assumption) (by decide)).2 | exact (bin_w (by assumption) (un_w (by assumption) (by decide)).2 (by decide)).2) (by decide) _)) | (go_at_call_of 25 (Value.int .i64 20); exact Calls.regrown_of (binb _ _ _ _ (by first | assumption | exact (bin_w (by assumption) (by assumption) (by decide)).2 | exact (un_w (by assumption) (by decide)).2 | exact (un_one (by assumption) (by decide)).2 | exact (bin_w (by assumption) (un_w (by assumption) (by decide)).2 (by decide)).2) (by first | assumption | exact (bin_w (by assumption) (by assumption) (by decide)).2 | exact (un_w (by assumption) (by decide)).2 | exact (un_one (by assumption) (by decide)).2 | exact (bin_w (by assumption) (un_w (by assumption) (by decide)).2 (by decide)).2) (by decide) _)) | (go_at_call_of 26 (Value.int .i64 6); exact Calls.regrown_of (unn _ (by first | assumption | exact (bin_one (by assumption) (by assumption) (by decide)).2) _)) | (go_at_call_of 25 (Value.int .i64 25); exact Calls.regrown_of (binl _ _ _ (by first | assumption | exact (bin_w (by assumption) (by assumption) (by decide)).2 | exact (un_w (by assumption) (by decide)).2 | exact (un_one (by assumption) (by decide)).2 | exact (bin_w (by assumption) (un_w (by assumption) (by decide)).2 (by decide)).2) (by first | assumption | exact (bin_w (by assumption) (by assumption) (by decide)).2 | exact (un_w (by assumption) (by decide)).2 | exact (un_one (by assumption) (by decide)).2 | exact (bin_w (by assumption) (un_w (by assumption) (by decide)).2 (by decide)).2) (by decide) _)) | (go_at_call_of 25 (Value.int .i64 26); exact Calls.regrown_of (binl _ _ _ (by first | assumption | exact (bin_w (by assumption) (by assumption) (by decide)).2 | exact (un_w (by assumption) (by decide)).2 | exact (un_one (by assumption) (by decide)).2 | exact (bin_w (by assumption) (un_w (by assumption) (by decide)).2 (by decide)).2) (by first | assumption | exact (bin_w (by assumption) (by assumption) (by decide)).2 | exact (un_w (by assumption) (by decide)).2 | exact (un_one (by assumption) (by decide)).2 | exact (bin_w (by assumption) (un_w (by assumption) (by decide)).2 (by decide)).2) (by decide) _)) | (go_at_call_of 25 (Value.int .i64 11); exact Calls.regrown_of (binw _ _ _ _ (by first | assumption | exact (bin_w (by assumption) (by assumption) (by decide)).2 | exact (un_w (by assumption) (by decide)).2 | exact (un_one (by assumption) (by decide)).2 | exact (bin_w (by assumption) (un_w (by assumption) (by decide)).2 (by decide)).2) (by first | assumption | exact (bin_w (by assumption) (by assumption) (by decide)).2 | exact (un_w (by assumption) (by decide)).2 | exact (un_one (by assumption) (by decide)).2 | exact (bin_w (by assumption) (un_w (by assumption) (by decide)).2 (by decide)).2) (by decide) _)) | (go_at_call_of 25 (Value.int .i64 12); exact Calls.regrown_of (binw _ _ _ _ (by first | assumption | exact (bin_w (by assumption) (by assumption) (by decide)).2 | exact (un_w (by assumption) (by decide)).2 | exact (un_one (by assumption) (by decide)).2 | exact (bin_w (by assumption) (un_w (by assumption) (by decide)).2 (by decide)).2) (by first | assumption | exact (bin_w (by assumption) (by assumption) (by decide)).2 | exact (un_w (by assumption) (by decide)).2 | exact (un_one (by assumption) (by decide)).2 | exact (bin_w (by assumption) (un_w (by assumption) (by decide)).2 (by decide)).2) (by decide) _))))
    refine wpQuiet_nil ?_
    intro _ hw'
    obtain ⟨⟨dq, osq⟩, hw''⟩ := hw'
    subst hw''
    replace hB := hB.trans ((below_regrown w8 dq osq).mono hB.size)
    go_wp2
    go_ret
    exact ⟨rfl, hB⟩

theorem own : ownKnob Try.prog.godebug = none := by kernel_rfl
theorem cellsB : Try.prog.cellsOf 24 = 2 := by kernel_rfl

theorem reads {H : Type} (enc : TypeId × Value → H) (W : World) (base : Nat) (sp : Nat → Bool) (held : Bool) (a b : Int) (wa : (Lit.int .i64 a).wf = true) (wb : (Lit.int .u64 b).wf = true) :
    DataW.Trod enc Try.prog W base sp held 24 (.agg #[.int .i64 a, .int .u64 b]) (.agg [.lit (.int .i64 a), .lit (.int .u64 b)]) [] :=
  shut_agg2 (y0 := (.lit (.int .i64 a), [])) (y1 := (.lit (.int .u64 b), [])) Try.underlying24 (by kernel_rfl) cellsB ⟨1, by simp [DataW.trod, Try.underlying3, wa]⟩ ⟨1, by simp [DataW.trod, Try.underlying22, wb]⟩

/-! ### The row's step -/
set_option maxRecDepth 100000 in
theorem lifted (os : Os) (started : os.Started) (H : Type) (enc : TypeId × Value → H) :
    ReturnsInHanded {} Try.checked os 8 .any (Rows.bitvOrdersSpec.pre6 enc Try.prog Try.f8 Rows.bitvOrdersRow.domain false) (Rows.bitvOrdersSpec.post enc Try.prog Try.f8 false true false false) := by
  refine returnsInHanded_of_change (C := Try.checked) own started (by kernel_rfl) Try.func8
    (ChangeSpec.witness6 (enc := enc) (C := Try.checked) false ⟨#[], #[.int .u8 0, .int .u64 0, .int .u64 0], []⟩ 8 (by kernel_rfl) (by kernel_rfl) (by kernel_rfl) (by kernel_rfl)) ?_
  intro W base args ds gs before hval0 hW hcnd _
  have hval : ∀ (j : Nat) t v, Try.f8.params[j]? = some t → args[j]? = some v → Value.okWide Try.prog W .any base t v := hval0
  have hW' := hW
  obtain ⟨p, q, hA0, hV, rfl, hfz, hnd⟩ := hW
  have hA : DataW.TrodAll enc Try.prog W 0 (fun _ => true) true Try.f8.params.toList args.toList ds p := hA0
  rw [Try.params8] at hA hval
  obtain ⟨v0, vs0, d0, ds0, p0, q0, hargs, rfl, rfl, h0, r0⟩ := trodAll_cons hA
  obtain ⟨v1, vs1, d1, ds1, p1, q1, rfl, rfl, rfl, h1, r1⟩ := trodAll_cons r0
  obtain ⟨v2, vs2, d2, ds2, p2, q2, rfl, rfl, rfl, h2, r2⟩ := trodAll_cons r1
  obtain ⟨rfl, rfl, rfl⟩ := trodAll_nil r2
  obtain rfl : args = #[v0, v1, v2] := by cases args; simp_all
  obtain ⟨rfl, rfl⟩ := trodVars_none hV
  obtain ⟨a0, rfl, rfl, rfl, w0⟩ := open_int Try.underlying5 (hval 0 5 v0 rfl rfl) h0
  obtain ⟨a1, rfl, rfl, rfl, w1⟩ := open_int Try.underlying22 (hval 1 22 v1 rfl rfl) h1
  obtain ⟨a2, rfl, rfl, rfl, w2⟩ := open_int Try.underlying22 (hval 2 22 v2 rfl rfl) h2
  clear hA0 hval0
  simp only [List.append_nil] at hW'
  refine (walk a0 w0 a1 w1 a2 w2 W).mono fun e W' ⟨he, bel⟩ => ?_
  subst he
  exact ⟨_, rfl, _, _, _, [], _, [], hW', trodAll_mk1 (shut_bool Try.underlying4 _), (trodAll_cons_mk (shut_int Try.underlying5 w0) (trodAll_cons_mk (shut_int Try.underlying22 w1) (trodAll_cons_mk (shut_int Try.underlying22 w2) trodAll_mk0))), rfl, bel.frame _, fun h => by cases h⟩

theorem over : Rows.bitvOrdersRow.holds Try.pinned (OpenSpec.ofChange Rows.bitvOrdersSpec) :=
  OpenClaim.holds_of_wide 8 Try.f8 rfl rfl rfl rfl rfl rfl rfl ⟨rfl, rfl, rfl, rfl, rfl⟩ rfl rfl rfl rfl rfl (by kernel_rfl) Try.func8 (by kernel_rfl)
    (of_decide_eq_true (by kernel_rfl)) (by unfold Func.isWrapper; first | (rw [if_pos (by decide +kernel)]; kernel_rfl) | (rw [if_neg (by decide +kernel)]; exact ⟨rfl, rfl⟩))
    (fun os started H enc _ => lifted os started H enc)

/-- The given statement. -/
theorem proved : Rows.BitvOrdersSaid := over
#print axioms proved
end Go.Proofs.Ytonjgblnocljcaa.bitvOrders
