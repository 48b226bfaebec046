/-
  What is made wider is cut to what it was; with its sign it keeps sums and products; the rest of the statement likewise. For every input.
-/
import Derived.Test.YtemolkkpigkanaaRows
import Derived.Test.YtemolkkpigkanaaZ
import Derived.Test.YtemolkkpigkanaaI
import Derived.BigQuiet
import Derived.ProofKit
import Derived.OpenShut
import Derived.Lib.SmallJoins
namespace Go.Proofs.Ytemolkkpigkanaa.bitvWidths
open Go Go.ChangeShapes Go.WideShapes Go.ChangeAt Go.RowKit Go.Joins Go.Sort
set_option linter.unusedVariables false

set_option maxRecDepth 100000 in
set_option maxHeartbeats 4000000 in
theorem walk (a0 : Int) (w0 : (Lit.int .u8 a0).wf = true) (a1 : Int) (w1 : (Lit.int .u8 a1).wf = true) (a2 : Int) (w2 : (Lit.int .u64 a2).wf = true) (a3 : Int) (w3 : (Lit.int .u64 a3).wf = true) (w : World) :
    Calls Try.prog 11 #[.int .u8 a0, .int .u8 a1, .int .u64 a2, .int .u64 a3] w fun e w' => e = .returned (.bool true) ∧ Below w.heap.size w w' := by
  obtain ⟨r0, r1⟩ := bounds_u8 w0
  obtain ⟨W, hW⟩ : ∃ W : Int, W = 1 + a0 % 64 := ⟨_, rfl⟩
  have W1 : 1 ≤ W := by omega
  have W2 : W ≤ 64 := by omega
  have HW := Lib.hid hW
  clear hW
  obtain ⟨xa, rfl⟩ := u_of a2 w2
  obtain ⟨A, hA⟩ : ∃ A : BitVec 64, A = xa &&& msk W := ⟨_, rfl⟩
  have okA : ok W A = true := by rw [hA]; exact ok_masked W1 W2 _
  have HA := Lib.hid hA
  clear hA
  obtain ⟨xb, rfl⟩ := u_of a3 w3
  obtain ⟨B, hB⟩ : ∃ A : BitVec 64, A = xb &&& msk W := ⟨_, rfl⟩
  have okB : ok W B = true := by rw [hB]; exact ok_masked W1 W2 _
  have HB := Lib.hid hB
  clear hB
  obtain ⟨s0, s1⟩ := bounds_u8 w1
  have m0 := Int.emod_nonneg a1 (show 65 - W ≠ 0 by omega)
  have m1 := Int.emod_lt_of_pos a1 (show 0 < 65 - W by omega)
  have k1 : wrap64 (65 - W) = 65 - W := IntWalk.wrap64_in _ ⟨by omega, by omega⟩
  have k2 : wrap64 a1 = a1 := IntWalk.wrap64_in _ ⟨by omega, by omega⟩
  have k3 : Int.tmod a1 (65 - W) = a1 % (65 - W) := Int.tmod_eq_emod_of_nonneg s0
  have k4 : wrap64 (a1 % (65 - W)) = a1 % (65 - W) := IntWalk.wrap64_in _ ⟨by omega, by omega⟩
  have k6 : (65 - W == 0) = false := by rw [beq_eq_false_iff_ne]; omega
  have k7 : 65 - W ≠ 0 := by omega
  obtain ⟨N, hN⟩ : ∃ N : Int, N = W + a1 % (65 - W) := ⟨_, rfl⟩
  have n1 : W ≤ N := by omega
  have n2 : N ≤ 64 := by omega
  have k5 : wrap64 (W + a1 % (65 - W)) = N := by rw [hN]; exact IntWalk.wrap64_in _ ⟨by omega, by omega⟩
  have k8 : wrap64 (W - 1) = W - 1 := IntWalk.wrap64_in _ ⟨by omega, by omega⟩
  have k9 : wrap64 (N - 1) = N - 1 := IntWalk.wrap64_in _ ⟨by omega, by omega⟩
  clear hN m0 m1
  have okAN := ok_up okA n1 n2
  have wfW := ok_wf okA
  have wfN := ok_wf okAN
  obtain ⟨Q, hQ⟩ : ∃ Q, sx W N A = Q := ⟨_, rfl⟩
  obtain ⟨R, hR⟩ : ∃ R, sx W N B = R := ⟨_, rfl⟩
  have okQ : ok N Q = true := hQ ▸ ok_sx (by omega) n2
  have okR : ok N R = true := hR ▸ ok_sx (by omega) n2
  have E1 := Lib.hid (e_zext okA n1 n2)
  have E2 : Hid (sExt 32 N W A = (N, Q, 0)) := Lib.hid (by rw [e_sext okA n1 n2, hQ])
  have E3 : Hid (sExt 32 N W B = (N, R, 0)) := Lib.hid (by rw [e_sext okB n1 n2, hR])
  have E4 : Hid (sExt 33 W N A = (W, A, 0)) := Lib.hid (by rw [e_cut W1 n1 okAN, ok_self okA])
  have E5 : Hid (sExt 33 W N Q = (W, A, 0)) := Lib.hid (by rw [e_cut W1 n1 okQ, ← hQ, sx_cut okA n1 n2])
  have E6 : Hid (sExt 33 W N (rb 14 N Q R) = (W, rb 14 W A B, 0)) := Lib.hid (by rw [e_cut W1 n1 (bin_w okQ okR (by decide)).2, ← hQ, ← hR, law_wideSum okA okB n1 n2])
  have E7 : Hid (sExt 33 W N (rb 16 N Q R) = (W, rb 16 W A B, 0)) := Lib.hid (by rw [e_cut W1 n1 (bin_w okQ okR (by decide)).2, ← hQ, ← hR, law_wideProduct okA okB n1 n2])
  have E8 := Lib.hid (e_high okA)
  have E9 : Hid (sSlice N Q (N - 1) (N - 1) = (1, hiBit W A, 0)) := Lib.hid (by rw [e_high okQ, ← hQ, law_top okA n1 n2])
  clear hQ hR
  go_enter Try.func11, Try.ntmps11
  have hB : Below w.heap.size w w := Below.refl _ _
  have hz := hB.size
  go_wp2_with fail
  refine (masked_is a0 ⟨r0, r1⟩ xa _ rfl W A HW.out HA.out _).mono ?_
  rintro e1 w1 ⟨rfl, hb⟩
  replace hB : Below w.heap.size w w1 := by repeat (first | exact Below.refl _ _ | exact hB | (refine Below.setCell ?_ (by first | omega | (simp; omega) | (simp; done)) _) | (refine Below.alloc ?_ (by first | omega | (simp; omega) | (simp; done)) _) | (refine below_drewN ?_ _) | (refine Below.drew ?_) | (refine below_via hb ?_ (by first | omega | (simp; omega) | (simp; done))))
  replace hz := hB.size
  clear hb
  go_wp2_with fail
  refine (masked_is a0 ⟨r0, r1⟩ xb _ rfl W B HW.out HB.out _).mono ?_
  rintro e2 w2 ⟨rfl, hb⟩
  have va0 : w2.cell? ⟨w1.heap.size, 0, none⟩ = some (.int .i64 W) := keep_cell hb (by first | (simp; done) | (simp [World.cell?_alloc_new]; done))
  have va1 : w2.cell? ⟨w1.heap.size, 1, none⟩ = some (.int .u64 (u A)) := keep_cell hb (by first | (simp; done) | (simp [World.cell?_alloc_new]; done))
  replace hB : Below w.heap.size w w2 := by repeat (first | exact Below.refl _ _ | exact hB | (refine Below.setCell ?_ (by first | omega | (simp; omega) | (simp; done)) _) | (refine Below.alloc ?_ (by first | omega | (simp; omega) | (simp; done)) _) | (refine below_drewN ?_ _) | (refine Below.drew ?_) | (refine below_via hb ?_ (by first | omega | (simp; omega) | (simp; done))))
  replace hz := hB.size
  clear hb
  go_wp2_with fail
  replace va0 := alloc_cell va0 (.cells #[.int .i64 W, .int .u64 (u B)] 24)
  replace va1 := alloc_cell va1 (.cells #[.int .i64 W, .int .u64 (u B)] 24)
  have vb0 : (w2.alloc (.cells #[.int .i64 W, .int .u64 (u B)] 24)).cell? ⟨w2.heap.size, 0, none⟩ = some (.int .i64 W) := by first | (simp; done) | (simp [World.cell?_alloc_new]; done)
  have vb1 : (w2.alloc (.cells #[.int .i64 W, .int .u64 (u B)] 24)).cell? ⟨w2.heap.size, 1, none⟩ = some (.int .u64 (u B)) := by first | (simp; done) | (simp [World.cell?_alloc_new]; done)
  replace hB : Below w.heap.size w (w2.alloc (.cells #[.int .i64 W, .int .u64 (u B)] 24)) := hB.alloc (by first | omega | (simp; omega) | (simp; done)) _
  clear hz
  generalize w2.alloc (.cells #[.int .i64 W, .int .u64 (u B)] 24) = w3 at *
  have hz := hB.size
  go_wp2_with fail
  have va0R := cell_regrown va0
  have va1R := cell_regrown va1
  have vb0R := cell_regrown vb0
  have vb1R := cell_regrown vb1
  refine wp_region_quiet_below (by kernel_rfl) (by kernel_rfl) ?_
  repeat (go_big_quiet_step (first | (go_at_call 15; exact Calls.regrown_of (live_any _))))
  refine wpQuiet_nil ?_
  intro _ hw'
  obtain ⟨⟨dq, osq⟩, hw''⟩ := hw'
  subst hw''
  replace hB := hB.trans ((below_regrown w3 dq osq).mono hB.size)
  replace va0 := va0R dq osq
  replace va1 := va1R dq osq
  replace vb0 := vb0R dq osq
  replace vb1 := vb1R dq osq
  clear va0R va1R vb0R vb1R hz
  generalize grow (redrawn w3 dq) osq = w4 at *
  have hz := hB.size
  go_wp2_with fail
  refine (tolds N A 0 E1.out (ext_any 31 N wfN W wfW A _)).mono ?_
  rintro e5 w5 ⟨rfl, hb⟩
  replace va0 : w5.cell? ⟨w1.heap.size, 0, none⟩ = some (.int .i64 W) := by first | exact keep_cell hb va0 | exact keep_cell hb (alloc_cell va0 _) | exact keep_cell hb (alloc_cell (alloc_cell va0 _) _) | exact keep_cell hb (by go_simp)
  replace va1 : w5.cell? ⟨w1.heap.size, 1, none⟩ = some (.int .u64 (u A)) := by first | exact keep_cell hb va1 | exact keep_cell hb (alloc_cell va1 _) | exact keep_cell hb (alloc_cell (alloc_cell va1 _) _) | exact keep_cell hb (by go_simp)
  replace vb0 : w5.cell? ⟨w2.heap.size, 0, none⟩ = some (.int .i64 W) := by first | exact keep_cell hb vb0 | exact keep_cell hb (alloc_cell vb0 _) | exact keep_cell hb (alloc_cell (alloc_cell vb0 _) _) | exact keep_cell hb (by go_simp)
  replace vb1 : w5.cell? ⟨w2.heap.size, 1, none⟩ = some (.int .u64 (u B)) := by first | exact keep_cell hb vb1 | exact keep_cell hb (alloc_cell vb1 _) | exact keep_cell hb (alloc_cell (alloc_cell vb1 _) _) | exact keep_cell hb (by go_simp)
  replace hB : Below w.heap.size w w5 := by repeat (first | exact Below.refl _ _ | exact hB | (refine Below.setCell ?_ (by first | omega | (simp; omega) | (simp; done)) _) | (refine Below.alloc ?_ (by first | omega | (simp; omega) | (simp; done)) _) | (refine below_drewN ?_ _) | (refine Below.drew ?_) | (refine below_via hb ?_ (by first | omega | (simp; omega) | (simp; done))))
  replace hz := hB.size
  clear hb
  have va0A := alloc_cell va0
  have va1A := alloc_cell va1
  have vb0A := alloc_cell vb0
  have vb1A := alloc_cell vb1
  go_wp2_with fail
  refine (tolds N Q 0 E2.out (ext_any 32 N wfN W wfW A _)).mono ?_
  rintro e6 w6 ⟨rfl, hb⟩
  clear va0A va1A vb0A vb1A
  replace va0 : w6.cell? ⟨w1.heap.size, 0, none⟩ = some (.int .i64 W) := by first | exact keep_cell hb va0 | exact keep_cell hb (alloc_cell va0 _) | exact keep_cell hb (alloc_cell (alloc_cell va0 _) _) | exact keep_cell hb (by go_simp)
  replace va1 : w6.cell? ⟨w1.heap.size, 1, none⟩ = some (.int .u64 (u A)) := by first | exact keep_cell hb va1 | exact keep_cell hb (alloc_cell va1 _) | exact keep_cell hb (alloc_cell (alloc_cell va1 _) _) | exact keep_cell hb (by go_simp)
  replace vb0 : w6.cell? ⟨w2.heap.size, 0, none⟩ = some (.int .i64 W) := by first | exact keep_cell hb vb0 | exact keep_cell hb (alloc_cell vb0 _) | exact keep_cell hb (alloc_cell (alloc_cell vb0 _) _) | exact keep_cell hb (by go_simp)
  replace vb1 : w6.cell? ⟨w2.heap.size, 1, none⟩ = some (.int .u64 (u B)) := by first | exact keep_cell hb vb1 | exact keep_cell hb (alloc_cell vb1 _) | exact keep_cell hb (alloc_cell (alloc_cell vb1 _) _) | exact keep_cell hb (by go_simp)
  have vp0 : w6.cell? ⟨w5.heap.size, 0, none⟩ = some (.int .i64 N) := keep_cell hb (by first | (simp; done) | (simp [World.cell?_alloc_new]; done))
  have vp1 : w6.cell? ⟨w5.heap.size, 1, none⟩ = some (.int .u64 (u A)) := keep_cell hb (by first | (simp; done) | (simp [World.cell?_alloc_new]; done))
  replace hB : Below w.heap.size w w6 := by repeat (first | exact Below.refl _ _ | exact hB | (refine Below.setCell ?_ (by first | omega | (simp; omega) | (simp; done)) _) | (refine Below.alloc ?_ (by first | omega | (simp; omega) | (simp; done)) _) | (refine below_drewN ?_ _) | (refine Below.drew ?_) | (refine below_via hb ?_ (by first | omega | (simp; omega) | (simp; done))))
  replace hz := hB.size
  clear hb
  have va0A := alloc_cell va0
  have va1A := alloc_cell va1
  have vb0A := alloc_cell vb0
  have vb1A := alloc_cell vb1
  have vp0A := alloc_cell vp0
  have vp1A := alloc_cell vp1
  go_wp2_with fail
  refine (tolds N R 0 E3.out (ext_any 32 N wfN W wfW B _)).mono ?_
  rintro e7 w7 ⟨rfl, hb⟩
  clear va0A va1A vb0A vb1A vp0A vp1A
  replace va0 : w7.cell? ⟨w1.heap.size, 0, none⟩ = some (.int .i64 W) := by first | exact keep_cell hb va0 | exact keep_cell hb (alloc_cell va0 _) | exact keep_cell hb (alloc_cell (alloc_cell va0 _) _) | exact keep_cell hb (by go_simp)
  replace va1 : w7.cell? ⟨w1.heap.size, 1, none⟩ = some (.int .u64 (u A)) := by first | exact keep_cell hb va1 | exact keep_cell hb (alloc_cell va1 _) | exact keep_cell hb (alloc_cell (alloc_cell va1 _) _) | exact keep_cell hb (by go_simp)
  replace vb0 : w7.cell? ⟨w2.heap.size, 0, none⟩ = some (.int .i64 W) := by first | exact keep_cell hb vb0 | exact keep_cell hb (alloc_cell vb0 _) | exact keep_cell hb (alloc_cell (alloc_cell vb0 _) _) | exact keep_cell hb (by go_simp)
  replace vb1 : w7.cell? ⟨w2.heap.size, 1, none⟩ = some (.int .u64 (u B)) := by first | exact keep_cell hb vb1 | exact keep_cell hb (alloc_cell vb1 _) | exact keep_cell hb (alloc_cell (alloc_cell vb1 _) _) | exact keep_cell hb (by go_simp)
  replace vp0 : w7.cell? ⟨w5.heap.size, 0, none⟩ = some (.int .i64 N) := by first | exact keep_cell hb vp0 | exact keep_cell hb (alloc_cell vp0 _) | exact keep_cell hb (alloc_cell (alloc_cell vp0 _) _) | exact keep_cell hb (by go_simp)
  replace vp1 : w7.cell? ⟨w5.heap.size, 1, none⟩ = some (.int .u64 (u A)) := by first | exact keep_cell hb vp1 | exact keep_cell hb (alloc_cell vp1 _) | exact keep_cell hb (alloc_cell (alloc_cell vp1 _) _) | exact keep_cell hb (by go_simp)
  have vq0 : w7.cell? ⟨w6.heap.size, 0, none⟩ = some (.int .i64 N) := keep_cell hb (by first | (simp; done) | (simp [World.cell?_alloc_new]; done))
  have vq1 : w7.cell? ⟨w6.heap.size, 1, none⟩ = some (.int .u64 (u Q)) := keep_cell hb (by first | (simp; done) | (simp [World.cell?_alloc_new]; done))
  replace hB : Below w.heap.size w w7 := by repeat (first | exact Below.refl _ _ | exact hB | (refine Below.setCell ?_ (by first | omega | (simp; omega) | (simp; done)) _) | (refine Below.alloc ?_ (by first | omega | (simp; omega) | (simp; done)) _) | (refine below_drewN ?_ _) | (refine Below.drew ?_) | (refine below_via hb ?_ (by first | omega | (simp; omega) | (simp; done))))
  replace hz := hB.size
  clear hb
  have va0A := alloc_cell va0
  have va1A := alloc_cell va1
  have vb0A := alloc_cell vb0
  have vb1A := alloc_cell vb1
  have vp0A := alloc_cell vp0
  have vp1A := alloc_cell vp1
  have vq0A := alloc_cell vq0
  have vq1A := alloc_cell vq1
  go_wp2_with fail
  refine (tolds W A 0 E4.out (ext_any 33 W wfW N wfN A _)).mono ?_
  rintro e8 w8 ⟨rfl, hb⟩
  clear va0A va1A vb0A vb1A vp0A vp1A vq0A vq1A
  replace va0 : w8.cell? ⟨w1.heap.size, 0, none⟩ = some (.int .i64 W) := by first | exact keep_cell hb va0 | exact keep_cell hb (alloc_cell va0 _) | exact keep_cell hb (alloc_cell (alloc_cell va0 _) _) | exact keep_cell hb (by go_simp)
  replace va1 : w8.cell? ⟨w1.heap.size, 1, none⟩ = some (.int .u64 (u A)) := by first | exact keep_cell hb va1 | exact keep_cell hb (alloc_cell va1 _) | exact keep_cell hb (alloc_cell (alloc_cell va1 _) _) | exact keep_cell hb (by go_simp)
  replace vb0 : w8.cell? ⟨w2.heap.size, 0, none⟩ = some (.int .i64 W) := by first | exact keep_cell hb vb0 | exact keep_cell hb (alloc_cell vb0 _) | exact keep_cell hb (alloc_cell (alloc_cell vb0 _) _) | exact keep_cell hb (by go_simp)
  replace vb1 : w8.cell? ⟨w2.heap.size, 1, none⟩ = some (.int .u64 (u B)) := by first | exact keep_cell hb vb1 | exact keep_cell hb (alloc_cell vb1 _) | exact keep_cell hb (alloc_cell (alloc_cell vb1 _) _) | exact keep_cell hb (by go_simp)
  replace vp0 : w8.cell? ⟨w5.heap.size, 0, none⟩ = some (.int .i64 N) := by first | exact keep_cell hb vp0 | exact keep_cell hb (alloc_cell vp0 _) | exact keep_cell hb (alloc_cell (alloc_cell vp0 _) _) | exact keep_cell hb (by go_simp)
  replace vp1 : w8.cell? ⟨w5.heap.size, 1, none⟩ = some (.int .u64 (u A)) := by first | exact keep_cell hb vp1 | exact keep_cell hb (alloc_cell vp1 _) | exact keep_cell hb (alloc_cell (alloc_cell vp1 _) _) | exact keep_cell hb (by go_simp)
  replace vq0 : w8.cell? ⟨w6.heap.size, 0, none⟩ = some (.int .i64 N) := by first | exact keep_cell hb vq0 | exact keep_cell hb (alloc_cell vq0 _) | exact keep_cell hb (alloc_cell (alloc_cell vq0 _) _) | exact keep_cell hb (by go_simp)
  replace vq1 : w8.cell? ⟨w6.heap.size, 1, none⟩ = some (.int .u64 (u Q)) := by first | exact keep_cell hb vq1 | exact keep_cell hb (alloc_cell vq1 _) | exact keep_cell hb (alloc_cell (alloc_cell vq1 _) _) | exact keep_cell hb (by go_simp)
  have vr0 : w8.cell? ⟨w7.heap.size, 0, none⟩ = some (.int .i64 N) := keep_cell hb (by first | (simp; done) | (simp [World.cell?_alloc_new]; done))
  have vr1 : w8.cell? ⟨w7.heap.size, 1, none⟩ = some (.int .u64 (u R)) := keep_cell hb (by first | (simp; done) | (simp [World.cell?_alloc_new]; done))
  replace hB : Below w.heap.size w w8 := by repeat (first | exact Below.refl _ _ | exact hB | (refine Below.setCell ?_ (by first | omega | (simp; omega) | (simp; done)) _) | (refine Below.alloc ?_ (by first | omega | (simp; omega) | (simp; done)) _) | (refine below_drewN ?_ _) | (refine Below.drew ?_) | (refine below_via hb ?_ (by first | omega | (simp; omega) | (simp; done))))
  replace hz := hB.size
  clear hb
  have va0A := alloc_cell va0
  have va1A := alloc_cell va1
  have vb0A := alloc_cell vb0
  have vb1A := alloc_cell vb1
  have vp0A := alloc_cell vp0
  have vp1A := alloc_cell vp1
  have vq0A := alloc_cell vq0
  have vq1A := alloc_cell vq1
  have vr0A := alloc_cell vr0
  have vr1A := alloc_cell vr1
  go_wp2_with fail
  refine (tolds W A 0 E5.out (ext_any 33 W wfW N wfN Q _)).mono ?_
  rintro e9 w9 ⟨rfl, hb⟩
  clear va0A va1A vb0A vb1A vp0A vp1A vq0A vq1A vr0A vr1A
  replace va0 : w9.cell? ⟨w1.heap.size, 0, none⟩ = some (.int .i64 W) := by first | exact keep_cell hb va0 | exact keep_cell hb (alloc_cell va0 _) | exact keep_cell hb (alloc_cell (alloc_cell va0 _) _) | exact keep_cell hb (by go_simp)
  replace va1 : w9.cell? ⟨w1.heap.size, 1, none⟩ = some (.int .u64 (u A)) := by first | exact keep_cell hb va1 | exact keep_cell hb (alloc_cell va1 _) | exact keep_cell hb (alloc_cell (alloc_cell va1 _) _) | exact keep_cell hb (by go_simp)
  replace vb0 : w9.cell? ⟨w2.heap.size, 0, none⟩ = some (.int .i64 W) := by first | exact keep_cell hb vb0 | exact keep_cell hb (alloc_cell vb0 _) | exact keep_cell hb (alloc_cell (alloc_cell vb0 _) _) | exact keep_cell hb (by go_simp)
  replace vb1 : w9.cell? ⟨w2.heap.size, 1, none⟩ = some (.int .u64 (u B)) := by first | exact keep_cell hb vb1 | exact keep_cell hb (alloc_cell vb1 _) | exact keep_cell hb (alloc_cell (alloc_cell vb1 _) _) | exact keep_cell hb (by go_simp)
  replace vp0 : w9.cell? ⟨w5.heap.size, 0, none⟩ = some (.int .i64 N) := by first | exact keep_cell hb vp0 | exact keep_cell hb (alloc_cell vp0 _) | exact keep_cell hb (alloc_cell (alloc_cell vp0 _) _) | exact keep_cell hb (by go_simp)
  replace vp1 : w9.cell? ⟨w5.heap.size, 1, none⟩ = some (.int .u64 (u A)) := by first | exact keep_cell hb vp1 | exact keep_cell hb (alloc_cell vp1 _) | exact keep_cell hb (alloc_cell (alloc_cell vp1 _) _) | exact keep_cell hb (by go_simp)
  replace vq0 : w9.cell? ⟨w6.heap.size, 0, none⟩ = some (.int .i64 N) := by first | exact keep_cell hb vq0 | exact keep_cell hb (alloc_cell vq0 _) | exact keep_cell hb (alloc_cell (alloc_cell vq0 _) _) | exact keep_cell hb (by go_simp)
  replace vq1 : w9.cell? ⟨w6.heap.size, 1, none⟩ = some (.int .u64 (u Q)) := by first | exact keep_cell hb vq1 | exact keep_cell hb (alloc_cell vq1 _) | exact keep_cell hb (alloc_cell (alloc_cell vq1 _) _) | exact keep_cell hb (by go_simp)
  replace vr0 : w9.cell? ⟨w7.heap.size, 0, none⟩ = some (.int .i64 N) := by first | exact keep_cell hb vr0 | exact keep_cell hb (alloc_cell vr0 _) | exact keep_cell hb (alloc_cell (alloc_cell vr0 _) _) | exact keep_cell hb (by go_simp)
  replace vr1 : w9.cell? ⟨w7.heap.size, 1, none⟩ = some (.int .u64 (u R)) := by first | exact keep_cell hb vr1 | exact keep_cell hb (alloc_cell vr1 _) | exact keep_cell hb (alloc_cell (alloc_cell vr1 _) _) | exact keep_cell hb (by go_simp)
  have vc0 : w9.cell? ⟨w8.heap.size, 0, none⟩ = some (.int .i64 W) := keep_cell hb (by first | (simp; done) | (simp [World.cell?_alloc_new]; done))
  have vc1 : w9.cell? ⟨w8.heap.size, 1, none⟩ = some (.int .u64 (u A)) := keep_cell hb (by first | (simp; done) | (simp [World.cell?_alloc_new]; done))
  replace hB : Below w.heap.size w w9 := by repeat (first | exact Below.refl _ _ | exact hB | (refine Below.setCell ?_ (by first | omega | (simp; omega) | (simp; done)) _) | (refine Below.alloc ?_ (by first | omega | (simp; omega) | (simp; done)) _) | (refine below_drewN ?_ _) | (refine Below.drew ?_) | (refine below_via hb ?_ (by first | omega | (simp; omega) | (simp; done))))
  replace hz := hB.size
  clear hb
  go_wp2_with fail
  replace va0 := alloc_cell va0 (.cells #[.int .i64 W, .int .u64 (u A)] 24)
  replace va1 := alloc_cell va1 (.cells #[.int .i64 W, .int .u64 (u A)] 24)
  replace vb0 := alloc_cell vb0 (.cells #[.int .i64 W, .int .u64 (u A)] 24)
  replace vb1 := alloc_cell vb1 (.cells #[.int .i64 W, .int .u64 (u A)] 24)
  replace vp0 := alloc_cell vp0 (.cells #[.int .i64 W, .int .u64 (u A)] 24)
  replace vp1 := alloc_cell vp1 (.cells #[.int .i64 W, .int .u64 (u A)] 24)
  replace vq0 := alloc_cell vq0 (.cells #[.int .i64 W, .int .u64 (u A)] 24)
  replace vq1 := alloc_cell vq1 (.cells #[.int .i64 W, .int .u64 (u A)] 24)
  replace vr0 := alloc_cell vr0 (.cells #[.int .i64 W, .int .u64 (u A)] 24)
  replace vr1 := alloc_cell vr1 (.cells #[.int .i64 W, .int .u64 (u A)] 24)
  replace vc0 := alloc_cell vc0 (.cells #[.int .i64 W, .int .u64 (u A)] 24)
  replace vc1 := alloc_cell vc1 (.cells #[.int .i64 W, .int .u64 (u A)] 24)
  have vd0 : (w9.alloc (.cells #[.int .i64 W, .int .u64 (u A)] 24)).cell? ⟨w9.heap.size, 0, none⟩ = some (.int .i64 W) := by first | (simp; done) | (simp [World.cell?_alloc_new]; done)
  have vd1 : (w9.alloc (.cells #[.int .i64 W, .int .u64 (u A)] 24)).cell? ⟨w9.heap.size, 1, none⟩ = some (.int .u64 (u A)) := by first | (simp; done) | (simp [World.cell?_alloc_new]; done)
  replace hB : Below w.heap.size w (w9.alloc (.cells #[.int .i64 W, .int .u64 (u A)] 24)) := hB.alloc (by first | omega | (simp; omega) | (simp; done)) _
  clear hz
  generalize w9.alloc (.cells #[.int .i64 W, .int .u64 (u A)] 24) = w10 at *
  have hz := hB.size
  go_wp2_with fail
  try simp only [List.append_eq, List.cons_append, List.nil_append]
  have va0R := cell_regrown va0
  have vq0R := cell_regrown vq0
  have vq1R := cell_regrown vq1
  have vr0R := cell_regrown vr0
  have vr1R := cell_regrown vr1
  refine wp_region_var 9 10 22 _ _ (.cells #[.int .i64 0, .int .u64 0] 24) (.cells #[.int .i64 W, .int .u64 (u (rb 14 W A B))] 24) (by kernel_rfl) (by kernel_rfl) rfl rfl rfl rfl rfl (by decide) (by kernel_rfl) (by kernel_rfl) (fun a w => by simp [go_sem, ptrTo]) ?_
  refine wpG_quiet (by decide) (by decide) (by rfl) rfl (by simp) ?_; apply Exists.intro; refine ⟨?_, ?_⟩
  · intro S hS K hK; go_big_quiet_op; (first | exact hK | exact ⟨_, fun _ => rfl, hK⟩)
  refine wpG_quiet (by decide) (by decide) (by rfl) rfl (by simp) ?_; apply Exists.intro; refine ⟨?_, ?_⟩
  · intro S hS K hK; go_big_quiet_op; (first | exact hK | exact ⟨_, fun _ => rfl, hK⟩)
  refine wpG_quiet (by decide) (by decide) (by rfl) rfl (by simp) ?_; apply Exists.intro; refine ⟨?_, ?_⟩
  · intro S hS K hK; go_big_quiet_op; (first | exact hK | exact ⟨_, fun _ => rfl, hK⟩)
  refine wpG_quiet (by decide) (by decide) (by rfl) rfl (by simp) ?_; apply Exists.intro; refine ⟨?_, ?_⟩
  · intro S hS K hK; go_big_quiet_op; (first | exact hK | exact ⟨_, fun _ => rfl, hK⟩)
  refine wpG_quiet (by decide) (by decide) (by rfl) rfl (by simp) ?_; apply Exists.intro; refine ⟨?_, ?_⟩
  · intro S hS K hK; go_big_quiet_op; (apply Exists.intro; refine ⟨fun p => ?_, ?_⟩; (focus (first | (go_at_call 25; exact calls_regS hS p (binw 14 N Q R okQ okR (by decide) _)) | (go_at_call 29; exact calls_regS hS p (tolds W (rb 14 W A B) 0 E6.out (ext_any 33 W wfW N wfN (rb 14 N Q R) _))))); exact hK)
  refine wpG_quiet (by decide) (by decide) (by rfl) rfl (by simp) ?_; apply Exists.intro; refine ⟨?_, ?_⟩
  · intro S hS K hK; go_big_quiet_op; (apply Exists.intro; refine ⟨fun p => ?_, ?_⟩; (focus (first | (go_at_call 25; exact calls_regS hS p (binw 14 N Q R okQ okR (by decide) _)) | (go_at_call 29; exact calls_regS hS p (tolds W (rb 14 W A B) 0 E6.out (ext_any 33 W wfW N wfN (rb 14 N Q R) _))))); exact hK)
  refine wpG_quiet (by decide) (by decide) (by rfl) rfl (by simp) ?_; apply Exists.intro; refine ⟨?_, ?_⟩
  · intro S hS K hK; go_big_quiet_op; (first | exact hK | exact ⟨_, fun _ => rfl, hK⟩)
  refine wpG_quiet (by decide) (by decide) (by rfl) rfl (by simp) ?_; apply Exists.intro; refine ⟨?_, ?_⟩
  · intro S hS K hK; go_big_quiet_op; (first | exact hK | exact ⟨_, fun _ => rfl, hK⟩)
  refine wpG_quiet (by decide) (by decide) (by rfl) rfl (by simp) ?_; apply Exists.intro; refine ⟨?_, ?_⟩
  · intro S hS K hK; go_big_quiet_op; (first | exact hK | exact ⟨_, fun _ => rfl, hK⟩)
  refine wpG_var rfl ?_
  simp only [Act.put, List.setIfInBounds_toArray, List.set_cons_zero, List.set_cons_succ]
  refine wpG_store rfl rfl ⟨rfl, fun gs ws hbs hgs hos => ?_⟩ ?_
  · have cs0 := cell_of_row ws gs 0 _ _ _ hos; have cs1 := cell_of_row ws gs 1 _ _ _ hos; have fs0 := frozen_row hos 0; have fs1 := frozen_row hos 1; exact ⟨_, by simp [go_sem, ptrTo, cs0, cs1, fs0, fs1]; rfl, (hbs.setCell (by simpa using hgs) _).setCell (by simpa using hgs) _, by simp [World.setCell, Array.getElem?_modify, hos]⟩
  refine wpG_quiet (by decide) (by decide) (by rfl) rfl (by simp) ?_; apply Exists.intro; refine ⟨?_, ?_⟩
  · intro S hS K hK; go_big_quiet_op; (first | exact hK | exact ⟨_, fun _ => rfl, hK⟩)
  refine wpG_nil ?_
  intro g11 w11 hb hg hos
  simp only [ptrTo, List.setIfInBounds_toArray, List.set_cons_zero, List.set_cons_succ]
  clear va0R vq0R vq1R vr0R vr1R
  replace va0 := keep_cell hb va0
  replace va1 := keep_cell hb va1
  replace vb0 := keep_cell hb vb0
  replace vb1 := keep_cell hb vb1
  replace vp0 := keep_cell hb vp0
  replace vp1 := keep_cell hb vp1
  replace vq0 := keep_cell hb vq0
  replace vq1 := keep_cell hb vq1
  replace vr0 := keep_cell hb vr0
  replace vr1 := keep_cell hb vr1
  replace vc0 := keep_cell hb vc0
  replace vc1 := keep_cell hb vc1
  replace vd0 := keep_cell hb vd0
  replace vd1 := keep_cell hb vd1
  have vs0 : w11.cell? ⟨g11, 0, none⟩ = some (.int .i64 W) := cell_of_row _ _ 0 _ _ _ hos
  have vs1 : w11.cell? ⟨g11, 1, none⟩ = some (.int .u64 (u (rb 14 W A B))) := cell_of_row _ _ 1 _ _ _ hos
  replace hB := hB.trans (hb.mono hB.size)
  replace hz := hB.size
  clear hb hg hos
  go_wp2_with fail
  try simp only [List.append_eq, List.cons_append, List.nil_append]
  have va0R := cell_regrown va0
  have vq0R := cell_regrown vq0
  have vq1R := cell_regrown vq1
  have vr0R := cell_regrown vr0
  have vr1R := cell_regrown vr1
  refine wp_region_var 9 10 24 _ _ (.cells #[.int .i64 0, .int .u64 0] 24) (.cells #[.int .i64 W, .int .u64 (u (rb 16 W A B))] 24) (by kernel_rfl) (by kernel_rfl) rfl rfl rfl rfl rfl (by decide) (by kernel_rfl) (by kernel_rfl) (fun a w => by simp [go_sem, ptrTo]) ?_
  refine wpG_quiet (by decide) (by decide) (by rfl) rfl (by simp) ?_; apply Exists.intro; refine ⟨?_, ?_⟩
  · intro S hS K hK; go_big_quiet_op; (first | exact hK | exact ⟨_, fun _ => rfl, hK⟩)
  refine wpG_quiet (by decide) (by decide) (by rfl) rfl (by simp) ?_; apply Exists.intro; refine ⟨?_, ?_⟩
  · intro S hS K hK; go_big_quiet_op; (first | exact hK | exact ⟨_, fun _ => rfl, hK⟩)
  refine wpG_quiet (by decide) (by decide) (by rfl) rfl (by simp) ?_; apply Exists.intro; refine ⟨?_, ?_⟩
  · intro S hS K hK; go_big_quiet_op; (first | exact hK | exact ⟨_, fun _ => rfl, hK⟩)
  refine wpG_quiet (by decide) (by decide) (by rfl) rfl (by simp) ?_; apply Exists.intro; refine ⟨?_, ?_⟩
  · intro S hS K hK; go_big_quiet_op; (first | exact hK | exact ⟨_, fun _ => rfl, hK⟩)
  refine wpG_quiet (by decide) (by decide) (by rfl) rfl (by simp) ?_; apply Exists.intro; refine ⟨?_, ?_⟩
  · intro S hS K hK; go_big_quiet_op; (apply Exists.intro; refine ⟨fun p => ?_, ?_⟩; (focus (first | (go_at_call 25; exact calls_regS hS p (binw 16 N Q R okQ okR (by decide) _)) | (go_at_call 29; exact calls_regS hS p (tolds W (rb 16 W A B) 0 E7.out (ext_any 33 W wfW N wfN (rb 16 N Q R) _))))); exact hK)
  refine wpG_quiet (by decide) (by decide) (by rfl) rfl (by simp) ?_; apply Exists.intro; refine ⟨?_, ?_⟩
  · intro S hS K hK; go_big_quiet_op; (apply Exists.intro; refine ⟨fun p => ?_, ?_⟩; (focus (first | (go_at_call 25; exact calls_regS hS p (binw 16 N Q R okQ okR (by decide) _)) | (go_at_call 29; exact calls_regS hS p (tolds W (rb 16 W A B) 0 E7.out (ext_any 33 W wfW N wfN (rb 16 N Q R) _))))); exact hK)
  refine wpG_quiet (by decide) (by decide) (by rfl) rfl (by simp) ?_; apply Exists.intro; refine ⟨?_, ?_⟩
  · intro S hS K hK; go_big_quiet_op; (first | exact hK | exact ⟨_, fun _ => rfl, hK⟩)
  refine wpG_quiet (by decide) (by decide) (by rfl) rfl (by simp) ?_; apply Exists.intro; refine ⟨?_, ?_⟩
  · intro S hS K hK; go_big_quiet_op; (first | exact hK | exact ⟨_, fun _ => rfl, hK⟩)
  refine wpG_quiet (by decide) (by decide) (by rfl) rfl (by simp) ?_; apply Exists.intro; refine ⟨?_, ?_⟩
  · intro S hS K hK; go_big_quiet_op; (first | exact hK | exact ⟨_, fun _ => rfl, hK⟩)
  refine wpG_var rfl ?_
  simp only [Act.put, List.setIfInBounds_toArray, List.set_cons_zero, List.set_cons_succ]
  refine wpG_store rfl rfl ⟨rfl, fun gs ws hbs hgs hos => ?_⟩ ?_
  · have cs0 := cell_of_row ws gs 0 _ _ _ hos; have cs1 := cell_of_row ws gs 1 _ _ _ hos; have fs0 := frozen_row hos 0; have fs1 := frozen_row hos 1; exact ⟨_, by simp [go_sem, ptrTo, cs0, cs1, fs0, fs1]; rfl, (hbs.setCell (by simpa using hgs) _).setCell (by simpa using hgs) _, by simp [World.setCell, Array.getElem?_modify, hos]⟩
  refine wpG_quiet (by decide) (by decide) (by rfl) rfl (by simp) ?_; apply Exists.intro; refine ⟨?_, ?_⟩
  · intro S hS K hK; go_big_quiet_op; (first | exact hK | exact ⟨_, fun _ => rfl, hK⟩)
  refine wpG_nil ?_
  intro g12 w12 hb hg hos
  simp only [ptrTo, List.setIfInBounds_toArray, List.set_cons_zero, List.set_cons_succ]
  clear va0R vq0R vq1R vr0R vr1R
  replace va0 := keep_cell hb va0
  replace va1 := keep_cell hb va1
  replace vb0 := keep_cell hb vb0
  replace vb1 := keep_cell hb vb1
  replace vp0 := keep_cell hb vp0
  replace vp1 := keep_cell hb vp1
  replace vq0 := keep_cell hb vq0
  replace vq1 := keep_cell hb vq1
  replace vr0 := keep_cell hb vr0
  replace vr1 := keep_cell hb vr1
  replace vc0 := keep_cell hb vc0
  replace vc1 := keep_cell hb vc1
  replace vd0 := keep_cell hb vd0
  replace vd1 := keep_cell hb vd1
  replace vs0 := keep_cell hb vs0
  replace vs1 := keep_cell hb vs1
  have vt0 : w12.cell? ⟨g12, 0, none⟩ = some (.int .i64 W) := cell_of_row _ _ 0 _ _ _ hos
  have vt1 : w12.cell? ⟨g12, 1, none⟩ = some (.int .u64 (u (rb 16 W A B))) := cell_of_row _ _ 1 _ _ _ hos
  replace hB := hB.trans (hb.mono hB.size)
  replace hz := hB.size
  clear hb hg hos
  go_wp2_with fail
  refine (tolds 1 (hiBit W A) 0 E8.out (slice_any W wfW A (W - 1) (W - 1) _)).mono ?_
  rintro e13 w13 ⟨rfl, hb⟩
  replace va0 : w13.cell? ⟨w1.heap.size, 0, none⟩ = some (.int .i64 W) := by first | exact keep_cell hb va0 | exact keep_cell hb (alloc_cell va0 _) | exact keep_cell hb (alloc_cell (alloc_cell va0 _) _) | exact keep_cell hb (by go_simp)
  replace va1 : w13.cell? ⟨w1.heap.size, 1, none⟩ = some (.int .u64 (u A)) := by first | exact keep_cell hb va1 | exact keep_cell hb (alloc_cell va1 _) | exact keep_cell hb (alloc_cell (alloc_cell va1 _) _) | exact keep_cell hb (by go_simp)
  replace vb0 : w13.cell? ⟨w2.heap.size, 0, none⟩ = some (.int .i64 W) := by first | exact keep_cell hb vb0 | exact keep_cell hb (alloc_cell vb0 _) | exact keep_cell hb (alloc_cell (alloc_cell vb0 _) _) | exact keep_cell hb (by go_simp)
  replace vb1 : w13.cell? ⟨w2.heap.size, 1, none⟩ = some (.int .u64 (u B)) := by first | exact keep_cell hb vb1 | exact keep_cell hb (alloc_cell vb1 _) | exact keep_cell hb (alloc_cell (alloc_cell vb1 _) _) | exact keep_cell hb (by go_simp)
  replace vp0 : w13.cell? ⟨w5.heap.size, 0, none⟩ = some (.int .i64 N) := by first | exact keep_cell hb vp0 | exact keep_cell hb (alloc_cell vp0 _) | exact keep_cell hb (alloc_cell (alloc_cell vp0 _) _) | exact keep_cell hb (by go_simp)
  replace vp1 : w13.cell? ⟨w5.heap.size, 1, none⟩ = some (.int .u64 (u A)) := by first | exact keep_cell hb vp1 | exact keep_cell hb (alloc_cell vp1 _) | exact keep_cell hb (alloc_cell (alloc_cell vp1 _) _) | exact keep_cell hb (by go_simp)
  replace vq0 : w13.cell? ⟨w6.heap.size, 0, none⟩ = some (.int .i64 N) := by first | exact keep_cell hb vq0 | exact keep_cell hb (alloc_cell vq0 _) | exact keep_cell hb (alloc_cell (alloc_cell vq0 _) _) | exact keep_cell hb (by go_simp)
  replace vq1 : w13.cell? ⟨w6.heap.size, 1, none⟩ = some (.int .u64 (u Q)) := by first | exact keep_cell hb vq1 | exact keep_cell hb (alloc_cell vq1 _) | exact keep_cell hb (alloc_cell (alloc_cell vq1 _) _) | exact keep_cell hb (by go_simp)
  replace vr0 : w13.cell? ⟨w7.heap.size, 0, none⟩ = some (.int .i64 N) := by first | exact keep_cell hb vr0 | exact keep_cell hb (alloc_cell vr0 _) | exact keep_cell hb (alloc_cell (alloc_cell vr0 _) _) | exact keep_cell hb (by go_simp)
  replace vr1 : w13.cell? ⟨w7.heap.size, 1, none⟩ = some (.int .u64 (u R)) := by first | exact keep_cell hb vr1 | exact keep_cell hb (alloc_cell vr1 _) | exact keep_cell hb (alloc_cell (alloc_cell vr1 _) _) | exact keep_cell hb (by go_simp)
  replace vc0 : w13.cell? ⟨w8.heap.size, 0, none⟩ = some (.int .i64 W) := by first | exact keep_cell hb vc0 | exact keep_cell hb (alloc_cell vc0 _) | exact keep_cell hb (alloc_cell (alloc_cell vc0 _) _) | exact keep_cell hb (by go_simp)
  replace vc1 : w13.cell? ⟨w8.heap.size, 1, none⟩ = some (.int .u64 (u A)) := by first | exact keep_cell hb vc1 | exact keep_cell hb (alloc_cell vc1 _) | exact keep_cell hb (alloc_cell (alloc_cell vc1 _) _) | exact keep_cell hb (by go_simp)
  replace vd0 : w13.cell? ⟨w9.heap.size, 0, none⟩ = some (.int .i64 W) := by first | exact keep_cell hb vd0 | exact keep_cell hb (alloc_cell vd0 _) | exact keep_cell hb (alloc_cell (alloc_cell vd0 _) _) | exact keep_cell hb (by go_simp)
  replace vd1 : w13.cell? ⟨w9.heap.size, 1, none⟩ = some (.int .u64 (u A)) := by first | exact keep_cell hb vd1 | exact keep_cell hb (alloc_cell vd1 _) | exact keep_cell hb (alloc_cell (alloc_cell vd1 _) _) | exact keep_cell hb (by go_simp)
  replace vs0 : w13.cell? ⟨g11, 0, none⟩ = some (.int .i64 W) := by first | exact keep_cell hb vs0 | exact keep_cell hb (alloc_cell vs0 _) | exact keep_cell hb (alloc_cell (alloc_cell vs0 _) _) | exact keep_cell hb (by go_simp)
  replace vs1 : w13.cell? ⟨g11, 1, none⟩ = some (.int .u64 (u (rb 14 W A B))) := by first | exact keep_cell hb vs1 | exact keep_cell hb (alloc_cell vs1 _) | exact keep_cell hb (alloc_cell (alloc_cell vs1 _) _) | exact keep_cell hb (by go_simp)
  replace vt0 : w13.cell? ⟨g12, 0, none⟩ = some (.int .i64 W) := by first | exact keep_cell hb vt0 | exact keep_cell hb (alloc_cell vt0 _) | exact keep_cell hb (alloc_cell (alloc_cell vt0 _) _) | exact keep_cell hb (by go_simp)
  replace vt1 : w13.cell? ⟨g12, 1, none⟩ = some (.int .u64 (u (rb 16 W A B))) := by first | exact keep_cell hb vt1 | exact keep_cell hb (alloc_cell vt1 _) | exact keep_cell hb (alloc_cell (alloc_cell vt1 _) _) | exact keep_cell hb (by go_simp)
  replace hB : Below w.heap.size w w13 := by repeat (first | exact Below.refl _ _ | exact hB | (refine Below.setCell ?_ (by first | omega | (simp; omega) | (simp; done)) _) | (refine Below.alloc ?_ (by first | omega | (simp; omega) | (simp; done)) _) | (refine below_drewN ?_ _) | (refine Below.drew ?_) | (refine below_via hb ?_ (by first | omega | (simp; omega) | (simp; done))))
  replace hz := hB.size
  clear hb
  have va0A := alloc_cell va0
  have va1A := alloc_cell va1
  have vb0A := alloc_cell vb0
  have vb1A := alloc_cell vb1
  have vp0A := alloc_cell vp0
  have vp1A := alloc_cell vp1
  have vq0A := alloc_cell vq0
  have vq1A := alloc_cell vq1
  have vr0A := alloc_cell vr0
  have vr1A := alloc_cell vr1
  have vc0A := alloc_cell vc0
  have vc1A := alloc_cell vc1
  have vd0A := alloc_cell vd0
  have vd1A := alloc_cell vd1
  have vs0A := alloc_cell vs0
  have vs1A := alloc_cell vs1
  have vt0A := alloc_cell vt0
  have vt1A := alloc_cell vt1
  go_wp2_with fail
  refine (tolds 1 (hiBit W A) 0 E9.out (slice_any N wfN Q (N - 1) (N - 1) _)).mono ?_
  rintro e14 w14 ⟨rfl, hb⟩
  clear va0A va1A vb0A vb1A vp0A vp1A vq0A vq1A vr0A vr1A vc0A vc1A vd0A vd1A vs0A vs1A vt0A vt1A
  replace va0 : w14.cell? ⟨w1.heap.size, 0, none⟩ = some (.int .i64 W) := by first | exact keep_cell hb va0 | exact keep_cell hb (alloc_cell va0 _) | exact keep_cell hb (alloc_cell (alloc_cell va0 _) _) | exact keep_cell hb (by go_simp)
  replace va1 : w14.cell? ⟨w1.heap.size, 1, none⟩ = some (.int .u64 (u A)) := by first | exact keep_cell hb va1 | exact keep_cell hb (alloc_cell va1 _) | exact keep_cell hb (alloc_cell (alloc_cell va1 _) _) | exact keep_cell hb (by go_simp)
  replace vb0 : w14.cell? ⟨w2.heap.size, 0, none⟩ = some (.int .i64 W) := by first | exact keep_cell hb vb0 | exact keep_cell hb (alloc_cell vb0 _) | exact keep_cell hb (alloc_cell (alloc_cell vb0 _) _) | exact keep_cell hb (by go_simp)
  replace vb1 : w14.cell? ⟨w2.heap.size, 1, none⟩ = some (.int .u64 (u B)) := by first | exact keep_cell hb vb1 | exact keep_cell hb (alloc_cell vb1 _) | exact keep_cell hb (alloc_cell (alloc_cell vb1 _) _) | exact keep_cell hb (by go_simp)
  replace vp0 : w14.cell? ⟨w5.heap.size, 0, none⟩ = some (.int .i64 N) := by first | exact keep_cell hb vp0 | exact keep_cell hb (alloc_cell vp0 _) | exact keep_cell hb (alloc_cell (alloc_cell vp0 _) _) | exact keep_cell hb (by go_simp)
  replace vp1 : w14.cell? ⟨w5.heap.size, 1, none⟩ = some (.int .u64 (u A)) := by first | exact keep_cell hb vp1 | exact keep_cell hb (alloc_cell vp1 _) | exact keep_cell hb (alloc_cell (alloc_cell vp1 _) _) | exact keep_cell hb (by go_simp)
  replace vq0 : w14.cell? ⟨w6.heap.size, 0, none⟩ = some (.int .i64 N) := by first | exact keep_cell hb vq0 | exact keep_cell hb (alloc_cell vq0 _) | exact keep_cell hb (alloc_cell (alloc_cell vq0 _) _) | exact keep_cell hb (by go_simp)
  replace vq1 : w14.cell? ⟨w6.heap.size, 1, none⟩ = some (.int .u64 (u Q)) := by first | exact keep_cell hb vq1 | exact keep_cell hb (alloc_cell vq1 _) | exact keep_cell hb (alloc_cell (alloc_cell vq1 _) _) | exact keep_cell hb (by go_simp)
  replace vr0 : w14.cell? ⟨w7.heap.size, 0, none⟩ = some (.int .i64 N) := by first | exact keep_cell hb vr0 | exact keep_cell hb (alloc_cell vr0 _) | exact keep_cell hb (alloc_cell (alloc_cell vr0 _) _) | exact keep_cell hb (by go_simp)
  replace vr1 : w14.cell? ⟨w7.heap.size, 1, none⟩ = some (.int .u64 (u R)) := by first | exact keep_cell hb vr1 | exact keep_cell hb (alloc_cell vr1 _) | exact keep_cell hb (alloc_cell (alloc_cell vr1 _) _) | exact keep_cell hb (by go_simp)
  replace vc0 : w14.cell? ⟨w8.heap.size, 0, none⟩ = some (.int .i64 W) := by first | exact keep_cell hb vc0 | exact keep_cell hb (alloc_cell vc0 _) | exact keep_cell hb (alloc_cell (alloc_cell vc0 _) _) | exact keep_cell hb (by go_simp)
  replace vc1 : w14.cell? ⟨w8.heap.size, 1, none⟩ = some (.int .u64 (u A)) := by first | exact keep_cell hb vc1 | exact keep_cell hb (alloc_cell vc1 _) | exact keep_cell hb (alloc_cell (alloc_cell vc1 _) _) | exact keep_cell hb (by go_simp)
  replace vd0 : w14.cell? ⟨w9.heap.size, 0, none⟩ = some (.int .i64 W) := by first | exact keep_cell hb vd0 | exact keep_cell hb (alloc_cell vd0 _) | exact keep_cell hb (alloc_cell (alloc_cell vd0 _) _) | exact keep_cell hb (by go_simp)
  replace vd1 : w14.cell? ⟨w9.heap.size, 1, none⟩ = some (.int .u64 (u A)) := by first | exact keep_cell hb vd1 | exact keep_cell hb (alloc_cell vd1 _) | exact keep_cell hb (alloc_cell (alloc_cell vd1 _) _) | exact keep_cell hb (by go_simp)
  replace vs0 : w14.cell? ⟨g11, 0, none⟩ = some (.int .i64 W) := by first | exact keep_cell hb vs0 | exact keep_cell hb (alloc_cell vs0 _) | exact keep_cell hb (alloc_cell (alloc_cell vs0 _) _) | exact keep_cell hb (by go_simp)
  replace vs1 : w14.cell? ⟨g11, 1, none⟩ = some (.int .u64 (u (rb 14 W A B))) := by first | exact keep_cell hb vs1 | exact keep_cell hb (alloc_cell vs1 _) | exact keep_cell hb (alloc_cell (alloc_cell vs1 _) _) | exact keep_cell hb (by go_simp)
  replace vt0 : w14.cell? ⟨g12, 0, none⟩ = some (.int .i64 W) := by first | exact keep_cell hb vt0 | exact keep_cell hb (alloc_cell vt0 _) | exact keep_cell hb (alloc_cell (alloc_cell vt0 _) _) | exact keep_cell hb (by go_simp)
  replace vt1 : w14.cell? ⟨g12, 1, none⟩ = some (.int .u64 (u (rb 16 W A B))) := by first | exact keep_cell hb vt1 | exact keep_cell hb (alloc_cell vt1 _) | exact keep_cell hb (alloc_cell (alloc_cell vt1 _) _) | exact keep_cell hb (by go_simp)
  have vh0 : w14.cell? ⟨w13.heap.size, 0, none⟩ = some (.int .i64 1) := keep_cell hb (by first | (simp; done) | (simp [World.cell?_alloc_new]; done))
  have vh1 : w14.cell? ⟨w13.heap.size, 1, none⟩ = some (.int .u64 (u (hiBit W A))) := keep_cell hb (by first | (simp; done) | (simp [World.cell?_alloc_new]; done))
  replace hB : Below w.heap.size w w14 := by repeat (first | exact Below.refl _ _ | exact hB | (refine Below.setCell ?_ (by first | omega | (simp; omega) | (simp; done)) _) | (refine Below.alloc ?_ (by first | omega | (simp; omega) | (simp; done)) _) | (refine below_drewN ?_ _) | (refine Below.drew ?_) | (refine below_via hb ?_ (by first | omega | (simp; omega) | (simp; done))))
  replace hz := hB.size
  clear hb
  go_wp2_with fail
  replace va0 := alloc_cell va0 (.cells #[.int .i64 1, .int .u64 (u (hiBit W A))] 24)
  replace va1 := alloc_cell va1 (.cells #[.int .i64 1, .int .u64 (u (hiBit W A))] 24)
  replace vb0 := alloc_cell vb0 (.cells #[.int .i64 1, .int .u64 (u (hiBit W A))] 24)
  replace vb1 := alloc_cell vb1 (.cells #[.int .i64 1, .int .u64 (u (hiBit W A))] 24)
  replace vp0 := alloc_cell vp0 (.cells #[.int .i64 1, .int .u64 (u (hiBit W A))] 24)
  replace vp1 := alloc_cell vp1 (.cells #[.int .i64 1, .int .u64 (u (hiBit W A))] 24)
  replace vq0 := alloc_cell vq0 (.cells #[.int .i64 1, .int .u64 (u (hiBit W A))] 24)
  replace vq1 := alloc_cell vq1 (.cells #[.int .i64 1, .int .u64 (u (hiBit W A))] 24)
  replace vr0 := alloc_cell vr0 (.cells #[.int .i64 1, .int .u64 (u (hiBit W A))] 24)
  replace vr1 := alloc_cell vr1 (.cells #[.int .i64 1, .int .u64 (u (hiBit W A))] 24)
  replace vc0 := alloc_cell vc0 (.cells #[.int .i64 1, .int .u64 (u (hiBit W A))] 24)
  replace vc1 := alloc_cell vc1 (.cells #[.int .i64 1, .int .u64 (u (hiBit W A))] 24)
  replace vd0 := alloc_cell vd0 (.cells #[.int .i64 1, .int .u64 (u (hiBit W A))] 24)
  replace vd1 := alloc_cell vd1 (.cells #[.int .i64 1, .int .u64 (u (hiBit W A))] 24)
  replace vs0 := alloc_cell vs0 (.cells #[.int .i64 1, .int .u64 (u (hiBit W A))] 24)
  replace vs1 := alloc_cell vs1 (.cells #[.int .i64 1, .int .u64 (u (hiBit W A))] 24)
  replace vt0 := alloc_cell vt0 (.cells #[.int .i64 1, .int .u64 (u (hiBit W A))] 24)
  replace vt1 := alloc_cell vt1 (.cells #[.int .i64 1, .int .u64 (u (hiBit W A))] 24)
  replace vh0 := alloc_cell vh0 (.cells #[.int .i64 1, .int .u64 (u (hiBit W A))] 24)
  replace vh1 := alloc_cell vh1 (.cells #[.int .i64 1, .int .u64 (u (hiBit W A))] 24)
  have vu0 : (w14.alloc (.cells #[.int .i64 1, .int .u64 (u (hiBit W A))] 24)).cell? ⟨w14.heap.size, 0, none⟩ = some (.int .i64 1) := by first | (simp; done) | (simp [World.cell?_alloc_new]; done)
  have vu1 : (w14.alloc (.cells #[.int .i64 1, .int .u64 (u (hiBit W A))] 24)).cell? ⟨w14.heap.size, 1, none⟩ = some (.int .u64 (u (hiBit W A))) := by first | (simp; done) | (simp [World.cell?_alloc_new]; done)
  replace hB : Below w.heap.size w (w14.alloc (.cells #[.int .i64 1, .int .u64 (u (hiBit W A))] 24)) := hB.alloc (by first | omega | (simp; omega) | (simp; done)) _
  clear hz
  generalize w14.alloc (.cells #[.int .i64 1, .int .u64 (u (hiBit W A))] 24) = w15 at *
  have hz := hB.size
  go_wp2_with fail
  have va0R := cell_regrown va0
  have va1R := cell_regrown va1
  have vb0R := cell_regrown vb0
  have vb1R := cell_regrown vb1
  have vp0R := cell_regrown vp0
  have vp1R := cell_regrown vp1
  have vq0R := cell_regrown vq0
  have vq1R := cell_regrown vq1
  have vr0R := cell_regrown vr0
  have vr1R := cell_regrown vr1
  have vc0R := cell_regrown vc0
  have vc1R := cell_regrown vc1
  have vd0R := cell_regrown vd0
  have vd1R := cell_regrown vd1
  have vs0R := cell_regrown vs0
  have vs1R := cell_regrown vs1
  have vt0R := cell_regrown vt0
  have vt1R := cell_regrown vt1
  have vh0R := cell_regrown vh0
  have vh1R := cell_regrown vh1
  have vu0R := cell_regrown vu0
  have vu1R := cell_regrown vu1
  refine wp_region_quiet_below (by kernel_rfl) (by kernel_rfl) ?_
  repeat (go_big_quiet_step (first | (go_at_call 15; exact Calls.regrown_of (live_any _)) | (go_at_call_of 25 (Value.int .i64 14); exact Calls.regrown_of (binw _ _ _ _ (by first | assumption | exact (bin_w (by assumption) (by assumption) (by decide)).2 | exact (un_w (by assumption) (by decide)).2 | exact (un_one (by assumption) (by decide)).2 | exact (bin_w (by assumption) (un_w (by assumption) (by decide)).2 (by decide)).2) (by first | assumption | exact (bin_w (by assumption) (by assumption) (by decide)).2 | exact (un_w (by assumption) (by decide)).2 | exact (un_one (by assumption) (by decide)).2 | exact (bin_w (by assumption) (un_w (by assumption) (by decide)).2 (by decide)).2) (by decide) _)) | (go_at_call_of 25 (Value.int .i64 16); exact Calls.regrown_of (binw _ _ _ _ (by first | assumption | exact (bin_w (by assumption) (by assumption) (by decide)).2 | exact (un_w (by assumption) (by decide)).2 | exact (un_one (by assumption) (by decide)).2 | exact (bin_w (by assumption) (un_w (by assumption) (by decide)).2 (by decide)).2) (by first | assumption | exact (bin_w (by assumption) (by assumption) (by decide)).2 | exact (un_w (by assumption) (by decide)).2 | exact (un_one (by assumption) (by decide)).2 | exact (bin_w (by assumption) (un_w (by assumption) (by decide)).2 (by decide)).2) (by decide) _))))
  refine wpQuiet_nil ?_
  intro _ hw'
  obtain ⟨⟨dq, osq⟩, hw''⟩ := hw'
  subst hw''
  replace hB := hB.trans ((below_regrown w15 dq osq).mono hB.size)
  go_wp2
  go_ret
  exact ⟨rfl, hB⟩

theorem own : ownKnob Try.prog.godebug = none := by kernel_rfl
theorem cellsB : Try.prog.cellsOf 24 = 2 := by kernel_rfl

theorem reads {H : Type} (enc : TypeId × Value → H) (W : World) (base : Nat) (sp : Nat → Bool) (held : Bool) (a b : Int) (wa : (Lit.int .i64 a).wf = true) (wb : (Lit.int .u64 b).wf = true) :
    DataW.Trod enc Try.prog W base sp held 24 (.agg #[.int .i64 a, .int .u64 b]) (.agg [.lit (.int .i64 a), .lit (.int .u64 b)]) [] :=
  shut_agg2 (y0 := (.lit (.int .i64 a), [])) (y1 := (.lit (.int .u64 b), [])) Try.underlying24 (by kernel_rfl) cellsB ⟨1, by simp [DataW.trod, Try.underlying3, wa]⟩ ⟨1, by simp [DataW.trod, Try.underlying22, wb]⟩

/-! ### The row's step -/
set_option maxRecDepth 100000 in
theorem lifted (os : Os) (started : os.Started) (H : Type) (enc : TypeId × Value → H) :
    ReturnsInHanded {} Try.checked os 11 .any (Rows.bitvWidthsSpec.pre6 enc Try.prog Try.f11 Rows.bitvWidthsRow.domain false) (Rows.bitvWidthsSpec.post enc Try.prog Try.f11 false true false false) := by
  refine returnsInHanded_of_change (C := Try.checked) own started (by kernel_rfl) Try.func11
    (ChangeSpec.witness6 (enc := enc) (C := Try.checked) false ⟨#[], #[.int .u8 0, .int .u8 0, .int .u64 0, .int .u64 0], []⟩ 8 (by kernel_rfl) (by kernel_rfl) (by kernel_rfl) (by kernel_rfl)) ?_
  intro W base args ds gs before hval0 hW hcnd _
  have hval : ∀ (j : Nat) t v, Try.f11.params[j]? = some t → args[j]? = some v → Value.okWide Try.prog W .any base t v := hval0
  have hW' := hW
  obtain ⟨p, q, hA0, hV, rfl, hfz, hnd⟩ := hW
  have hA : DataW.TrodAll enc Try.prog W 0 (fun _ => true) true Try.f11.params.toList args.toList ds p := hA0
  rw [Try.params11] at hA hval
  obtain ⟨v0, vs0, d0, ds0, p0, q0, hargs, rfl, rfl, h0, r0⟩ := trodAll_cons hA
  obtain ⟨v1, vs1, d1, ds1, p1, q1, rfl, rfl, rfl, h1, r1⟩ := trodAll_cons r0
  obtain ⟨v2, vs2, d2, ds2, p2, q2, rfl, rfl, rfl, h2, r2⟩ := trodAll_cons r1
  obtain ⟨v3, vs3, d3, ds3, p3, q3, rfl, rfl, rfl, h3, r3⟩ := trodAll_cons r2
  obtain ⟨rfl, rfl, rfl⟩ := trodAll_nil r3
  obtain rfl : args = #[v0, v1, v2, v3] := by cases args; simp_all
  obtain ⟨rfl, rfl⟩ := trodVars_none hV
  obtain ⟨a0, rfl, rfl, rfl, w0⟩ := open_int Try.underlying5 (hval 0 5 v0 rfl rfl) h0
  obtain ⟨a1, rfl, rfl, rfl, w1⟩ := open_int Try.underlying5 (hval 1 5 v1 rfl rfl) h1
  obtain ⟨a2, rfl, rfl, rfl, w2⟩ := open_int Try.underlying22 (hval 2 22 v2 rfl rfl) h2
  obtain ⟨a3, rfl, rfl, rfl, w3⟩ := open_int Try.underlying22 (hval 3 22 v3 rfl rfl) h3
  clear hA0 hval0
  simp only [List.append_nil] at hW'
  refine (walk a0 w0 a1 w1 a2 w2 a3 w3 W).mono fun e W' ⟨he, bel⟩ => ?_
  subst he
  exact ⟨_, rfl, _, _, _, [], _, [], hW', trodAll_mk1 (shut_bool Try.underlying4 _), (trodAll_cons_mk (shut_int Try.underlying5 w0) (trodAll_cons_mk (shut_int Try.underlying5 w1) (trodAll_cons_mk (shut_int Try.underlying22 w2) (trodAll_cons_mk (shut_int Try.underlying22 w3) trodAll_mk0)))), rfl, bel.frame _, fun h => by cases h⟩

theorem over : Rows.bitvWidthsRow.holds Try.pinned (OpenSpec.ofChange Rows.bitvWidthsSpec) :=
  OpenClaim.holds_of_wide 11 Try.f11 rfl rfl rfl rfl rfl rfl rfl ⟨rfl, rfl, rfl, rfl, rfl⟩ rfl rfl rfl rfl rfl (by kernel_rfl) Try.func11 (by kernel_rfl)
    (of_decide_eq_true (by kernel_rfl)) (by unfold Func.isWrapper; first | (rw [if_pos (by decide +kernel)]; kernel_rfl) | (rw [if_neg (by decide +kernel)]; exact ⟨rfl, rfl⟩))
    (fun os started H enc _ => lifted os started H enc)

/-- The given statement. -/
theorem proved : Rows.BitvWidthsSaid := over
#print axioms proved
end Go.Proofs.Ytemolkkpigkanaa.bitvWidths
