/-
  Parts are what they are parts of: bits that are set are looked at, and those above, the part and those below, one behind the other, are the value that was set. For every input.
-/
import Derived.Test.YtemolkkpigkanaaRows
import Derived.Test.YtemolkkpigkanaaX
import Derived.Test.YtemolkkpigkanaaY
import Derived.BigQuiet
import Derived.OwnWalk
import Derived.Deep.DeepCutAuto
import Derived.ProofKit
import Derived.OpenShut
import Derived.Lib.SmallJoins
namespace Go.Proofs.Ytemolkkpigkanaa.bitvSlices
open Go Go.ChangeShapes Go.WideShapes Go.ChangeAt Go.RowKit Go.Joins Go.Sort
set_option linter.unusedVariables false

set_option maxRecDepth 100000 in
set_option maxHeartbeats 4000000 in
theorem walk_11 (a0 : Int) (w0 : (Lit.int .u8 a0).wf = true) (a1 : Int) (w1 : (Lit.int .u64 a1).wf = true) (a2 : Int) (w2 : (Lit.int .u8 a2).wf = true) (a3 : Int) (w3 : (Lit.int .u8 a3).wf = true) (a4 : Int) (w4 : (Lit.int .u64 a4).wf = true) (hc1 : (a2 % (1 + a0 % 64) + 1 < 1 + a0 % 64)) (hc2 : (0 < a3 % (a2 % (1 + a0 % 64) + 1))) (w : World) :
    Calls Try.prog 9 #[.int .u8 a0, .int .u64 a1, .int .u8 a2, .int .u8 a3, .int .u64 a4] w fun e w' => e = .returned (.bool true) ∧ Below w.heap.size w w' := by
  obtain ⟨r0, r1⟩ := bounds_u8 w0
  obtain ⟨W, hW⟩ : ∃ W : Int, W = 1 + a0 % 64 := ⟨_, rfl⟩
  have W1 : 1 ≤ W := by omega
  have W2 : W ≤ 64 := by omega
  have HW := Lib.hid hW
  clear hW
  obtain ⟨xa, rfl⟩ := u_of a1 w1
  obtain ⟨A, hA⟩ : ∃ A : BitVec 64, A = xa &&& msk W := ⟨_, rfl⟩
  have okA : ok W A = true := by rw [hA]; exact ok_masked W1 W2 _
  have HA := Lib.hid hA
  clear hA
  obtain ⟨xy, rfl⟩ := u_of a4 w4
  obtain ⟨s0, s1⟩ := bounds_u8 w2
  obtain ⟨p0, p1⟩ := bounds_u8 w3
  have m0 := Int.emod_nonneg a2 (show W ≠ 0 by omega)
  have m1 := Int.emod_lt_of_pos a2 (show 0 < W by omega)
  have n1 : wrap64 a2 = a2 := IntWalk.wrap64_in _ ⟨by omega, by omega⟩
  have n2 : wrap64 a3 = a3 := IntWalk.wrap64_in _ ⟨by omega, by omega⟩
  have t1 : Int.tmod a2 W = a2 % W := Int.tmod_eq_emod_of_nonneg s0
  rw [← HW.out] at hc1 hc2
  obtain ⟨h, hh⟩ : ∃ h, a2 % W = h := ⟨_, rfl⟩
  rw [hh] at m0 m1 t1 hc1 hc2
  have q0 := Int.emod_nonneg a3 (show h + 1 ≠ 0 by omega)
  have q1 := Int.emod_lt_of_pos a3 (show 0 < h + 1 by omega)
  have t2 : Int.tmod a3 (h + 1) = a3 % (h + 1) := Int.tmod_eq_emod_of_nonneg p0
  obtain ⟨l, hl⟩ : ∃ l, a3 % (h + 1) = l := ⟨_, rfl⟩
  rw [hl] at q0 q1 t2 hc2
  have z1 : (W == 0) = false := by rw [beq_eq_false_iff_ne]; omega
  have z2 : (h + 1 == 0) = false := by rw [beq_eq_false_iff_ne]; omega
  have z3 : W ≠ 0 := by omega
  have z4 : h + 1 ≠ 0 := by omega
  have b1 : 1 ≤ h - l + 1 := by omega
  have b2 : h - l + 1 ≤ 64 := by omega
  obtain ⟨B, hB0⟩ : ∃ B, xy &&& msk (h - l + 1) = B := ⟨_, rfl⟩
  have okB : ok (h - l + 1) B = true := hB0 ▸ ok_masked b1 b2 _
  have hlh : l ≤ h := by omega
  obtain ⟨Q, hQ⟩ : ∃ Q, setv W h l A B = Q := ⟨_, rfl⟩
  have okQ : ok W Q = true := hQ ▸ ok_setv W1 W2
  have ES : Hid (sSet W A h l (h - l + 1) B = (W, Q, 0)) := Lib.hid (hQ ▸ e_set okA q0 hlh m1 okB)
  have EL : Hid (sSlice W Q h l = (h - l + 1, B, 0)) := Lib.hid (hQ ▸ e_look okA q0 hlh m1 okB)
  have wfW := ok_wf okA
  have wfN := ok_wf okB
  obtain ⟨T1, hT1⟩ : ∃ T, upper W h A = T := ⟨_, rfl⟩
  have E1 : Hid (sSlice W A (W - 1) (h + 1) = (W - h - 1, T1, 0)) := Lib.hid (hT1 ▸ e_upper okA m0 hc1)
  have d1 : decide (h + 1 < W) = true := by simpa using hc1
  have hT1 := Lib.hid hT1
  obtain ⟨T2, hT2⟩ : ∃ T, lower l A = T := ⟨_, rfl⟩
  have E2 : Hid (sSlice W A (l - 1) 0 = (l, T2, 0)) := Lib.hid (hT2 ▸ e_lower okA hc2 (by omega))
  have d2 : decide (0 < l) = true := by simpa using hc2
  have hT2 := Lib.hid hT2
  have EC : Hid (sCat [(W - h - 1, T1), (h - l + 1, B), (l, T2)] = (W, Q, 0)) := Lib.hid (by rw [← hT1.out, ← hT2.out, ← hQ]; exact cat_all okA hc2 hlh hc1 okB)
  have hQ := Lib.hid hQ
  clear m0
  have HH := Lib.hid hh
  have HL := Lib.hid hl
  have m0 : 0 ≤ h := by omega
  have okT1 : ok (W - h - 1) T1 = true := hT1.out ▸ ok_upper hc1 W2 m0
  have okT2 : ok l T2 = true := hT2.out ▸ ok_lower hc2 (by omega)
  go_enter Try.func9, Try.ntmps9
  have hB : Below w.heap.size w w := Below.refl _ _
  have hz := hB.size
  go_wp2_with fail
  refine (masked_is a0 ⟨r0, r1⟩ xa _ rfl W A HW.out HA.out _).mono ?_
  rintro e1 w1 ⟨rfl, hb⟩
  replace hB : Below w.heap.size w w1 := by repeat (first | exact Below.refl _ _ | exact hB | (refine Below.setCell ?_ (by first | omega | (simp; omega) | (simp; done)) _) | (refine Below.alloc ?_ (by first | omega | (simp; omega) | (simp; done)) _) | (refine below_drewN ?_ _) | (refine Below.drew ?_) | (refine below_via hb ?_ (by first | omega | (simp; omega) | (simp; done))))
  replace hz := hB.size
  clear hb
  go_wp2_with (go_at_call 19; refine (ref_mask _ _).mono ?_; rintro e2 w2 ⟨rfl, rfl⟩)
  have va0 : ((w1.alloc (.cells #[.int .i64 (W), .int .u64 (u (A))] 24)).alloc (.cells #[.int .i64 (h - l + 1), .int .u64 (u (B))] 24)).cell? ⟨w1.heap.size, 0, none⟩ = some (.int .i64 (W)) := by first | (simp; done) | exact alloc_cell (by simp) _
  have va1 : ((w1.alloc (.cells #[.int .i64 (W), .int .u64 (u (A))] 24)).alloc (.cells #[.int .i64 (h - l + 1), .int .u64 (u (B))] 24)).cell? ⟨w1.heap.size, 1, none⟩ = some (.int .u64 (u (A))) := by first | (simp; done) | exact alloc_cell (by simp) _
  have vb0 : ((w1.alloc (.cells #[.int .i64 (W), .int .u64 (u (A))] 24)).alloc (.cells #[.int .i64 (h - l + 1), .int .u64 (u (B))] 24)).cell? ⟨w1.heap.size + 1, 0, none⟩ = some (.int .i64 (h - l + 1)) := by first | (simp; done) | exact alloc_cell (by simp) _
  have vb1 : ((w1.alloc (.cells #[.int .i64 (W), .int .u64 (u (A))] 24)).alloc (.cells #[.int .i64 (h - l + 1), .int .u64 (u (B))] 24)).cell? ⟨w1.heap.size + 1, 1, none⟩ = some (.int .u64 (u (B))) := by first | (simp; done) | exact alloc_cell (by simp) _
  replace hB : Below w.heap.size w ((w1.alloc (.cells #[.int .i64 (W), .int .u64 (u (A))] 24)).alloc (.cells #[.int .i64 (h - l + 1), .int .u64 (u (B))] 24)) := (hB.alloc (by first | omega | (simp; omega) | (simp; done)) _).alloc (by first | omega | (simp; omega) | (simp; done)) _
  clear hz
  generalize ((w1.alloc (.cells #[.int .i64 (W), .int .u64 (u (A))] 24)).alloc (.cells #[.int .i64 (h - l + 1), .int .u64 (u (B))] 24)) = w2 at *
  have hz := hB.size
  go_wp2_with fail
  refine (tolds (W) Q 0 ES.out (set_any W wfW A h l (h - l + 1) wfN B _)).mono ?_
  rintro e3 w3 ⟨rfl, hb⟩
  replace va0 : w3.cell? ⟨w1.heap.size, 0, none⟩ = some (.int .i64 W) := by first | exact keep_cell hb va0 | exact keep_cell hb (alloc_cell va0 _) | exact keep_cell hb (alloc_cell (alloc_cell va0 _) _) | exact keep_cell hb (by go_simp)
  replace va1 : w3.cell? ⟨w1.heap.size, 1, none⟩ = some (.int .u64 (u A)) := by first | exact keep_cell hb va1 | exact keep_cell hb (alloc_cell va1 _) | exact keep_cell hb (alloc_cell (alloc_cell va1 _) _) | exact keep_cell hb (by go_simp)
  replace vb0 : w3.cell? ⟨w1.heap.size + 1, 0, none⟩ = some (.int .i64 (h - l + 1)) := by first | exact keep_cell hb vb0 | exact keep_cell hb (alloc_cell vb0 _) | exact keep_cell hb (alloc_cell (alloc_cell vb0 _) _) | exact keep_cell hb (by go_simp)
  replace vb1 : w3.cell? ⟨w1.heap.size + 1, 1, none⟩ = some (.int .u64 (u B)) := by first | exact keep_cell hb vb1 | exact keep_cell hb (alloc_cell vb1 _) | exact keep_cell hb (alloc_cell (alloc_cell vb1 _) _) | exact keep_cell hb (by go_simp)
  replace hB : Below w.heap.size w w3 := by repeat (first | exact Below.refl _ _ | exact hB | (refine Below.setCell ?_ (by first | omega | (simp; omega) | (simp; done)) _) | (refine Below.alloc ?_ (by first | omega | (simp; omega) | (simp; done)) _) | (refine below_drewN ?_ _) | (refine Below.drew ?_) | (refine below_via hb ?_ (by first | omega | (simp; omega) | (simp; done))))
  replace hz := hB.size
  clear hb
  have va0A := alloc_cell va0
  have va1A := alloc_cell va1
  have vb0A := alloc_cell vb0
  have vb1A := alloc_cell vb1
  go_wp2_with fail
  refine (tolds (h - l + 1) B 0 EL.out (slice_any W wfW Q h l _)).mono ?_
  rintro e4 w4 ⟨rfl, hb⟩
  clear va0A va1A vb0A vb1A
  replace va0 : w4.cell? ⟨w1.heap.size, 0, none⟩ = some (.int .i64 W) := by first | exact keep_cell hb va0 | exact keep_cell hb (alloc_cell va0 _) | exact keep_cell hb (alloc_cell (alloc_cell va0 _) _) | exact keep_cell hb (by go_simp)
  replace va1 : w4.cell? ⟨w1.heap.size, 1, none⟩ = some (.int .u64 (u A)) := by first | exact keep_cell hb va1 | exact keep_cell hb (alloc_cell va1 _) | exact keep_cell hb (alloc_cell (alloc_cell va1 _) _) | exact keep_cell hb (by go_simp)
  replace vb0 : w4.cell? ⟨w1.heap.size + 1, 0, none⟩ = some (.int .i64 (h - l + 1)) := by first | exact keep_cell hb vb0 | exact keep_cell hb (alloc_cell vb0 _) | exact keep_cell hb (alloc_cell (alloc_cell vb0 _) _) | exact keep_cell hb (by go_simp)
  replace vb1 : w4.cell? ⟨w1.heap.size + 1, 1, none⟩ = some (.int .u64 (u B)) := by first | exact keep_cell hb vb1 | exact keep_cell hb (alloc_cell vb1 _) | exact keep_cell hb (alloc_cell (alloc_cell vb1 _) _) | exact keep_cell hb (by go_simp)
  have vp0 : w4.cell? ⟨w3.heap.size, 0, none⟩ = some (.int .i64 W) := keep_cell hb (by first | (simp; done) | (simp [World.cell?_alloc_new]; done))
  have vp1 : w4.cell? ⟨w3.heap.size, 1, none⟩ = some (.int .u64 (u Q)) := keep_cell hb (by first | (simp; done) | (simp [World.cell?_alloc_new]; done))
  replace hB : Below w.heap.size w w4 := by repeat (first | exact Below.refl _ _ | exact hB | (refine Below.setCell ?_ (by first | omega | (simp; omega) | (simp; done)) _) | (refine Below.alloc ?_ (by first | omega | (simp; omega) | (simp; done)) _) | (refine below_drewN ?_ _) | (refine Below.drew ?_) | (refine below_via hb ?_ (by first | omega | (simp; omega) | (simp; done))))
  replace hz := hB.size
  clear hb
  go_upto_region 8 with (fail)
  have lva0 : w1.heap.size < w4.heap.size + 1 := by have := lt_of_cell' va0; omega
  have lva1 : w1.heap.size < w4.heap.size + 1 := by have := lt_of_cell' va1; omega
  have lvb0 : w1.heap.size + 1 < w4.heap.size + 1 := by have := lt_of_cell' vb0; omega
  have lvb1 : w1.heap.size + 1 < w4.heap.size + 1 := by have := lt_of_cell' vb1; omega
  have lvp0 : w3.heap.size < w4.heap.size + 1 := by have := lt_of_cell' vp0; omega
  have lvp1 : w3.heap.size < w4.heap.size + 1 := by have := lt_of_cell' vp1; omega
  replace va0 : ((w4.alloc (.cells #[.int .i64 (h - l + 1), .int .u64 (u (B))] 24)).alloc (.cells #[] 24)).cell? ⟨w1.heap.size, 0, none⟩ = some (.int .i64 W) := alloc_cell (alloc_cell va0 _) _
  replace va1 : ((w4.alloc (.cells #[.int .i64 (h - l + 1), .int .u64 (u (B))] 24)).alloc (.cells #[] 24)).cell? ⟨w1.heap.size, 1, none⟩ = some (.int .u64 (u A)) := alloc_cell (alloc_cell va1 _) _
  replace vb0 : ((w4.alloc (.cells #[.int .i64 (h - l + 1), .int .u64 (u (B))] 24)).alloc (.cells #[] 24)).cell? ⟨w1.heap.size + 1, 0, none⟩ = some (.int .i64 (h - l + 1)) := alloc_cell (alloc_cell vb0 _) _
  replace vb1 : ((w4.alloc (.cells #[.int .i64 (h - l + 1), .int .u64 (u (B))] 24)).alloc (.cells #[] 24)).cell? ⟨w1.heap.size + 1, 1, none⟩ = some (.int .u64 (u B)) := alloc_cell (alloc_cell vb1 _) _
  replace vp0 : ((w4.alloc (.cells #[.int .i64 (h - l + 1), .int .u64 (u (B))] 24)).alloc (.cells #[] 24)).cell? ⟨w3.heap.size, 0, none⟩ = some (.int .i64 W) := alloc_cell (alloc_cell vp0 _) _
  replace vp1 : ((w4.alloc (.cells #[.int .i64 (h - l + 1), .int .u64 (u (B))] 24)).alloc (.cells #[] 24)).cell? ⟨w3.heap.size, 1, none⟩ = some (.int .u64 (u Q)) := alloc_cell (alloc_cell vp1 _) _
  have vs0 : ((w4.alloc (.cells #[.int .i64 (h - l + 1), .int .u64 (u (B))] 24)).alloc (.cells #[] 24)).cell? ⟨w4.heap.size, 0, none⟩ = some (.int .i64 (h - l + 1)) := alloc_cell (by simp) _
  have lvs0 : w4.heap.size < w4.heap.size + 1 := by omega
  have vs1 : ((w4.alloc (.cells #[.int .i64 (h - l + 1), .int .u64 (u (B))] 24)).alloc (.cells #[] 24)).cell? ⟨w4.heap.size, 1, none⟩ = some (.int .u64 (u B)) := alloc_cell (by simp) _
  have lvs1 : w4.heap.size < w4.heap.size + 1 := by omega
  have own : ((w4.alloc (.cells #[.int .i64 (h - l + 1), .int .u64 (u (B))] 24)).alloc (.cells #[] 24)).ownsRow (w4.heap.size + 1) 24 2 (.slice (some ⟨w4.heap.size + 1, 0, none⟩) 0 0) 0 [] := by have := own_new (w4.alloc (.cells #[.int .i64 (h - l + 1), .int .u64 (u (B))] 24)) 24; simpa using this
  have hG : w4.heap.size + 1 ≤ ((w4.alloc (.cells #[.int .i64 (h - l + 1), .int .u64 (u (B))] 24)).alloc (.cells #[] 24)).heap.size := by simp
  have hwG : w.heap.size ≤ w4.heap.size + 1 := by omega
  replace hB : Below w.heap.size w ((w4.alloc (.cells #[.int .i64 (h - l + 1), .int .u64 (u (B))] 24)).alloc (.cells #[] 24)) := (hB.alloc (by first | omega | (simp; omega) | (simp; done)) _).alloc (by first | omega | (simp; omega) | (simp; done)) _
  clear hz
  generalize ((w4.alloc (.cells #[.int .i64 (h - l + 1), .int .u64 (u (B))] 24)).alloc (.cells #[] 24)) = w5 at *
  generalize w4.heap.size + 1 = G at *
  generalize w4.heap.size = bs at *
  have hz := hB.size
  obtain ⟨i0, hi0, hz0, hz1, hz2⟩ := info_parts info_bits
  go_wp2_with fail
  refine (tolds (W - h - 1) T1 0 E1.out (slice_any W wfW A (W - 1) (h + 1) _)).mono ?_
  rintro e6 w6 ⟨rfl, hb⟩
  replace va0 : w6.cell? ⟨w1.heap.size, 0, none⟩ = some (.int .i64 W) := by first | exact keep_cell hb va0 | exact keep_cell hb (alloc_cell va0 _) | exact keep_cell hb (alloc_cell (alloc_cell va0 _) _) | exact keep_cell hb (by go_simp)
  replace va1 : w6.cell? ⟨w1.heap.size, 1, none⟩ = some (.int .u64 (u A)) := by first | exact keep_cell hb va1 | exact keep_cell hb (alloc_cell va1 _) | exact keep_cell hb (alloc_cell (alloc_cell va1 _) _) | exact keep_cell hb (by go_simp)
  replace vb0 : w6.cell? ⟨w1.heap.size + 1, 0, none⟩ = some (.int .i64 (h - l + 1)) := by first | exact keep_cell hb vb0 | exact keep_cell hb (alloc_cell vb0 _) | exact keep_cell hb (alloc_cell (alloc_cell vb0 _) _) | exact keep_cell hb (by go_simp)
  replace vb1 : w6.cell? ⟨w1.heap.size + 1, 1, none⟩ = some (.int .u64 (u B)) := by first | exact keep_cell hb vb1 | exact keep_cell hb (alloc_cell vb1 _) | exact keep_cell hb (alloc_cell (alloc_cell vb1 _) _) | exact keep_cell hb (by go_simp)
  replace vp0 : w6.cell? ⟨w3.heap.size, 0, none⟩ = some (.int .i64 W) := by first | exact keep_cell hb vp0 | exact keep_cell hb (alloc_cell vp0 _) | exact keep_cell hb (alloc_cell (alloc_cell vp0 _) _) | exact keep_cell hb (by go_simp)
  replace vp1 : w6.cell? ⟨w3.heap.size, 1, none⟩ = some (.int .u64 (u Q)) := by first | exact keep_cell hb vp1 | exact keep_cell hb (alloc_cell vp1 _) | exact keep_cell hb (alloc_cell (alloc_cell vp1 _) _) | exact keep_cell hb (by go_simp)
  replace vs0 : w6.cell? ⟨bs, 0, none⟩ = some (.int .i64 (h - l + 1)) := by first | exact keep_cell hb vs0 | exact keep_cell hb (alloc_cell vs0 _) | exact keep_cell hb (alloc_cell (alloc_cell vs0 _) _) | exact keep_cell hb (by go_simp)
  replace vs1 : w6.cell? ⟨bs, 1, none⟩ = some (.int .u64 (u B)) := by first | exact keep_cell hb vs1 | exact keep_cell hb (alloc_cell vs1 _) | exact keep_cell hb (alloc_cell (alloc_cell vs1 _) _) | exact keep_cell hb (by go_simp)
  replace own := own_below own hb
  replace hG := Nat.le_trans hG hb.size
  replace hB : Below w.heap.size w w6 := by repeat (first | exact Below.refl _ _ | exact hB | (refine Below.setCell ?_ (by first | omega | (simp; omega) | (simp; done)) _) | (refine Below.alloc ?_ (by first | omega | (simp; omega) | (simp; done)) _) | (refine below_drewN ?_ _) | (refine Below.drew ?_) | (refine below_via hb ?_ (by first | omega | (simp; omega) | (simp; done))))
  replace hz := hB.size
  clear hb
  go_upto_region 10 with (fail)
  replace va0 := alloc_cell va0 (.cells #[.int .i64 (W - h - 1), .int .u64 (u (T1))] 24)
  replace va1 := alloc_cell va1 (.cells #[.int .i64 (W - h - 1), .int .u64 (u (T1))] 24)
  replace vb0 := alloc_cell vb0 (.cells #[.int .i64 (W - h - 1), .int .u64 (u (T1))] 24)
  replace vb1 := alloc_cell vb1 (.cells #[.int .i64 (W - h - 1), .int .u64 (u (T1))] 24)
  replace vp0 := alloc_cell vp0 (.cells #[.int .i64 (W - h - 1), .int .u64 (u (T1))] 24)
  replace vp1 := alloc_cell vp1 (.cells #[.int .i64 (W - h - 1), .int .u64 (u (T1))] 24)
  replace vs0 := alloc_cell vs0 (.cells #[.int .i64 (W - h - 1), .int .u64 (u (T1))] 24)
  replace vs1 := alloc_cell vs1 (.cells #[.int .i64 (W - h - 1), .int .u64 (u (T1))] 24)
  have vt0 : (w6.alloc (.cells #[.int .i64 (W - h - 1), .int .u64 (u (T1))] 24)).cell? ⟨w6.heap.size, 0, none⟩ = some (.int .i64 (W - h - 1)) := by simp
  have vt1 : (w6.alloc (.cells #[.int .i64 (W - h - 1), .int .u64 (u (T1))] 24)).cell? ⟨w6.heap.size, 1, none⟩ = some (.int .u64 (u (T1))) := by simp
  replace own := own.alloc (.cells #[.int .i64 (W - h - 1), .int .u64 (u (T1))] 24)
  replace hG : G ≤ (w6.alloc (.cells #[.int .i64 (W - h - 1), .int .u64 (u (T1))] 24)).heap.size := by simp; omega
  replace hB : Below w.heap.size w (w6.alloc (.cells #[.int .i64 (W - h - 1), .int .u64 (u (T1))] 24)) := hB.alloc (by first | omega | (simp; omega) | (simp; done)) _
  clear hz
  generalize (w6.alloc (.cells #[.int .i64 (W - h - 1), .int .u64 (u (T1))] 24)) = w7 at *
  have hz := hB.size
  go_upto_region 11 with (at_builtin; refine wpList_append_own _ rfl (.tmp 82) (.tmp 84) 34 rfl G 24 i0 (.agg #[.int .i64 0, .int .u64 0]) 2 16 Try.underlying34 hi0 hz0 hz1 hz2 rfl (by decide) _ 0 [] rfl (own.alloc _) ⟨w7.heap.size, 0, none⟩ 1 1 [.int .i64 (W - h - 1), .int .u64 (u (T1))] rfl rfl (news2 w7 _ _ 24) (ones2 _ _ _ _) (by decide) (by decide) (by simp; omega) ?_; intro v8 w8 own8 hg8 _)
  have bel := below_grown (own.alloc _) hg8 hG
  replace va0 := low_cell bel lva0 va0
  replace va1 := low_cell bel lva1 va1
  replace vb0 := low_cell bel lvb0 vb0
  replace vb1 := low_cell bel lvb1 vb1
  replace vp0 := low_cell bel lvp0 vp0
  replace vp1 := low_cell bel lvp1 vp1
  replace vs0 := low_cell bel lvs0 vs0
  replace vs1 := low_cell bel lvs1 vs1
  replace hB := hB.trans (bel.mono hwG)
  replace hG := Nat.le_trans hG bel.size
  clear own bel hg8 hz
  have own : w8.ownsRow G 24 2 v8 1 [.int .i64 (W - h - 1), .int .u64 (u (T1))] := own8
  clear own8
  have hz := hB.size
  clear vt0 vt1
  go_upto_region 12 with (at_builtin; refine wpList_append_own _ rfl (.tmp 86) (.tmp 88) 34 rfl G 24 i0 (.agg #[.int .i64 0, .int .u64 0]) 2 16 Try.underlying34 hi0 hz0 hz1 hz2 rfl (by decide) _ 1 [.int .i64 (W - h - 1), .int .u64 (u (T1))] rfl (own.alloc _) ⟨w8.heap.size, 0, none⟩ 1 1 [.int .i64 (h - l + 1), .int .u64 (u (B))] rfl rfl (news2 w8 _ _ 24) (ones2 _ _ _ _) (by decide) (by decide) (by simp; omega) ?_; intro v9 w9 own9 hg9 _)
  have bel := below_grown (own.alloc _) hg9 hG
  replace va0 := low_cell bel lva0 va0
  replace va1 := low_cell bel lva1 va1
  replace vb0 := low_cell bel lvb0 vb0
  replace vb1 := low_cell bel lvb1 vb1
  replace vp0 := low_cell bel lvp0 vp0
  replace vp1 := low_cell bel lvp1 vp1
  replace vs0 := low_cell bel lvs0 vs0
  replace vs1 := low_cell bel lvs1 vs1
  replace hB := hB.trans (bel.mono hwG)
  replace hG := Nat.le_trans hG bel.size
  clear own bel hg9 hz
  have own : w9.ownsRow G 24 2 v9 2 [.int .i64 (W - h - 1), .int .u64 (u (T1)), .int .i64 (h - l + 1), .int .u64 (u (B))] := own9
  clear own9
  have hz := hB.size
  go_wp2_with fail
  refine (tolds (l) T2 0 E2.out (slice_any W wfW A (l - 1) 0 _)).mono ?_
  rintro e10 w10 ⟨rfl, hb⟩
  replace va0 : w10.cell? ⟨w1.heap.size, 0, none⟩ = some (.int .i64 W) := by first | exact keep_cell hb va0 | exact keep_cell hb (alloc_cell va0 _) | exact keep_cell hb (alloc_cell (alloc_cell va0 _) _) | exact keep_cell hb (by go_simp)
  replace va1 : w10.cell? ⟨w1.heap.size, 1, none⟩ = some (.int .u64 (u A)) := by first | exact keep_cell hb va1 | exact keep_cell hb (alloc_cell va1 _) | exact keep_cell hb (alloc_cell (alloc_cell va1 _) _) | exact keep_cell hb (by go_simp)
  replace vb0 : w10.cell? ⟨w1.heap.size + 1, 0, none⟩ = some (.int .i64 (h - l + 1)) := by first | exact keep_cell hb vb0 | exact keep_cell hb (alloc_cell vb0 _) | exact keep_cell hb (alloc_cell (alloc_cell vb0 _) _) | exact keep_cell hb (by go_simp)
  replace vb1 : w10.cell? ⟨w1.heap.size + 1, 1, none⟩ = some (.int .u64 (u B)) := by first | exact keep_cell hb vb1 | exact keep_cell hb (alloc_cell vb1 _) | exact keep_cell hb (alloc_cell (alloc_cell vb1 _) _) | exact keep_cell hb (by go_simp)
  replace vp0 : w10.cell? ⟨w3.heap.size, 0, none⟩ = some (.int .i64 W) := by first | exact keep_cell hb vp0 | exact keep_cell hb (alloc_cell vp0 _) | exact keep_cell hb (alloc_cell (alloc_cell vp0 _) _) | exact keep_cell hb (by go_simp)
  replace vp1 : w10.cell? ⟨w3.heap.size, 1, none⟩ = some (.int .u64 (u Q)) := by first | exact keep_cell hb vp1 | exact keep_cell hb (alloc_cell vp1 _) | exact keep_cell hb (alloc_cell (alloc_cell vp1 _) _) | exact keep_cell hb (by go_simp)
  replace vs0 : w10.cell? ⟨bs, 0, none⟩ = some (.int .i64 (h - l + 1)) := by first | exact keep_cell hb vs0 | exact keep_cell hb (alloc_cell vs0 _) | exact keep_cell hb (alloc_cell (alloc_cell vs0 _) _) | exact keep_cell hb (by go_simp)
  replace vs1 : w10.cell? ⟨bs, 1, none⟩ = some (.int .u64 (u B)) := by first | exact keep_cell hb vs1 | exact keep_cell hb (alloc_cell vs1 _) | exact keep_cell hb (alloc_cell (alloc_cell vs1 _) _) | exact keep_cell hb (by go_simp)
  replace own := own_below own hb
  replace hG := Nat.le_trans hG hb.size
  replace hB : Below w.heap.size w w10 := by repeat (first | exact Below.refl _ _ | exact hB | (refine Below.setCell ?_ (by first | omega | (simp; omega) | (simp; done)) _) | (refine Below.alloc ?_ (by first | omega | (simp; omega) | (simp; done)) _) | (refine below_drewN ?_ _) | (refine Below.drew ?_) | (refine below_via hb ?_ (by first | omega | (simp; omega) | (simp; done))))
  replace hz := hB.size
  clear hb
  go_upto_region 14 with (fail)
  replace va0 := alloc_cell va0 (.cells #[.int .i64 (l), .int .u64 (u (T2))] 24)
  replace va1 := alloc_cell va1 (.cells #[.int .i64 (l), .int .u64 (u (T2))] 24)
  replace vb0 := alloc_cell vb0 (.cells #[.int .i64 (l), .int .u64 (u (T2))] 24)
  replace vb1 := alloc_cell vb1 (.cells #[.int .i64 (l), .int .u64 (u (T2))] 24)
  replace vp0 := alloc_cell vp0 (.cells #[.int .i64 (l), .int .u64 (u (T2))] 24)
  replace vp1 := alloc_cell vp1 (.cells #[.int .i64 (l), .int .u64 (u (T2))] 24)
  replace vs0 := alloc_cell vs0 (.cells #[.int .i64 (l), .int .u64 (u (T2))] 24)
  replace vs1 := alloc_cell vs1 (.cells #[.int .i64 (l), .int .u64 (u (T2))] 24)
  have vy0 : (w10.alloc (.cells #[.int .i64 (l), .int .u64 (u (T2))] 24)).cell? ⟨w10.heap.size, 0, none⟩ = some (.int .i64 (l)) := by simp
  have vy1 : (w10.alloc (.cells #[.int .i64 (l), .int .u64 (u (T2))] 24)).cell? ⟨w10.heap.size, 1, none⟩ = some (.int .u64 (u (T2))) := by simp
  replace own := own.alloc (.cells #[.int .i64 (l), .int .u64 (u (T2))] 24)
  replace hG : G ≤ (w10.alloc (.cells #[.int .i64 (l), .int .u64 (u (T2))] 24)).heap.size := by simp; omega
  replace hB : Below w.heap.size w (w10.alloc (.cells #[.int .i64 (l), .int .u64 (u (T2))] 24)) := hB.alloc (by first | omega | (simp; omega) | (simp; done)) _
  clear hz
  generalize (w10.alloc (.cells #[.int .i64 (l), .int .u64 (u (T2))] 24)) = w11 at *
  have hz := hB.size
  go_upto_region 15 with (at_builtin; refine wpList_append_own _ rfl (.tmp 99) (.tmp 101) 34 rfl G 24 i0 (.agg #[.int .i64 0, .int .u64 0]) 2 16 Try.underlying34 hi0 hz0 hz1 hz2 rfl (by decide) _ 2 [.int .i64 (W - h - 1), .int .u64 (u (T1)), .int .i64 (h - l + 1), .int .u64 (u (B))] rfl (own.alloc _) ⟨w11.heap.size, 0, none⟩ 1 1 [.int .i64 (l), .int .u64 (u (T2))] rfl rfl (news2 w11 _ _ 24) (ones2 _ _ _ _) (by decide) (by decide) (by simp; omega) ?_; intro v12 w12 own12 hg12 _)
  have bel := below_grown (own.alloc _) hg12 hG
  replace va0 := low_cell bel lva0 va0
  replace va1 := low_cell bel lva1 va1
  replace vb0 := low_cell bel lvb0 vb0
  replace vb1 := low_cell bel lvb1 vb1
  replace vp0 := low_cell bel lvp0 vp0
  replace vp1 := low_cell bel lvp1 vp1
  replace vs0 := low_cell bel lvs0 vs0
  replace vs1 := low_cell bel lvs1 vs1
  replace hB := hB.trans (bel.mono hwG)
  replace hG := Nat.le_trans hG bel.size
  clear own bel hg12 hz
  have own : w12.ownsRow G 24 2 v12 3 [.int .i64 (W - h - 1), .int .u64 (u (T1)), .int .i64 (h - l + 1), .int .u64 (u (B)), .int .i64 (l), .int .u64 (u (T2))] := own12
  clear own12
  have hz := hB.size
  clear vy0 vy1
  obtain ⟨g, cp, rfl⟩ := ownsRow_form own (by decide)
  have hrow : Row w12 g 0 [(W - h - 1, T1), (h - l + 1, B), (l, T2)] := by
    intro k Wk Vk hk
    match k, hk with
    | 0, hk => simp at hk; obtain ⟨rfl, rfl⟩ := hk; exact ⟨by have := own.cellAt 0 (by decide); simpa using this, by have := own.cellAt 1 (by decide); simpa using this, ok_wf okT1⟩
    | 1, hk => simp at hk; obtain ⟨rfl, rfl⟩ := hk; exact ⟨by have := own.cellAt 2 (by decide); simpa using this, by have := own.cellAt 3 (by decide); simpa using this, ok_wf okB⟩
    | 2, hk => simp at hk; obtain ⟨rfl, rfl⟩ := hk; exact ⟨by have := own.cellAt 4 (by decide); simpa using this, by have := own.cellAt 5 (by decide); simpa using this, ok_wf okT2⟩
    | j + 3, hk => simp at hk
  have hgl : g < w12.heap.size := (own.lt g rfl).2
  go_wp2_with fail
  refine (tolds W Q 0 EC.out (cat_any _ [(W - h - 1, T1), (h - l + 1, B), (l, T2)] g 0 cp (by simp) (by simp) hrow hgl)).mono ?_
  rintro e13 w13 ⟨rfl, hb⟩
  replace va0 : w13.cell? ⟨w1.heap.size, 0, none⟩ = some (.int .i64 W) := by first | exact keep_cell hb va0 | exact keep_cell hb (alloc_cell va0 _) | exact keep_cell hb (alloc_cell (alloc_cell va0 _) _) | exact keep_cell hb (by go_simp)
  replace va1 : w13.cell? ⟨w1.heap.size, 1, none⟩ = some (.int .u64 (u A)) := by first | exact keep_cell hb va1 | exact keep_cell hb (alloc_cell va1 _) | exact keep_cell hb (alloc_cell (alloc_cell va1 _) _) | exact keep_cell hb (by go_simp)
  replace vb0 : w13.cell? ⟨w1.heap.size + 1, 0, none⟩ = some (.int .i64 (h - l + 1)) := by first | exact keep_cell hb vb0 | exact keep_cell hb (alloc_cell vb0 _) | exact keep_cell hb (alloc_cell (alloc_cell vb0 _) _) | exact keep_cell hb (by go_simp)
  replace vb1 : w13.cell? ⟨w1.heap.size + 1, 1, none⟩ = some (.int .u64 (u B)) := by first | exact keep_cell hb vb1 | exact keep_cell hb (alloc_cell vb1 _) | exact keep_cell hb (alloc_cell (alloc_cell vb1 _) _) | exact keep_cell hb (by go_simp)
  replace vp0 : w13.cell? ⟨w3.heap.size, 0, none⟩ = some (.int .i64 W) := by first | exact keep_cell hb vp0 | exact keep_cell hb (alloc_cell vp0 _) | exact keep_cell hb (alloc_cell (alloc_cell vp0 _) _) | exact keep_cell hb (by go_simp)
  replace vp1 : w13.cell? ⟨w3.heap.size, 1, none⟩ = some (.int .u64 (u Q)) := by first | exact keep_cell hb vp1 | exact keep_cell hb (alloc_cell vp1 _) | exact keep_cell hb (alloc_cell (alloc_cell vp1 _) _) | exact keep_cell hb (by go_simp)
  replace vs0 : w13.cell? ⟨bs, 0, none⟩ = some (.int .i64 (h - l + 1)) := by first | exact keep_cell hb vs0 | exact keep_cell hb (alloc_cell vs0 _) | exact keep_cell hb (alloc_cell (alloc_cell vs0 _) _) | exact keep_cell hb (by go_simp)
  replace vs1 : w13.cell? ⟨bs, 1, none⟩ = some (.int .u64 (u B)) := by first | exact keep_cell hb vs1 | exact keep_cell hb (alloc_cell vs1 _) | exact keep_cell hb (alloc_cell (alloc_cell vs1 _) _) | exact keep_cell hb (by go_simp)
  replace hB : Below w.heap.size w w13 := by repeat (first | exact Below.refl _ _ | exact hB | (refine Below.setCell ?_ (by first | omega | (simp; omega) | (simp; done)) _) | (refine Below.alloc ?_ (by first | omega | (simp; omega) | (simp; done)) _) | (refine below_drewN ?_ _) | (refine Below.drew ?_) | (refine below_via hb ?_ (by first | omega | (simp; omega) | (simp; done))))
  replace hz := hB.size
  clear hb
  have va0A := alloc_cell va0
  have va1A := alloc_cell va1
  have vb0A := alloc_cell vb0
  have vb1A := alloc_cell vb1
  have vp0A := alloc_cell vp0
  have vp1A := alloc_cell vp1
  have vs0A := alloc_cell vs0
  have vs1A := alloc_cell vs1
  go_wp2_with fail
  refine (live_any _).mono ?_
  rintro e14 w14 ⟨rfl, hb⟩
  clear va0A va1A vb0A vb1A vp0A vp1A vs0A vs1A
  replace va0 : w14.cell? ⟨w1.heap.size, 0, none⟩ = some (.int .i64 W) := by first | exact keep_cell hb va0 | exact keep_cell hb (alloc_cell va0 _) | exact keep_cell hb (alloc_cell (alloc_cell va0 _) _) | exact keep_cell hb (by go_simp)
  replace va1 : w14.cell? ⟨w1.heap.size, 1, none⟩ = some (.int .u64 (u A)) := by first | exact keep_cell hb va1 | exact keep_cell hb (alloc_cell va1 _) | exact keep_cell hb (alloc_cell (alloc_cell va1 _) _) | exact keep_cell hb (by go_simp)
  replace vb0 : w14.cell? ⟨w1.heap.size + 1, 0, none⟩ = some (.int .i64 (h - l + 1)) := by first | exact keep_cell hb vb0 | exact keep_cell hb (alloc_cell vb0 _) | exact keep_cell hb (alloc_cell (alloc_cell vb0 _) _) | exact keep_cell hb (by go_simp)
  replace vb1 : w14.cell? ⟨w1.heap.size + 1, 1, none⟩ = some (.int .u64 (u B)) := by first | exact keep_cell hb vb1 | exact keep_cell hb (alloc_cell vb1 _) | exact keep_cell hb (alloc_cell (alloc_cell vb1 _) _) | exact keep_cell hb (by go_simp)
  replace vp0 : w14.cell? ⟨w3.heap.size, 0, none⟩ = some (.int .i64 W) := by first | exact keep_cell hb vp0 | exact keep_cell hb (alloc_cell vp0 _) | exact keep_cell hb (alloc_cell (alloc_cell vp0 _) _) | exact keep_cell hb (by go_simp)
  replace vp1 : w14.cell? ⟨w3.heap.size, 1, none⟩ = some (.int .u64 (u Q)) := by first | exact keep_cell hb vp1 | exact keep_cell hb (alloc_cell vp1 _) | exact keep_cell hb (alloc_cell (alloc_cell vp1 _) _) | exact keep_cell hb (by go_simp)
  replace vs0 : w14.cell? ⟨bs, 0, none⟩ = some (.int .i64 (h - l + 1)) := by first | exact keep_cell hb vs0 | exact keep_cell hb (alloc_cell vs0 _) | exact keep_cell hb (alloc_cell (alloc_cell vs0 _) _) | exact keep_cell hb (by go_simp)
  replace vs1 : w14.cell? ⟨bs, 1, none⟩ = some (.int .u64 (u B)) := by first | exact keep_cell hb vs1 | exact keep_cell hb (alloc_cell vs1 _) | exact keep_cell hb (alloc_cell (alloc_cell vs1 _) _) | exact keep_cell hb (by go_simp)
  have vc0 : w14.cell? ⟨w13.heap.size, 0, none⟩ = some (.int .i64 W) := keep_cell hb (by first | (simp; done) | (simp [World.cell?_alloc_new]; done))
  have vc1 : w14.cell? ⟨w13.heap.size, 1, none⟩ = some (.int .u64 (u Q)) := keep_cell hb (by first | (simp; done) | (simp [World.cell?_alloc_new]; done))
  replace hB : Below w.heap.size w w14 := by repeat (first | exact Below.refl _ _ | exact hB | (refine Below.setCell ?_ (by first | omega | (simp; omega) | (simp; done)) _) | (refine Below.alloc ?_ (by first | omega | (simp; omega) | (simp; done)) _) | (refine below_drewN ?_ _) | (refine Below.drew ?_) | (refine below_via hb ?_ (by first | omega | (simp; omega) | (simp; done))))
  replace hz := hB.size
  clear hb
  go_wp2
  go_ret
  exact ⟨rfl, hB⟩

set_option maxRecDepth 100000 in
set_option maxHeartbeats 4000000 in
theorem walk_10 (a0 : Int) (w0 : (Lit.int .u8 a0).wf = true) (a1 : Int) (w1 : (Lit.int .u64 a1).wf = true) (a2 : Int) (w2 : (Lit.int .u8 a2).wf = true) (a3 : Int) (w3 : (Lit.int .u8 a3).wf = true) (a4 : Int) (w4 : (Lit.int .u64 a4).wf = true) (hc1 : (a2 % (1 + a0 % 64) + 1 < 1 + a0 % 64)) (hc2 : ¬ (0 < a3 % (a2 % (1 + a0 % 64) + 1))) (w : World) :
    Calls Try.prog 9 #[.int .u8 a0, .int .u64 a1, .int .u8 a2, .int .u8 a3, .int .u64 a4] w fun e w' => e = .returned (.bool true) ∧ Below w.heap.size w w' := by
  obtain ⟨r0, r1⟩ := bounds_u8 w0
  obtain ⟨W, hW⟩ : ∃ W : Int, W = 1 + a0 % 64 := ⟨_, rfl⟩
  have W1 : 1 ≤ W := by omega
  have W2 : W ≤ 64 := by omega
  have HW := Lib.hid hW
  clear hW
  obtain ⟨xa, rfl⟩ := u_of a1 w1
  obtain ⟨A, hA⟩ : ∃ A : BitVec 64, A = xa &&& msk W := ⟨_, rfl⟩
  have okA : ok W A = true := by rw [hA]; exact ok_masked W1 W2 _
  have HA := Lib.hid hA
  clear hA
  obtain ⟨xy, rfl⟩ := u_of a4 w4
  obtain ⟨s0, s1⟩ := bounds_u8 w2
  obtain ⟨p0, p1⟩ := bounds_u8 w3
  have m0 := Int.emod_nonneg a2 (show W ≠ 0 by omega)
  have m1 := Int.emod_lt_of_pos a2 (show 0 < W by omega)
  have n1 : wrap64 a2 = a2 := IntWalk.wrap64_in _ ⟨by omega, by omega⟩
  have n2 : wrap64 a3 = a3 := IntWalk.wrap64_in _ ⟨by omega, by omega⟩
  have t1 : Int.tmod a2 W = a2 % W := Int.tmod_eq_emod_of_nonneg s0
  rw [← HW.out] at hc1 hc2
  obtain ⟨h, hh⟩ : ∃ h, a2 % W = h := ⟨_, rfl⟩
  rw [hh] at m0 m1 t1 hc1 hc2
  have q0 := Int.emod_nonneg a3 (show h + 1 ≠ 0 by omega)
  have q1 := Int.emod_lt_of_pos a3 (show 0 < h + 1 by omega)
  have t2 : Int.tmod a3 (h + 1) = a3 % (h + 1) := Int.tmod_eq_emod_of_nonneg p0
  obtain ⟨l, hl⟩ : ∃ l, a3 % (h + 1) = l := ⟨_, rfl⟩
  rw [hl] at q0 q1 t2 hc2
  have z1 : (W == 0) = false := by rw [beq_eq_false_iff_ne]; omega
  have z2 : (h + 1 == 0) = false := by rw [beq_eq_false_iff_ne]; omega
  have z3 : W ≠ 0 := by omega
  have z4 : h + 1 ≠ 0 := by omega
  have b1 : 1 ≤ h - l + 1 := by omega
  have b2 : h - l + 1 ≤ 64 := by omega
  obtain ⟨B, hB0⟩ : ∃ B, xy &&& msk (h - l + 1) = B := ⟨_, rfl⟩
  have okB : ok (h - l + 1) B = true := hB0 ▸ ok_masked b1 b2 _
  have hlh : l ≤ h := by omega
  obtain ⟨Q, hQ⟩ : ∃ Q, setv W h l A B = Q := ⟨_, rfl⟩
  have okQ : ok W Q = true := hQ ▸ ok_setv W1 W2
  have ES : Hid (sSet W A h l (h - l + 1) B = (W, Q, 0)) := Lib.hid (hQ ▸ e_set okA q0 hlh m1 okB)
  have EL : Hid (sSlice W Q h l = (h - l + 1, B, 0)) := Lib.hid (hQ ▸ e_look okA q0 hlh m1 okB)
  have wfW := ok_wf okA
  have wfN := ok_wf okB
  obtain ⟨T1, hT1⟩ : ∃ T, upper W h A = T := ⟨_, rfl⟩
  have E1 : Hid (sSlice W A (W - 1) (h + 1) = (W - h - 1, T1, 0)) := Lib.hid (hT1 ▸ e_upper okA m0 hc1)
  have d1 : decide (h + 1 < W) = true := by simpa using hc1
  have hT1 := Lib.hid hT1
  have d2 : decide (0 < l) = false := by simpa using hc2
  have l0 : l = 0 := by omega
  have Hl0 := Lib.hid l0
  clear l0
  have EC : Hid (sCat [(W - h - 1, T1), (h - l + 1, B)] = (W, Q, 0)) := Lib.hid (by rw [← hT1.out, ← hQ]; exact cat_hi okA Hl0.out hlh hc1 okB)
  have hQ := Lib.hid hQ
  clear m0
  have HH := Lib.hid hh
  have HL := Lib.hid hl
  have m0 : 0 ≤ h := by omega
  clear hc2
  have okT1 : ok (W - h - 1) T1 = true := hT1.out ▸ ok_upper hc1 W2 m0
  go_enter Try.func9, Try.ntmps9
  have hB : Below w.heap.size w w := Below.refl _ _
  have hz := hB.size
  go_wp2_with fail
  refine (masked_is a0 ⟨r0, r1⟩ xa _ rfl W A HW.out HA.out _).mono ?_
  rintro e1 w1 ⟨rfl, hb⟩
  replace hB : Below w.heap.size w w1 := by repeat (first | exact Below.refl _ _ | exact hB | (refine Below.setCell ?_ (by first | omega | (simp; omega) | (simp; done)) _) | (refine Below.alloc ?_ (by first | omega | (simp; omega) | (simp; done)) _) | (refine below_drewN ?_ _) | (refine Below.drew ?_) | (refine below_via hb ?_ (by first | omega | (simp; omega) | (simp; done))))
  replace hz := hB.size
  clear hb
  go_wp2_with (go_at_call 19; refine (ref_mask _ _).mono ?_; rintro e2 w2 ⟨rfl, rfl⟩)
  have va0 : ((w1.alloc (.cells #[.int .i64 (W), .int .u64 (u (A))] 24)).alloc (.cells #[.int .i64 (h - l + 1), .int .u64 (u (B))] 24)).cell? ⟨w1.heap.size, 0, none⟩ = some (.int .i64 (W)) := by first | (simp; done) | exact alloc_cell (by simp) _
  have va1 : ((w1.alloc (.cells #[.int .i64 (W), .int .u64 (u (A))] 24)).alloc (.cells #[.int .i64 (h - l + 1), .int .u64 (u (B))] 24)).cell? ⟨w1.heap.size, 1, none⟩ = some (.int .u64 (u (A))) := by first | (simp; done) | exact alloc_cell (by simp) _
  have vb0 : ((w1.alloc (.cells #[.int .i64 (W), .int .u64 (u (A))] 24)).alloc (.cells #[.int .i64 (h - l + 1), .int .u64 (u (B))] 24)).cell? ⟨w1.heap.size + 1, 0, none⟩ = some (.int .i64 (h - l + 1)) := by first | (simp; done) | exact alloc_cell (by simp) _
  have vb1 : ((w1.alloc (.cells #[.int .i64 (W), .int .u64 (u (A))] 24)).alloc (.cells #[.int .i64 (h - l + 1), .int .u64 (u (B))] 24)).cell? ⟨w1.heap.size + 1, 1, none⟩ = some (.int .u64 (u (B))) := by first | (simp; done) | exact alloc_cell (by simp) _
  replace hB : Below w.heap.size w ((w1.alloc (.cells #[.int .i64 (W), .int .u64 (u (A))] 24)).alloc (.cells #[.int .i64 (h - l + 1), .int .u64 (u (B))] 24)) := (hB.alloc (by first | omega | (simp; omega) | (simp; done)) _).alloc (by first | omega | (simp; omega) | (simp; done)) _
  clear hz
  generalize ((w1.alloc (.cells #[.int .i64 (W), .int .u64 (u (A))] 24)).alloc (.cells #[.int .i64 (h - l + 1), .int .u64 (u (B))] 24)) = w2 at *
  have hz := hB.size
  go_wp2_with fail
  refine (tolds (W) Q 0 ES.out (set_any W wfW A h l (h - l + 1) wfN B _)).mono ?_
  rintro e3 w3 ⟨rfl, hb⟩
  replace va0 : w3.cell? ⟨w1.heap.size, 0, none⟩ = some (.int .i64 W) := by first | exact keep_cell hb va0 | exact keep_cell hb (alloc_cell va0 _) | exact keep_cell hb (alloc_cell (alloc_cell va0 _) _) | exact keep_cell hb (by go_simp)
  replace va1 : w3.cell? ⟨w1.heap.size, 1, none⟩ = some (.int .u64 (u A)) := by first | exact keep_cell hb va1 | exact keep_cell hb (alloc_cell va1 _) | exact keep_cell hb (alloc_cell (alloc_cell va1 _) _) | exact keep_cell hb (by go_simp)
  replace vb0 : w3.cell? ⟨w1.heap.size + 1, 0, none⟩ = some (.int .i64 (h - l + 1)) := by first | exact keep_cell hb vb0 | exact keep_cell hb (alloc_cell vb0 _) | exact keep_cell hb (alloc_cell (alloc_cell vb0 _) _) | exact keep_cell hb (by go_simp)
  replace vb1 : w3.cell? ⟨w1.heap.size + 1, 1, none⟩ = some (.int .u64 (u B)) := by first | exact keep_cell hb vb1 | exact keep_cell hb (alloc_cell vb1 _) | exact keep_cell hb (alloc_cell (alloc_cell vb1 _) _) | exact keep_cell hb (by go_simp)
  replace hB : Below w.heap.size w w3 := by repeat (first | exact Below.refl _ _ | exact hB | (refine Below.setCell ?_ (by first | omega | (simp; omega) | (simp; done)) _) | (refine Below.alloc ?_ (by first | omega | (simp; omega) | (simp; done)) _) | (refine below_drewN ?_ _) | (refine Below.drew ?_) | (refine below_via hb ?_ (by first | omega | (simp; omega) | (simp; done))))
  replace hz := hB.size
  clear hb
  have va0A := alloc_cell va0
  have va1A := alloc_cell va1
  have vb0A := alloc_cell vb0
  have vb1A := alloc_cell vb1
  go_wp2_with fail
  refine (tolds (h - l + 1) B 0 EL.out (slice_any W wfW Q h l _)).mono ?_
  rintro e4 w4 ⟨rfl, hb⟩
  clear va0A va1A vb0A vb1A
  replace va0 : w4.cell? ⟨w1.heap.size, 0, none⟩ = some (.int .i64 W) := by first | exact keep_cell hb va0 | exact keep_cell hb (alloc_cell va0 _) | exact keep_cell hb (alloc_cell (alloc_cell va0 _) _) | exact keep_cell hb (by go_simp)
  replace va1 : w4.cell? ⟨w1.heap.size, 1, none⟩ = some (.int .u64 (u A)) := by first | exact keep_cell hb va1 | exact keep_cell hb (alloc_cell va1 _) | exact keep_cell hb (alloc_cell (alloc_cell va1 _) _) | exact keep_cell hb (by go_simp)
  replace vb0 : w4.cell? ⟨w1.heap.size + 1, 0, none⟩ = some (.int .i64 (h - l + 1)) := by first | exact keep_cell hb vb0 | exact keep_cell hb (alloc_cell vb0 _) | exact keep_cell hb (alloc_cell (alloc_cell vb0 _) _) | exact keep_cell hb (by go_simp)
  replace vb1 : w4.cell? ⟨w1.heap.size + 1, 1, none⟩ = some (.int .u64 (u B)) := by first | exact keep_cell hb vb1 | exact keep_cell hb (alloc_cell vb1 _) | exact keep_cell hb (alloc_cell (alloc_cell vb1 _) _) | exact keep_cell hb (by go_simp)
  have vp0 : w4.cell? ⟨w3.heap.size, 0, none⟩ = some (.int .i64 W) := keep_cell hb (by first | (simp; done) | (simp [World.cell?_alloc_new]; done))
  have vp1 : w4.cell? ⟨w3.heap.size, 1, none⟩ = some (.int .u64 (u Q)) := keep_cell hb (by first | (simp; done) | (simp [World.cell?_alloc_new]; done))
  replace hB : Below w.heap.size w w4 := by repeat (first | exact Below.refl _ _ | exact hB | (refine Below.setCell ?_ (by first | omega | (simp; omega) | (simp; done)) _) | (refine Below.alloc ?_ (by first | omega | (simp; omega) | (simp; done)) _) | (refine below_drewN ?_ _) | (refine Below.drew ?_) | (refine below_via hb ?_ (by first | omega | (simp; omega) | (simp; done))))
  replace hz := hB.size
  clear hb
  go_upto_region 8 with (fail)
  have lva0 : w1.heap.size < w4.heap.size + 1 := by have := lt_of_cell' va0; omega
  have lva1 : w1.heap.size < w4.heap.size + 1 := by have := lt_of_cell' va1; omega
  have lvb0 : w1.heap.size + 1 < w4.heap.size + 1 := by have := lt_of_cell' vb0; omega
  have lvb1 : w1.heap.size + 1 < w4.heap.size + 1 := by have := lt_of_cell' vb1; omega
  have lvp0 : w3.heap.size < w4.heap.size + 1 := by have := lt_of_cell' vp0; omega
  have lvp1 : w3.heap.size < w4.heap.size + 1 := by have := lt_of_cell' vp1; omega
  replace va0 : ((w4.alloc (.cells #[.int .i64 (h - l + 1), .int .u64 (u (B))] 24)).alloc (.cells #[] 24)).cell? ⟨w1.heap.size, 0, none⟩ = some (.int .i64 W) := alloc_cell (alloc_cell va0 _) _
  replace va1 : ((w4.alloc (.cells #[.int .i64 (h - l + 1), .int .u64 (u (B))] 24)).alloc (.cells #[] 24)).cell? ⟨w1.heap.size, 1, none⟩ = some (.int .u64 (u A)) := alloc_cell (alloc_cell va1 _) _
  replace vb0 : ((w4.alloc (.cells #[.int .i64 (h - l + 1), .int .u64 (u (B))] 24)).alloc (.cells #[] 24)).cell? ⟨w1.heap.size + 1, 0, none⟩ = some (.int .i64 (h - l + 1)) := alloc_cell (alloc_cell vb0 _) _
  replace vb1 : ((w4.alloc (.cells #[.int .i64 (h - l + 1), .int .u64 (u (B))] 24)).alloc (.cells #[] 24)).cell? ⟨w1.heap.size + 1, 1, none⟩ = some (.int .u64 (u B)) := alloc_cell (alloc_cell vb1 _) _
  replace vp0 : ((w4.alloc (.cells #[.int .i64 (h - l + 1), .int .u64 (u (B))] 24)).alloc (.cells #[] 24)).cell? ⟨w3.heap.size, 0, none⟩ = some (.int .i64 W) := alloc_cell (alloc_cell vp0 _) _
  replace vp1 : ((w4.alloc (.cells #[.int .i64 (h - l + 1), .int .u64 (u (B))] 24)).alloc (.cells #[] 24)).cell? ⟨w3.heap.size, 1, none⟩ = some (.int .u64 (u Q)) := alloc_cell (alloc_cell vp1 _) _
  have vs0 : ((w4.alloc (.cells #[.int .i64 (h - l + 1), .int .u64 (u (B))] 24)).alloc (.cells #[] 24)).cell? ⟨w4.heap.size, 0, none⟩ = some (.int .i64 (h - l + 1)) := alloc_cell (by simp) _
  have lvs0 : w4.heap.size < w4.heap.size + 1 := by omega
  have vs1 : ((w4.alloc (.cells #[.int .i64 (h - l + 1), .int .u64 (u (B))] 24)).alloc (.cells #[] 24)).cell? ⟨w4.heap.size, 1, none⟩ = some (.int .u64 (u B)) := alloc_cell (by simp) _
  have lvs1 : w4.heap.size < w4.heap.size + 1 := by omega
  have own : ((w4.alloc (.cells #[.int .i64 (h - l + 1), .int .u64 (u (B))] 24)).alloc (.cells #[] 24)).ownsRow (w4.heap.size + 1) 24 2 (.slice (some ⟨w4.heap.size + 1, 0, none⟩) 0 0) 0 [] := by have := own_new (w4.alloc (.cells #[.int .i64 (h - l + 1), .int .u64 (u (B))] 24)) 24; simpa using this
  have hG : w4.heap.size + 1 ≤ ((w4.alloc (.cells #[.int .i64 (h - l + 1), .int .u64 (u (B))] 24)).alloc (.cells #[] 24)).heap.size := by simp
  have hwG : w.heap.size ≤ w4.heap.size + 1 := by omega
  replace hB : Below w.heap.size w ((w4.alloc (.cells #[.int .i64 (h - l + 1), .int .u64 (u (B))] 24)).alloc (.cells #[] 24)) := (hB.alloc (by first | omega | (simp; omega) | (simp; done)) _).alloc (by first | omega | (simp; omega) | (simp; done)) _
  clear hz
  generalize ((w4.alloc (.cells #[.int .i64 (h - l + 1), .int .u64 (u (B))] 24)).alloc (.cells #[] 24)) = w5 at *
  generalize w4.heap.size + 1 = G at *
  generalize w4.heap.size = bs at *
  have hz := hB.size
  obtain ⟨i0, hi0, hz0, hz1, hz2⟩ := info_parts info_bits
  go_wp2_with fail
  refine (tolds (W - h - 1) T1 0 E1.out (slice_any W wfW A (W - 1) (h + 1) _)).mono ?_
  rintro e6 w6 ⟨rfl, hb⟩
  replace va0 : w6.cell? ⟨w1.heap.size, 0, none⟩ = some (.int .i64 W) := by first | exact keep_cell hb va0 | exact keep_cell hb (alloc_cell va0 _) | exact keep_cell hb (alloc_cell (alloc_cell va0 _) _) | exact keep_cell hb (by go_simp)
  replace va1 : w6.cell? ⟨w1.heap.size, 1, none⟩ = some (.int .u64 (u A)) := by first | exact keep_cell hb va1 | exact keep_cell hb (alloc_cell va1 _) | exact keep_cell hb (alloc_cell (alloc_cell va1 _) _) | exact keep_cell hb (by go_simp)
  replace vb0 : w6.cell? ⟨w1.heap.size + 1, 0, none⟩ = some (.int .i64 (h - l + 1)) := by first | exact keep_cell hb vb0 | exact keep_cell hb (alloc_cell vb0 _) | exact keep_cell hb (alloc_cell (alloc_cell vb0 _) _) | exact keep_cell hb (by go_simp)
  replace vb1 : w6.cell? ⟨w1.heap.size + 1, 1, none⟩ = some (.int .u64 (u B)) := by first | exact keep_cell hb vb1 | exact keep_cell hb (alloc_cell vb1 _) | exact keep_cell hb (alloc_cell (alloc_cell vb1 _) _) | exact keep_cell hb (by go_simp)
  replace vp0 : w6.cell? ⟨w3.heap.size, 0, none⟩ = some (.int .i64 W) := by first | exact keep_cell hb vp0 | exact keep_cell hb (alloc_cell vp0 _) | exact keep_cell hb (alloc_cell (alloc_cell vp0 _) _) | exact keep_cell hb (by go_simp)
  replace vp1 : w6.cell? ⟨w3.heap.size, 1, none⟩ = some (.int .u64 (u Q)) := by first | exact keep_cell hb vp1 | exact keep_cell hb (alloc_cell vp1 _) | exact keep_cell hb (alloc_cell (alloc_cell vp1 _) _) | exact keep_cell hb (by go_simp)
  replace vs0 : w6.cell? ⟨bs, 0, none⟩ = some (.int .i64 (h - l + 1)) := by first | exact keep_cell hb vs0 | exact keep_cell hb (alloc_cell vs0 _) | exact keep_cell hb (alloc_cell (alloc_cell vs0 _) _) | exact keep_cell hb (by go_simp)
  replace vs1 : w6.cell? ⟨bs, 1, none⟩ = some (.int .u64 (u B)) := by first | exact keep_cell hb vs1 | exact keep_cell hb (alloc_cell vs1 _) | exact keep_cell hb (alloc_cell (alloc_cell vs1 _) _) | exact keep_cell hb (by go_simp)
  replace own := own_below own hb
  replace hG := Nat.le_trans hG hb.size
  replace hB : Below w.heap.size w w6 := by repeat (first | exact Below.refl _ _ | exact hB | (refine Below.setCell ?_ (by first | omega | (simp; omega) | (simp; done)) _) | (refine Below.alloc ?_ (by first | omega | (simp; omega) | (simp; done)) _) | (refine below_drewN ?_ _) | (refine Below.drew ?_) | (refine below_via hb ?_ (by first | omega | (simp; omega) | (simp; done))))
  replace hz := hB.size
  clear hb
  go_upto_region 10 with (fail)
  replace va0 := alloc_cell va0 (.cells #[.int .i64 (W - h - 1), .int .u64 (u (T1))] 24)
  replace va1 := alloc_cell va1 (.cells #[.int .i64 (W - h - 1), .int .u64 (u (T1))] 24)
  replace vb0 := alloc_cell vb0 (.cells #[.int .i64 (W - h - 1), .int .u64 (u (T1))] 24)
  replace vb1 := alloc_cell vb1 (.cells #[.int .i64 (W - h - 1), .int .u64 (u (T1))] 24)
  replace vp0 := alloc_cell vp0 (.cells #[.int .i64 (W - h - 1), .int .u64 (u (T1))] 24)
  replace vp1 := alloc_cell vp1 (.cells #[.int .i64 (W - h - 1), .int .u64 (u (T1))] 24)
  replace vs0 := alloc_cell vs0 (.cells #[.int .i64 (W - h - 1), .int .u64 (u (T1))] 24)
  replace vs1 := alloc_cell vs1 (.cells #[.int .i64 (W - h - 1), .int .u64 (u (T1))] 24)
  have vt0 : (w6.alloc (.cells #[.int .i64 (W - h - 1), .int .u64 (u (T1))] 24)).cell? ⟨w6.heap.size, 0, none⟩ = some (.int .i64 (W - h - 1)) := by simp
  have vt1 : (w6.alloc (.cells #[.int .i64 (W - h - 1), .int .u64 (u (T1))] 24)).cell? ⟨w6.heap.size, 1, none⟩ = some (.int .u64 (u (T1))) := by simp
  replace own := own.alloc (.cells #[.int .i64 (W - h - 1), .int .u64 (u (T1))] 24)
  replace hG : G ≤ (w6.alloc (.cells #[.int .i64 (W - h - 1), .int .u64 (u (T1))] 24)).heap.size := by simp; omega
  replace hB : Below w.heap.size w (w6.alloc (.cells #[.int .i64 (W - h - 1), .int .u64 (u (T1))] 24)) := hB.alloc (by first | omega | (simp; omega) | (simp; done)) _
  clear hz
  generalize (w6.alloc (.cells #[.int .i64 (W - h - 1), .int .u64 (u (T1))] 24)) = w7 at *
  have hz := hB.size
  go_upto_region 11 with (at_builtin; refine wpList_append_own _ rfl (.tmp 82) (.tmp 84) 34 rfl G 24 i0 (.agg #[.int .i64 0, .int .u64 0]) 2 16 Try.underlying34 hi0 hz0 hz1 hz2 rfl (by decide) _ 0 [] rfl (own.alloc _) ⟨w7.heap.size, 0, none⟩ 1 1 [.int .i64 (W - h - 1), .int .u64 (u (T1))] rfl rfl (news2 w7 _ _ 24) (ones2 _ _ _ _) (by decide) (by decide) (by simp; omega) ?_; intro v8 w8 own8 hg8 _)
  have bel := below_grown (own.alloc _) hg8 hG
  replace va0 := low_cell bel lva0 va0
  replace va1 := low_cell bel lva1 va1
  replace vb0 := low_cell bel lvb0 vb0
  replace vb1 := low_cell bel lvb1 vb1
  replace vp0 := low_cell bel lvp0 vp0
  replace vp1 := low_cell bel lvp1 vp1
  replace vs0 := low_cell bel lvs0 vs0
  replace vs1 := low_cell bel lvs1 vs1
  replace hB := hB.trans (bel.mono hwG)
  replace hG := Nat.le_trans hG bel.size
  clear own bel hg8 hz
  have own : w8.ownsRow G 24 2 v8 1 [.int .i64 (W - h - 1), .int .u64 (u (T1))] := own8
  clear own8
  have hz := hB.size
  clear vt0 vt1
  go_upto_region 12 with (at_builtin; refine wpList_append_own _ rfl (.tmp 86) (.tmp 88) 34 rfl G 24 i0 (.agg #[.int .i64 0, .int .u64 0]) 2 16 Try.underlying34 hi0 hz0 hz1 hz2 rfl (by decide) _ 1 [.int .i64 (W - h - 1), .int .u64 (u (T1))] rfl (own.alloc _) ⟨w8.heap.size, 0, none⟩ 1 1 [.int .i64 (h - l + 1), .int .u64 (u (B))] rfl rfl (news2 w8 _ _ 24) (ones2 _ _ _ _) (by decide) (by decide) (by simp; omega) ?_; intro v9 w9 own9 hg9 _)
  have bel := below_grown (own.alloc _) hg9 hG
  replace va0 := low_cell bel lva0 va0
  replace va1 := low_cell bel lva1 va1
  replace vb0 := low_cell bel lvb0 vb0
  replace vb1 := low_cell bel lvb1 vb1
  replace vp0 := low_cell bel lvp0 vp0
  replace vp1 := low_cell bel lvp1 vp1
  replace vs0 := low_cell bel lvs0 vs0
  replace vs1 := low_cell bel lvs1 vs1
  replace hB := hB.trans (bel.mono hwG)
  replace hG := Nat.le_trans hG bel.size
  clear own bel hg9 hz
  have own : w9.ownsRow G 24 2 v9 2 [.int .i64 (W - h - 1), .int .u64 (u (T1)), .int .i64 (h - l + 1), .int .u64 (u (B))] := own9
  clear own9
  have hz := hB.size
  go_upto_region 15 with (fail)
  obtain ⟨g, cp, rfl⟩ := ownsRow_form own (by decide)
  have hrow : Row w9 g 0 [(W - h - 1, T1), (h - l + 1, B)] := by
    intro k Wk Vk hk
    match k, hk with
    | 0, hk => simp at hk; obtain ⟨rfl, rfl⟩ := hk; exact ⟨by have := own.cellAt 0 (by decide); simpa using this, by have := own.cellAt 1 (by decide); simpa using this, ok_wf okT1⟩
    | 1, hk => simp at hk; obtain ⟨rfl, rfl⟩ := hk; exact ⟨by have := own.cellAt 2 (by decide); simpa using this, by have := own.cellAt 3 (by decide); simpa using this, ok_wf okB⟩
    | j + 2, hk => simp at hk
  have hgl : g < w9.heap.size := (own.lt g rfl).2
  go_wp2_with fail
  refine (tolds W Q 0 EC.out (cat_any _ [(W - h - 1, T1), (h - l + 1, B)] g 0 cp (by simp) (by simp) hrow hgl)).mono ?_
  rintro e10 w10 ⟨rfl, hb⟩
  replace va0 : w10.cell? ⟨w1.heap.size, 0, none⟩ = some (.int .i64 W) := by first | exact keep_cell hb va0 | exact keep_cell hb (alloc_cell va0 _) | exact keep_cell hb (alloc_cell (alloc_cell va0 _) _) | exact keep_cell hb (by go_simp)
  replace va1 : w10.cell? ⟨w1.heap.size, 1, none⟩ = some (.int .u64 (u A)) := by first | exact keep_cell hb va1 | exact keep_cell hb (alloc_cell va1 _) | exact keep_cell hb (alloc_cell (alloc_cell va1 _) _) | exact keep_cell hb (by go_simp)
  replace vb0 : w10.cell? ⟨w1.heap.size + 1, 0, none⟩ = some (.int .i64 (h - l + 1)) := by first | exact keep_cell hb vb0 | exact keep_cell hb (alloc_cell vb0 _) | exact keep_cell hb (alloc_cell (alloc_cell vb0 _) _) | exact keep_cell hb (by go_simp)
  replace vb1 : w10.cell? ⟨w1.heap.size + 1, 1, none⟩ = some (.int .u64 (u B)) := by first | exact keep_cell hb vb1 | exact keep_cell hb (alloc_cell vb1 _) | exact keep_cell hb (alloc_cell (alloc_cell vb1 _) _) | exact keep_cell hb (by go_simp)
  replace vp0 : w10.cell? ⟨w3.heap.size, 0, none⟩ = some (.int .i64 W) := by first | exact keep_cell hb vp0 | exact keep_cell hb (alloc_cell vp0 _) | exact keep_cell hb (alloc_cell (alloc_cell vp0 _) _) | exact keep_cell hb (by go_simp)
  replace vp1 : w10.cell? ⟨w3.heap.size, 1, none⟩ = some (.int .u64 (u Q)) := by first | exact keep_cell hb vp1 | exact keep_cell hb (alloc_cell vp1 _) | exact keep_cell hb (alloc_cell (alloc_cell vp1 _) _) | exact keep_cell hb (by go_simp)
  replace vs0 : w10.cell? ⟨bs, 0, none⟩ = some (.int .i64 (h - l + 1)) := by first | exact keep_cell hb vs0 | exact keep_cell hb (alloc_cell vs0 _) | exact keep_cell hb (alloc_cell (alloc_cell vs0 _) _) | exact keep_cell hb (by go_simp)
  replace vs1 : w10.cell? ⟨bs, 1, none⟩ = some (.int .u64 (u B)) := by first | exact keep_cell hb vs1 | exact keep_cell hb (alloc_cell vs1 _) | exact keep_cell hb (alloc_cell (alloc_cell vs1 _) _) | exact keep_cell hb (by go_simp)
  replace hB : Below w.heap.size w w10 := by repeat (first | exact Below.refl _ _ | exact hB | (refine Below.setCell ?_ (by first | omega | (simp; omega) | (simp; done)) _) | (refine Below.alloc ?_ (by first | omega | (simp; omega) | (simp; done)) _) | (refine below_drewN ?_ _) | (refine Below.drew ?_) | (refine below_via hb ?_ (by first | omega | (simp; omega) | (simp; done))))
  replace hz := hB.size
  clear hb
  have va0A := alloc_cell va0
  have va1A := alloc_cell va1
  have vb0A := alloc_cell vb0
  have vb1A := alloc_cell vb1
  have vp0A := alloc_cell vp0
  have vp1A := alloc_cell vp1
  have vs0A := alloc_cell vs0
  have vs1A := alloc_cell vs1
  go_wp2_with fail
  refine (live_any _).mono ?_
  rintro e11 w11 ⟨rfl, hb⟩
  clear va0A va1A vb0A vb1A vp0A vp1A vs0A vs1A
  replace va0 : w11.cell? ⟨w1.heap.size, 0, none⟩ = some (.int .i64 W) := by first | exact keep_cell hb va0 | exact keep_cell hb (alloc_cell va0 _) | exact keep_cell hb (alloc_cell (alloc_cell va0 _) _) | exact keep_cell hb (by go_simp)
  replace va1 : w11.cell? ⟨w1.heap.size, 1, none⟩ = some (.int .u64 (u A)) := by first | exact keep_cell hb va1 | exact keep_cell hb (alloc_cell va1 _) | exact keep_cell hb (alloc_cell (alloc_cell va1 _) _) | exact keep_cell hb (by go_simp)
  replace vb0 : w11.cell? ⟨w1.heap.size + 1, 0, none⟩ = some (.int .i64 (h - l + 1)) := by first | exact keep_cell hb vb0 | exact keep_cell hb (alloc_cell vb0 _) | exact keep_cell hb (alloc_cell (alloc_cell vb0 _) _) | exact keep_cell hb (by go_simp)
  replace vb1 : w11.cell? ⟨w1.heap.size + 1, 1, none⟩ = some (.int .u64 (u B)) := by first | exact keep_cell hb vb1 | exact keep_cell hb (alloc_cell vb1 _) | exact keep_cell hb (alloc_cell (alloc_cell vb1 _) _) | exact keep_cell hb (by go_simp)
  replace vp0 : w11.cell? ⟨w3.heap.size, 0, none⟩ = some (.int .i64 W) := by first | exact keep_cell hb vp0 | exact keep_cell hb (alloc_cell vp0 _) | exact keep_cell hb (alloc_cell (alloc_cell vp0 _) _) | exact keep_cell hb (by go_simp)
  replace vp1 : w11.cell? ⟨w3.heap.size, 1, none⟩ = some (.int .u64 (u Q)) := by first | exact keep_cell hb vp1 | exact keep_cell hb (alloc_cell vp1 _) | exact keep_cell hb (alloc_cell (alloc_cell vp1 _) _) | exact keep_cell hb (by go_simp)
  replace vs0 : w11.cell? ⟨bs, 0, none⟩ = some (.int .i64 (h - l + 1)) := by first | exact keep_cell hb vs0 | exact keep_cell hb (alloc_cell vs0 _) | exact keep_cell hb (alloc_cell (alloc_cell vs0 _) _) | exact keep_cell hb (by go_simp)
  replace vs1 : w11.cell? ⟨bs, 1, none⟩ = some (.int .u64 (u B)) := by first | exact keep_cell hb vs1 | exact keep_cell hb (alloc_cell vs1 _) | exact keep_cell hb (alloc_cell (alloc_cell vs1 _) _) | exact keep_cell hb (by go_simp)
  have vc0 : w11.cell? ⟨w10.heap.size, 0, none⟩ = some (.int .i64 W) := keep_cell hb (by first | (simp; done) | (simp [World.cell?_alloc_new]; done))
  have vc1 : w11.cell? ⟨w10.heap.size, 1, none⟩ = some (.int .u64 (u Q)) := keep_cell hb (by first | (simp; done) | (simp [World.cell?_alloc_new]; done))
  replace hB : Below w.heap.size w w11 := by repeat (first | exact Below.refl _ _ | exact hB | (refine Below.setCell ?_ (by first | omega | (simp; omega) | (simp; done)) _) | (refine Below.alloc ?_ (by first | omega | (simp; omega) | (simp; done)) _) | (refine below_drewN ?_ _) | (refine Below.drew ?_) | (refine below_via hb ?_ (by first | omega | (simp; omega) | (simp; done))))
  replace hz := hB.size
  clear hb
  go_wp2
  go_ret
  exact ⟨rfl, hB⟩

set_option maxRecDepth 100000 in
set_option maxHeartbeats 4000000 in
theorem walk_01 (a0 : Int) (w0 : (Lit.int .u8 a0).wf = true) (a1 : Int) (w1 : (Lit.int .u64 a1).wf = true) (a2 : Int) (w2 : (Lit.int .u8 a2).wf = true) (a3 : Int) (w3 : (Lit.int .u8 a3).wf = true) (a4 : Int) (w4 : (Lit.int .u64 a4).wf = true) (hc1 : ¬ (a2 % (1 + a0 % 64) + 1 < 1 + a0 % 64)) (hc2 : (0 < a3 % (a2 % (1 + a0 % 64) + 1))) (w : World) :
    Calls Try.prog 9 #[.int .u8 a0, .int .u64 a1, .int .u8 a2, .int .u8 a3, .int .u64 a4] w fun e w' => e = .returned (.bool true) ∧ Below w.heap.size w w' := by
  obtain ⟨r0, r1⟩ := bounds_u8 w0
  obtain ⟨W, hW⟩ : ∃ W : Int, W = 1 + a0 % 64 := ⟨_, rfl⟩
  have W1 : 1 ≤ W := by omega
  have W2 : W ≤ 64 := by omega
  have HW := Lib.hid hW
  clear hW
  obtain ⟨xa, rfl⟩ := u_of a1 w1
  obtain ⟨A, hA⟩ : ∃ A : BitVec 64, A = xa &&& msk W := ⟨_, rfl⟩
  have okA : ok W A = true := by rw [hA]; exact ok_masked W1 W2 _
  have HA := Lib.hid hA
  clear hA
  obtain ⟨xy, rfl⟩ := u_of a4 w4
  obtain ⟨s0, s1⟩ := bounds_u8 w2
  obtain ⟨p0, p1⟩ := bounds_u8 w3
  have m0 := Int.emod_nonneg a2 (show W ≠ 0 by omega)
  have m1 := Int.emod_lt_of_pos a2 (show 0 < W by omega)
  have n1 : wrap64 a2 = a2 := IntWalk.wrap64_in _ ⟨by omega, by omega⟩
  have n2 : wrap64 a3 = a3 := IntWalk.wrap64_in _ ⟨by omega, by omega⟩
  have t1 : Int.tmod a2 W = a2 % W := Int.tmod_eq_emod_of_nonneg s0
  rw [← HW.out] at hc1 hc2
  obtain ⟨h, hh⟩ : ∃ h, a2 % W = h := ⟨_, rfl⟩
  rw [hh] at m0 m1 t1 hc1 hc2
  have q0 := Int.emod_nonneg a3 (show h + 1 ≠ 0 by omega)
  have q1 := Int.emod_lt_of_pos a3 (show 0 < h + 1 by omega)
  have t2 : Int.tmod a3 (h + 1) = a3 % (h + 1) := Int.tmod_eq_emod_of_nonneg p0
  obtain ⟨l, hl⟩ : ∃ l, a3 % (h + 1) = l := ⟨_, rfl⟩
  rw [hl] at q0 q1 t2 hc2
  have z1 : (W == 0) = false := by rw [beq_eq_false_iff_ne]; omega
  have z2 : (h + 1 == 0) = false := by rw [beq_eq_false_iff_ne]; omega
  have z3 : W ≠ 0 := by omega
  have z4 : h + 1 ≠ 0 := by omega
  have b1 : 1 ≤ h - l + 1 := by omega
  have b2 : h - l + 1 ≤ 64 := by omega
  obtain ⟨B, hB0⟩ : ∃ B, xy &&& msk (h - l + 1) = B := ⟨_, rfl⟩
  have okB : ok (h - l + 1) B = true := hB0 ▸ ok_masked b1 b2 _
  have hlh : l ≤ h := by omega
  obtain ⟨Q, hQ⟩ : ∃ Q, setv W h l A B = Q := ⟨_, rfl⟩
  have okQ : ok W Q = true := hQ ▸ ok_setv W1 W2
  have ES : Hid (sSet W A h l (h - l + 1) B = (W, Q, 0)) := Lib.hid (hQ ▸ e_set okA q0 hlh m1 okB)
  have EL : Hid (sSlice W Q h l = (h - l + 1, B, 0)) := Lib.hid (hQ ▸ e_look okA q0 hlh m1 okB)
  have wfW := ok_wf okA
  have wfN := ok_wf okB
  have d1 : decide (h + 1 < W) = false := by simpa using hc1
  have hWh : W = h + 1 := by omega
  have HWh := Lib.hid hWh
  clear hWh
  obtain ⟨T2, hT2⟩ : ∃ T, lower l A = T := ⟨_, rfl⟩
  have E2 : Hid (sSlice W A (l - 1) 0 = (l, T2, 0)) := Lib.hid (hT2 ▸ e_lower okA hc2 (by omega))
  have d2 : decide (0 < l) = true := by simpa using hc2
  have hT2 := Lib.hid hT2
  have EC : Hid (sCat [(h - l + 1, B), (l, T2)] = (W, Q, 0)) := Lib.hid (by rw [← hT2.out, ← hQ]; exact cat_lo okA hc2 hlh HWh.out okB)
  have hQ := Lib.hid hQ
  clear m0
  have HH := Lib.hid hh
  have HL := Lib.hid hl
  have m0 : 0 ≤ h := by omega
  clear hc1
  have okT2 : ok l T2 = true := hT2.out ▸ ok_lower hc2 (by omega)
  go_enter Try.func9, Try.ntmps9
  have hB : Below w.heap.size w w := Below.refl _ _
  have hz := hB.size
  go_wp2_with fail
  refine (masked_is a0 ⟨r0, r1⟩ xa _ rfl W A HW.out HA.out _).mono ?_
  rintro e1 w1 ⟨rfl, hb⟩
  replace hB : Below w.heap.size w w1 := by repeat (first | exact Below.refl _ _ | exact hB | (refine Below.setCell ?_ (by first | omega | (simp; omega) | (simp; done)) _) | (refine Below.alloc ?_ (by first | omega | (simp; omega) | (simp; done)) _) | (refine below_drewN ?_ _) | (refine Below.drew ?_) | (refine below_via hb ?_ (by first | omega | (simp; omega) | (simp; done))))
  replace hz := hB.size
  clear hb
  go_wp2_with (go_at_call 19; refine (ref_mask _ _).mono ?_; rintro e2 w2 ⟨rfl, rfl⟩)
  have va0 : ((w1.alloc (.cells #[.int .i64 (W), .int .u64 (u (A))] 24)).alloc (.cells #[.int .i64 (h - l + 1), .int .u64 (u (B))] 24)).cell? ⟨w1.heap.size, 0, none⟩ = some (.int .i64 (W)) := by first | (simp; done) | exact alloc_cell (by simp) _
  have va1 : ((w1.alloc (.cells #[.int .i64 (W), .int .u64 (u (A))] 24)).alloc (.cells #[.int .i64 (h - l + 1), .int .u64 (u (B))] 24)).cell? ⟨w1.heap.size, 1, none⟩ = some (.int .u64 (u (A))) := by first | (simp; done) | exact alloc_cell (by simp) _
  have vb0 : ((w1.alloc (.cells #[.int .i64 (W), .int .u64 (u (A))] 24)).alloc (.cells #[.int .i64 (h - l + 1), .int .u64 (u (B))] 24)).cell? ⟨w1.heap.size + 1, 0, none⟩ = some (.int .i64 (h - l + 1)) := by first | (simp; done) | exact alloc_cell (by simp) _
  have vb1 : ((w1.alloc (.cells #[.int .i64 (W), .int .u64 (u (A))] 24)).alloc (.cells #[.int .i64 (h - l + 1), .int .u64 (u (B))] 24)).cell? ⟨w1.heap.size + 1, 1, none⟩ = some (.int .u64 (u (B))) := by first | (simp; done) | exact alloc_cell (by simp) _
  replace hB : Below w.heap.size w ((w1.alloc (.cells #[.int .i64 (W), .int .u64 (u (A))] 24)).alloc (.cells #[.int .i64 (h - l + 1), .int .u64 (u (B))] 24)) := (hB.alloc (by first | omega | (simp; omega) | (simp; done)) _).alloc (by first | omega | (simp; omega) | (simp; done)) _
  clear hz
  generalize ((w1.alloc (.cells #[.int .i64 (W), .int .u64 (u (A))] 24)).alloc (.cells #[.int .i64 (h - l + 1), .int .u64 (u (B))] 24)) = w2 at *
  have hz := hB.size
  go_wp2_with fail
  refine (tolds (W) Q 0 ES.out (set_any W wfW A h l (h - l + 1) wfN B _)).mono ?_
  rintro e3 w3 ⟨rfl, hb⟩
  replace va0 : w3.cell? ⟨w1.heap.size, 0, none⟩ = some (.int .i64 W) := by first | exact keep_cell hb va0 | exact keep_cell hb (alloc_cell va0 _) | exact keep_cell hb (alloc_cell (alloc_cell va0 _) _) | exact keep_cell hb (by go_simp)
  replace va1 : w3.cell? ⟨w1.heap.size, 1, none⟩ = some (.int .u64 (u A)) := by first | exact keep_cell hb va1 | exact keep_cell hb (alloc_cell va1 _) | exact keep_cell hb (alloc_cell (alloc_cell va1 _) _) | exact keep_cell hb (by go_simp)
  replace vb0 : w3.cell? ⟨w1.heap.size + 1, 0, none⟩ = some (.int .i64 (h - l + 1)) := by first | exact keep_cell hb vb0 | exact keep_cell hb (alloc_cell vb0 _) | exact keep_cell hb (alloc_cell (alloc_cell vb0 _) _) | exact keep_cell hb (by go_simp)
  replace vb1 : w3.cell? ⟨w1.heap.size + 1, 1, none⟩ = some (.int .u64 (u B)) := by first | exact keep_cell hb vb1 | exact keep_cell hb (alloc_cell vb1 _) | exact keep_cell hb (alloc_cell (alloc_cell vb1 _) _) | exact keep_cell hb (by go_simp)
  replace hB : Below w.heap.size w w3 := by repeat (first | exact Below.refl _ _ | exact hB | (refine Below.setCell ?_ (by first | omega | (simp; omega) | (simp; done)) _) | (refine Below.alloc ?_ (by first | omega | (simp; omega) | (simp; done)) _) | (refine below_drewN ?_ _) | (refine Below.drew ?_) | (refine below_via hb ?_ (by first | omega | (simp; omega) | (simp; done))))
  replace hz := hB.size
  clear hb
  have va0A := alloc_cell va0
  have va1A := alloc_cell va1
  have vb0A := alloc_cell vb0
  have vb1A := alloc_cell vb1
  go_wp2_with fail
  refine (tolds (h - l + 1) B 0 EL.out (slice_any W wfW Q h l _)).mono ?_
  rintro e4 w4 ⟨rfl, hb⟩
  clear va0A va1A vb0A vb1A
  replace va0 : w4.cell? ⟨w1.heap.size, 0, none⟩ = some (.int .i64 W) := by first | exact keep_cell hb va0 | exact keep_cell hb (alloc_cell va0 _) | exact keep_cell hb (alloc_cell (alloc_cell va0 _) _) | exact keep_cell hb (by go_simp)
  replace va1 : w4.cell? ⟨w1.heap.size, 1, none⟩ = some (.int .u64 (u A)) := by first | exact keep_cell hb va1 | exact keep_cell hb (alloc_cell va1 _) | exact keep_cell hb (alloc_cell (alloc_cell va1 _) _) | exact keep_cell hb (by go_simp)
  replace vb0 : w4.cell? ⟨w1.heap.size + 1, 0, none⟩ = some (.int .i64 (h - l + 1)) := by first | exact keep_cell hb vb0 | exact keep_cell hb (alloc_cell vb0 _) | exact keep_cell hb (alloc_cell (alloc_cell vb0 _) _) | exact keep_cell hb (by go_simp)
  replace vb1 : w4.cell? ⟨w1.heap.size + 1, 1, none⟩ = some (.int .u64 (u B)) := by first | exact keep_cell hb vb1 | exact keep_cell hb (alloc_cell vb1 _) | exact keep_cell hb (alloc_cell (alloc_cell vb1 _) _) | exact keep_cell hb (by go_simp)
  have vp0 : w4.cell? ⟨w3.heap.size, 0, none⟩ = some (.int .i64 W) := keep_cell hb (by first | (simp; done) | (simp [World.cell?_alloc_new]; done))
  have vp1 : w4.cell? ⟨w3.heap.size, 1, none⟩ = some (.int .u64 (u Q)) := keep_cell hb (by first | (simp; done) | (simp [World.cell?_alloc_new]; done))
  replace hB : Below w.heap.size w w4 := by repeat (first | exact Below.refl _ _ | exact hB | (refine Below.setCell ?_ (by first | omega | (simp; omega) | (simp; done)) _) | (refine Below.alloc ?_ (by first | omega | (simp; omega) | (simp; done)) _) | (refine below_drewN ?_ _) | (refine Below.drew ?_) | (refine below_via hb ?_ (by first | omega | (simp; omega) | (simp; done))))
  replace hz := hB.size
  clear hb
  go_upto_region 8 with (fail)
  have lva0 : w1.heap.size < w4.heap.size + 1 := by have := lt_of_cell' va0; omega
  have lva1 : w1.heap.size < w4.heap.size + 1 := by have := lt_of_cell' va1; omega
  have lvb0 : w1.heap.size + 1 < w4.heap.size + 1 := by have := lt_of_cell' vb0; omega
  have lvb1 : w1.heap.size + 1 < w4.heap.size + 1 := by have := lt_of_cell' vb1; omega
  have lvp0 : w3.heap.size < w4.heap.size + 1 := by have := lt_of_cell' vp0; omega
  have lvp1 : w3.heap.size < w4.heap.size + 1 := by have := lt_of_cell' vp1; omega
  replace va0 : ((w4.alloc (.cells #[.int .i64 (h - l + 1), .int .u64 (u (B))] 24)).alloc (.cells #[] 24)).cell? ⟨w1.heap.size, 0, none⟩ = some (.int .i64 W) := alloc_cell (alloc_cell va0 _) _
  replace va1 : ((w4.alloc (.cells #[.int .i64 (h - l + 1), .int .u64 (u (B))] 24)).alloc (.cells #[] 24)).cell? ⟨w1.heap.size, 1, none⟩ = some (.int .u64 (u A)) := alloc_cell (alloc_cell va1 _) _
  replace vb0 : ((w4.alloc (.cells #[.int .i64 (h - l + 1), .int .u64 (u (B))] 24)).alloc (.cells #[] 24)).cell? ⟨w1.heap.size + 1, 0, none⟩ = some (.int .i64 (h - l + 1)) := alloc_cell (alloc_cell vb0 _) _
  replace vb1 : ((w4.alloc (.cells #[.int .i64 (h - l + 1), .int .u64 (u (B))] 24)).alloc (.cells #[] 24)).cell? ⟨w1.heap.size + 1, 1, none⟩ = some (.int .u64 (u B)) := alloc_cell (alloc_cell vb1 _) _
  replace vp0 : ((w4.alloc (.cells #[.int .i64 (h - l + 1), .int .u64 (u (B))] 24)).alloc (.cells #[] 24)).cell? ⟨w3.heap.size, 0, none⟩ = some (.int .i64 W) := alloc_cell (alloc_cell vp0 _) _
  replace vp1 : ((w4.alloc (.cells #[.int .i64 (h - l + 1), .int .u64 (u (B))] 24)).alloc (.cells #[] 24)).cell? ⟨w3.heap.size, 1, none⟩ = some (.int .u64 (u Q)) := alloc_cell (alloc_cell vp1 _) _
  have vs0 : ((w4.alloc (.cells #[.int .i64 (h - l + 1), .int .u64 (u (B))] 24)).alloc (.cells #[] 24)).cell? ⟨w4.heap.size, 0, none⟩ = some (.int .i64 (h - l + 1)) := alloc_cell (by simp) _
  have lvs0 : w4.heap.size < w4.heap.size + 1 := by omega
  have vs1 : ((w4.alloc (.cells #[.int .i64 (h - l + 1), .int .u64 (u (B))] 24)).alloc (.cells #[] 24)).cell? ⟨w4.heap.size, 1, none⟩ = some (.int .u64 (u B)) := alloc_cell (by simp) _
  have lvs1 : w4.heap.size < w4.heap.size + 1 := by omega
  have own : ((w4.alloc (.cells #[.int .i64 (h - l + 1), .int .u64 (u (B))] 24)).alloc (.cells #[] 24)).ownsRow (w4.heap.size + 1) 24 2 (.slice (some ⟨w4.heap.size + 1, 0, none⟩) 0 0) 0 [] := by have := own_new (w4.alloc (.cells #[.int .i64 (h - l + 1), .int .u64 (u (B))] 24)) 24; simpa using this
  have hG : w4.heap.size + 1 ≤ ((w4.alloc (.cells #[.int .i64 (h - l + 1), .int .u64 (u (B))] 24)).alloc (.cells #[] 24)).heap.size := by simp
  have hwG : w.heap.size ≤ w4.heap.size + 1 := by omega
  replace hB : Below w.heap.size w ((w4.alloc (.cells #[.int .i64 (h - l + 1), .int .u64 (u (B))] 24)).alloc (.cells #[] 24)) := (hB.alloc (by first | omega | (simp; omega) | (simp; done)) _).alloc (by first | omega | (simp; omega) | (simp; done)) _
  clear hz
  generalize ((w4.alloc (.cells #[.int .i64 (h - l + 1), .int .u64 (u (B))] 24)).alloc (.cells #[] 24)) = w5 at *
  generalize w4.heap.size + 1 = G at *
  generalize w4.heap.size = bs at *
  have hz := hB.size
  obtain ⟨i0, hi0, hz0, hz1, hz2⟩ := info_parts info_bits
  go_upto_region 11 with (fail)
  go_upto_region 12 with (at_builtin; refine wpList_append_own _ rfl (.tmp 86) (.tmp 88) 34 rfl G 24 i0 (.agg #[.int .i64 0, .int .u64 0]) 2 16 Try.underlying34 hi0 hz0 hz1 hz2 rfl (by decide) _ 0 [] rfl (own.alloc _) ⟨w5.heap.size, 0, none⟩ 1 1 [.int .i64 (h - l + 1), .int .u64 (u (B))] rfl rfl (news2 w5 _ _ 24) (ones2 _ _ _ _) (by decide) (by decide) (by simp; omega) ?_; intro v6 w6 own6 hg6 _)
  have bel := below_grown (own.alloc _) hg6 hG
  replace va0 := low_cell bel lva0 va0
  replace va1 := low_cell bel lva1 va1
  replace vb0 := low_cell bel lvb0 vb0
  replace vb1 := low_cell bel lvb1 vb1
  replace vp0 := low_cell bel lvp0 vp0
  replace vp1 := low_cell bel lvp1 vp1
  replace vs0 := low_cell bel lvs0 vs0
  replace vs1 := low_cell bel lvs1 vs1
  replace hB := hB.trans (bel.mono hwG)
  replace hG := Nat.le_trans hG bel.size
  clear own bel hg6 hz
  have own : w6.ownsRow G 24 2 v6 1 [.int .i64 (h - l + 1), .int .u64 (u (B))] := own6
  clear own6
  have hz := hB.size
  go_wp2_with fail
  refine (tolds (l) T2 0 E2.out (slice_any W wfW A (l - 1) 0 _)).mono ?_
  rintro e7 w7 ⟨rfl, hb⟩
  replace va0 : w7.cell? ⟨w1.heap.size, 0, none⟩ = some (.int .i64 W) := by first | exact keep_cell hb va0 | exact keep_cell hb (alloc_cell va0 _) | exact keep_cell hb (alloc_cell (alloc_cell va0 _) _) | exact keep_cell hb (by go_simp)
  replace va1 : w7.cell? ⟨w1.heap.size, 1, none⟩ = some (.int .u64 (u A)) := by first | exact keep_cell hb va1 | exact keep_cell hb (alloc_cell va1 _) | exact keep_cell hb (alloc_cell (alloc_cell va1 _) _) | exact keep_cell hb (by go_simp)
  replace vb0 : w7.cell? ⟨w1.heap.size + 1, 0, none⟩ = some (.int .i64 (h - l + 1)) := by first | exact keep_cell hb vb0 | exact keep_cell hb (alloc_cell vb0 _) | exact keep_cell hb (alloc_cell (alloc_cell vb0 _) _) | exact keep_cell hb (by go_simp)
  replace vb1 : w7.cell? ⟨w1.heap.size + 1, 1, none⟩ = some (.int .u64 (u B)) := by first | exact keep_cell hb vb1 | exact keep_cell hb (alloc_cell vb1 _) | exact keep_cell hb (alloc_cell (alloc_cell vb1 _) _) | exact keep_cell hb (by go_simp)
  replace vp0 : w7.cell? ⟨w3.heap.size, 0, none⟩ = some (.int .i64 W) := by first | exact keep_cell hb vp0 | exact keep_cell hb (alloc_cell vp0 _) | exact keep_cell hb (alloc_cell (alloc_cell vp0 _) _) | exact keep_cell hb (by go_simp)
  replace vp1 : w7.cell? ⟨w3.heap.size, 1, none⟩ = some (.int .u64 (u Q)) := by first | exact keep_cell hb vp1 | exact keep_cell hb (alloc_cell vp1 _) | exact keep_cell hb (alloc_cell (alloc_cell vp1 _) _) | exact keep_cell hb (by go_simp)
  replace vs0 : w7.cell? ⟨bs, 0, none⟩ = some (.int .i64 (h - l + 1)) := by first | exact keep_cell hb vs0 | exact keep_cell hb (alloc_cell vs0 _) | exact keep_cell hb (alloc_cell (alloc_cell vs0 _) _) | exact keep_cell hb (by go_simp)
  replace vs1 : w7.cell? ⟨bs, 1, none⟩ = some (.int .u64 (u B)) := by first | exact keep_cell hb vs1 | exact keep_cell hb (alloc_cell vs1 _) | exact keep_cell hb (alloc_cell (alloc_cell vs1 _) _) | exact keep_cell hb (by go_simp)
  replace own := own_below own hb
  replace hG := Nat.le_trans hG hb.size
  replace hB : Below w.heap.size w w7 := by repeat (first | exact Below.refl _ _ | exact hB | (refine Below.setCell ?_ (by first | omega | (simp; omega) | (simp; done)) _) | (refine Below.alloc ?_ (by first | omega | (simp; omega) | (simp; done)) _) | (refine below_drewN ?_ _) | (refine Below.drew ?_) | (refine below_via hb ?_ (by first | omega | (simp; omega) | (simp; done))))
  replace hz := hB.size
  clear hb
  go_upto_region 14 with (fail)
  replace va0 := alloc_cell va0 (.cells #[.int .i64 (l), .int .u64 (u (T2))] 24)
  replace va1 := alloc_cell va1 (.cells #[.int .i64 (l), .int .u64 (u (T2))] 24)
  replace vb0 := alloc_cell vb0 (.cells #[.int .i64 (l), .int .u64 (u (T2))] 24)
  replace vb1 := alloc_cell vb1 (.cells #[.int .i64 (l), .int .u64 (u (T2))] 24)
  replace vp0 := alloc_cell vp0 (.cells #[.int .i64 (l), .int .u64 (u (T2))] 24)
  replace vp1 := alloc_cell vp1 (.cells #[.int .i64 (l), .int .u64 (u (T2))] 24)
  replace vs0 := alloc_cell vs0 (.cells #[.int .i64 (l), .int .u64 (u (T2))] 24)
  replace vs1 := alloc_cell vs1 (.cells #[.int .i64 (l), .int .u64 (u (T2))] 24)
  have vy0 : (w7.alloc (.cells #[.int .i64 (l), .int .u64 (u (T2))] 24)).cell? ⟨w7.heap.size, 0, none⟩ = some (.int .i64 (l)) := by simp
  have vy1 : (w7.alloc (.cells #[.int .i64 (l), .int .u64 (u (T2))] 24)).cell? ⟨w7.heap.size, 1, none⟩ = some (.int .u64 (u (T2))) := by simp
  replace own := own.alloc (.cells #[.int .i64 (l), .int .u64 (u (T2))] 24)
  replace hG : G ≤ (w7.alloc (.cells #[.int .i64 (l), .int .u64 (u (T2))] 24)).heap.size := by simp; omega
  replace hB : Below w.heap.size w (w7.alloc (.cells #[.int .i64 (l), .int .u64 (u (T2))] 24)) := hB.alloc (by first | omega | (simp; omega) | (simp; done)) _
  clear hz
  generalize (w7.alloc (.cells #[.int .i64 (l), .int .u64 (u (T2))] 24)) = w8 at *
  have hz := hB.size
  go_upto_region 15 with (at_builtin; refine wpList_append_own _ rfl (.tmp 99) (.tmp 101) 34 rfl G 24 i0 (.agg #[.int .i64 0, .int .u64 0]) 2 16 Try.underlying34 hi0 hz0 hz1 hz2 rfl (by decide) _ 1 [.int .i64 (h - l + 1), .int .u64 (u (B))] rfl (own.alloc _) ⟨w8.heap.size, 0, none⟩ 1 1 [.int .i64 (l), .int .u64 (u (T2))] rfl rfl (news2 w8 _ _ 24) (ones2 _ _ _ _) (by decide) (by decide) (by simp; omega) ?_; intro v9 w9 own9 hg9 _)
  have bel := below_grown (own.alloc _) hg9 hG
  replace va0 := low_cell bel lva0 va0
  replace va1 := low_cell bel lva1 va1
  replace vb0 := low_cell bel lvb0 vb0
  replace vb1 := low_cell bel lvb1 vb1
  replace vp0 := low_cell bel lvp0 vp0
  replace vp1 := low_cell bel lvp1 vp1
  replace vs0 := low_cell bel lvs0 vs0
  replace vs1 := low_cell bel lvs1 vs1
  replace hB := hB.trans (bel.mono hwG)
  replace hG := Nat.le_trans hG bel.size
  clear own bel hg9 hz
  have own : w9.ownsRow G 24 2 v9 2 [.int .i64 (h - l + 1), .int .u64 (u (B)), .int .i64 (l), .int .u64 (u (T2))] := own9
  clear own9
  have hz := hB.size
  clear vy0 vy1
  obtain ⟨g, cp, rfl⟩ := ownsRow_form own (by decide)
  have hrow : Row w9 g 0 [(h - l + 1, B), (l, T2)] := by
    intro k Wk Vk hk
    match k, hk with
    | 0, hk => simp at hk; obtain ⟨rfl, rfl⟩ := hk; exact ⟨by have := own.cellAt 0 (by decide); simpa using this, by have := own.cellAt 1 (by decide); simpa using this, ok_wf okB⟩
    | 1, hk => simp at hk; obtain ⟨rfl, rfl⟩ := hk; exact ⟨by have := own.cellAt 2 (by decide); simpa using this, by have := own.cellAt 3 (by decide); simpa using this, ok_wf okT2⟩
    | j + 2, hk => simp at hk
  have hgl : g < w9.heap.size := (own.lt g rfl).2
  go_wp2_with fail
  refine (tolds W Q 0 EC.out (cat_any _ [(h - l + 1, B), (l, T2)] g 0 cp (by simp) (by simp) hrow hgl)).mono ?_
  rintro e10 w10 ⟨rfl, hb⟩
  replace va0 : w10.cell? ⟨w1.heap.size, 0, none⟩ = some (.int .i64 W) := by first | exact keep_cell hb va0 | exact keep_cell hb (alloc_cell va0 _) | exact keep_cell hb (alloc_cell (alloc_cell va0 _) _) | exact keep_cell hb (by go_simp)
  replace va1 : w10.cell? ⟨w1.heap.size, 1, none⟩ = some (.int .u64 (u A)) := by first | exact keep_cell hb va1 | exact keep_cell hb (alloc_cell va1 _) | exact keep_cell hb (alloc_cell (alloc_cell va1 _) _) | exact keep_cell hb (by go_simp)
  replace vb0 : w10.cell? ⟨w1.heap.size + 1, 0, none⟩ = some (.int .i64 (h - l + 1)) := by first | exact keep_cell hb vb0 | exact keep_cell hb (alloc_cell vb0 _) | exact keep_cell hb (alloc_cell (alloc_cell vb0 _) _) | exact keep_cell hb (by go_simp)
  replace vb1 : w10.cell? ⟨w1.heap.size + 1, 1, none⟩ = some (.int .u64 (u B)) := by first | exact keep_cell hb vb1 | exact keep_cell hb (alloc_cell vb1 _) | exact keep_cell hb (alloc_cell (alloc_cell vb1 _) _) | exact keep_cell hb (by go_simp)
  replace vp0 : w10.cell? ⟨w3.heap.size, 0, none⟩ = some (.int .i64 W) := by first | exact keep_cell hb vp0 | exact keep_cell hb (alloc_cell vp0 _) | exact keep_cell hb (alloc_cell (alloc_cell vp0 _) _) | exact keep_cell hb (by go_simp)
  replace vp1 : w10.cell? ⟨w3.heap.size, 1, none⟩ = some (.int .u64 (u Q)) := by first | exact keep_cell hb vp1 | exact keep_cell hb (alloc_cell vp1 _) | exact keep_cell hb (alloc_cell (alloc_cell vp1 _) _) | exact keep_cell hb (by go_simp)
  replace vs0 : w10.cell? ⟨bs, 0, none⟩ = some (.int .i64 (h - l + 1)) := by first | exact keep_cell hb vs0 | exact keep_cell hb (alloc_cell vs0 _) | exact keep_cell hb (alloc_cell (alloc_cell vs0 _) _) | exact keep_cell hb (by go_simp)
  replace vs1 : w10.cell? ⟨bs, 1, none⟩ = some (.int .u64 (u B)) := by first | exact keep_cell hb vs1 | exact keep_cell hb (alloc_cell vs1 _) | exact keep_cell hb (alloc_cell (alloc_cell vs1 _) _) | exact keep_cell hb (by go_simp)
  replace hB : Below w.heap.size w w10 := by repeat (first | exact Below.refl _ _ | exact hB | (refine Below.setCell ?_ (by first | omega | (simp; omega) | (simp; done)) _) | (refine Below.alloc ?_ (by first | omega | (simp; omega) | (simp; done)) _) | (refine below_drewN ?_ _) | (refine Below.drew ?_) | (refine below_via hb ?_ (by first | omega | (simp; omega) | (simp; done))))
  replace hz := hB.size
  clear hb
  have va0A := alloc_cell va0
  have va1A := alloc_cell va1
  have vb0A := alloc_cell vb0
  have vb1A := alloc_cell vb1
  have vp0A := alloc_cell vp0
  have vp1A := alloc_cell vp1
  have vs0A := alloc_cell vs0
  have vs1A := alloc_cell vs1
  go_wp2_with fail
  refine (live_any _).mono ?_
  rintro e11 w11 ⟨rfl, hb⟩
  clear va0A va1A vb0A vb1A vp0A vp1A vs0A vs1A
  replace va0 : w11.cell? ⟨w1.heap.size, 0, none⟩ = some (.int .i64 W) := by first | exact keep_cell hb va0 | exact keep_cell hb (alloc_cell va0 _) | exact keep_cell hb (alloc_cell (alloc_cell va0 _) _) | exact keep_cell hb (by go_simp)
  replace va1 : w11.cell? ⟨w1.heap.size, 1, none⟩ = some (.int .u64 (u A)) := by first | exact keep_cell hb va1 | exact keep_cell hb (alloc_cell va1 _) | exact keep_cell hb (alloc_cell (alloc_cell va1 _) _) | exact keep_cell hb (by go_simp)
  replace vb0 : w11.cell? ⟨w1.heap.size + 1, 0, none⟩ = some (.int .i64 (h - l + 1)) := by first | exact keep_cell hb vb0 | exact keep_cell hb (alloc_cell vb0 _) | exact keep_cell hb (alloc_cell (alloc_cell vb0 _) _) | exact keep_cell hb (by go_simp)
  replace vb1 : w11.cell? ⟨w1.heap.size + 1, 1, none⟩ = some (.int .u64 (u B)) := by first | exact keep_cell hb vb1 | exact keep_cell hb (alloc_cell vb1 _) | exact keep_cell hb (alloc_cell (alloc_cell vb1 _) _) | exact keep_cell hb (by go_simp)
  replace vp0 : w11.cell? ⟨w3.heap.size, 0, none⟩ = some (.int .i64 W) := by first | exact keep_cell hb vp0 | exact keep_cell hb (alloc_cell vp0 _) | exact keep_cell hb (alloc_cell (alloc_cell vp0 _) _) | exact keep_cell hb (by go_simp)
  replace vp1 : w11.cell? ⟨w3.heap.size, 1, none⟩ = some (.int .u64 (u Q)) := by first | exact keep_cell hb vp1 | exact keep_cell hb (alloc_cell vp1 _) | exact keep_cell hb (alloc_cell (alloc_cell vp1 _) _) | exact keep_cell hb (by go_simp)
  replace vs0 : w11.cell? ⟨bs, 0, none⟩ = some (.int .i64 (h - l + 1)) := by first | exact keep_cell hb vs0 | exact keep_cell hb (alloc_cell vs0 _) | exact keep_cell hb (alloc_cell (alloc_cell vs0 _) _) | exact keep_cell hb (by go_simp)
  replace vs1 : w11.cell? ⟨bs, 1, none⟩ = some (.int .u64 (u B)) := by first | exact keep_cell hb vs1 | exact keep_cell hb (alloc_cell vs1 _) | exact keep_cell hb (alloc_cell (alloc_cell vs1 _) _) | exact keep_cell hb (by go_simp)
  have vc0 : w11.cell? ⟨w10.heap.size, 0, none⟩ = some (.int .i64 W) := keep_cell hb (by first | (simp; done) | (simp [World.cell?_alloc_new]; done))
  have vc1 : w11.cell? ⟨w10.heap.size, 1, none⟩ = some (.int .u64 (u Q)) := keep_cell hb (by first | (simp; done) | (simp [World.cell?_alloc_new]; done))
  replace hB : Below w.heap.size w w11 := by repeat (first | exact Below.refl _ _ | exact hB | (refine Below.setCell ?_ (by first | omega | (simp; omega) | (simp; done)) _) | (refine Below.alloc ?_ (by first | omega | (simp; omega) | (simp; done)) _) | (refine below_drewN ?_ _) | (refine Below.drew ?_) | (refine below_via hb ?_ (by first | omega | (simp; omega) | (simp; done))))
  replace hz := hB.size
  clear hb
  go_wp2
  go_ret
  exact ⟨rfl, hB⟩

set_option maxRecDepth 100000 in
set_option maxHeartbeats 4000000 in
theorem walk_00 (a0 : Int) (w0 : (Lit.int .u8 a0).wf = true) (a1 : Int) (w1 : (Lit.int .u64 a1).wf = true) (a2 : Int) (w2 : (Lit.int .u8 a2).wf = true) (a3 : Int) (w3 : (Lit.int .u8 a3).wf = true) (a4 : Int) (w4 : (Lit.int .u64 a4).wf = true) (hc1 : ¬ (a2 % (1 + a0 % 64) + 1 < 1 + a0 % 64)) (hc2 : ¬ (0 < a3 % (a2 % (1 + a0 % 64) + 1))) (w : World) :
    Calls Try.prog 9 #[.int .u8 a0, .int .u64 a1, .int .u8 a2, .int .u8 a3, .int .u64 a4] w fun e w' => e = .returned (.bool true) ∧ Below w.heap.size w w' := by
  obtain ⟨r0, r1⟩ := bounds_u8 w0
  obtain ⟨W, hW⟩ : ∃ W : Int, W = 1 + a0 % 64 := ⟨_, rfl⟩
  have W1 : 1 ≤ W := by omega
  have W2 : W ≤ 64 := by omega
  have HW := Lib.hid hW
  clear hW
  obtain ⟨xa, rfl⟩ := u_of a1 w1
  obtain ⟨A, hA⟩ : ∃ A : BitVec 64, A = xa &&& msk W := ⟨_, rfl⟩
  have okA : ok W A = true := by rw [hA]; exact ok_masked W1 W2 _
  have HA := Lib.hid hA
  clear hA
  obtain ⟨xy, rfl⟩ := u_of a4 w4
  obtain ⟨s0, s1⟩ := bounds_u8 w2
  obtain ⟨p0, p1⟩ := bounds_u8 w3
  have m0 := Int.emod_nonneg a2 (show W ≠ 0 by omega)
  have m1 := Int.emod_lt_of_pos a2 (show 0 < W by omega)
  have n1 : wrap64 a2 = a2 := IntWalk.wrap64_in _ ⟨by omega, by omega⟩
  have n2 : wrap64 a3 = a3 := IntWalk.wrap64_in _ ⟨by omega, by omega⟩
  have t1 : Int.tmod a2 W = a2 % W := Int.tmod_eq_emod_of_nonneg s0
  rw [← HW.out] at hc1 hc2
  obtain ⟨h, hh⟩ : ∃ h, a2 % W = h := ⟨_, rfl⟩
  rw [hh] at m0 m1 t1 hc1 hc2
  have q0 := Int.emod_nonneg a3 (show h + 1 ≠ 0 by omega)
  have q1 := Int.emod_lt_of_pos a3 (show 0 < h + 1 by omega)
  have t2 : Int.tmod a3 (h + 1) = a3 % (h + 1) := Int.tmod_eq_emod_of_nonneg p0
  obtain ⟨l, hl⟩ : ∃ l, a3 % (h + 1) = l := ⟨_, rfl⟩
  rw [hl] at q0 q1 t2 hc2
  have z1 : (W == 0) = false := by rw [beq_eq_false_iff_ne]; omega
  have z2 : (h + 1 == 0) = false := by rw [beq_eq_false_iff_ne]; omega
  have z3 : W ≠ 0 := by omega
  have z4 : h + 1 ≠ 0 := by omega
  have b1 : 1 ≤ h - l + 1 := by omega
  have b2 : h - l + 1 ≤ 64 := by omega
  obtain ⟨B, hB0⟩ : ∃ B, xy &&& msk (h - l + 1) = B := ⟨_, rfl⟩
  have okB : ok (h - l + 1) B = true := hB0 ▸ ok_masked b1 b2 _
  have hlh : l ≤ h := by omega
  obtain ⟨Q, hQ⟩ : ∃ Q, setv W h l A B = Q := ⟨_, rfl⟩
  have okQ : ok W Q = true := hQ ▸ ok_setv W1 W2
  have ES : Hid (sSet W A h l (h - l + 1) B = (W, Q, 0)) := Lib.hid (hQ ▸ e_set okA q0 hlh m1 okB)
  have EL : Hid (sSlice W Q h l = (h - l + 1, B, 0)) := Lib.hid (hQ ▸ e_look okA q0 hlh m1 okB)
  have wfW := ok_wf okA
  have wfN := ok_wf okB
  have d1 : decide (h + 1 < W) = false := by simpa using hc1
  have hWh : W = h + 1 := by omega
  have HWh := Lib.hid hWh
  clear hWh
  have d2 : decide (0 < l) = false := by simpa using hc2
  have l0 : l = 0 := by omega
  have Hl0 := Lib.hid l0
  clear l0
  have EC : Hid (sCat [(h - l + 1, B)] = (W, Q, 0)) := Lib.hid (by rw [← hQ]; exact cat_one okA Hl0.out hlh HWh.out okB)
  have hQ := Lib.hid hQ
  clear m0
  have HH := Lib.hid hh
  have HL := Lib.hid hl
  have m0 : 0 ≤ h := by omega
  clear hc1
  clear hc2
  go_enter Try.func9, Try.ntmps9
  have hB : Below w.heap.size w w := Below.refl _ _
  have hz := hB.size
  go_wp2_with fail
  refine (masked_is a0 ⟨r0, r1⟩ xa _ rfl W A HW.out HA.out _).mono ?_
  rintro e1 w1 ⟨rfl, hb⟩
  replace hB : Below w.heap.size w w1 := by repeat (first | exact Below.refl _ _ | exact hB | (refine Below.setCell ?_ (by first | omega | (simp; omega) | (simp; done)) _) | (refine Below.alloc ?_ (by first | omega | (simp; omega) | (simp; done)) _) | (refine below_drewN ?_ _) | (refine Below.drew ?_) | (refine below_via hb ?_ (by first | omega | (simp; omega) | (simp; done))))
  replace hz := hB.size
  clear hb
  go_wp2_with (go_at_call 19; refine (ref_mask _ _).mono ?_; rintro e2 w2 ⟨rfl, rfl⟩)
  have va0 : ((w1.alloc (.cells #[.int .i64 (W), .int .u64 (u (A))] 24)).alloc (.cells #[.int .i64 (h - l + 1), .int .u64 (u (B))] 24)).cell? ⟨w1.heap.size, 0, none⟩ = some (.int .i64 (W)) := by first | (simp; done) | exact alloc_cell (by simp) _
  have va1 : ((w1.alloc (.cells #[.int .i64 (W), .int .u64 (u (A))] 24)).alloc (.cells #[.int .i64 (h - l + 1), .int .u64 (u (B))] 24)).cell? ⟨w1.heap.size, 1, none⟩ = some (.int .u64 (u (A))) := by first | (simp; done) | exact alloc_cell (by simp) _
  have vb0 : ((w1.alloc (.cells #[.int .i64 (W), .int .u64 (u (A))] 24)).alloc (.cells #[.int .i64 (h - l + 1), .int .u64 (u (B))] 24)).cell? ⟨w1.heap.size + 1, 0, none⟩ = some (.int .i64 (h - l + 1)) := by first | (simp; done) | exact alloc_cell (by simp) _
  have vb1 : ((w1.alloc (.cells #[.int .i64 (W), .int .u64 (u (A))] 24)).alloc (.cells #[.int .i64 (h - l + 1), .int .u64 (u (B))] 24)).cell? ⟨w1.heap.size + 1, 1, none⟩ = some (.int .u64 (u (B))) := by first | (simp; done) | exact alloc_cell (by simp) _
  replace hB : Below w.heap.size w ((w1.alloc (.cells #[.int .i64 (W), .int .u64 (u (A))] 24)).alloc (.cells #[.int .i64 (h - l + 1), .int .u64 (u (B))] 24)) := (hB.alloc (by first | omega | (simp; omega) | (simp; done)) _).alloc (by first | omega | (simp; omega) | (simp; done)) _
  clear hz
  generalize ((w1.alloc (.cells #[.int .i64 (W), .int .u64 (u (A))] 24)).alloc (.cells #[.int .i64 (h - l + 1), .int .u64 (u (B))] 24)) = w2 at *
  have hz := hB.size
  go_wp2_with fail
  refine (tolds (W) Q 0 ES.out (set_any W wfW A h l (h - l + 1) wfN B _)).mono ?_
  rintro e3 w3 ⟨rfl, hb⟩
  replace va0 : w3.cell? ⟨w1.heap.size, 0, none⟩ = some (.int .i64 W) := by first | exact keep_cell hb va0 | exact keep_cell hb (alloc_cell va0 _) | exact keep_cell hb (alloc_cell (alloc_cell va0 _) _) | exact keep_cell hb (by go_simp)
  replace va1 : w3.cell? ⟨w1.heap.size, 1, none⟩ = some (.int .u64 (u A)) := by first | exact keep_cell hb va1 | exact keep_cell hb (alloc_cell va1 _) | exact keep_cell hb (alloc_cell (alloc_cell va1 _) _) | exact keep_cell hb (by go_simp)
  replace vb0 : w3.cell? ⟨w1.heap.size + 1, 0, none⟩ = some (.int .i64 (h - l + 1)) := by first | exact keep_cell hb vb0 | exact keep_cell hb (alloc_cell vb0 _) | exact keep_cell hb (alloc_cell (alloc_cell vb0 _) _) | exact keep_cell hb (by go_simp)
  replace vb1 : w3.cell? ⟨w1.heap.size + 1, 1, none⟩ = some (.int .u64 (u B)) := by first | exact keep_cell hb vb1 | exact keep_cell hb (alloc_cell vb1 _) | exact keep_cell hb (alloc_cell (alloc_cell vb1 _) _) | exact keep_cell hb (by go_simp)
  replace hB : Below w.heap.size w w3 := by repeat (first | exact Below.refl _ _ | exact hB | (refine Below.setCell ?_ (by first | omega | (simp; omega) | (simp; done)) _) | (refine Below.alloc ?_ (by first | omega | (simp; omega) | (simp; done)) _) | (refine below_drewN ?_ _) | (refine Below.drew ?_) | (refine below_via hb ?_ (by first | omega | (simp; omega) | (simp; done))))
  replace hz := hB.size
  clear hb
  have va0A := alloc_cell va0
  have va1A := alloc_cell va1
  have vb0A := alloc_cell vb0
  have vb1A := alloc_cell vb1
  go_wp2_with fail
  refine (tolds (h - l + 1) B 0 EL.out (slice_any W wfW Q h l _)).mono ?_
  rintro e4 w4 ⟨rfl, hb⟩
  clear va0A va1A vb0A vb1A
  replace va0 : w4.cell? ⟨w1.heap.size, 0, none⟩ = some (.int .i64 W) := by first | exact keep_cell hb va0 | exact keep_cell hb (alloc_cell va0 _) | exact keep_cell hb (alloc_cell (alloc_cell va0 _) _) | exact keep_cell hb (by go_simp)
  replace va1 : w4.cell? ⟨w1.heap.size, 1, none⟩ = some (.int .u64 (u A)) := by first | exact keep_cell hb va1 | exact keep_cell hb (alloc_cell va1 _) | exact keep_cell hb (alloc_cell (alloc_cell va1 _) _) | exact keep_cell hb (by go_simp)
  replace vb0 : w4.cell? ⟨w1.heap.size + 1, 0, none⟩ = some (.int .i64 (h - l + 1)) := by first | exact keep_cell hb vb0 | exact keep_cell hb (alloc_cell vb0 _) | exact keep_cell hb (alloc_cell (alloc_cell vb0 _) _) | exact keep_cell hb (by go_simp)
  replace vb1 : w4.cell? ⟨w1.heap.size + 1, 1, none⟩ = some (.int .u64 (u B)) := by first | exact keep_cell hb vb1 | exact keep_cell hb (alloc_cell vb1 _) | exact keep_cell hb (alloc_cell (alloc_cell vb1 _) _) | exact keep_cell hb (by go_simp)
  have vp0 : w4.cell? ⟨w3.heap.size, 0, none⟩ = some (.int .i64 W) := keep_cell hb (by first | (simp; done) | (simp [World.cell?_alloc_new]; done))
  have vp1 : w4.cell? ⟨w3.heap.size, 1, none⟩ = some (.int .u64 (u Q)) := keep_cell hb (by first | (simp; done) | (simp [World.cell?_alloc_new]; done))
  replace hB : Below w.heap.size w w4 := by repeat (first | exact Below.refl _ _ | exact hB | (refine Below.setCell ?_ (by first | omega | (simp; omega) | (simp; done)) _) | (refine Below.alloc ?_ (by first | omega | (simp; omega) | (simp; done)) _) | (refine below_drewN ?_ _) | (refine Below.drew ?_) | (refine below_via hb ?_ (by first | omega | (simp; omega) | (simp; done))))
  replace hz := hB.size
  clear hb
  go_upto_region 8 with (fail)
  have lva0 : w1.heap.size < w4.heap.size + 1 := by have := lt_of_cell' va0; omega
  have lva1 : w1.heap.size < w4.heap.size + 1 := by have := lt_of_cell' va1; omega
  have lvb0 : w1.heap.size + 1 < w4.heap.size + 1 := by have := lt_of_cell' vb0; omega
  have lvb1 : w1.heap.size + 1 < w4.heap.size + 1 := by have := lt_of_cell' vb1; omega
  have lvp0 : w3.heap.size < w4.heap.size + 1 := by have := lt_of_cell' vp0; omega
  have lvp1 : w3.heap.size < w4.heap.size + 1 := by have := lt_of_cell' vp1; omega
  replace va0 : ((w4.alloc (.cells #[.int .i64 (h - l + 1), .int .u64 (u (B))] 24)).alloc (.cells #[] 24)).cell? ⟨w1.heap.size, 0, none⟩ = some (.int .i64 W) := alloc_cell (alloc_cell va0 _) _
  replace va1 : ((w4.alloc (.cells #[.int .i64 (h - l + 1), .int .u64 (u (B))] 24)).alloc (.cells #[] 24)).cell? ⟨w1.heap.size, 1, none⟩ = some (.int .u64 (u A)) := alloc_cell (alloc_cell va1 _) _
  replace vb0 : ((w4.alloc (.cells #[.int .i64 (h - l + 1), .int .u64 (u (B))] 24)).alloc (.cells #[] 24)).cell? ⟨w1.heap.size + 1, 0, none⟩ = some (.int .i64 (h - l + 1)) := alloc_cell (alloc_cell vb0 _) _
  replace vb1 : ((w4.alloc (.cells #[.int .i64 (h - l + 1), .int .u64 (u (B))] 24)).alloc (.cells #[] 24)).cell? ⟨w1.heap.size + 1, 1, none⟩ = some (.int .u64 (u B)) := alloc_cell (alloc_cell vb1 _) _
  replace vp0 : ((w4.alloc (.cells #[.int .i64 (h - l + 1), .int .u64 (u (B))] 24)).alloc (.cells #[] 24)).cell? ⟨w3.heap.size, 0, none⟩ = some (.int .i64 W) := alloc_cell (alloc_cell vp0 _) _
  replace vp1 : ((w4.alloc (.cells #[.int .i64 (h - l + 1), .int .u64 (u (B))] 24)).alloc (.cells #[] 24)).cell? ⟨w3.heap.size, 1, none⟩ = some (.int .u64 (u Q)) := alloc_cell (alloc_cell vp1 _) _
  have vs0 : ((w4.alloc (.cells #[.int .i64 (h - l + 1), .int .u64 (u (B))] 24)).alloc (.cells #[] 24)).cell? ⟨w4.heap.size, 0, none⟩ = some (.int .i64 (h - l + 1)) := alloc_cell (by simp) _
  have lvs0 : w4.heap.size < w4.heap.size + 1 := by omega
  have vs1 : ((w4.alloc (.cells #[.int .i64 (h - l + 1), .int .u64 (u (B))] 24)).alloc (.cells #[] 24)).cell? ⟨w4.heap.size, 1, none⟩ = some (.int .u64 (u B)) := alloc_cell (by simp) _
  have lvs1 : w4.heap.size < w4.heap.size + 1 := by omega
  have own : ((w4.alloc (.cells #[.int .i64 (h - l + 1), .int .u64 (u (B))] 24)).alloc (.cells #[] 24)).ownsRow (w4.heap.size + 1) 24 2 (.slice (some ⟨w4.heap.size + 1, 0, none⟩) 0 0) 0 [] := by have := own_new (w4.alloc (.cells #[.int .i64 (h - l + 1), .int .u64 (u (B))] 24)) 24; simpa using this
  have hG : w4.heap.size + 1 ≤ ((w4.alloc (.cells #[.int .i64 (h - l + 1), .int .u64 (u (B))] 24)).alloc (.cells #[] 24)).heap.size := by simp
  have hwG : w.heap.size ≤ w4.heap.size + 1 := by omega
  replace hB : Below w.heap.size w ((w4.alloc (.cells #[.int .i64 (h - l + 1), .int .u64 (u (B))] 24)).alloc (.cells #[] 24)) := (hB.alloc (by first | omega | (simp; omega) | (simp; done)) _).alloc (by first | omega | (simp; omega) | (simp; done)) _
  clear hz
  generalize ((w4.alloc (.cells #[.int .i64 (h - l + 1), .int .u64 (u (B))] 24)).alloc (.cells #[] 24)) = w5 at *
  generalize w4.heap.size + 1 = G at *
  generalize w4.heap.size = bs at *
  have hz := hB.size
  obtain ⟨i0, hi0, hz0, hz1, hz2⟩ := info_parts info_bits
  go_upto_region 11 with (fail)
  go_upto_region 12 with (at_builtin; refine wpList_append_own _ rfl (.tmp 86) (.tmp 88) 34 rfl G 24 i0 (.agg #[.int .i64 0, .int .u64 0]) 2 16 Try.underlying34 hi0 hz0 hz1 hz2 rfl (by decide) _ 0 [] rfl (own.alloc _) ⟨w5.heap.size, 0, none⟩ 1 1 [.int .i64 (h - l + 1), .int .u64 (u (B))] rfl rfl (news2 w5 _ _ 24) (ones2 _ _ _ _) (by decide) (by decide) (by simp; omega) ?_; intro v6 w6 own6 hg6 _)
  have bel := below_grown (own.alloc _) hg6 hG
  replace va0 := low_cell bel lva0 va0
  replace va1 := low_cell bel lva1 va1
  replace vb0 := low_cell bel lvb0 vb0
  replace vb1 := low_cell bel lvb1 vb1
  replace vp0 := low_cell bel lvp0 vp0
  replace vp1 := low_cell bel lvp1 vp1
  replace vs0 := low_cell bel lvs0 vs0
  replace vs1 := low_cell bel lvs1 vs1
  replace hB := hB.trans (bel.mono hwG)
  replace hG := Nat.le_trans hG bel.size
  clear own bel hg6 hz
  have own : w6.ownsRow G 24 2 v6 1 [.int .i64 (h - l + 1), .int .u64 (u (B))] := own6
  clear own6
  have hz := hB.size
  go_upto_region 15 with (fail)
  obtain ⟨g, cp, rfl⟩ := ownsRow_form own (by decide)
  have hrow : Row w6 g 0 [(h - l + 1, B)] := by
    intro k Wk Vk hk
    match k, hk with
    | 0, hk => simp at hk; obtain ⟨rfl, rfl⟩ := hk; exact ⟨by have := own.cellAt 0 (by decide); simpa using this, by have := own.cellAt 1 (by decide); simpa using this, ok_wf okB⟩
    | j + 1, hk => simp at hk
  have hgl : g < w6.heap.size := (own.lt g rfl).2
  go_wp2_with fail
  refine (tolds W Q 0 EC.out (cat_any _ [(h - l + 1, B)] g 0 cp (by simp) (by simp) hrow hgl)).mono ?_
  rintro e7 w7 ⟨rfl, hb⟩
  replace va0 : w7.cell? ⟨w1.heap.size, 0, none⟩ = some (.int .i64 W) := by first | exact keep_cell hb va0 | exact keep_cell hb (alloc_cell va0 _) | exact keep_cell hb (alloc_cell (alloc_cell va0 _) _) | exact keep_cell hb (by go_simp)
  replace va1 : w7.cell? ⟨w1.heap.size, 1, none⟩ = some (.int .u64 (u A)) := by first | exact keep_cell hb va1 | exact keep_cell hb (alloc_cell va1 _) | exact keep_cell hb (alloc_cell (alloc_cell va1 _) _) | exact keep_cell hb (by go_simp)
  replace vb0 : w7.cell? ⟨w1.heap.size + 1, 0, none⟩ = some (.int .i64 (h - l + 1)) := by first | exact keep_cell hb vb0 | exact keep_cell hb (alloc_cell vb0 _) | exact keep_cell hb (alloc_cell (alloc_cell vb0 _) _) | exact keep_cell hb (by go_simp)
  replace vb1 : w7.cell? ⟨w1.heap.size + 1, 1, none⟩ = some (.int .u64 (u B)) := by first | exact keep_cell hb vb1 | exact keep_cell hb (alloc_cell vb1 _) | exact keep_cell hb (alloc_cell (alloc_cell vb1 _) _) | exact keep_cell hb (by go_simp)
  replace vp0 : w7.cell? ⟨w3.heap.size, 0, none⟩ = some (.int .i64 W) := by first | exact keep_cell hb vp0 | exact keep_cell hb (alloc_cell vp0 _) | exact keep_cell hb (alloc_cell (alloc_cell vp0 _) _) | exact keep_cell hb (by go_simp)
  replace vp1 : w7.cell? ⟨w3.heap.size, 1, none⟩ = some (.int .u64 (u Q)) := by first | exact keep_cell hb vp1 | exact keep_cell hb (alloc_cell vp1 _) | exact keep_cell hb (alloc_cell (alloc_cell vp1 _) _) | exact keep_cell hb (by go_simp)
  replace vs0 : w7.cell? ⟨bs, 0, none⟩ = some (.int .i64 (h - l + 1)) := by first | exact keep_cell hb vs0 | exact keep_cell hb (alloc_cell vs0 _) | exact keep_cell hb (alloc_cell (alloc_cell vs0 _) _) | exact keep_cell hb (by go_simp)
  replace vs1 : w7.cell? ⟨bs, 1, none⟩ = some (.int .u64 (u B)) := by first | exact keep_cell hb vs1 | exact keep_cell hb (alloc_cell vs1 _) | exact keep_cell hb (alloc_cell (alloc_cell vs1 _) _) | exact keep_cell hb (by go_simp)
  replace hB : Below w.heap.size w w7 := by repeat (first | exact Below.refl _ _ | exact hB | (refine Below.setCell ?_ (by first | omega | (simp; omega) | (simp; done)) _) | (refine Below.alloc ?_ (by first | omega | (simp; omega) | (simp; done)) _) | (refine below_drewN ?_ _) | (refine Below.drew ?_) | (refine below_via hb ?_ (by first | omega | (simp; omega) | (simp; done))))
  replace hz := hB.size
  clear hb
  have va0A := alloc_cell va0
  have va1A := alloc_cell va1
  have vb0A := alloc_cell vb0
  have vb1A := alloc_cell vb1
  have vp0A := alloc_cell vp0
  have vp1A := alloc_cell vp1
  have vs0A := alloc_cell vs0
  have vs1A := alloc_cell vs1
  go_wp2_with fail
  refine (live_any _).mono ?_
  rintro e8 w8 ⟨rfl, hb⟩
  clear va0A va1A vb0A vb1A vp0A vp1A vs0A vs1A
  replace va0 : w8.cell? ⟨w1.heap.size, 0, none⟩ = some (.int .i64 W) := by first | exact keep_cell hb va0 | exact keep_cell hb (alloc_cell va0 _) | exact keep_cell hb (alloc_cell (alloc_cell va0 _) _) | exact keep_cell hb (by go_simp)
  replace va1 : w8.cell? ⟨w1.heap.size, 1, none⟩ = some (.int .u64 (u A)) := by first | exact keep_cell hb va1 | exact keep_cell hb (alloc_cell va1 _) | exact keep_cell hb (alloc_cell (alloc_cell va1 _) _) | exact keep_cell hb (by go_simp)
  replace vb0 : w8.cell? ⟨w1.heap.size + 1, 0, none⟩ = some (.int .i64 (h - l + 1)) := by first | exact keep_cell hb vb0 | exact keep_cell hb (alloc_cell vb0 _) | exact keep_cell hb (alloc_cell (alloc_cell vb0 _) _) | exact keep_cell hb (by go_simp)
  replace vb1 : w8.cell? ⟨w1.heap.size + 1, 1, none⟩ = some (.int .u64 (u B)) := by first | exact keep_cell hb vb1 | exact keep_cell hb (alloc_cell vb1 _) | exact keep_cell hb (alloc_cell (alloc_cell vb1 _) _) | exact keep_cell hb (by go_simp)
  replace vp0 : w8.cell? ⟨w3.heap.size, 0, none⟩ = some (.int .i64 W) := by first | exact keep_cell hb vp0 | exact keep_cell hb (alloc_cell vp0 _) | exact keep_cell hb (alloc_cell (alloc_cell vp0 _) _) | exact keep_cell hb (by go_simp)
  replace vp1 : w8.cell? ⟨w3.heap.size, 1, none⟩ = some (.int .u64 (u Q)) := by first | exact keep_cell hb vp1 | exact keep_cell hb (alloc_cell vp1 _) | exact keep_cell hb (alloc_cell (alloc_cell vp1 _) _) | exact keep_cell hb (by go_simp)
  replace vs0 : w8.cell? ⟨bs, 0, none⟩ = some (.int .i64 (h - l + 1)) := by first | exact keep_cell hb vs0 | exact keep_cell hb (alloc_cell vs0 _) | exact keep_cell hb (alloc_cell (alloc_cell vs0 _) _) | exact keep_cell hb (by go_simp)
  replace vs1 : w8.cell? ⟨bs, 1, none⟩ = some (.int .u64 (u B)) := by first | exact keep_cell hb vs1 | exact keep_cell hb (alloc_cell vs1 _) | exact keep_cell hb (alloc_cell (alloc_cell vs1 _) _) | exact keep_cell hb (by go_simp)
  have vc0 : w8.cell? ⟨w7.heap.size, 0, none⟩ = some (.int .i64 W) := keep_cell hb (by first | (simp; done) | (simp [World.cell?_alloc_new]; done))
  have vc1 : w8.cell? ⟨w7.heap.size, 1, none⟩ = some (.int .u64 (u Q)) := keep_cell hb (by first | (simp; done) | (simp [World.cell?_alloc_new]; done))
  replace hB : Below w.heap.size w w8 := by repeat (first | exact Below.refl _ _ | exact hB | (refine Below.setCell ?_ (by first | omega | (simp; omega) | (simp; done)) _) | (refine Below.alloc ?_ (by first | omega | (simp; omega) | (simp; done)) _) | (refine below_drewN ?_ _) | (refine Below.drew ?_) | (refine below_via hb ?_ (by first | omega | (simp; omega) | (simp; done))))
  replace hz := hB.size
  clear hb
  go_wp2
  go_ret
  exact ⟨rfl, hB⟩

set_option maxRecDepth 100000 in
set_option maxHeartbeats 4000000 in
theorem walk (a0 : Int) (w0 : (Lit.int .u8 a0).wf = true) (a1 : Int) (w1 : (Lit.int .u64 a1).wf = true) (a2 : Int) (w2 : (Lit.int .u8 a2).wf = true) (a3 : Int) (w3 : (Lit.int .u8 a3).wf = true) (a4 : Int) (w4 : (Lit.int .u64 a4).wf = true) (w : World) :
    Calls Try.prog 9 #[.int .u8 a0, .int .u64 a1, .int .u8 a2, .int .u8 a3, .int .u64 a4] w fun e w' => e = .returned (.bool true) ∧ Below w.heap.size w w' := by
  by_cases hc1 : a2 % (1 + a0 % 64) + 1 < 1 + a0 % 64
  · by_cases hc2 : 0 < a3 % (a2 % (1 + a0 % 64) + 1)
    · exact walk_11 a0 w0 a1 w1 a2 w2 a3 w3 a4 w4 hc1 hc2 w
    · exact walk_10 a0 w0 a1 w1 a2 w2 a3 w3 a4 w4 hc1 hc2 w
  · by_cases hc2 : 0 < a3 % (a2 % (1 + a0 % 64) + 1)
    · exact walk_01 a0 w0 a1 w1 a2 w2 a3 w3 a4 w4 hc1 hc2 w
    · exact walk_00 a0 w0 a1 w1 a2 w2 a3 w3 a4 w4 hc1 hc2 w

theorem own : ownKnob Try.prog.godebug = none := by kernel_rfl
theorem cellsB : Try.prog.cellsOf 24 = 2 := by kernel_rfl

theorem reads {H : Type} (enc : TypeId × Value → H) (W : World) (base : Nat) (sp : Nat → Bool) (held : Bool) (a b : Int) (wa : (Lit.int .i64 a).wf = true) (wb : (Lit.int .u64 b).wf = true) :
    DataW.Trod enc Try.prog W base sp held 24 (.agg #[.int .i64 a, .int .u64 b]) (.agg [.lit (.int .i64 a), .lit (.int .u64 b)]) [] :=
  shut_agg2 (y0 := (.lit (.int .i64 a), [])) (y1 := (.lit (.int .u64 b), [])) Try.underlying24 (by kernel_rfl) cellsB ⟨1, by simp [DataW.trod, Try.underlying3, wa]⟩ ⟨1, by simp [DataW.trod, Try.underlying22, wb]⟩

/-! ### The row's step -/
set_option maxRecDepth 100000 in
theorem lifted (os : Os) (started : os.Started) (H : Type) (enc : TypeId × Value → H) :
    ReturnsInHanded {} Try.checked os 9 .any (Rows.bitvSlicesSpec.pre6 enc Try.prog Try.f9 Rows.bitvSlicesRow.domain false) (Rows.bitvSlicesSpec.post enc Try.prog Try.f9 false true false false) := by
  refine returnsInHanded_of_change (C := Try.checked) own started (by kernel_rfl) Try.func9
    (ChangeSpec.witness6 (enc := enc) (C := Try.checked) false ⟨#[], #[.int .u8 0, .int .u64 0, .int .u8 0, .int .u8 0, .int .u64 0], []⟩ 8 (by kernel_rfl) (by kernel_rfl) (by kernel_rfl) (by kernel_rfl)) ?_
  intro W base args ds gs before hval0 hW hcnd _
  have hval : ∀ (j : Nat) t v, Try.f9.params[j]? = some t → args[j]? = some v → Value.okWide Try.prog W .any base t v := hval0
  have hW' := hW
  obtain ⟨p, q, hA0, hV, rfl, hfz, hnd⟩ := hW
  have hA : DataW.TrodAll enc Try.prog W 0 (fun _ => true) true Try.f9.params.toList args.toList ds p := hA0
  rw [Try.params9] at hA hval
  obtain ⟨v0, vs0, d0, ds0, p0, q0, hargs, rfl, rfl, h0, r0⟩ := trodAll_cons hA
  obtain ⟨v1, vs1, d1, ds1, p1, q1, rfl, rfl, rfl, h1, r1⟩ := trodAll_cons r0
  obtain ⟨v2, vs2, d2, ds2, p2, q2, rfl, rfl, rfl, h2, r2⟩ := trodAll_cons r1
  obtain ⟨v3, vs3, d3, ds3, p3, q3, rfl, rfl, rfl, h3, r3⟩ := trodAll_cons r2
  obtain ⟨v4, vs4, d4, ds4, p4, q4, rfl, rfl, rfl, h4, r4⟩ := trodAll_cons r3
  obtain ⟨rfl, rfl, rfl⟩ := trodAll_nil r4
  obtain rfl : args = #[v0, v1, v2, v3, v4] := by cases args; simp_all
  obtain ⟨rfl, rfl⟩ := trodVars_none hV
  obtain ⟨a0, rfl, rfl, rfl, w0⟩ := open_int Try.underlying5 (hval 0 5 v0 rfl rfl) h0
  obtain ⟨a1, rfl, rfl, rfl, w1⟩ := open_int Try.underlying22 (hval 1 22 v1 rfl rfl) h1
  obtain ⟨a2, rfl, rfl, rfl, w2⟩ := open_int Try.underlying5 (hval 2 5 v2 rfl rfl) h2
  obtain ⟨a3, rfl, rfl, rfl, w3⟩ := open_int Try.underlying5 (hval 3 5 v3 rfl rfl) h3
  obtain ⟨a4, rfl, rfl, rfl, w4⟩ := open_int Try.underlying22 (hval 4 22 v4 rfl rfl) h4
  clear hA0 hval0
  simp only [List.append_nil] at hW'
  refine (walk a0 w0 a1 w1 a2 w2 a3 w3 a4 w4 W).mono fun e W' ⟨he, bel⟩ => ?_
  subst he
  exact ⟨_, rfl, _, _, _, [], _, [], hW', trodAll_mk1 (shut_bool Try.underlying4 _), (trodAll_cons_mk (shut_int Try.underlying5 w0) (trodAll_cons_mk (shut_int Try.underlying22 w1) (trodAll_cons_mk (shut_int Try.underlying5 w2) (trodAll_cons_mk (shut_int Try.underlying5 w3) (trodAll_cons_mk (shut_int Try.underlying22 w4) trodAll_mk0))))), rfl, bel.frame _, fun h => by cases h⟩

theorem over : Rows.bitvSlicesRow.holds Try.pinned (OpenSpec.ofChange Rows.bitvSlicesSpec) :=
  OpenClaim.holds_of_wide 9 Try.f9 rfl rfl rfl rfl rfl rfl rfl ⟨rfl, rfl, rfl, rfl, rfl⟩ rfl rfl rfl rfl rfl (by kernel_rfl) Try.func9 (by kernel_rfl)
    (of_decide_eq_true (by kernel_rfl)) (by unfold Func.isWrapper; first | (rw [if_pos (by decide +kernel)]; kernel_rfl) | (rw [if_neg (by decide +kernel)]; exact ⟨rfl, rfl⟩))
    (fun os started H enc _ => lifted os started H enc)

/-- The given statement. -/
theorem proved : Rows.BitvSlicesSaid := over
#print axioms proved
end Go.Proofs.Ytemolkkpigkanaa.bitvSlices
