/-
  A shift up by n places is a product with 2 to the power n; down by n, and up again, leaves the value without its lowest n bits; as many places as there are bits, or more, leave nothing. For every input.
-/
import Derived.Test.YtemolkkpigkanaaRows
import Derived.Test.YtemolkkpigkanaaD
import Derived.Test.YtemolkkpigkanaaI
import Derived.BigQuiet
import Derived.ProofKit
import Derived.OpenShut
import Derived.Lib.SmallJoins
namespace Go.Proofs.Ytemolkkpigkanaa.bitvShifts
open Go Go.ChangeShapes Go.WideShapes Go.ChangeAt Go.RowKit Go.Joins Go.Sort
set_option linter.unusedVariables false

set_option maxRecDepth 100000 in
set_option maxHeartbeats 4000000 in
theorem walk_lt (a0 : Int) (w0 : (Lit.int .u8 a0).wf = true) (a1 : Int) (w1 : (Lit.int .u64 a1).wf = true) (a2 : Int) (w2 : (Lit.int .u8 a2).wf = true) (a3 : Int) (w3 : (Lit.int .u64 a3).wf = true) (hc : a3 < 1 + a0 % 64) (w : World) :
    Calls Try.prog 10 #[.int .u8 a0, .int .u64 a1, .int .u8 a2, .int .u64 a3] w fun e w' => e = .returned (.bool true) ∧ Below w.heap.size w w' := by
  obtain ⟨r0, r1⟩ := bounds_u8 w0
  obtain ⟨W, hW⟩ : ∃ W : Int, W = 1 + a0 % 64 := ⟨_, rfl⟩
  have W1 : 1 ≤ W := by omega
  have W2 : W ≤ 64 := by omega
  have HW := Lib.hid hW
  clear hW
  obtain ⟨xa, rfl⟩ := u_of a1 w1
  obtain ⟨A, hA⟩ : ∃ A : BitVec 64, A = xa &&& msk W := ⟨_, rfl⟩
  have okA : ok W A = true := by rw [hA]; exact ok_masked W1 W2 _
  have HA := Lib.hid hA
  clear hA
  obtain ⟨O, hO⟩ : ∃ A : BitVec 64, A = 1#64 &&& msk W := ⟨_, rfl⟩
  have okO : ok W O = true := by rw [hO]; exact ok_masked W1 W2 _
  have HO := Lib.hid hO
  clear hO
  obtain ⟨xf, rfl⟩ := u_of a3 w3
  have hc := hc; rw [← HW.out] at hc
  obtain ⟨s0, s1⟩ := bounds_u8 w2
  have m0 := Int.emod_nonneg a2 (show W ≠ 0 by omega)
  have m1 := Int.emod_lt_of_pos a2 (show 0 < W by omega)
  obtain ⟨K, hK⟩ : ∃ K : BitVec 64, a2 % W = u K := ⟨BitVec.ofInt 64 (a2 % W), by rw [u_ofInt]; omega⟩
  have k0 : 0 ≤ u K := u_nonneg K
  have k1 : u K < W := by omega
  have k2 : u K ≤ 63 := by omega
  have tm : Int.tmod a2 W = u K := by rw [Int.tmod_eq_emod_of_nonneg s0, hK]
  have wk : wrap64 (u K) = u K := IntWalk.wrap64_in _ ⟨by omega, by omega⟩
  have wn : wrap64 a2 = a2 := IntWalk.wrap64_in _ ⟨by omega, by omega⟩
  have z1 : (W == 0) = false := by rw [beq_eq_false_iff_ne]; omega
  have z2 : W ≠ 0 := by omega
  have wW : IntKind.u64.wrap W = W := by rw [IntKind.wrap_u64]; omega
  clear m0 m1
  obtain ⟨T, hT⟩ : ∃ T, pw K.toNat = T := ⟨_, rfl⟩
  have okT : ok W T = true := hT ▸ ok_pw W1 W2 k1
  have ok6 : ok 6 K = true := by rw [ok_iff]; exact ⟨by omega, by omega, by have := k2; unfold u at this; show K.toNat < 64; omega⟩
  obtain ⟨R, hR⟩ : ∃ R, rb 15 W T O = R := ⟨_, rfl⟩
  have okR : ok W R = true := hR ▸ (bin_w okT okO (by decide)).2
  have okD : ok W (dnv W A K) = true := ok_dn okA
  have okS : ok W (rb 11 W A R) = true := (bin_w okA okR (by decide)).2
  obtain ⟨F, hF⟩ : ∃ F : BitVec 64, W = u F := ⟨BitVec.ofInt 64 W, by rw [u_ofInt]; omega⟩
  have hFF := Lib.hid hF
  have fF : W ≤ u F := by omega
  clear hF
  have hd : decide (u xf < W) = true := by simpa using hc
  have okF : ok 64 F = true := by rw [ok_iff]; exact ⟨by omega, by omega, F.isLt⟩
  have lf := law_far okA fF
  have q1 : (upv W A K == rb 16 W A T) = true := by rw [beq_iff_eq]; rw [← hT]; exact law_up okA k1
  have q2 : (upv W (dnv W A K) K == rb 15 W A (rb 11 W A R)) = true := by rw [beq_iff_eq]; rw [← hR, ← hT, HO.out]; exact law_down okA k1
  have HF1 := Lib.hid lf.1
  have HF2 := Lib.hid lf.2
  clear lf fF hc
  have hR := Lib.hid hR
  go_enter Try.func10, Try.ntmps10
  have hB : Below w.heap.size w w := Below.refl _ _
  have hz := hB.size
  go_wp2_with fail
  refine (masked_is a0 ⟨r0, r1⟩ xa _ rfl W A HW.out HA.out _).mono ?_
  rintro e1 w1 ⟨rfl, hb⟩
  replace hB : Below w.heap.size w w1 := by repeat (first | exact Below.refl _ _ | exact hB | (refine Below.setCell ?_ (by first | omega | (simp; omega) | (simp; done)) _) | (refine Below.alloc ?_ (by first | omega | (simp; omega) | (simp; done)) _) | (refine below_drewN ?_ _) | (refine Below.drew ?_) | (refine below_via hb ?_ (by first | omega | (simp; omega) | (simp; done))))
  replace hz := hB.size
  clear hb
  go_wp2_with fail
  have va0 : ((w1.alloc (.cells #[.int .i64 W, .int .u64 (u A)] 24)).alloc (.cells #[.int .i64 6, .int .u64 (u K)] 24)).cell? ⟨w1.heap.size, 0, none⟩ = some (.int .i64 W) := by first | (simp; done) | (simp [World.cell?_alloc_new]; done) | exact alloc_cell (by first | (simp; done) | (simp [World.cell?_alloc_new]; done)) _
  have va1 : ((w1.alloc (.cells #[.int .i64 W, .int .u64 (u A)] 24)).alloc (.cells #[.int .i64 6, .int .u64 (u K)] 24)).cell? ⟨w1.heap.size, 1, none⟩ = some (.int .u64 (u A)) := by first | (simp; done) | (simp [World.cell?_alloc_new]; done) | exact alloc_cell (by first | (simp; done) | (simp [World.cell?_alloc_new]; done)) _
  have vn0 : ((w1.alloc (.cells #[.int .i64 W, .int .u64 (u A)] 24)).alloc (.cells #[.int .i64 6, .int .u64 (u K)] 24)).cell? ⟨w1.heap.size + 1, 0, none⟩ = some (.int .i64 6) := by first | (simp; done) | (simp [World.cell?_alloc_new]; done) | exact alloc_cell (by first | (simp; done) | (simp [World.cell?_alloc_new]; done)) _
  have vn1 : ((w1.alloc (.cells #[.int .i64 W, .int .u64 (u A)] 24)).alloc (.cells #[.int .i64 6, .int .u64 (u K)] 24)).cell? ⟨w1.heap.size + 1, 1, none⟩ = some (.int .u64 (u K)) := by first | (simp; done) | (simp [World.cell?_alloc_new]; done) | exact alloc_cell (by first | (simp; done) | (simp [World.cell?_alloc_new]; done)) _
  replace hB : Below w.heap.size w ((w1.alloc (.cells #[.int .i64 W, .int .u64 (u A)] 24)).alloc (.cells #[.int .i64 6, .int .u64 (u K)] 24)) := (hB.alloc (by first | omega | (simp; omega) | (simp; done)) _).alloc (by first | omega | (simp; omega) | (simp; done)) _
  clear hz
  generalize ((w1.alloc (.cells #[.int .i64 W, .int .u64 (u A)] 24)).alloc (.cells #[.int .i64 6, .int .u64 (u K)] 24)) = w2 at *
  have hz := hB.size
  go_wp2_with fail
  try simp only [List.append_eq, List.cons_append, List.nil_append]
  have va0R := cell_regrown va0
  refine wp_region_var 5 6 12 _ _ (.cells #[.int .i64 0, .int .u64 0] 24) (.cells #[.int .i64 W, .int .u64 (u T)] 24) (by kernel_rfl) (by kernel_rfl) rfl rfl rfl rfl rfl (by decide) (by kernel_rfl) (by kernel_rfl) (fun a w => by simp [go_sem, ptrTo]) ?_
  refine wpG_quiet (by decide) (by decide) (by rfl) rfl (by simp) ?_; apply Exists.intro; refine ⟨?_, ?_⟩
  · intro SS hS KK hKK; go_big_quiet_op; (first | exact hKK | exact ⟨_, fun _ => rfl, hKK⟩)
  refine wpG_quiet (by decide) (by decide) (by rfl) rfl (by simp) ?_; apply Exists.intro; refine ⟨?_, ?_⟩
  · intro SS hS KK hKK; go_big_quiet_op; (first | exact hKK | exact ⟨_, fun _ => rfl, hKK⟩)
  refine wpG_quiet (by decide) (by decide) (by rfl) rfl (by simp) ?_; apply Exists.intro; refine ⟨?_, ?_⟩
  · intro SS hS KK hKK; go_big_quiet_op; (first | exact hKK | exact ⟨_, fun _ => rfl, hKK⟩)
  refine wpG_quiet (by decide) (by decide) (by rfl) rfl (by simp) ?_; apply Exists.intro; refine ⟨?_, ?_⟩
  · intro SS hS KK hKK; go_big_quiet_op; (first | exact hKK | exact ⟨_, fun _ => rfl, hKK⟩)
  refine wpG_quiet (by decide) (by decide) (by rfl) rfl (by simp) ?_; apply Exists.intro; refine ⟨?_, ?_⟩
  · intro SS hS KK hKK; go_big_quiet_op; (first | exact hKK | exact ⟨_, fun _ => rfl, hKK⟩)
  refine wpG_var rfl ?_
  simp only [Act.put, List.setIfInBounds_toArray, List.set_cons_zero, List.set_cons_succ]
  refine wpG_store rfl rfl ⟨rfl, fun gs ws hbs hgs hos => ?_⟩ ?_
  · have cs0 := cell_of_row ws gs 0 _ _ _ hos; have cs1 := cell_of_row ws gs 1 _ _ _ hos; have fs0 := frozen_row hos 0; have fs1 := frozen_row hos 1; exact ⟨_, by simp [go_sem, ptrTo, cs0, cs1, fs0, fs1]; rfl, (hbs.setCell (by simpa using hgs) _).setCell (by simpa using hgs) _, by simp [World.setCell, Array.getElem?_modify, hos]⟩
  refine wpG_nil ?_
  intro g3 w3 hb hg hos
  simp only [ptrTo, List.setIfInBounds_toArray, List.set_cons_zero, List.set_cons_succ]
  clear va0R
  replace va0 := keep_cell hb va0
  replace va1 := keep_cell hb va1
  replace vn0 := keep_cell hb vn0
  replace vn1 := keep_cell hb vn1
  have vt0 : w3.cell? ⟨g3, 0, none⟩ = some (.int .i64 W) := cell_of_row _ _ 0 _ _ _ hos
  have vt1 : w3.cell? ⟨g3, 1, none⟩ = some (.int .u64 (u T)) := cell_of_row _ _ 1 _ _ _ hos
  replace hB := hB.trans (hb.mono hB.size)
  replace hz := hB.size
  clear hb hg hos
  go_wp2_with fail
  try simp only [List.append_eq, List.cons_append, List.nil_append]
  have vt0R := cell_regrown vt0
  have vt1R := cell_regrown vt1
  refine wp_region_var 4 5 13 _ _ (.cells #[.int .i64 0, .int .u64 0] 24) (.cells #[.int .i64 W, .int .u64 (u R)] 24) (by kernel_rfl) (by kernel_rfl) rfl rfl rfl rfl rfl (by decide) (by kernel_rfl) (by kernel_rfl) (fun a w => by simp [go_sem, ptrTo]) ?_
  refine wpG_quiet (by decide) (by decide) (by rfl) rfl (by simp) ?_; apply Exists.intro; refine ⟨?_, ?_⟩
  · intro SS hS KK hKK; go_big_quiet_op; (first | exact hKK | exact ⟨_, fun _ => rfl, hKK⟩)
  refine wpG_quiet (by decide) (by decide) (by rfl) rfl (by simp) ?_; apply Exists.intro; refine ⟨?_, ?_⟩
  · intro SS hS KK hKK; go_big_quiet_op; (first | exact hKK | exact ⟨_, fun _ => rfl, hKK⟩)
  refine wpG_quiet (by decide) (by decide) (by rfl) rfl (by simp) ?_; apply Exists.intro; refine ⟨?_, ?_⟩
  · intro SS hS KK hKK; go_big_quiet_op; (apply Exists.intro; refine ⟨fun p => ?_, ?_⟩; (focus (first | (go_at_call 24; exact calls_regS hS p (masked_is a0 ⟨r0, r1⟩ 1#64 _ (by decide) W O HW.out HO.out _)) | (go_at_call 25; exact calls_regS hS p (binw_is 15 W T O okT okO (by decide) R hR.out _)))); exact hKK)
  refine wpG_quiet (by decide) (by decide) (by rfl) rfl (by simp) ?_; apply Exists.intro; refine ⟨?_, ?_⟩
  · intro SS hS KK hKK; go_big_quiet_op; (apply Exists.intro; refine ⟨fun p => ?_, ?_⟩; (focus (first | (go_at_call 24; exact calls_regS hS p (masked_is a0 ⟨r0, r1⟩ 1#64 _ (by decide) W O HW.out HO.out _)) | (go_at_call 25; exact calls_regS hS p (binw_is 15 W T O okT okO (by decide) R hR.out _)))); exact hKK)
  refine wpG_var rfl ?_
  simp only [Act.put, List.setIfInBounds_toArray, List.set_cons_zero, List.set_cons_succ]
  refine wpG_store rfl rfl ⟨rfl, fun gs ws hbs hgs hos => ?_⟩ ?_
  · have cs0 := cell_of_row ws gs 0 _ _ _ hos; have cs1 := cell_of_row ws gs 1 _ _ _ hos; have fs0 := frozen_row hos 0; have fs1 := frozen_row hos 1; exact ⟨_, by simp [go_sem, ptrTo, cs0, cs1, fs0, fs1]; rfl, (hbs.setCell (by simpa using hgs) _).setCell (by simpa using hgs) _, by simp [World.setCell, Array.getElem?_modify, hos]⟩
  refine wpG_nil ?_
  intro g4 w4 hb hg hos
  simp only [ptrTo, List.setIfInBounds_toArray, List.set_cons_zero, List.set_cons_succ]
  clear vt0R vt1R
  replace va0 := keep_cell hb va0
  replace va1 := keep_cell hb va1
  replace vn0 := keep_cell hb vn0
  replace vn1 := keep_cell hb vn1
  replace vt0 := keep_cell hb vt0
  replace vt1 := keep_cell hb vt1
  have vr0 : w4.cell? ⟨g4, 0, none⟩ = some (.int .i64 W) := cell_of_row _ _ 0 _ _ _ hos
  have vr1 : w4.cell? ⟨g4, 1, none⟩ = some (.int .u64 (u R)) := cell_of_row _ _ 1 _ _ _ hos
  replace hB := hB.trans (hb.mono hB.size)
  replace hz := hB.size
  clear hb hg hos
  have va0A := alloc_cell va0
  go_wp2_with fail
  clear va0A
  replace va0 := alloc_cell va0 (.cells #[.int .i64 64, .int .u64 (W)] 24)
  replace va1 := alloc_cell va1 (.cells #[.int .i64 64, .int .u64 (W)] 24)
  replace vn0 := alloc_cell vn0 (.cells #[.int .i64 64, .int .u64 (W)] 24)
  replace vn1 := alloc_cell vn1 (.cells #[.int .i64 64, .int .u64 (W)] 24)
  replace vt0 := alloc_cell vt0 (.cells #[.int .i64 64, .int .u64 (W)] 24)
  replace vt1 := alloc_cell vt1 (.cells #[.int .i64 64, .int .u64 (W)] 24)
  replace vr0 := alloc_cell vr0 (.cells #[.int .i64 64, .int .u64 (W)] 24)
  replace vr1 := alloc_cell vr1 (.cells #[.int .i64 64, .int .u64 (W)] 24)
  have vl0 : (w4.alloc (.cells #[.int .i64 64, .int .u64 (W)] 24)).cell? ⟨w4.heap.size, 0, none⟩ = some (.int .i64 64) := by first | (simp; done) | (simp [World.cell?_alloc_new]; done)
  have vl1 : (w4.alloc (.cells #[.int .i64 64, .int .u64 (W)] 24)).cell? ⟨w4.heap.size, 1, none⟩ = some (.int .u64 (W)) := by first | (simp; done) | (simp [World.cell?_alloc_new]; done)
  replace hB : Below w.heap.size w (w4.alloc (.cells #[.int .i64 64, .int .u64 (W)] 24)) := hB.alloc (by first | omega | (simp; omega) | (simp; done)) _
  clear hz
  generalize w4.alloc (.cells #[.int .i64 64, .int .u64 (W)] 24) = w5 at *
  have hz := hB.size
  go_wp2_with fail
  try simp only [List.append_eq, List.cons_append, List.nil_append]
  have va0R := cell_regrown va0
  have va1R := cell_regrown va1
  have vn0R := cell_regrown vn0
  have vn1R := cell_regrown vn1
  refine wp_region_var 5 6 15 _ _ (.cells #[.int .i64 0, .int .u64 0] 24) (.cells #[.int .i64 W, .int .u64 (u (upv W (dnv W A K) K))] 24) (by kernel_rfl) (by kernel_rfl) rfl rfl rfl rfl rfl (by decide) (by kernel_rfl) (by kernel_rfl) (fun a w => by simp [go_sem, ptrTo]) ?_
  refine wpG_quiet (by decide) (by decide) (by rfl) rfl (by simp) ?_; apply Exists.intro; refine ⟨?_, ?_⟩
  · intro SS hS KK hKK; go_big_quiet_op; (first | exact hKK | exact ⟨_, fun _ => rfl, hKK⟩)
  refine wpG_quiet (by decide) (by decide) (by rfl) rfl (by simp) ?_; apply Exists.intro; refine ⟨?_, ?_⟩
  · intro SS hS KK hKK; go_big_quiet_op; (first | exact hKK | exact ⟨_, fun _ => rfl, hKK⟩)
  refine wpG_quiet (by decide) (by decide) (by rfl) rfl (by simp) ?_; apply Exists.intro; refine ⟨?_, ?_⟩
  · intro SS hS KK hKK; go_big_quiet_op; (apply Exists.intro; refine ⟨fun p => ?_, ?_⟩; (focus (first | (go_at_call_of 25 (Value.int .i64 18); exact calls_regS hS p (bindn W A 6 K okA ok6 _ rfl _)) | (go_at_call_of 25 (Value.int .i64 17); exact calls_regS hS p (binup W (dnv W A K) 6 K okD ok6 _ rfl _)))); exact hKK)
  refine wpG_quiet (by decide) (by decide) (by rfl) rfl (by simp) ?_; apply Exists.intro; refine ⟨?_, ?_⟩
  · intro SS hS KK hKK; go_big_quiet_op; (first | exact hKK | exact ⟨_, fun _ => rfl, hKK⟩)
  refine wpG_quiet (by decide) (by decide) (by rfl) rfl (by simp) ?_; apply Exists.intro; refine ⟨?_, ?_⟩
  · intro SS hS KK hKK; go_big_quiet_op; (apply Exists.intro; refine ⟨fun p => ?_, ?_⟩; (focus (first | (go_at_call_of 25 (Value.int .i64 18); exact calls_regS hS p (bindn W A 6 K okA ok6 _ rfl _)) | (go_at_call_of 25 (Value.int .i64 17); exact calls_regS hS p (binup W (dnv W A K) 6 K okD ok6 _ rfl _)))); exact hKK)
  refine wpG_var rfl ?_
  simp only [Act.put, List.setIfInBounds_toArray, List.set_cons_zero, List.set_cons_succ]
  refine wpG_store rfl rfl ⟨rfl, fun gs ws hbs hgs hos => ?_⟩ ?_
  · have cs0 := cell_of_row ws gs 0 _ _ _ hos; have cs1 := cell_of_row ws gs 1 _ _ _ hos; have fs0 := frozen_row hos 0; have fs1 := frozen_row hos 1; exact ⟨_, by simp [go_sem, ptrTo, cs0, cs1, fs0, fs1]; rfl, (hbs.setCell (by simpa using hgs) _).setCell (by simpa using hgs) _, by simp [World.setCell, Array.getElem?_modify, hos]⟩
  refine wpG_nil ?_
  intro g6 w6 hb hg hos
  simp only [ptrTo, List.setIfInBounds_toArray, List.set_cons_zero, List.set_cons_succ]
  clear va0R va1R vn0R vn1R
  replace va0 := keep_cell hb va0
  replace va1 := keep_cell hb va1
  replace vn0 := keep_cell hb vn0
  replace vn1 := keep_cell hb vn1
  replace vt0 := keep_cell hb vt0
  replace vt1 := keep_cell hb vt1
  replace vr0 := keep_cell hb vr0
  replace vr1 := keep_cell hb vr1
  replace vl0 := keep_cell hb vl0
  replace vl1 := keep_cell hb vl1
  have vb0 : w6.cell? ⟨g6, 0, none⟩ = some (.int .i64 W) := cell_of_row _ _ 0 _ _ _ hos
  have vb1 : w6.cell? ⟨g6, 1, none⟩ = some (.int .u64 (u (upv W (dnv W A K) K))) := cell_of_row _ _ 1 _ _ _ hos
  replace hB := hB.trans (hb.mono hB.size)
  replace hz := hB.size
  clear hb hg hos
  go_wp2_with fail
  replace va0 := alloc_cell va0 (.cells #[.int .i64 W, .int .u64 0] 24)
  replace va1 := alloc_cell va1 (.cells #[.int .i64 W, .int .u64 0] 24)
  replace vn0 := alloc_cell vn0 (.cells #[.int .i64 W, .int .u64 0] 24)
  replace vn1 := alloc_cell vn1 (.cells #[.int .i64 W, .int .u64 0] 24)
  replace vt0 := alloc_cell vt0 (.cells #[.int .i64 W, .int .u64 0] 24)
  replace vt1 := alloc_cell vt1 (.cells #[.int .i64 W, .int .u64 0] 24)
  replace vr0 := alloc_cell vr0 (.cells #[.int .i64 W, .int .u64 0] 24)
  replace vr1 := alloc_cell vr1 (.cells #[.int .i64 W, .int .u64 0] 24)
  replace vl0 := alloc_cell vl0 (.cells #[.int .i64 W, .int .u64 0] 24)
  replace vl1 := alloc_cell vl1 (.cells #[.int .i64 W, .int .u64 0] 24)
  replace vb0 := alloc_cell vb0 (.cells #[.int .i64 W, .int .u64 0] 24)
  replace vb1 := alloc_cell vb1 (.cells #[.int .i64 W, .int .u64 0] 24)
  have vz0 : (w6.alloc (.cells #[.int .i64 W, .int .u64 0] 24)).cell? ⟨w6.heap.size, 0, none⟩ = some (.int .i64 W) := by first | (simp; done) | (simp [World.cell?_alloc_new]; done)
  have vz1 : (w6.alloc (.cells #[.int .i64 W, .int .u64 0] 24)).cell? ⟨w6.heap.size, 1, none⟩ = some (.int .u64 0) := by first | (simp; done) | (simp [World.cell?_alloc_new]; done)
  replace hB : Below w.heap.size w (w6.alloc (.cells #[.int .i64 W, .int .u64 0] 24)) := hB.alloc (by first | omega | (simp; omega) | (simp; done)) _
  clear hz
  generalize w6.alloc (.cells #[.int .i64 W, .int .u64 0] 24) = w7 at *
  have hz := hB.size
  go_wp2_with fail
  have va0R := cell_regrown va0
  have va1R := cell_regrown va1
  have vn0R := cell_regrown vn0
  have vn1R := cell_regrown vn1
  have vt0R := cell_regrown vt0
  have vt1R := cell_regrown vt1
  have vr0R := cell_regrown vr0
  have vr1R := cell_regrown vr1
  have vl0R := cell_regrown vl0
  have vl1R := cell_regrown vl1
  have vb0R := cell_regrown vb0
  have vb1R := cell_regrown vb1
  have vz0R := cell_regrown vz0
  have vz1R := cell_regrown vz1
  refine wp_region_quiet_below (by kernel_rfl) (by kernel_rfl) ?_
  repeat (go_big_quiet_step (first | (go_at_call 15; exact Calls.regrown_of (live_any _)) | (go_at_call_of 25 (Value.int .i64 18); exact Calls.regrown_of (bindn_is W A 64 F okA okF (W) hFF.out 0#64 HF2.out _)) | (go_at_call_of 25 (Value.agg #[Value.int .i64 6, Value.int .u64 (u K)]); exact Calls.regrown_of (binup W A 6 K okA ok6 _ rfl _)) | (go_at_call_of 25 (Value.int .i64 17); exact Calls.regrown_of (binup_is W A 64 F okA okF (W) hFF.out 0#64 HF1.out _)) | (go_at_call_of 25 (Value.int .i64 16); exact Calls.regrown_of (binw 16 W A T okA okT (by decide) _)) | (go_at_call_of 25 (Value.int .i64 11); exact Calls.regrown_of (binw 11 W A R okA okR (by decide) _)) | (go_at_call_of 25 (Value.int .i64 15); exact Calls.regrown_of (binw 15 W A (rb 11 W A R) okA okS (by decide) _))))
  refine wpQuiet_nil ?_
  intro _ hw'
  obtain ⟨⟨dq, osq⟩, hw''⟩ := hw'
  subst hw''
  replace hB := hB.trans ((below_regrown w7 dq osq).mono hB.size)
  go_wp2
  go_ret
  exact ⟨rfl, hB⟩

set_option maxRecDepth 100000 in
set_option maxHeartbeats 4000000 in
theorem walk_ge (a0 : Int) (w0 : (Lit.int .u8 a0).wf = true) (a1 : Int) (w1 : (Lit.int .u64 a1).wf = true) (a2 : Int) (w2 : (Lit.int .u8 a2).wf = true) (a3 : Int) (w3 : (Lit.int .u64 a3).wf = true) (hc : ¬ a3 < 1 + a0 % 64) (w : World) :
    Calls Try.prog 10 #[.int .u8 a0, .int .u64 a1, .int .u8 a2, .int .u64 a3] w fun e w' => e = .returned (.bool true) ∧ Below w.heap.size w w' := by
  obtain ⟨r0, r1⟩ := bounds_u8 w0
  obtain ⟨W, hW⟩ : ∃ W : Int, W = 1 + a0 % 64 := ⟨_, rfl⟩
  have W1 : 1 ≤ W := by omega
  have W2 : W ≤ 64 := by omega
  have HW := Lib.hid hW
  clear hW
  obtain ⟨xa, rfl⟩ := u_of a1 w1
  obtain ⟨A, hA⟩ : ∃ A : BitVec 64, A = xa &&& msk W := ⟨_, rfl⟩
  have okA : ok W A = true := by rw [hA]; exact ok_masked W1 W2 _
  have HA := Lib.hid hA
  clear hA
  obtain ⟨O, hO⟩ : ∃ A : BitVec 64, A = 1#64 &&& msk W := ⟨_, rfl⟩
  have okO : ok W O = true := by rw [hO]; exact ok_masked W1 W2 _
  have HO := Lib.hid hO
  clear hO
  obtain ⟨xf, rfl⟩ := u_of a3 w3
  have hc := hc; rw [← HW.out] at hc
  obtain ⟨s0, s1⟩ := bounds_u8 w2
  have m0 := Int.emod_nonneg a2 (show W ≠ 0 by omega)
  have m1 := Int.emod_lt_of_pos a2 (show 0 < W by omega)
  obtain ⟨K, hK⟩ : ∃ K : BitVec 64, a2 % W = u K := ⟨BitVec.ofInt 64 (a2 % W), by rw [u_ofInt]; omega⟩
  have k0 : 0 ≤ u K := u_nonneg K
  have k1 : u K < W := by omega
  have k2 : u K ≤ 63 := by omega
  have tm : Int.tmod a2 W = u K := by rw [Int.tmod_eq_emod_of_nonneg s0, hK]
  have wk : wrap64 (u K) = u K := IntWalk.wrap64_in _ ⟨by omega, by omega⟩
  have wn : wrap64 a2 = a2 := IntWalk.wrap64_in _ ⟨by omega, by omega⟩
  have z1 : (W == 0) = false := by rw [beq_eq_false_iff_ne]; omega
  have z2 : W ≠ 0 := by omega
  have wW : IntKind.u64.wrap W = W := by rw [IntKind.wrap_u64]; omega
  clear m0 m1
  obtain ⟨T, hT⟩ : ∃ T, pw K.toNat = T := ⟨_, rfl⟩
  have okT : ok W T = true := hT ▸ ok_pw W1 W2 k1
  have ok6 : ok 6 K = true := by rw [ok_iff]; exact ⟨by omega, by omega, by have := k2; unfold u at this; show K.toNat < 64; omega⟩
  obtain ⟨R, hR⟩ : ∃ R, rb 15 W T O = R := ⟨_, rfl⟩
  have okR : ok W R = true := hR ▸ (bin_w okT okO (by decide)).2
  have okD : ok W (dnv W A K) = true := ok_dn okA
  have okS : ok W (rb 11 W A R) = true := (bin_w okA okR (by decide)).2
  obtain ⟨F, hF⟩ : ∃ F : BitVec 64, u xf = u F := ⟨xf, rfl⟩
  have hFF := Lib.hid hF
  have fF : W ≤ u F := by omega
  clear hF
  have hd : decide (u xf < W) = false := by simpa using hc
  have okF : ok 64 F = true := by rw [ok_iff]; exact ⟨by omega, by omega, F.isLt⟩
  have lf := law_far okA fF
  have q1 : (upv W A K == rb 16 W A T) = true := by rw [beq_iff_eq]; rw [← hT]; exact law_up okA k1
  have q2 : (upv W (dnv W A K) K == rb 15 W A (rb 11 W A R)) = true := by rw [beq_iff_eq]; rw [← hR, ← hT, HO.out]; exact law_down okA k1
  have HF1 := Lib.hid lf.1
  have HF2 := Lib.hid lf.2
  clear lf fF hc
  have hR := Lib.hid hR
  go_enter Try.func10, Try.ntmps10
  have hB : Below w.heap.size w w := Below.refl _ _
  have hz := hB.size
  go_wp2_with fail
  refine (masked_is a0 ⟨r0, r1⟩ xa _ rfl W A HW.out HA.out _).mono ?_
  rintro e1 w1 ⟨rfl, hb⟩
  replace hB : Below w.heap.size w w1 := by repeat (first | exact Below.refl _ _ | exact hB | (refine Below.setCell ?_ (by first | omega | (simp; omega) | (simp; done)) _) | (refine Below.alloc ?_ (by first | omega | (simp; omega) | (simp; done)) _) | (refine below_drewN ?_ _) | (refine Below.drew ?_) | (refine below_via hb ?_ (by first | omega | (simp; omega) | (simp; done))))
  replace hz := hB.size
  clear hb
  go_wp2_with fail
  have va0 : ((w1.alloc (.cells #[.int .i64 W, .int .u64 (u A)] 24)).alloc (.cells #[.int .i64 6, .int .u64 (u K)] 24)).cell? ⟨w1.heap.size, 0, none⟩ = some (.int .i64 W) := by first | (simp; done) | (simp [World.cell?_alloc_new]; done) | exact alloc_cell (by first | (simp; done) | (simp [World.cell?_alloc_new]; done)) _
  have va1 : ((w1.alloc (.cells #[.int .i64 W, .int .u64 (u A)] 24)).alloc (.cells #[.int .i64 6, .int .u64 (u K)] 24)).cell? ⟨w1.heap.size, 1, none⟩ = some (.int .u64 (u A)) := by first | (simp; done) | (simp [World.cell?_alloc_new]; done) | exact alloc_cell (by first | (simp; done) | (simp [World.cell?_alloc_new]; done)) _
  have vn0 : ((w1.alloc (.cells #[.int .i64 W, .int .u64 (u A)] 24)).alloc (.cells #[.int .i64 6, .int .u64 (u K)] 24)).cell? ⟨w1.heap.size + 1, 0, none⟩ = some (.int .i64 6) := by first | (simp; done) | (simp [World.cell?_alloc_new]; done) | exact alloc_cell (by first | (simp; done) | (simp [World.cell?_alloc_new]; done)) _
  have vn1 : ((w1.alloc (.cells #[.int .i64 W, .int .u64 (u A)] 24)).alloc (.cells #[.int .i64 6, .int .u64 (u K)] 24)).cell? ⟨w1.heap.size + 1, 1, none⟩ = some (.int .u64 (u K)) := by first | (simp; done) | (simp [World.cell?_alloc_new]; done) | exact alloc_cell (by first | (simp; done) | (simp [World.cell?_alloc_new]; done)) _
  replace hB : Below w.heap.size w ((w1.alloc (.cells #[.int .i64 W, .int .u64 (u A)] 24)).alloc (.cells #[.int .i64 6, .int .u64 (u K)] 24)) := (hB.alloc (by first | omega | (simp; omega) | (simp; done)) _).alloc (by first | omega | (simp; omega) | (simp; done)) _
  clear hz
  generalize ((w1.alloc (.cells #[.int .i64 W, .int .u64 (u A)] 24)).alloc (.cells #[.int .i64 6, .int .u64 (u K)] 24)) = w2 at *
  have hz := hB.size
  go_wp2_with fail
  try simp only [List.append_eq, List.cons_append, List.nil_append]
  have va0R := cell_regrown va0
  refine wp_region_var 5 6 12 _ _ (.cells #[.int .i64 0, .int .u64 0] 24) (.cells #[.int .i64 W, .int .u64 (u T)] 24) (by kernel_rfl) (by kernel_rfl) rfl rfl rfl rfl rfl (by decide) (by kernel_rfl) (by kernel_rfl) (fun a w => by simp [go_sem, ptrTo]) ?_
  refine wpG_quiet (by decide) (by decide) (by rfl) rfl (by simp) ?_; apply Exists.intro; refine ⟨?_, ?_⟩
  · intro SS hS KK hKK; go_big_quiet_op; (first | exact hKK | exact ⟨_, fun _ => rfl, hKK⟩)
  refine wpG_quiet (by decide) (by decide) (by rfl) rfl (by simp) ?_; apply Exists.intro; refine ⟨?_, ?_⟩
  · intro SS hS KK hKK; go_big_quiet_op; (first | exact hKK | exact ⟨_, fun _ => rfl, hKK⟩)
  refine wpG_quiet (by decide) (by decide) (by rfl) rfl (by simp) ?_; apply Exists.intro; refine ⟨?_, ?_⟩
  · intro SS hS KK hKK; go_big_quiet_op; (first | exact hKK | exact ⟨_, fun _ => rfl, hKK⟩)
  refine wpG_quiet (by decide) (by decide) (by rfl) rfl (by simp) ?_; apply Exists.intro; refine ⟨?_, ?_⟩
  · intro SS hS KK hKK; go_big_quiet_op; (first | exact hKK | exact ⟨_, fun _ => rfl, hKK⟩)
  refine wpG_quiet (by decide) (by decide) (by rfl) rfl (by simp) ?_; apply Exists.intro; refine ⟨?_, ?_⟩
  · intro SS hS KK hKK; go_big_quiet_op; (first | exact hKK | exact ⟨_, fun _ => rfl, hKK⟩)
  refine wpG_var rfl ?_
  simp only [Act.put, List.setIfInBounds_toArray, List.set_cons_zero, List.set_cons_succ]
  refine wpG_store rfl rfl ⟨rfl, fun gs ws hbs hgs hos => ?_⟩ ?_
  · have cs0 := cell_of_row ws gs 0 _ _ _ hos; have cs1 := cell_of_row ws gs 1 _ _ _ hos; have fs0 := frozen_row hos 0; have fs1 := frozen_row hos 1; exact ⟨_, by simp [go_sem, ptrTo, cs0, cs1, fs0, fs1]; rfl, (hbs.setCell (by simpa using hgs) _).setCell (by simpa using hgs) _, by simp [World.setCell, Array.getElem?_modify, hos]⟩
  refine wpG_nil ?_
  intro g3 w3 hb hg hos
  simp only [ptrTo, List.setIfInBounds_toArray, List.set_cons_zero, List.set_cons_succ]
  clear va0R
  replace va0 := keep_cell hb va0
  replace va1 := keep_cell hb va1
  replace vn0 := keep_cell hb vn0
  replace vn1 := keep_cell hb vn1
  have vt0 : w3.cell? ⟨g3, 0, none⟩ = some (.int .i64 W) := cell_of_row _ _ 0 _ _ _ hos
  have vt1 : w3.cell? ⟨g3, 1, none⟩ = some (.int .u64 (u T)) := cell_of_row _ _ 1 _ _ _ hos
  replace hB := hB.trans (hb.mono hB.size)
  replace hz := hB.size
  clear hb hg hos
  go_wp2_with fail
  try simp only [List.append_eq, List.cons_append, List.nil_append]
  have vt0R := cell_regrown vt0
  have vt1R := cell_regrown vt1
  refine wp_region_var 4 5 13 _ _ (.cells #[.int .i64 0, .int .u64 0] 24) (.cells #[.int .i64 W, .int .u64 (u R)] 24) (by kernel_rfl) (by kernel_rfl) rfl rfl rfl rfl rfl (by decide) (by kernel_rfl) (by kernel_rfl) (fun a w => by simp [go_sem, ptrTo]) ?_
  refine wpG_quiet (by decide) (by decide) (by rfl) rfl (by simp) ?_; apply Exists.intro; refine ⟨?_, ?_⟩
  · intro SS hS KK hKK; go_big_quiet_op; (first | exact hKK | exact ⟨_, fun _ => rfl, hKK⟩)
  refine wpG_quiet (by decide) (by decide) (by rfl) rfl (by simp) ?_; apply Exists.intro; refine ⟨?_, ?_⟩
  · intro SS hS KK hKK; go_big_quiet_op; (first | exact hKK | exact ⟨_, fun _ => rfl, hKK⟩)
  refine wpG_quiet (by decide) (by decide) (by rfl) rfl (by simp) ?_; apply Exists.intro; refine ⟨?_, ?_⟩
  · intro SS hS KK hKK; go_big_quiet_op; (apply Exists.intro; refine ⟨fun p => ?_, ?_⟩; (focus (first | (go_at_call 24; exact calls_regS hS p (masked_is a0 ⟨r0, r1⟩ 1#64 _ (by decide) W O HW.out HO.out _)) | (go_at_call 25; exact calls_regS hS p (binw_is 15 W T O okT okO (by decide) R hR.out _)))); exact hKK)
  refine wpG_quiet (by decide) (by decide) (by rfl) rfl (by simp) ?_; apply Exists.intro; refine ⟨?_, ?_⟩
  · intro SS hS KK hKK; go_big_quiet_op; (apply Exists.intro; refine ⟨fun p => ?_, ?_⟩; (focus (first | (go_at_call 24; exact calls_regS hS p (masked_is a0 ⟨r0, r1⟩ 1#64 _ (by decide) W O HW.out HO.out _)) | (go_at_call 25; exact calls_regS hS p (binw_is 15 W T O okT okO (by decide) R hR.out _)))); exact hKK)
  refine wpG_var rfl ?_
  simp only [Act.put, List.setIfInBounds_toArray, List.set_cons_zero, List.set_cons_succ]
  refine wpG_store rfl rfl ⟨rfl, fun gs ws hbs hgs hos => ?_⟩ ?_
  · have cs0 := cell_of_row ws gs 0 _ _ _ hos; have cs1 := cell_of_row ws gs 1 _ _ _ hos; have fs0 := frozen_row hos 0; have fs1 := frozen_row hos 1; exact ⟨_, by simp [go_sem, ptrTo, cs0, cs1, fs0, fs1]; rfl, (hbs.setCell (by simpa using hgs) _).setCell (by simpa using hgs) _, by simp [World.setCell, Array.getElem?_modify, hos]⟩
  refine wpG_nil ?_
  intro g4 w4 hb hg hos
  simp only [ptrTo, List.setIfInBounds_toArray, List.set_cons_zero, List.set_cons_succ]
  clear vt0R vt1R
  replace va0 := keep_cell hb va0
  replace va1 := keep_cell hb va1
  replace vn0 := keep_cell hb vn0
  replace vn1 := keep_cell hb vn1
  replace vt0 := keep_cell hb vt0
  replace vt1 := keep_cell hb vt1
  have vr0 : w4.cell? ⟨g4, 0, none⟩ = some (.int .i64 W) := cell_of_row _ _ 0 _ _ _ hos
  have vr1 : w4.cell? ⟨g4, 1, none⟩ = some (.int .u64 (u R)) := cell_of_row _ _ 1 _ _ _ hos
  replace hB := hB.trans (hb.mono hB.size)
  replace hz := hB.size
  clear hb hg hos
  have va0A := alloc_cell va0
  go_wp2_with fail
  clear va0A
  replace va0 := alloc_cell va0 (.cells #[.int .i64 64, .int .u64 (u xf)] 24)
  replace va1 := alloc_cell va1 (.cells #[.int .i64 64, .int .u64 (u xf)] 24)
  replace vn0 := alloc_cell vn0 (.cells #[.int .i64 64, .int .u64 (u xf)] 24)
  replace vn1 := alloc_cell vn1 (.cells #[.int .i64 64, .int .u64 (u xf)] 24)
  replace vt0 := alloc_cell vt0 (.cells #[.int .i64 64, .int .u64 (u xf)] 24)
  replace vt1 := alloc_cell vt1 (.cells #[.int .i64 64, .int .u64 (u xf)] 24)
  replace vr0 := alloc_cell vr0 (.cells #[.int .i64 64, .int .u64 (u xf)] 24)
  replace vr1 := alloc_cell vr1 (.cells #[.int .i64 64, .int .u64 (u xf)] 24)
  have vl0 : (w4.alloc (.cells #[.int .i64 64, .int .u64 (u xf)] 24)).cell? ⟨w4.heap.size, 0, none⟩ = some (.int .i64 64) := by first | (simp; done) | (simp [World.cell?_alloc_new]; done)
  have vl1 : (w4.alloc (.cells #[.int .i64 64, .int .u64 (u xf)] 24)).cell? ⟨w4.heap.size, 1, none⟩ = some (.int .u64 (u xf)) := by first | (simp; done) | (simp [World.cell?_alloc_new]; done)
  replace hB : Below w.heap.size w (w4.alloc (.cells #[.int .i64 64, .int .u64 (u xf)] 24)) := hB.alloc (by first | omega | (simp; omega) | (simp; done)) _
  clear hz
  generalize w4.alloc (.cells #[.int .i64 64, .int .u64 (u xf)] 24) = w5 at *
  have hz := hB.size
  go_wp2_with fail
  try simp only [List.append_eq, List.cons_append, List.nil_append]
  have va0R := cell_regrown va0
  have va1R := cell_regrown va1
  have vn0R := cell_regrown vn0
  have vn1R := cell_regrown vn1
  refine wp_region_var 5 6 15 _ _ (.cells #[.int .i64 0, .int .u64 0] 24) (.cells #[.int .i64 W, .int .u64 (u (upv W (dnv W A K) K))] 24) (by kernel_rfl) (by kernel_rfl) rfl rfl rfl rfl rfl (by decide) (by kernel_rfl) (by kernel_rfl) (fun a w => by simp [go_sem, ptrTo]) ?_
  refine wpG_quiet (by decide) (by decide) (by rfl) rfl (by simp) ?_; apply Exists.intro; refine ⟨?_, ?_⟩
  · intro SS hS KK hKK; go_big_quiet_op; (first | exact hKK | exact ⟨_, fun _ => rfl, hKK⟩)
  refine wpG_quiet (by decide) (by decide) (by rfl) rfl (by simp) ?_; apply Exists.intro; refine ⟨?_, ?_⟩
  · intro SS hS KK hKK; go_big_quiet_op; (first | exact hKK | exact ⟨_, fun _ => rfl, hKK⟩)
  refine wpG_quiet (by decide) (by decide) (by rfl) rfl (by simp) ?_; apply Exists.intro; refine ⟨?_, ?_⟩
  · intro SS hS KK hKK; go_big_quiet_op; (apply Exists.intro; refine ⟨fun p => ?_, ?_⟩; (focus (first | (go_at_call_of 25 (Value.int .i64 18); exact calls_regS hS p (bindn W A 6 K okA ok6 _ rfl _)) | (go_at_call_of 25 (Value.int .i64 17); exact calls_regS hS p (binup W (dnv W A K) 6 K okD ok6 _ rfl _)))); exact hKK)
  refine wpG_quiet (by decide) (by decide) (by rfl) rfl (by simp) ?_; apply Exists.intro; refine ⟨?_, ?_⟩
  · intro SS hS KK hKK; go_big_quiet_op; (first | exact hKK | exact ⟨_, fun _ => rfl, hKK⟩)
  refine wpG_quiet (by decide) (by decide) (by rfl) rfl (by simp) ?_; apply Exists.intro; refine ⟨?_, ?_⟩
  · intro SS hS KK hKK; go_big_quiet_op; (apply Exists.intro; refine ⟨fun p => ?_, ?_⟩; (focus (first | (go_at_call_of 25 (Value.int .i64 18); exact calls_regS hS p (bindn W A 6 K okA ok6 _ rfl _)) | (go_at_call_of 25 (Value.int .i64 17); exact calls_regS hS p (binup W (dnv W A K) 6 K okD ok6 _ rfl _)))); exact hKK)
  refine wpG_var rfl ?_
  simp only [Act.put, List.setIfInBounds_toArray, List.set_cons_zero, List.set_cons_succ]
  refine wpG_store rfl rfl ⟨rfl, fun gs ws hbs hgs hos => ?_⟩ ?_
  · have cs0 := cell_of_row ws gs 0 _ _ _ hos; have cs1 := cell_of_row ws gs 1 _ _ _ hos; have fs0 := frozen_row hos 0; have fs1 := frozen_row hos 1; exact ⟨_, by simp [go_sem, ptrTo, cs0, cs1, fs0, fs1]; rfl, (hbs.setCell (by simpa using hgs) _).setCell (by simpa using hgs) _, by simp [World.setCell, Array.getElem?_modify, hos]⟩
  refine wpG_nil ?_
  intro g6 w6 hb hg hos
  simp only [ptrTo, List.setIfInBounds_toArray, List.set_cons_zero, List.set_cons_succ]
  clear va0R va1R vn0R vn1R
  replace va0 := keep_cell hb va0
  replace va1 := keep_cell hb va1
  replace vn0 := keep_cell hb vn0
  replace vn1 := keep_cell hb vn1
  replace vt0 := keep_cell hb vt0
  replace vt1 := keep_cell hb vt1
  replace vr0 := keep_cell hb vr0
  replace vr1 := keep_cell hb vr1
  replace vl0 := keep_cell hb vl0
  replace vl1 := keep_cell hb vl1
  have vb0 : w6.cell? ⟨g6, 0, none⟩ = some (.int .i64 W) := cell_of_row _ _ 0 _ _ _ hos
  have vb1 : w6.cell? ⟨g6, 1, none⟩ = some (.int .u64 (u (upv W (dnv W A K) K))) := cell_of_row _ _ 1 _ _ _ hos
  replace hB := hB.trans (hb.mono hB.size)
  replace hz := hB.size
  clear hb hg hos
  go_wp2_with fail
  replace va0 := alloc_cell va0 (.cells #[.int .i64 W, .int .u64 0] 24)
  replace va1 := alloc_cell va1 (.cells #[.int .i64 W, .int .u64 0] 24)
  replace vn0 := alloc_cell vn0 (.cells #[.int .i64 W, .int .u64 0] 24)
  replace vn1 := alloc_cell vn1 (.cells #[.int .i64 W, .int .u64 0] 24)
  replace vt0 := alloc_cell vt0 (.cells #[.int .i64 W, .int .u64 0] 24)
  replace vt1 := alloc_cell vt1 (.cells #[.int .i64 W, .int .u64 0] 24)
  replace vr0 := alloc_cell vr0 (.cells #[.int .i64 W, .int .u64 0] 24)
  replace vr1 := alloc_cell vr1 (.cells #[.int .i64 W, .int .u64 0] 24)
  replace vl0 := alloc_cell vl0 (.cells #[.int .i64 W, .int .u64 0] 24)
  replace vl1 := alloc_cell vl1 (.cells #[.int .i64 W, .int .u64 0] 24)
  replace vb0 := alloc_cell vb0 (.cells #[.int .i64 W, .int .u64 0] 24)
  replace vb1 := alloc_cell vb1 (.cells #[.int .i64 W, .int .u64 0] 24)
  have vz0 : (w6.alloc (.cells #[.int .i64 W, .int .u64 0] 24)).cell? ⟨w6.heap.size, 0, none⟩ = some (.int .i64 W) := by first | (simp; done) | (simp [World.cell?_alloc_new]; done)
  have vz1 : (w6.alloc (.cells #[.int .i64 W, .int .u64 0] 24)).cell? ⟨w6.heap.size, 1, none⟩ = some (.int .u64 0) := by first | (simp; done) | (simp [World.cell?_alloc_new]; done)
  replace hB : Below w.heap.size w (w6.alloc (.cells #[.int .i64 W, .int .u64 0] 24)) := hB.alloc (by first | omega | (simp; omega) | (simp; done)) _
  clear hz
  generalize w6.alloc (.cells #[.int .i64 W, .int .u64 0] 24) = w7 at *
  have hz := hB.size
  go_wp2_with fail
  have va0R := cell_regrown va0
  have va1R := cell_regrown va1
  have vn0R := cell_regrown vn0
  have vn1R := cell_regrown vn1
  have vt0R := cell_regrown vt0
  have vt1R := cell_regrown vt1
  have vr0R := cell_regrown vr0
  have vr1R := cell_regrown vr1
  have vl0R := cell_regrown vl0
  have vl1R := cell_regrown vl1
  have vb0R := cell_regrown vb0
  have vb1R := cell_regrown vb1
  have vz0R := cell_regrown vz0
  have vz1R := cell_regrown vz1
  refine wp_region_quiet_below (by kernel_rfl) (by kernel_rfl) ?_
  repeat (go_big_quiet_step (first | (go_at_call 15; exact Calls.regrown_of (live_any _)) | (go_at_call_of 25 (Value.int .i64 18); exact Calls.regrown_of (bindn_is W A 64 F okA okF (u xf) hFF.out 0#64 HF2.out _)) | (go_at_call_of 25 (Value.agg #[Value.int .i64 6, Value.int .u64 (u K)]); exact Calls.regrown_of (binup W A 6 K okA ok6 _ rfl _)) | (go_at_call_of 25 (Value.int .i64 17); exact Calls.regrown_of (binup_is W A 64 F okA okF (u xf) hFF.out 0#64 HF1.out _)) | (go_at_call_of 25 (Value.int .i64 16); exact Calls.regrown_of (binw 16 W A T okA okT (by decide) _)) | (go_at_call_of 25 (Value.int .i64 11); exact Calls.regrown_of (binw 11 W A R okA okR (by decide) _)) | (go_at_call_of 25 (Value.int .i64 15); exact Calls.regrown_of (binw 15 W A (rb 11 W A R) okA okS (by decide) _))))
  refine wpQuiet_nil ?_
  intro _ hw'
  obtain ⟨⟨dq, osq⟩, hw''⟩ := hw'
  subst hw''
  replace hB := hB.trans ((below_regrown w7 dq osq).mono hB.size)
  go_wp2
  go_ret
  exact ⟨rfl, hB⟩

set_option maxRecDepth 100000 in
set_option maxHeartbeats 4000000 in
theorem walk (a0 : Int) (w0 : (Lit.int .u8 a0).wf = true) (a1 : Int) (w1 : (Lit.int .u64 a1).wf = true) (a2 : Int) (w2 : (Lit.int .u8 a2).wf = true) (a3 : Int) (w3 : (Lit.int .u64 a3).wf = true) (w : World) :
    Calls Try.prog 10 #[.int .u8 a0, .int .u64 a1, .int .u8 a2, .int .u64 a3] w fun e w' => e = .returned (.bool true) ∧ Below w.heap.size w w' := by
  by_cases hc : a3 < 1 + a0 % 64
  · exact walk_lt a0 w0 a1 w1 a2 w2 a3 w3 hc w
  · exact walk_ge a0 w0 a1 w1 a2 w2 a3 w3 hc w

theorem own : ownKnob Try.prog.godebug = none := by kernel_rfl
theorem cellsB : Try.prog.cellsOf 24 = 2 := by kernel_rfl

theorem reads {H : Type} (enc : TypeId × Value → H) (W : World) (base : Nat) (sp : Nat → Bool) (held : Bool) (a b : Int) (wa : (Lit.int .i64 a).wf = true) (wb : (Lit.int .u64 b).wf = true) :
    DataW.Trod enc Try.prog W base sp held 24 (.agg #[.int .i64 a, .int .u64 b]) (.agg [.lit (.int .i64 a), .lit (.int .u64 b)]) [] :=
  shut_agg2 (y0 := (.lit (.int .i64 a), [])) (y1 := (.lit (.int .u64 b), [])) Try.underlying24 (by kernel_rfl) cellsB ⟨1, by simp [DataW.trod, Try.underlying3, wa]⟩ ⟨1, by simp [DataW.trod, Try.underlying22, wb]⟩

/-! ### The row's step -/
set_option maxRecDepth 100000 in
theorem lifted (os : Os) (started : os.Started) (H : Type) (enc : TypeId × Value → H) :
    ReturnsInHanded {} Try.checked os 10 .any (Rows.bitvShiftsSpec.pre6 enc Try.prog Try.f10 Rows.bitvShiftsRow.domain false) (Rows.bitvShiftsSpec.post enc Try.prog Try.f10 false true false false) := by
  refine returnsInHanded_of_change (C := Try.checked) own started (by kernel_rfl) Try.func10
    (ChangeSpec.witness6 (enc := enc) (C := Try.checked) false ⟨#[], #[.int .u8 0, .int .u64 0, .int .u8 0, .int .u64 0], []⟩ 8 (by kernel_rfl) (by kernel_rfl) (by kernel_rfl) (by kernel_rfl)) ?_
  intro W base args ds gs before hval0 hW hcnd _
  have hval : ∀ (j : Nat) t v, Try.f10.params[j]? = some t → args[j]? = some v → Value.okWide Try.prog W .any base t v := hval0
  have hW' := hW
  obtain ⟨p, q, hA0, hV, rfl, hfz, hnd⟩ := hW
  have hA : DataW.TrodAll enc Try.prog W 0 (fun _ => true) true Try.f10.params.toList args.toList ds p := hA0
  rw [Try.params10] at hA hval
  obtain ⟨v0, vs0, d0, ds0, p0, q0, hargs, rfl, rfl, h0, r0⟩ := trodAll_cons hA
  obtain ⟨v1, vs1, d1, ds1, p1, q1, rfl, rfl, rfl, h1, r1⟩ := trodAll_cons r0
  obtain ⟨v2, vs2, d2, ds2, p2, q2, rfl, rfl, rfl, h2, r2⟩ := trodAll_cons r1
  obtain ⟨v3, vs3, d3, ds3, p3, q3, rfl, rfl, rfl, h3, r3⟩ := trodAll_cons r2
  obtain ⟨rfl, rfl, rfl⟩ := trodAll_nil r3
  obtain rfl : args = #[v0, v1, v2, v3] := by cases args; simp_all
  obtain ⟨rfl, rfl⟩ := trodVars_none hV
  obtain ⟨a0, rfl, rfl, rfl, w0⟩ := open_int Try.underlying5 (hval 0 5 v0 rfl rfl) h0
  obtain ⟨a1, rfl, rfl, rfl, w1⟩ := open_int Try.underlying22 (hval 1 22 v1 rfl rfl) h1
  obtain ⟨a2, rfl, rfl, rfl, w2⟩ := open_int Try.underlying5 (hval 2 5 v2 rfl rfl) h2
  obtain ⟨a3, rfl, rfl, rfl, w3⟩ := open_int Try.underlying22 (hval 3 22 v3 rfl rfl) h3
  clear hA0 hval0
  simp only [List.append_nil] at hW'
  refine (walk a0 w0 a1 w1 a2 w2 a3 w3 W).mono fun e W' ⟨he, bel⟩ => ?_
  subst he
  exact ⟨_, rfl, _, _, _, [], _, [], hW', trodAll_mk1 (shut_bool Try.underlying4 _), (trodAll_cons_mk (shut_int Try.underlying5 w0) (trodAll_cons_mk (shut_int Try.underlying22 w1) (trodAll_cons_mk (shut_int Try.underlying5 w2) (trodAll_cons_mk (shut_int Try.underlying22 w3) trodAll_mk0)))), rfl, bel.frame _, fun h => by cases h⟩

theorem over : Rows.bitvShiftsRow.holds Try.pinned (OpenSpec.ofChange Rows.bitvShiftsSpec) :=
  OpenClaim.holds_of_wide 10 Try.f10 rfl rfl rfl rfl rfl rfl rfl ⟨rfl, rfl, rfl, rfl, rfl⟩ rfl rfl rfl rfl rfl (by kernel_rfl) Try.func10 (by kernel_rfl)
    (of_decide_eq_true (by kernel_rfl)) (by unfold Func.isWrapper; first | (rw [if_pos (by decide +kernel)]; kernel_rfl) | (rw [if_neg (by decide +kernel)]; exact ⟨rfl, rfl⟩))
    (fun os started H enc _ => lifted os started H enc)

/-- The given statement. -/
theorem proved : Rows.BitvShiftsSaid := over
#print axioms proved
end Go.Proofs.Ytemolkkpigkanaa.bitvShifts
