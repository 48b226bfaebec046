/-
  Bits are sets: and, or and not keep the laws of de Morgan; exclusive or is what is in one, and not in the other; twice it is nothing; the rest of the statement likewise. For every input.
-/
import Derived.Test.YtonjgblnocljcaaRows
import Derived.Test.YtonjgblnocljcaaH
import Derived.BigQuiet
import Derived.ProofKit
import Derived.OpenShut
import Derived.Lib.SmallJoins
namespace Go.Proofs.Ytonjgblnocljcaa.bitvSets
open Go Go.ChangeShapes Go.WideShapes Go.ChangeAt Go.RowKit Go.Joins Go.Sort
set_option linter.unusedVariables false

set_option maxRecDepth 100000 in
set_option maxHeartbeats 4000000 in
theorem walk (a0 : Int) (w0 : (Lit.int .u8 a0).wf = true) (a1 : Int) (w1 : (Lit.int .u64 a1).wf = true) (a2 : Int) (w2 : (Lit.int .u64 a2).wf = true) (w : World) :
    Calls Try.prog 7 #[.int .u8 a0, .int .u64 a1, .int .u64 a2] w fun e w' => e = .returned (.bool true) ∧ Below w.heap.size w w' := by
  obtain ⟨r0, r1⟩ := bounds_u8 w0
  obtain ⟨W, hW⟩ : ∃ W : Int, W = 1 + a0 % 64 := ⟨_, rfl⟩
  have W1 : 1 ≤ W := by omega
  have W2 : W ≤ 64 := by omega
  have HW := Lib.hid hW
  clear hW
  obtain ⟨xa, rfl⟩ := u_of a1 w1
  obtain ⟨A, hA⟩ : ∃ A : BitVec 64, A = xa &&& msk W := ⟨_, rfl⟩
  have okA : ok W A = true := by rw [hA]; exact ok_masked W1 W2 _
  have HA := Lib.hid hA
  clear hA
  obtain ⟨xb, rfl⟩ := u_of a2 w2
  obtain ⟨B, hB⟩ : ∃ A : BitVec 64, A = xb &&& msk W := ⟨_, rfl⟩
  have okB : ok W B = true := by rw [hB]; exact ok_masked W1 W2 _
  have HB := Lib.hid hB
  clear hB
  have q1 : (ru 1 W (rb 11 W A B) == rb 12 W (ru 1 W A) (ru 1 W B)) = true := by rw [beq_iff_eq]; exact law_morgan okA okB
  have q2 : (rb 13 W A B == rb 12 W (rb 11 W A (ru 1 W B)) (rb 11 W B (ru 1 W A))) = true := by rw [beq_iff_eq]; exact law_either okA okB
  have q3 : (rb 13 1 (ru 5 W A) (ru 5 W B) == ru 5 W (rb 13 W A B)) = true := by rw [beq_iff_eq]; exact law_odd okA okB
  have q4 : (ru 6 1 (ru 4 W A) == ru 3 W (ru 1 W A)) = true := by rw [beq_iff_eq]; exact law_any okA
  have q5 : (rb 13 W (rb 13 W A B) B == A) = true := by rw [beq_iff_eq]; exact law_twice okA okB
  have q6 : (rb 14 W (rb 11 W A B) (rb 12 W A B) == rb 14 W A B) = true := by rw [beq_iff_eq]; exact law_halves okA okB
  go_enter Try.func7, Try.ntmps7
  have hB : Below w.heap.size w w := Below.refl _ _
  have hz := hB.size
  go_wp2_with fail
  refine (masked_is a0 ⟨r0, r1⟩ xa _ rfl W A HW.out HA.out _).mono ?_
  rintro e1 w1 ⟨rfl, hb⟩
  replace hB : Below w.heap.size w w1 := by repeat (first | exact Below.refl _ _ | exact hB | (refine Below.setCell ?_ (by first | omega | (simp; omega) | (simp; done)) _) | (refine Below.alloc ?_ (by first | omega | (simp; omega) | (simp; done)) _) | (refine below_drewN ?_ _) | (refine Below.drew ?_) | (refine below_via hb ?_ (by first | omega | (simp; omega) | (simp; done))))
  replace hz := hB.size
  clear hb
  go_wp2_with fail
  refine (masked_is a0 ⟨r0, r1⟩ xb _ rfl W B HW.out HB.out _).mono ?_
  rintro e2 w2 ⟨rfl, hb⟩
  have va0 : w2.cell? ⟨w1.heap.size, 0, none⟩ = some (.int .i64 W) := keep_cell hb (by first | (simp; done) | (simp [World.cell?_alloc_new]; done))
  have va1 : w2.cell? ⟨w1.heap.size, 1, none⟩ = some (.int .u64 (u A)) := keep_cell hb (by first | (simp; done) | (simp [World.cell?_alloc_new]; done))
  replace hB : Below w.heap.size w w2 := by repeat (first | exact Below.refl _ _ | exact hB | (refine Below.setCell ?_ (by first | omega | (simp; omega) | (simp; done)) _) | (refine Below.alloc ?_ (by first | omega | (simp; omega) | (simp; done)) _) | (refine below_drewN ?_ _) | (refine Below.drew ?_) | (refine below_via hb ?_ (by first | omega | (simp; omega) | (simp; done))))
  replace hz := hB.size
  clear hb
  go_wp2_with fail
  replace va0 := alloc_cell va0 (.cells #[.int .i64 W, .int .u64 (u B)] 24)
  replace va1 := alloc_cell va1 (.cells #[.int .i64 W, .int .u64 (u B)] 24)
  have vb0 : (w2.alloc (.cells #[.int .i64 W, .int .u64 (u B)] 24)).cell? ⟨w2.heap.size, 0, none⟩ = some (.int .i64 W) := by first | (simp; done) | (simp [World.cell?_alloc_new]; done)
  have vb1 : (w2.alloc (.cells #[.int .i64 W, .int .u64 (u B)] 24)).cell? ⟨w2.heap.size, 1, none⟩ = some (.int .u64 (u B)) := by first | (simp; done) | (simp [World.cell?_alloc_new]; done)
  replace hB : Below w.heap.size w (w2.alloc (.cells #[.int .i64 W, .int .u64 (u B)] 24)) := hB.alloc (by first | omega | (simp; omega) | (simp; done)) _
  clear hz
  generalize w2.alloc (.cells #[.int .i64 W, .int .u64 (u B)] 24) = w3 at *
  have hz := hB.size
  go_wp2_with fail
  have va0R := cell_regrown va0
  have va1R := cell_regrown va1
  have vb0R := cell_regrown vb0
  have vb1R := cell_regrown vb1
  refine wp_region_quiet_below (by kernel_rfl) (by kernel_rfl) ?_
  repeat (go_big_quiet_step (first | (go_at_call_of 26 (Value.int .i64 1); exact Calls.regrown_of (unw _ _ _ (by first | assumption | exact (bin_w (by assumption) (by assumption) (by decide)).2 | exact (un_w (by assumption) (by decide)).2 | exact (un_one (by assumption) (by decide)).2 | exact (bin_w (by assumption) (un_w (by assumption) (by decide)).2 (by decide)).2) (by decide) _)) | (go_at_call_of 25 (Value.int .i64 11); exact Calls.regrown_of (binw _ _ _ _ (by first | assumption | exact (bin_w (by assumption) (by assumption) (by decide)).2 | exact (un_w (by assumption) (by decide)).2 | exact (un_one (by assumption) (by decide)).2 | exact (bin_w (by assumption) (un_w (by assumption) (by decide)).2 (by decide)).2) (by first | assumption | exact (bin_w (by assumption) (by assumption) (by decide)).2 | exact (un_w (by assumption) (by decide)).2 | exact (un_one (by assumption) (by decide)).2 | exact (bin_w (by assumption) (un_w (by assumption) (by decide)).2 (by decide)).2) (by decide) _)) | (go_at_call_of 25 (Value.int .i64 12); exact Calls.regrown_of (binw _ _ _ _ (by first | assumption | exact (bin_w (by assumption) (by assumption) (by decide)).2 | exact (un_w (by assumption) (by decide)).2 | exact (un_one (by assumption) (by decide)).2 | exact (bin_w (by assumption) (un_w (by assumption) (by decide)).2 (by decide)).2) (by first | assumption | exact (bin_w (by assumption) (by assumption) (by decide)).2 | exact (un_w (by assumption) (by decide)).2 | exact (un_one (by assumption) (by decide)).2 | exact (bin_w (by assumption) (un_w (by assumption) (by decide)).2 (by decide)).2) (by decide) _))))
  refine wpQuiet_nil ?_
  intro _ hw'
  obtain ⟨⟨dq, osq⟩, hw''⟩ := hw'
  subst hw''
  replace hB := hB.trans ((below_regrown w3 dq osq).mono hB.size)
  replace va0 := va0R dq osq
  replace va1 := va1R dq osq
  replace vb0 := vb0R dq osq
  replace vb1 := vb1R dq osq
  clear va0R va1R vb0R vb1R hz
  generalize grow (redrawn w3 dq) osq = w4 at *
  have hz := hB.size
  go_wp2_with fail
  have va0R := cell_regrown va0
  have va1R := cell_regrown va1
  have vb0R := cell_regrown vb0
  have vb1R := cell_regrown vb1
  refine wp_region_quiet_below (by kernel_rfl) (by kernel_rfl) ?_
  repeat (go_big_quiet_step (first | (go_at_call_of 26 (Value.int .i64 1); exact Calls.regrown_of (unw _ _ _ (by first | assumption | exact (bin_w (by assumption) (by assumption) (by decide)).2 | exact (un_w (by assumption) (by decide)).2 | exact (un_one (by assumption) (by decide)).2 | exact (bin_w (by assumption) (un_w (by assumption) (by decide)).2 (by decide)).2) (by decide) _)) | (go_at_call_of 25 (Value.int .i64 11); exact Calls.regrown_of (binw _ _ _ _ (by first | assumption | exact (bin_w (by assumption) (by assumption) (by decide)).2 | exact (un_w (by assumption) (by decide)).2 | exact (un_one (by assumption) (by decide)).2 | exact (bin_w (by assumption) (un_w (by assumption) (by decide)).2 (by decide)).2) (by first | assumption | exact (bin_w (by assumption) (by assumption) (by decide)).2 | exact (un_w (by assumption) (by decide)).2 | exact (un_one (by assumption) (by decide)).2 | exact (bin_w (by assumption) (un_w (by assumption) (by decide)).2 (by decide)).2) (by decide) _)) | (go_at_call_of 25 (Value.int .i64 12); exact Calls.regrown_of (binw _ _ _ _ (by first | assumption | exact (bin_w (by assumption) (by assumption) (by decide)).2 | exact (un_w (by assumption) (by decide)).2 | exact (un_one (by assumption) (by decide)).2 | exact (bin_w (by assumption) (un_w (by assumption) (by decide)).2 (by decide)).2) (by first | assumption | exact (bin_w (by assumption) (by assumption) (by decide)).2 | exact (un_w (by assumption) (by decide)).2 | exact (un_one (by assumption) (by decide)).2 | exact (bin_w (by assumption) (un_w (by assumption) (by decide)).2 (by decide)).2) (by decide) _)) | (go_at_call_of 25 (Value.int .i64 13); exact Calls.regrown_of (binw _ _ _ _ (by first | assumption | exact (bin_w (by assumption) (by assumption) (by decide)).2 | exact (un_w (by assumption) (by decide)).2 | exact (un_one (by assumption) (by decide)).2 | exact (bin_w (by assumption) (un_w (by assumption) (by decide)).2 (by decide)).2) (by first | assumption | exact (bin_w (by assumption) (by assumption) (by decide)).2 | exact (un_w (by assumption) (by decide)).2 | exact (un_one (by assumption) (by decide)).2 | exact (bin_w (by assumption) (un_w (by assumption) (by decide)).2 (by decide)).2) (by decide) _))))
  refine wpQuiet_nil ?_
  intro _ hw'
  obtain ⟨⟨dq, osq⟩, hw''⟩ := hw'
  subst hw''
  replace hB := hB.trans ((below_regrown w4 dq osq).mono hB.size)
  replace va0 := va0R dq osq
  replace va1 := va1R dq osq
  replace vb0 := vb0R dq osq
  replace vb1 := vb1R dq osq
  clear va0R va1R vb0R vb1R hz
  generalize grow (redrawn w4 dq) osq = w5 at *
  have hz := hB.size
  go_wp2_with fail
  have va0R := cell_regrown va0
  have va1R := cell_regrown va1
  have vb0R := cell_regrown vb0
  have vb1R := cell_regrown vb1
  refine wp_region_quiet_below (by kernel_rfl) (by kernel_rfl) ?_
  repeat (go_big_quiet_step (first | (go_at_call_of 26 (Value.int .i64 5); exact Calls.regrown_of (unb _ _ _ (by first | assumption | exact (bin_w (by assumption) (by assumption) (by decide)).2 | exact (un_w (by assumption) (by decide)).2 | exact (un_one (by assumption) (by decide)).2 | exact (bin_w (by assumption) (un_w (by assumption) (by decide)).2 (by decide)).2) (by decide) _)) | (go_at_call_of 25 (Value.int .i64 13); exact Calls.regrown_of (binw _ _ _ _ (by first | assumption | exact (bin_w (by assumption) (by assumption) (by decide)).2 | exact (un_w (by assumption) (by decide)).2 | exact (un_one (by assumption) (by decide)).2 | exact (bin_w (by assumption) (un_w (by assumption) (by decide)).2 (by decide)).2) (by first | assumption | exact (bin_w (by assumption) (by assumption) (by decide)).2 | exact (un_w (by assumption) (by decide)).2 | exact (un_one (by assumption) (by decide)).2 | exact (bin_w (by assumption) (un_w (by assumption) (by decide)).2 (by decide)).2) (by decide) _))))
  refine wpQuiet_nil ?_
  intro _ hw'
  obtain ⟨⟨dq, osq⟩, hw''⟩ := hw'
  subst hw''
  replace hB := hB.trans ((below_regrown w5 dq osq).mono hB.size)
  replace va0 := va0R dq osq
  replace va1 := va1R dq osq
  replace vb0 := vb0R dq osq
  replace vb1 := vb1R dq osq
  clear va0R va1R vb0R vb1R hz
  generalize grow (redrawn w5 dq) osq = w6 at *
  have hz := hB.size
  go_wp2_with fail
  have va0R := cell_regrown va0
  have va1R := cell_regrown va1
  have vb0R := cell_regrown vb0
  have vb1R := cell_regrown vb1
  refine wp_region_quiet_below (by kernel_rfl) (by kernel_rfl) ?_
  repeat (go_big_quiet_step (first | (go_at_call_of 26 (Value.int .i64 1); exact Calls.regrown_of (unw _ _ _ (by first | assumption | exact (bin_w (by assumption) (by assumption) (by decide)).2 | exact (un_w (by assumption) (by decide)).2 | exact (un_one (by assumption) (by decide)).2 | exact (bin_w (by assumption) (un_w (by assumption) (by decide)).2 (by decide)).2) (by decide) _)) | (go_at_call_of 26 (Value.int .i64 4); exact Calls.regrown_of (unb _ _ _ (by first | assumption | exact (bin_w (by assumption) (by assumption) (by decide)).2 | exact (un_w (by assumption) (by decide)).2 | exact (un_one (by assumption) (by decide)).2 | exact (bin_w (by assumption) (un_w (by assumption) (by decide)).2 (by decide)).2) (by decide) _)) | (go_at_call_of 26 (Value.int .i64 3); exact Calls.regrown_of (unb _ _ _ (by first | assumption | exact (bin_w (by assumption) (by assumption) (by decide)).2 | exact (un_w (by assumption) (by decide)).2 | exact (un_one (by assumption) (by decide)).2 | exact (bin_w (by assumption) (un_w (by assumption) (by decide)).2 (by decide)).2) (by decide) _)) | (go_at_call_of 26 (Value.int .i64 6); exact Calls.regrown_of (unn _ (by first | assumption | exact (bin_w (by assumption) (by assumption) (by decide)).2 | exact (un_w (by assumption) (by decide)).2 | exact (un_one (by assumption) (by decide)).2 | exact (bin_w (by assumption) (un_w (by assumption) (by decide)).2 (by decide)).2) _))))
  refine wpQuiet_nil ?_
  intro _ hw'
  obtain ⟨⟨dq, osq⟩, hw''⟩ := hw'
  subst hw''
  replace hB := hB.trans ((below_regrown w6 dq osq).mono hB.size)
  replace va0 := va0R dq osq
  replace va1 := va1R dq osq
  replace vb0 := vb0R dq osq
  replace vb1 := vb1R dq osq
  clear va0R va1R vb0R vb1R hz
  generalize grow (redrawn w6 dq) osq = w7 at *
  have hz := hB.size
  go_wp2_with fail
  have va0R := cell_regrown va0
  have va1R := cell_regrown va1
  have vb0R := cell_regrown vb0
  have vb1R := cell_regrown vb1
  refine wp_region_quiet_below (by kernel_rfl) (by kernel_rfl) ?_
  repeat (go_big_quiet_step (first | (go_at_call 15; exact Calls.regrown_of (live_any _)) | (go_at_call_of 25 (Value.int .i64 11); exact Calls.regrown_of (binw _ _ _ _ (by first | assumption | exact (bin_w (by assumption) (by assumption) (by decide)).2 | exact (un_w (by assumption) (by decide)).2 | exact (un_one (by assumption) (by decide)).2 | exact (bin_w (by assumption) (un_w (by assumption) (by decide)).2 (by decide)).2) (by first | assumption | exact (bin_w (by assumption) (by assumption) (by decide)).2 | exact (un_w (by assumption) (by decide)).2 | exact (un_one (by assumption) (by decide)).2 | exact (bin_w (by assumption) (un_w (by assumption) (by decide)).2 (by decide)).2) (by decide) _)) | (go_at_call_of 25 (Value.int .i64 12); exact Calls.regrown_of (binw _ _ _ _ (by first | assumption | exact (bin_w (by assumption) (by assumption) (by decide)).2 | exact (un_w (by assumption) (by decide)).2 | exact (un_one (by assumption) (by decide)).2 | exact (bin_w (by assumption) (un_w (by assumption) (by decide)).2 (by decide)).2) (by first | assumption | exact (bin_w (by assumption) (by assumption) (by decide)).2 | exact (un_w (by assumption) (by decide)).2 | exact (un_one (by assumption) (by decide)).2 | exact (bin_w (by assumption) (un_w (by assumption) (by decide)).2 (by decide)).2) (by decide) _)) | (go_at_call_of 25 (Value.int .i64 13); exact Calls.regrown_of (binw _ _ _ _ (by first | assumption | exact (bin_w (by assumption) (by assumption) (by decide)).2 | exact (un_w (by assumption) (by decide)).2 | exact (un_one (by assumption) (by decide)).2 | exact (bin_w (by assumption) (un_w (by assumption) (by decide)).2 (by decide)).2) (by first | assumption | exact (bin_w (by assumption) (by assumption) (by decide)).2 | exact (un_w (by assumption) (by decide)).2 | exact (un_one (by assumption) (by decide)).2 | exact (bin_w (by assumption) (un_w (by assumption) (by decide)).2 (by decide)).2) (by decide) _)) | (go_at_call_of 25 (Value.int .i64 14); exact Calls.regrown_of (binw _ _ _ _ (by first | assumption | exact (bin_w (by assumption) (by assumption) (by decide)).2 | exact (un_w (by assumption) (by decide)).2 | exact (un_one (by assumption) (by decide)).2 | exact (bin_w (by assumption) (un_w (by assumption) (by decide)).2 (by decide)).2) (by first | assumption | exact (bin_w (by assumption) (by assumption) (by decide)).2 | exact (un_w (by assumption) (by decide)).2 | exact (un_one (by assumption) (by decide)).2 | exact (bin_w (by assumption) (un_w (by assumption) (by decide)).2 (by decide)).2) (by decide) _))))
  refine wpQuiet_nil ?_
  intro _ hw'
  obtain ⟨⟨dq, osq⟩, hw''⟩ := hw'
  subst hw''
  replace hB := hB.trans ((below_regrown w7 dq osq).mono hB.size)
  go_wp2
  go_ret
  exact ⟨rfl, hB⟩

theorem own : ownKnob Try.prog.godebug = none := by kernel_rfl
theorem cellsB : Try.prog.cellsOf 24 = 2 := by kernel_rfl

theorem reads {H : Type} (enc : TypeId × Value → H) (W : World) (base : Nat) (sp : Nat → Bool) (held : Bool) (a b : Int) (wa : (Lit.int .i64 a).wf = true) (wb : (Lit.int .u64 b).wf = true) :
    DataW.Trod enc Try.prog W base sp held 24 (.agg #[.int .i64 a, .int .u64 b]) (.agg [.lit (.int .i64 a), .lit (.int .u64 b)]) [] :=
  shut_agg2 (y0 := (.lit (.int .i64 a), [])) (y1 := (.lit (.int .u64 b), [])) Try.underlying24 (by kernel_rfl) cellsB ⟨1, by simp [DataW.trod, Try.underlying3, wa]⟩ ⟨1, by simp [DataW.trod, Try.underlying22, wb]⟩

/-! ### The row's step -/
set_option maxRecDepth 100000 in
theorem lifted (os : Os) (started : os.Started) (H : Type) (enc : TypeId × Value → H) :
    ReturnsInHanded {} Try.checked os 7 .any (Rows.bitvSetsSpec.pre6 enc Try.prog Try.f7 Rows.bitvSetsRow.domain false) (Rows.bitvSetsSpec.post enc Try.prog Try.f7 false true false false) := by
  refine returnsInHanded_of_change (C := Try.checked) own started (by kernel_rfl) Try.func7
    (ChangeSpec.witness6 (enc := enc) (C := Try.checked) false ⟨#[], #[.int .u8 0, .int .u64 0, .int .u64 0], []⟩ 8 (by kernel_rfl) (by kernel_rfl) (by kernel_rfl) (by kernel_rfl)) ?_
  intro W base args ds gs before hval0 hW hcnd _
  have hval : ∀ (j : Nat) t v, Try.f7.params[j]? = some t → args[j]? = some v → Value.okWide Try.prog W .any base t v := hval0
  have hW' := hW
  obtain ⟨p, q, hA0, hV, rfl, hfz, hnd⟩ := hW
  have hA : DataW.TrodAll enc Try.prog W 0 (fun _ => true) true Try.f7.params.toList args.toList ds p := hA0
  rw [Try.params7] at hA hval
  obtain ⟨v0, vs0, d0, ds0, p0, q0, hargs, rfl, rfl, h0, r0⟩ := trodAll_cons hA
  obtain ⟨v1, vs1, d1, ds1, p1, q1, rfl, rfl, rfl, h1, r1⟩ := trodAll_cons r0
  obtain ⟨v2, vs2, d2, ds2, p2, q2, rfl, rfl, rfl, h2, r2⟩ := trodAll_cons r1
  obtain ⟨rfl, rfl, rfl⟩ := trodAll_nil r2
  obtain rfl : args = #[v0, v1, v2] := by cases args; simp_all
  obtain ⟨rfl, rfl⟩ := trodVars_none hV
  obtain ⟨a0, rfl, rfl, rfl, w0⟩ := open_int Try.underlying5 (hval 0 5 v0 rfl rfl) h0
  obtain ⟨a1, rfl, rfl, rfl, w1⟩ := open_int Try.underlying22 (hval 1 22 v1 rfl rfl) h1
  obtain ⟨a2, rfl, rfl, rfl, w2⟩ := open_int Try.underlying22 (hval 2 22 v2 rfl rfl) h2
  clear hA0 hval0
  simp only [List.append_nil] at hW'
  refine (walk a0 w0 a1 w1 a2 w2 W).mono fun e W' ⟨he, bel⟩ => ?_
  subst he
  exact ⟨_, rfl, _, _, _, [], _, [], hW', trodAll_mk1 (shut_bool Try.underlying4 _), (trodAll_cons_mk (shut_int Try.underlying5 w0) (trodAll_cons_mk (shut_int Try.underlying22 w1) (trodAll_cons_mk (shut_int Try.underlying22 w2) trodAll_mk0))), rfl, bel.frame _, fun h => by cases h⟩

theorem over : Rows.bitvSetsRow.holds Try.pinned (OpenSpec.ofChange Rows.bitvSetsSpec) :=
  OpenClaim.holds_of_wide 7 Try.f7 rfl rfl rfl rfl rfl rfl rfl ⟨rfl, rfl, rfl, rfl, rfl⟩ rfl rfl rfl rfl rfl (by kernel_rfl) Try.func7 (by kernel_rfl)
    (of_decide_eq_true (by kernel_rfl)) (by unfold Func.isWrapper; first | (rw [if_pos (by decide +kernel)]; kernel_rfl) | (rw [if_neg (by decide +kernel)]; exact ⟨rfl, rfl⟩))
    (fun os started H enc _ => lifted os started H enc)

/-- The given statement. -/
theorem proved : Rows.BitvSetsSaid := over
#print axioms proved
end Go.Proofs.Ytonjgblnocljcaa.bitvSets
