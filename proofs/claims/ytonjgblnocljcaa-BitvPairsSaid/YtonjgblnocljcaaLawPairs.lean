/-
  What any operation of two makes of any two values is what the document says, or its error. For every input.
-/
import Derived.Test.YtonjgblnocljcaaRows
import Derived.Test.YtonjgblnocljcaaW
import Derived.Test.YtonjgblnocljcaaL
import Derived.ProofKit
import Derived.OpenShut
import Derived.Lib.SmallJoins
namespace Go.Proofs.Ytonjgblnocljcaa.bitvPairs
open Go Go.ChangeShapes Go.WideShapes Go.ChangeAt Go.RowKit Go.Joins Go.Sort
set_option linter.unusedVariables false

set_option maxRecDepth 100000 in
set_option maxHeartbeats 4000000 in
theorem walk (W0 : Int) (wW0 : (Lit.int .i64 W0).wf = true) (V0 : Int) (wV0 : (Lit.int .u64 V0).wf = true) (W1 : Int) (wW1 : (Lit.int .i64 W1).wf = true) (V1 : Int) (wV1 : (Lit.int .u64 V1).wf = true) (a2 : Int) (w2 : (Lit.int .i64 a2).wf = true) (w : World) :
    Calls Try.prog 4 #[.agg #[.int .i64 W0, .int .u64 V0], .agg #[.int .i64 W1, .int .u64 V1], .int .i64 a2] w fun e w' => e = .returned (.bool true) ∧ Below w.heap.size w w' := by
  obtain ⟨x, rfl⟩ := u_of V0 wV0
  obtain ⟨y, rfl⟩ := u_of V1 wV1
  obtain ⟨R1, S1, E1, hr⟩ : ∃ R S E, sBin a2 W0 x W1 y = (R, S, E) := ⟨_, _, _, rfl⟩
  have HR := Lib.hid hr
  clear hr
  go_enter Try.func4, Try.ntmps4
  have hB : Below w.heap.size w w := Below.refl _ _
  have hz := hB.size
  go_wp2_with fail
  refine (tolds R1 S1 E1 HR.out (bin_any a2 W0 wW0 x W1 wW1 y _)).mono ?_
  rintro e1 w1 ⟨rfl, hb⟩
  replace va0 : w1.cell? ⟨w.heap.size, 0, none⟩ = some (.int .i64 W0) := by first | exact keep_cell hb va0 | exact keep_cell hb (alloc_cell va0 _) | exact keep_cell hb (alloc_cell (alloc_cell va0 _) _) | exact keep_cell hb (by go_simp)
  replace va1 : w1.cell? ⟨w.heap.size, 1, none⟩ = some (.int .u64 (u x)) := by first | exact keep_cell hb va1 | exact keep_cell hb (alloc_cell va1 _) | exact keep_cell hb (alloc_cell (alloc_cell va1 _) _) | exact keep_cell hb (by go_simp)
  replace vb0 : w1.cell? ⟨w.heap.size + 1, 0, none⟩ = some (.int .i64 W1) := by first | exact keep_cell hb vb0 | exact keep_cell hb (alloc_cell vb0 _) | exact keep_cell hb (alloc_cell (alloc_cell vb0 _) _) | exact keep_cell hb (by go_simp)
  replace vb1 : w1.cell? ⟨w.heap.size + 1, 1, none⟩ = some (.int .u64 (u y)) := by first | exact keep_cell hb vb1 | exact keep_cell hb (alloc_cell vb1 _) | exact keep_cell hb (alloc_cell (alloc_cell vb1 _) _) | exact keep_cell hb (by go_simp)
  replace hB : Below w.heap.size w w1 := by repeat (first | exact Below.refl _ _ | exact hB | (refine Below.setCell ?_ (by first | omega | (simp; omega) | (simp; done)) _) | (refine Below.alloc ?_ (by first | omega | (simp; omega) | (simp; done)) _) | (refine below_drewN ?_ _) | (refine Below.drew ?_) | (refine below_via hb ?_ (by first | omega | (simp; omega) | (simp; done))))
  replace hz := hB.size
  clear hb
  have va0A := alloc_cell va0
  have va1A := alloc_cell va1
  have vb0A := alloc_cell vb0
  have vb1A := alloc_cell vb1
  go_wp2_with fail
  refine (tolds R1 S1 E1 HR.out (refbin_any a2 W0 x W1 y _)).mono ?_
  rintro e2 w2 ⟨rfl, hb⟩
  clear va0A va1A vb0A vb1A
  replace va0 : w2.cell? ⟨w.heap.size, 0, none⟩ = some (.int .i64 W0) := by first | exact keep_cell hb va0 | exact keep_cell hb (alloc_cell va0 _) | exact keep_cell hb (alloc_cell (alloc_cell va0 _) _) | exact keep_cell hb (by go_simp)
  replace va1 : w2.cell? ⟨w.heap.size, 1, none⟩ = some (.int .u64 (u x)) := by first | exact keep_cell hb va1 | exact keep_cell hb (alloc_cell va1 _) | exact keep_cell hb (alloc_cell (alloc_cell va1 _) _) | exact keep_cell hb (by go_simp)
  replace vb0 : w2.cell? ⟨w.heap.size + 1, 0, none⟩ = some (.int .i64 W1) := by first | exact keep_cell hb vb0 | exact keep_cell hb (alloc_cell vb0 _) | exact keep_cell hb (alloc_cell (alloc_cell vb0 _) _) | exact keep_cell hb (by go_simp)
  replace vb1 : w2.cell? ⟨w.heap.size + 1, 1, none⟩ = some (.int .u64 (u y)) := by first | exact keep_cell hb vb1 | exact keep_cell hb (alloc_cell vb1 _) | exact keep_cell hb (alloc_cell (alloc_cell vb1 _) _) | exact keep_cell hb (by go_simp)
  have vx0 : w2.cell? ⟨w1.heap.size, 0, none⟩ = some (.int .i64 R1) := keep_cell hb (by first | (simp; done) | (simp [World.cell?_alloc_new]; done))
  have vx1 : w2.cell? ⟨w1.heap.size, 1, none⟩ = some (.int .u64 (u S1)) := keep_cell hb (by first | (simp; done) | (simp [World.cell?_alloc_new]; done))
  replace hB : Below w.heap.size w w2 := by repeat (first | exact Below.refl _ _ | exact hB | (refine Below.setCell ?_ (by first | omega | (simp; omega) | (simp; done)) _) | (refine Below.alloc ?_ (by first | omega | (simp; omega) | (simp; done)) _) | (refine below_drewN ?_ _) | (refine Below.drew ?_) | (refine below_via hb ?_ (by first | omega | (simp; omega) | (simp; done))))
  replace hz := hB.size
  clear hb
  have vx0A := alloc_cell vx0
  have vx1A := alloc_cell vx1
  go_wp2_with fail
  refine (live_any _).mono ?_
  rintro e3 w3 ⟨rfl, hb⟩
  clear vx0A vx1A
  replace vx0 : w3.cell? ⟨w1.heap.size, 0, none⟩ = some (.int .i64 R1) := by first | exact keep_cell hb vx0 | exact keep_cell hb (alloc_cell vx0 _) | exact keep_cell hb (alloc_cell (alloc_cell vx0 _) _) | exact keep_cell hb (by go_simp)
  replace vx1 : w3.cell? ⟨w1.heap.size, 1, none⟩ = some (.int .u64 (u S1)) := by first | exact keep_cell hb vx1 | exact keep_cell hb (alloc_cell vx1 _) | exact keep_cell hb (alloc_cell (alloc_cell vx1 _) _) | exact keep_cell hb (by go_simp)
  have vy0 : w3.cell? ⟨w2.heap.size, 0, none⟩ = some (.int .i64 R1) := keep_cell hb (by first | (simp; done) | (simp [World.cell?_alloc_new]; done))
  have vy1 : w3.cell? ⟨w2.heap.size, 1, none⟩ = some (.int .u64 (u S1)) := keep_cell hb (by first | (simp; done) | (simp [World.cell?_alloc_new]; done))
  replace hB : Below w.heap.size w w3 := by repeat (first | exact Below.refl _ _ | exact hB | (refine Below.setCell ?_ (by first | omega | (simp; omega) | (simp; done)) _) | (refine Below.alloc ?_ (by first | omega | (simp; omega) | (simp; done)) _) | (refine below_drewN ?_ _) | (refine Below.drew ?_) | (refine below_via hb ?_ (by first | omega | (simp; omega) | (simp; done))))
  replace hz := hB.size
  clear hb
  go_wp2
  go_ret
  exact ⟨rfl, hB⟩

theorem own : ownKnob Try.prog.godebug = none := by kernel_rfl
theorem cellsB : Try.prog.cellsOf 24 = 2 := by kernel_rfl

theorem reads {H : Type} (enc : TypeId × Value → H) (W : World) (base : Nat) (sp : Nat → Bool) (held : Bool) (a b : Int) (wa : (Lit.int .i64 a).wf = true) (wb : (Lit.int .u64 b).wf = true) :
    DataW.Trod enc Try.prog W base sp held 24 (.agg #[.int .i64 a, .int .u64 b]) (.agg [.lit (.int .i64 a), .lit (.int .u64 b)]) [] :=
  shut_agg2 (y0 := (.lit (.int .i64 a), [])) (y1 := (.lit (.int .u64 b), [])) Try.underlying24 (by kernel_rfl) cellsB ⟨1, by simp [DataW.trod, Try.underlying3, wa]⟩ ⟨1, by simp [DataW.trod, Try.underlying22, wb]⟩

/-! ### The row's step -/
set_option maxRecDepth 100000 in
theorem lifted (os : Os) (started : os.Started) (H : Type) (enc : TypeId × Value → H) :
    ReturnsInHanded {} Try.checked os 4 .any (Rows.bitvPairsSpec.pre6 enc Try.prog Try.f4 Rows.bitvPairsRow.domain false) (Rows.bitvPairsSpec.post enc Try.prog Try.f4 false true false false) := by
  refine returnsInHanded_of_change (C := Try.checked) own started (by kernel_rfl) Try.func4
    (ChangeSpec.witness6 (enc := enc) (C := Try.checked) false ⟨#[], #[.agg #[.int .i64 0, .int .u64 0], .agg #[.int .i64 0, .int .u64 0], .int .i64 0], []⟩ 8 (by kernel_rfl) (by kernel_rfl) (by kernel_rfl) (by kernel_rfl)) ?_
  intro W base args ds gs before hval0 hW hcnd _
  have hval : ∀ (j : Nat) t v, Try.f4.params[j]? = some t → args[j]? = some v → Value.okWide Try.prog W .any base t v := hval0
  have hW' := hW
  obtain ⟨p, q, hA0, hV, rfl, hfz, hnd⟩ := hW
  have hA : DataW.TrodAll enc Try.prog W 0 (fun _ => true) true Try.f4.params.toList args.toList ds p := hA0
  rw [Try.params4] at hA hval
  obtain ⟨v0, vs0, d0, ds0, p0, q0, hargs, rfl, rfl, h0, r0⟩ := trodAll_cons hA
  obtain ⟨v1, vs1, d1, ds1, p1, q1, rfl, rfl, rfl, h1, r1⟩ := trodAll_cons r0
  obtain ⟨v2, vs2, d2, ds2, p2, q2, rfl, rfl, rfl, h2, r2⟩ := trodAll_cons r1
  obtain ⟨rfl, rfl, rfl⟩ := trodAll_nil r2
  obtain rfl : args = #[v0, v1, v2] := by cases args; simp_all
  obtain ⟨rfl, rfl⟩ := trodVars_none hV
  obtain ⟨x0, y0, ya0, yb0, m0, rfl, rfl, rfl, ka0, kb0⟩ := open_agg2 Try.underlying24 (by kernel_rfl) cellsB (hval 0 24 v0 rfl rfl) h0
  obtain ⟨W0, ea0, rfl, wW0⟩ := DataW.trod_int Try.underlying3 ka0
  obtain ⟨V0, eb0, rfl, wV0⟩ := DataW.trod_int Try.underlying22 kb0
  simp at ea0 eb0
  subst ea0 eb0
  obtain ⟨x1, y1, ya1, yb1, m1, rfl, rfl, rfl, ka1, kb1⟩ := open_agg2 Try.underlying24 (by kernel_rfl) cellsB (hval 1 24 v1 rfl rfl) h1
  obtain ⟨W1, ea1, rfl, wW1⟩ := DataW.trod_int Try.underlying3 ka1
  obtain ⟨V1, eb1, rfl, wV1⟩ := DataW.trod_int Try.underlying22 kb1
  simp at ea1 eb1
  subst ea1 eb1
  obtain ⟨a2, rfl, rfl, rfl, w2⟩ := open_int Try.underlying3 (hval 2 3 v2 rfl rfl) h2
  clear hA0 hval0
  simp only [List.append_nil] at hW'
  refine (walk W0 wW0 V0 wV0 W1 wW1 V1 wV1 a2 w2 W).mono fun e W' ⟨he, bel⟩ => ?_
  subst he
  exact ⟨_, rfl, _, _, _, [], _, [], hW', trodAll_mk1 (shut_bool Try.underlying4 _), (trodAll_cons_mk (reads enc _ _ _ _ W0 V0 wW0 wV0) (trodAll_cons_mk (reads enc _ _ _ _ W1 V1 wW1 wV1) (trodAll_cons_mk (shut_int Try.underlying3 w2) trodAll_mk0))), rfl, bel.frame _, fun h => by cases h⟩

theorem over : Rows.bitvPairsRow.holds Try.pinned (OpenSpec.ofChange Rows.bitvPairsSpec) :=
  OpenClaim.holds_of_wide 4 Try.f4 rfl rfl rfl rfl rfl rfl rfl ⟨rfl, rfl, rfl, rfl, rfl⟩ rfl rfl rfl rfl rfl (by kernel_rfl) Try.func4 (by kernel_rfl)
    (of_decide_eq_true (by kernel_rfl)) (by unfold Func.isWrapper; first | (rw [if_pos (by decide +kernel)]; kernel_rfl) | (rw [if_neg (by decide +kernel)]; exact ⟨rfl, rfl⟩))
    (fun os started H enc _ => lifted os started H enc)

/-- The given statement. -/
theorem proved : Rows.BitvPairsSaid := over
#print axioms proved
end Go.Proofs.Ytonjgblnocljcaa.bitvPairs
