/-
  Any values, one behind the other, are what the document says, or its error. For every input.
-/
import Derived.Test.YtemolkkpigkanaaRows
import Derived.Test.YtemolkkpigkanaaP
import Derived.Test.YtemolkkpigkanaaL
import Derived.ProofKit
import Derived.OpenShut
import Derived.Lib.SmallJoins
import Derived.Deep.SlicePairs
import Derived.Carry
namespace Go.Proofs.Ytemolkkpigkanaa.bitvCats
open Go Go.ChangeShapes Go.WideShapes Go.ChangeAt Go.RowKit Go.Joins Go.Sort Go.Deep
set_option linter.unusedVariables false

/-! ### The walk -/
set_option maxHeartbeats 2000000 in
theorem walk_none (a : Option Addr) (cap : Nat) (w : World) : Calls Try.prog 5 #[.slice a 0 cap] w fun e w' => e = .returned (.bool true) ∧ Below w.heap.size w w' := by
  go_enter Try.func5, Try.ntmps5
  go_wp2_with fail
  refine (live_any _).mono ?_
  rintro e1 w1 ⟨rfl, hb1⟩
  go_wp2_with fail
  refine (tolds 0 0#64 1 rfl (cat_none _ _ _)).mono ?_
  rintro e2 w2 ⟨rfl, hb2⟩
  go_wp2_with fail
  refine (tolds 0 0#64 1 rfl (refcat_none _ _ _)).mono ?_
  rintro e3 w3 ⟨rfl, hb3⟩
  have x0 := keep_cell hb3 (b := w2.heap.size) (o := 0) (v := .int .i64 0) (by simp)
  have x1 := keep_cell hb3 (b := w2.heap.size) (o := 1) (v := .int .u64 (u 0#64)) (by simp)
  have X0 := alloc_cell x0
  have X1 := alloc_cell x1
  have hz := hb1.size
  have hz2 := hb2.size
  have hz3 := hb3.size
  simp at hz3
  go_wp2
  go_ret
  exact ⟨rfl, (hb1.trans ((hb2.mono hz).trans (((Below.refl _ _).alloc (by omega) _).trans (hb3.mono (by simp; omega))))).alloc (by omega) _⟩

set_option maxHeartbeats 2000000 in
theorem walk_many (n : Nat) (hn : 200 < n) (a : Option Addr) (cap : Nat) (w : World) : Calls Try.prog 5 #[.slice a n cap] w fun e w' => e = .returned (.bool true) ∧ Below w.heap.size w w' := by
  have hd : decide (200 < n) = true := by simpa using hn
  have hd2 : decide ((200 : Int) < (n : Int)) = true := by rw [decide_eq_true_eq]; omega
  go_enter Try.func5, Try.ntmps5
  go_wp2_with fail
  refine (live_any _).mono ?_
  rintro e1 w1 ⟨rfl, hb1⟩
  go_wp2
  go_ret
  exact ⟨rfl, hb1⟩

set_option maxHeartbeats 4000000 in
theorem walk_any (w : World) (l : List (Int × BitVec 64)) (b off cap : Nat) (hl : l.length ≤ 200) (hne : 0 < l.length) (hrow : Row w b off l) (hbl : b < w.heap.size) : Calls Try.prog 5 #[.slice (some ⟨b, off, none⟩) l.length cap] w fun e w' => e = .returned (.bool true) ∧ Below w.heap.size w w' := by
  have hd : decide (200 < l.length) = false := by simpa using hl
  have hd2 : decide ((200 : Int) < (l.length : Int)) = false := by rw [decide_eq_false_iff_not]; omega
  obtain ⟨CW, CV, CE, hc⟩ : ∃ W V E, sCat l = (W, V, E) := ⟨_, _, _, rfl⟩
  have HC := Lib.hid hc
  clear hc
  go_enter Try.func5, Try.ntmps5
  go_wp2_with fail
  refine (live_any _).mono ?_
  rintro e1 w1 ⟨rfl, hb1⟩
  have hz := hb1.size
  have hrow1 := row_below hrow hb1 hbl
  have hbl1 : b < w1.heap.size := by omega
  go_wp2_with fail
  refine (tolds CW CV CE HC.out (cat_any _ l b off cap (by omega) hne hrow1 hbl1)).mono ?_
  rintro e2 w2 ⟨rfl, hb2⟩
  have hz2 := hb2.size
  have hrow2 := row_alloc (row_below hrow1 hb2 hbl1) (by omega) (.cells #[.int .i64 CW, .int .u64 (u CV)] 24)
  have hbl2 : b < (w2.alloc (.cells #[.int .i64 CW, .int .u64 (u CV)] 24)).heap.size := by simp; omega
  go_wp2_with fail
  refine (tolds CW CV CE HC.out (refcat_any _ l b off cap hl hne hrow2 hbl2)).mono ?_
  rintro e3 w3 ⟨rfl, hb3⟩
  have x0 := keep_cell hb3 (b := w2.heap.size) (o := 0) (v := .int .i64 CW) (by simp)
  have x1 := keep_cell hb3 (b := w2.heap.size) (o := 1) (v := .int .u64 (u CV)) (by simp)
  have X0 := alloc_cell x0
  have X1 := alloc_cell x1
  have hz3 := hb3.size
  simp at hz3
  go_wp2
  go_ret
  exact ⟨rfl, (hb1.trans ((hb2.mono hz).trans (((Below.refl _ _).alloc (by omega) _).trans (hb3.mono (by simp; omega))))).alloc (by omega) _⟩

/-! ### The slice's cells as a list -/
/-- What stands in a slice's cells. -/
def cellsOf (w : World) (b off : Nat) (i : Nat) : Int × BitVec 64 :=
  match w.cell? ⟨b, off + i * 2, none⟩, w.cell? ⟨b, off + i * 2 + 1, none⟩ with
  | some (.int _ W), some (.int _ V) => (W, BitVec.ofInt 64 V)
  | _, _ => (0, 0#64)
theorem row_of {w : World} {b off len : Nat} (h : ∀ i, i < len → ∃ W V : Int, w.cell? ⟨b, off + i * 2, none⟩ = some (.int .i64 W) ∧ w.cell? ⟨b, off + i * 2 + 1, none⟩ = some (.int .u64 V) ∧ (Lit.int .i64 W).wf = true ∧ (Lit.int .u64 V).wf = true) :
    Row w b off ((List.range len).map (cellsOf w b off)) := by
  intro k W V hk
  rw [List.getElem?_map] at hk
  by_cases hlt : k < len
  · rw [List.getElem?_range hlt] at hk
    obtain ⟨W', V', h0, h1, h2, h3⟩ := h k hlt
    simp only [Option.map_some, Option.some.injEq] at hk
    unfold cellsOf at hk
    rw [h0, h1] at hk
    simp only [Prod.mk.injEq] at hk
    obtain ⟨rfl, rfl⟩ := hk
    obtain ⟨x, rfl⟩ := u_of V' h3
    exact ⟨h0, by rw [h1, ofInt_u], h2⟩
  · rw [List.getElem?_eq_none (by simpa using hlt)] at hk
    cases hk

theorem own : ownKnob Try.prog.godebug = none := by kernel_rfl
theorem laidOut : laidOutB Try.prog = true := by kernel_rfl
theorem cellsB : Try.prog.cellsOf 24 = 2 := by kernel_rfl

/-! ### The row's step -/
set_option maxRecDepth 100000 in
theorem lifted (os : Os) (started : os.Started) (H : Type) (enc : TypeId × Value → H) :
    ReturnsInHanded {} Try.checked os 5 .any (Rows.bitvCatsSpec.pre6 enc Try.prog Try.f5 Rows.bitvCatsRow.domain false) (Rows.bitvCatsSpec.post enc Try.prog Try.f5 false true false false) := by
  refine returnsInHanded_of_change (C := Try.checked) own started (by kernel_rfl) Try.func5
    (ChangeSpec.witness6 (enc := enc) (C := Try.checked) false ⟨#[], #[.slice none 0 0], []⟩ 8 (by kernel_rfl) (by kernel_rfl) (by kernel_rfl) (by kernel_rfl)) ?_
  intro W base args ds gs before hval0 hW hcnd _
  have hval : ∀ (j : Nat) t v, Try.f5.params[j]? = some t → args[j]? = some v → Value.okWide Try.prog W .any base t v := hval0
  have hW' := hW
  obtain ⟨p, q, hA0, hV, rfl, hfz, hnd⟩ := hW
  have hA : DataW.TrodAll enc Try.prog W 0 (fun _ => true) true Try.f5.params.toList args.toList ds p := hA0
  rw [Try.params5] at hA hval
  obtain ⟨v0, d0, rfl, rfl, h0⟩ := trodAll_one hA
  obtain ⟨rfl, rfl⟩ := trodVars_none hV
  obtain ⟨a0, len, cap, rfl⟩ := okWide_slice Try.underlying34 (hval 0 34 v0 rfl rfl)
  have h0k := h0
  obtain ⟨fuel, hf⟩ := h0
  clear hA0 hval0
  simp only [List.append_nil] at hW'
  have hlt : ∀ x ∈ p, x.block < W.heap.size := fun x hx => by simpa using hW'.lt x hx
  have hargs : ∀ (W' : World), Below W.heap.size W W' → DataW.Trod enc Try.prog W' 0 (fun b => decide (b < W.heap.size)) true 34 (.slice a0 len cap) d0 p :=
    fun W' hn => Below.trod laidOut (by kernel_rfl) (of_decide_eq_true (by kernel_rfl)) h0k hn hlt
  have fin : ∀ e W', (e = Ending.returned (.bool true) ∧ Below W.heap.size W W') →
      ∃ v, e = Ending.returned v ∧ Rows.bitvCatsSpec.post enc Try.checked.prog Try.f5 false true false false W #[.slice a0 len cap] v W' := by
    intro e W' ⟨he, bel⟩
    subst he
    exact ⟨_, rfl, _, _, _, [], p, [], hW', trodAll_mk1 (shut_bool Try.underlying4 _), trodAll_mk1 (hargs _ bel), rfl, bel.frame _, fun h => by cases h⟩
  rcases open_slice_pairs Try.underlying34 Try.underlying24 cellsB rfl rfl (by kernel_rfl) (by kernel_rfl) hf with ⟨hcs, hx⟩ | ⟨a, len', cap', m, n, V0, V1, D0, D1, P0, P1, hcs, _, hl, hm, hmm, hx, hi⟩
  · simp [Value.cells] at hcs
    obtain ⟨rfl, rfl, rfl⟩ := hcs
    exact (walk_none none 0 W).mono fin
  · simp [Value.cells] at hcs
    obtain ⟨rfl, rfl, rfl⟩ := hcs
    simp only [if_true] at hmm
    by_cases hl0 : len = 0
    · subst hl0
      exact (walk_none (some a) cap W).mono fin
    · by_cases hl2 : 200 < len
      · exact (walk_many len hl2 (some a) cap W).mono fin
      · have each : ∀ i, i < len → ∃ Wi Vi : Int, W.cell? (a.add (i * 2)) = some (.int .i64 Wi) ∧ W.cell? (a.add (i * 2 + 1)) = some (.int .u64 Vi) ∧ (Lit.int .i64 Wi).wf = true ∧ (Lit.int .u64 Vi).wf = true := by
          intro i hii
          obtain ⟨c0, c1, t0, t1⟩ := hi i (by omega)
          obtain ⟨Wi, e0, _, wW⟩ := DataW.trod_int Try.underlying3 t0
          obtain ⟨Vi, e1, _, wV⟩ := DataW.trod_int Try.underlying22 t1
          simp at e0 e1
          rw [e0] at c0
          rw [e1] at c1
          exact ⟨Wi, Vi, c0, c1, wW, wV⟩
        obtain ⟨b, off, spot⟩ := a
        have hspot : spot = none := by
          obtain ⟨_, _, h1, _⟩ := each 0 (by omega)
          simpa [Addr.add] using World.cell?_spot h1
        subst hspot
        have hbW : b < W.heap.size := by
          obtain ⟨_, _, h1, _⟩ := each 0 (by omega)
          rw [add_plain] at h1
          exact lt_of_cell' h1
        have hrow := row_of (w := W) (b := b) (off := off) (len := len) (fun i hii => by
          obtain ⟨Wi, Vi, h1, h2, h3, h4⟩ := each i hii
          rw [add_plain] at h1 h2
          exact ⟨Wi, Vi, h1, by rw [← h2, Nat.add_assoc], h3, h4⟩)
        have hlen : ((List.range len).map (cellsOf W b off)).length = len := by simp
        have := walk_any W ((List.range len).map (cellsOf W b off)) b off cap (by rw [hlen]; omega) (by rw [hlen]; omega) hrow hbW
        rw [hlen] at this
        exact this.mono fin

theorem over : Rows.bitvCatsRow.holds Try.pinned (OpenSpec.ofChange Rows.bitvCatsSpec) :=
  OpenClaim.holds_of_wide 5 Try.f5 rfl rfl rfl rfl rfl rfl rfl ⟨rfl, rfl, rfl, rfl, rfl⟩ rfl rfl rfl rfl rfl (by kernel_rfl) Try.func5 (by kernel_rfl)
    (of_decide_eq_true (by kernel_rfl)) (by unfold Func.isWrapper; first | (rw [if_pos (by decide +kernel)]; kernel_rfl) | (rw [if_neg (by decide +kernel)]; exact ⟨rfl, rfl⟩))
    (fun os started H enc _ => lifted os started H enc)

/-- The given statement. -/
theorem proved : Rows.BitvCatsSaid := over
#print axioms proved
end Go.Proofs.Ytemolkkpigkanaa.bitvCats
