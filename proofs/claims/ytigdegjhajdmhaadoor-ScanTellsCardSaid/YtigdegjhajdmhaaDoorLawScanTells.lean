/-
  A text's tokens, or what is wrong, and where, are just what the document says. For every input; the listed variables hold what the program's text lays in them.
-/
import Derived.Test.YtigdegjhajdmhaaDoorTie
import Derived.Test.YtigdegjhajdmhaaDoorCards
import Derived.Test.YtigdegjhajdmhaaDoorScOp
import Derived.Test.YtigdegjhajdmhaaDoorScRs
import Derived.Test.YtigdegjhajdmhaaDoorScEq
import Derived.BigQuiet
namespace Go.Proofs.YtigdegjhajdmhaaDoor.scanTells
open Go Go.ChangeShapes Go.WideShapes Go.ChangeAt Go.RowKit Go.Joins Go.Sort Go.Deep
set_option linter.unusedVariables false
set_option linter.unusedSimpArgs false

theorem told_small (l : Bytes) (hl : l.length ≤ 65536) : (scanS l).1.length ≤ 100000 := by
  obtain ⟨ts, i, x, S⟩ : ∃ ts i x, scanS l = (ts, i, x) := ⟨_, _, _, rfl⟩
  rw [S]
  by_cases hx : x = 0
  · subst hx
    have := right_count (scan_right l ts i S).1
    show ts.length ≤ 100000
    omega
  · have := scan_wrong_nil l ts i x S hx
    subst this
    simp
set_option maxHeartbeats 8000000 in
set_option maxRecDepth 100000 in
theorem walk (a : Option Addr) (cap : Nat) (l : Bytes) (w : World) (he : Env2 w) (ht : BytesAt w a l) (hcap : l.length ≤ cap) : Calls Tryd.prog 3 #[.slice a l.length cap] w fun e w' => e = .returned (.bool true) ∧ Below w.heap.size w w' := by
  by_cases h1 : l.length ≤ 2000
  · have d1 : decide (2000 < l.length) = false := by rw [decide_eq_false_iff_not]; omega
    have d1b : decide ((2000 : Int) < (l.length : Int)) = false := by rw [decide_eq_false_iff_not]; omega
    have hsm := told_small l (by omega)
    have HS1 := fun w he ht => scan_call a cap l (by omega) w he ht
    have HS2 := fun w ht => refscan_any a cap l (by omega) w ht
    obtain ⟨ts, i, x, S⟩ : ∃ ts i x, scanS l = (ts, i, x) := ⟨_, _, _, rfl⟩
    simp only [S] at HS1 HS2 hsm
    clear S
    go_enter Tryd.func3, Tryd.ntmps3
    go_wp2_with fail
    refine (live_any _ he).mono ?_
    rintro e1 w1 ⟨rfl, b1⟩
    have ht1 := ht.keep b1
    have he1 := he.keep b1
    have z1 := b1.size
    have hs := HS1 w1 he1 ht1
    go_wp2_with fail
    refine hs.mono ?_
    rintro e2 w2 ⟨v2, rfl, own2, nil2, b2⟩
    simp only at own2 b2
    obtain ⟨a5, c5, rfl, ly5, _, _⟩ := told_lies own2
    have ht2 := ht1.keep b2
    have B2 := b1.trans (b2.mono z1)
    have z2 := B2.size
    clear hs own2 nil2 b2 HS1 ht1 he1
    have hr := HS2 w2 ht2
    go_wp2_with fail
    refine hr.mono ?_
    rintro e3 w3 ⟨v3, rfl, own3, nil3, b3⟩
    simp only at own3 b3
    obtain ⟨a6, c6, rfl, ly6, _, _⟩ := told_lies own3
    have ly5b := ly5.keep b3
    have B3 := B2.trans (b3.mono z2)
    clear hr own3 nil3 b3 HS2 ht2 ly5
    have hq := eq_any a5 a6 c5 c6 (ts.map T5.g) (ts.map T5.g) (by simp; omega) (by simp; omega) w3 ly5b ly6
    rw [show eqS (ts.map T5.g) (ts.map T5.g) = true by unfold eqS; simp, List.length_map] at hq
    go_wp2_with fail
    refine hq.mono ?_
    rintro e4 w4 ⟨rfl, q4, rfl⟩
    go_wp2
    go_ret
    exact ⟨rfl, below_drewN B3 _⟩
  · have d1 : decide (2000 < l.length) = true := by rw [decide_eq_true_eq]; omega
    have d1b : decide ((2000 : Int) < (l.length : Int)) = true := by rw [decide_eq_true_eq]; omega
    by_cases h2 : l.length ≤ 65536
    · have d2 : decide (l.length ≤ 65536) = true := by simpa using h2
      have d2b : decide ((l.length : Int) ≤ 65536) = true := by rw [decide_eq_true_eq]; omega
      go_enter Tryd.func3, Tryd.ntmps3
      go_wp2_with fail
      refine (live_any _ he).mono ?_
      rintro e1 w1 ⟨rfl, b1⟩
      have ht1 := ht.keep b1
      have he1 := he.keep b1
      have z1 := b1.size
      go_wp2
      go_ret
      exact ⟨rfl, b1⟩
    · have d2 : decide (l.length ≤ 65536) = false := by rw [decide_eq_false_iff_not]; omega
      have d2b : decide ((l.length : Int) ≤ 65536) = false := by rw [decide_eq_false_iff_not]; omega
      have HS1 := fun (w : World) (he : Env2 w) (ht : BytesAt w a l) => scan_big a l.length cap (by omega) w
      have HS2 := fun (w : World) (ht : BytesAt w a l) => refscan_big a l.length cap (by omega) w
      obtain ⟨ts, hts⟩ : ∃ ts : List T5, [] = ts := ⟨_, rfl⟩
      rw [hts] at HS1 HS2
      have hsm : ts.length ≤ 100000 := by rw [← hts]; simp
      clear hts
      go_enter Tryd.func3, Tryd.ntmps3
      go_wp2_with fail
      refine (live_any _ he).mono ?_
      rintro e1 w1 ⟨rfl, b1⟩
      have ht1 := ht.keep b1
      have he1 := he.keep b1
      have z1 := b1.size
      have hs := HS1 w1 he1 ht1
      go_wp2_with fail
      refine hs.mono ?_
      rintro e2 w2 ⟨v2, rfl, own2, nil2, b2⟩
      simp only at own2 b2
      obtain ⟨a5, c5, rfl, ly5, _, _⟩ := told_lies own2
      have ht2 := ht1.keep b2
      have B2 := b1.trans (b2.mono z1)
      have z2 := B2.size
      clear hs own2 nil2 b2 HS1 ht1 he1
      have hr := HS2 w2 ht2
      go_wp2_with fail
      refine hr.mono ?_
      rintro e3 w3 ⟨v3, rfl, own3, nil3, b3⟩
      simp only at own3 b3
      obtain ⟨a6, c6, rfl, ly6, _, _⟩ := told_lies own3
      have ly5b := ly5.keep b3
      have B3 := B2.trans (b3.mono z2)
      clear hr own3 nil3 b3 HS2 ht2 ly5
      have hq := eq_any a5 a6 c5 c6 (ts.map T5.g) (ts.map T5.g) (by simp; omega) (by simp; omega) w3 ly5b ly6
      rw [show eqS (ts.map T5.g) (ts.map T5.g) = true by unfold eqS; simp, List.length_map] at hq
      go_wp2_with fail
      refine hq.mono ?_
      rintro e4 w4 ⟨rfl, q4, rfl⟩
      go_wp2
      go_ret
      exact ⟨rfl, below_drewN B3 _⟩

/-! ### The row's step -/
set_option maxRecDepth 100000 in
theorem lifted (os : Os) (started : os.Started) (H : Type) (enc : TypeId × Value → H) :
    ReturnsInHanded {} Tryd.checked os 3 .any (fun w args => (Rows.scanTellsSpec.pre enc Tryd.prog Tryd.f3 [] false w args ∧ laidMetH Tryd.prog LD w) ∧ sizedMet enc Tryd.prog Tryd.f3 (OpenSpec.ofChange Rows.scanTellsSpec) false w args) (Rows.scanTellsSpec.post enc Tryd.prog Tryd.f3 false true false false) := by
  refine returnsLaid (C := Tryd.checked) own started (by kernel_rfl) Tryd.func3
    (ChangeSpec.witness_shaped (enc := enc) (C := Tryd.checked) (os := os) (X := fun w _ => laidMetH Tryd.prog LD w) false (World.doorLaid Tryd.prog 29 os) #[.slice none 0 0] 8 rfl (World.shaped_of_RefB (by kernel_rfl) (by kernel_rfl)) (by kernel_rfl) (by kernel_rfl) (by kernel_rfl) (door_met os _)) ?_
  intro W base args ds gs before hval0 hW hwt0 hL hsh
  have hval : ∀ (j : Nat) t v, Tryd.f3.params[j]? = some t → args[j]? = some v → Value.okWide Tryd.prog W .any base t v := hval0
  have hW' := hW
  obtain ⟨p, q, hA0, hV, rfl, hfz, hnd⟩ := hW
  have hA : DataW.TrodAll enc Tryd.prog W 0 (fun _ => true) true Tryd.f3.params.toList args.toList ds p := hA0
  rw [Tryd.params3] at hA hval
  obtain ⟨v0, vs0, d0, ds0, p0, q0, hargs, rfl, rfl, h0, r0⟩ := trodAll_cons hA
  obtain ⟨rfl, rfl, rfl⟩ := trodAll_nil r0
  obtain rfl : args = #[v0] := by cases args; simp_all
  obtain ⟨rfl, rfl⟩ := trodVars_none hV
  have he := env_of hL hsh
  have k0 : ∀ (W' : World), Below W.heap.size W W' → DataW.Trod enc Tryd.prog W' 0 (fun b => decide (b < W.heap.size)) true 22 v0 d0 p0 := fun W' hn => Below.trod laidOut (by kernel_rfl) (of_decide_eq_true (by kernel_rfl)) h0 hn (fun x hx => by simpa using hW'.lt x (by simp [hx]))
  obtain ⟨a0, n0, c0, rfl⟩ := okWide_slice Tryd.underlying22 (hval 0 22 v0 rfl rfl)
  obtain ⟨l0, rfl, hc0, ht0, hz0⟩ := text_of h0
  clear hA0 hval0
  simp only [List.append_nil] at hW'
  refine (walk a0 c0 l0 W he ht0 hc0).mono fun e W' ⟨hr, bel⟩ => ?_
  subst hr
  exact ⟨_, rfl, _, _, _, [], _, [], hW', trodAll_mk1 (shut_bool Tryd.underlying4 _), (trodAll_cons_mk (k0 _ bel) trodAll_mk0), rfl, bel.frame _, fun h => by cases h⟩

theorem over : Rows.ScanTellsSaid :=
  OpenClaim.holds_of_wide 3 Tryd.f3 rfl rfl rfl rfl rfl rfl rfl ⟨rfl, rfl, rfl, rfl, rfl⟩ rfl rfl rfl rfl rfl (by kernel_rfl) Tryd.func3 (by kernel_rfl)
    (of_decide_eq_true (by kernel_rfl)) (by unfold Func.isWrapper; first | (rw [if_pos (by decide +kernel)]; kernel_rfl) | (rw [if_neg (by decide +kernel)]; exact ⟨rfl, rfl⟩))
    (fun os started H enc _ => lifted os started H enc)

/-- The given statement. -/
theorem proved : Rows.ScanTellsCardSaid :=
  Claim7.holds_tied_plain_at .later [] [.data, .data, .data, .data] true _ false
    over (fun _ h => by cases h) (by kernel_rfl) (fun _ h => by cases h) scanTells_row_tie rfl ⟨rfl, rfl⟩ (by kernel_rfl) rfl
    (fun f fn hf hfn => by
      obtain rfl : f = 3 := Option.some.inj ((show Tryd.prog.funcNamed "filigree/filigreelaw02.ScanTells" = some 3 by kernel_rfl).symm.trans hf) |>.symm
      obtain rfl : fn = Tryd.f3 := (Option.some.inj (Tryd.func3.symm.trans hfn)).symm
      exact ⟨by kernel_rfl, fun j t ht => by
        rw [Tryd.params3] at ht
        have hm : t ∈ [22] := by simpa using Array.mem_of_getElem? ht
        have hall : ([22].all fun u => !Tryd.prog.wantsStandIn u) = true := by kernel_rfl
        exact (show Tryd.prog.wantsStandIn t = false by simpa using List.all_eq_true.1 hall t hm)⟩)
    (by kernel_rfl)
#print axioms proved
end Go.Proofs.YtigdegjhajdmhaaDoor.scanTells
