/-
  Whether a token may be, and whether a text is a word, is just what the document says. For every input; the listed variables hold what the program's text lays in them.
-/
import Derived.Test.YtoogncfpoecckaaDoorTie
import Derived.Test.YtoogncfpoecckaaDoorCards
import Derived.Test.YtoogncfpoecckaaDoorScOp
import Derived.Test.YtoogncfpoecckaaDoorScRc
import Derived.Lib.QuietBelow
import Derived.BigQuiet
namespace Go.Proofs.YtoogncfpoecckaaDoor.scanChecks
open Go Go.ChangeShapes Go.WideShapes Go.ChangeAt Go.RowKit Go.Joins Go.Sort Go.Deep
set_option linter.unusedVariables false
set_option linter.unusedSimpArgs false

theorem check_reg (t : G5) (hs : t.s.length ≤ 70000) (hV : t.V < 18446744073709551616) (w0 : World) (he : Env w0) (d : Nat) (os : Array Obj) : Calls Tryd.prog 17 #[.agg #[.int .i64 t.k, .string (bs t.s), .int .i64 t.W, .int .u64 (t.V : Int), .int .i64 t.p]] (grow (redrawn w0 d) os) fun e w' => e = .returned (.int .i64 (checkS t.k t.s t.W t.V t.p)) ∧ Below (grow (redrawn w0 d) os).heap.size (grow (redrawn w0 d) os) w' := check_any t.k t.s t.W t.V t.p hs hV _ (he.keep (below_regrown w0 d os))
theorem word_reg (z : Bytes) (hz : z.length ≤ 70000) (w0 : World) (he : Env w0) (d : Nat) (os : Array Obj) : Calls Tryd.prog 19 #[.string (bs z)] (grow (redrawn w0 d) os) fun e w' => e = .returned (.bool (isWord z)) ∧ Below (grow (redrawn w0 d) os).heap.size (grow (redrawn w0 d) os) w' := by
  obtain ⟨m, hm⟩ := (he.keep (below_regrown w0 d os)).most
  refine (word_any z hz m _ hm).mono ?_
  rintro e w' ⟨rfl, rfl⟩
  exact ⟨rfl, Below.refl _ _⟩
theorem refword_b (z : Bytes) (hz : z.length ≤ 100000) (w : World) : Calls Tryd.prog 20 #[.string (bs z)] w fun e w' => e = .returned (.bool (isWord z)) ∧ Below w.heap.size w w' := by
  refine (refWord_any z hz w).mono ?_
  rintro e w' ⟨rfl, n, rfl⟩
  exact ⟨rfl, below_drewN (Below.refl _ _) n⟩
set_option maxHeartbeats 4000000 in
set_option maxRecDepth 100000 in
theorem walk (t : G5) (hV : t.V < 18446744073709551616) (z : Bytes) (w : World) (he : Env2 w) : Calls Tryd.prog 4 #[.agg #[.int .i64 t.k, .string (bs t.s), .int .i64 t.W, .int .u64 (t.V : Int), .int .i64 t.p], .string (bs z)] w fun e w' => e = .returned (.bool true) ∧ Below w.heap.size w w' := by
  have hA : Below w.heap.size w (w.alloc (.cells #[.int .i64 t.k, .string (bs t.s), .int .i64 t.W, .int .u64 (t.V : Int), .int .i64 t.p] 32)) := (Below.refl _ _).alloc (Nat.le_refl _) _
  have heA := he.keep hA
  have hlv := live_any _ heA
  have HV := Lib.hid hV
  clear hV
  by_cases h1 : t.s.length ≤ 2000
  · have d1 : decide (2000 < t.s.length) = false := by rw [decide_eq_false_iff_not]; omega
    have d1b : decide ((2000 : Int) < (t.s.length : Int)) = false := by rw [decide_eq_false_iff_not]; omega
    by_cases h2 : z.length ≤ 2000
    · have d2 : decide (2000 < z.length) = false := by rw [decide_eq_false_iff_not]; omega
      have d2b : decide ((2000 : Int) < (z.length : Int)) = false := by rw [decide_eq_false_iff_not]; omega
      go_enter Tryd.func4, Tryd.ntmps4
      go_wp2_with fail
      refine hlv.mono ?_
      rintro e1 w1 ⟨rfl, b1⟩
      have t1 : w1.cell? ⟨w.heap.size, 1, none⟩ = some (.string (bs t.s)) := keep_cell b1 (by simp)
      have t0 : w1.cell? ⟨w.heap.size, 0, none⟩ = some (.int .i64 t.k) := keep_cell b1 (by simp)
      have t2 : w1.cell? ⟨w.heap.size, 2, none⟩ = some (.int .i64 t.W) := keep_cell b1 (by simp)
      have t3 : w1.cell? ⟨w.heap.size, 3, none⟩ = some (.int .u64 (t.V : Int)) := keep_cell b1 (by simp)
      have t4 : w1.cell? ⟨w.heap.size, 4, none⟩ = some (.int .i64 t.p) := keep_cell b1 (by simp)
      have he1 := heA.keep b1
      have q1 := hA.trans (b1.mono hA.size)
      go_wp2_with fail
      have t0R := cell_regrown t0
      have t1R := cell_regrown t1
      have t2R := cell_regrown t2
      have t3R := cell_regrown t3
      have t4R := cell_regrown t4
      refine wp_region_quiet_below (by kernel_rfl) (by kernel_rfl) ?_
      repeat (go_big_quiet_step (first | (go_at_call 17; exact Calls.regrown_of (check_reg t (by omega) HV.out w1 he1.env _ _)) | (go_at_call 18; exact Calls.regrown_of (refCheck_any t.k t.s t.W t.V t.p (by omega) HV.out _)) | (go_at_call 19; exact Calls.regrown_of (word_reg z (by omega) w1 he1.env _ _)) | (go_at_call 20; exact Calls.regrown_of (refword_b z (by omega) _))))
      refine wpQuiet_nil ?_
      intro _ hw'
      obtain ⟨⟨dq, osq⟩, hw''⟩ := hw'
      subst hw''
      replace q1 := q1.trans ((below_regrown w1 dq osq).mono q1.size)
      go_wp2
      go_ret
      exact ⟨rfl, q1⟩
    · have d2 : decide (2000 < z.length) = true := by rw [decide_eq_true_eq]; omega
      have d2b : decide ((2000 : Int) < (z.length : Int)) = true := by rw [decide_eq_true_eq]; omega
      go_enter Tryd.func4, Tryd.ntmps4
      go_wp2_with fail
      refine hlv.mono ?_
      rintro e1 w1 ⟨rfl, b1⟩
      have t1 : w1.cell? ⟨w.heap.size, 1, none⟩ = some (.string (bs t.s)) := keep_cell b1 (by simp)
      go_wp2
      go_ret
      exact ⟨rfl, hA.trans (b1.mono hA.size)⟩
  · have d1 : decide (2000 < t.s.length) = true := by rw [decide_eq_true_eq]; omega
    have d1b : decide ((2000 : Int) < (t.s.length : Int)) = true := by rw [decide_eq_true_eq]; omega
    go_enter Tryd.func4, Tryd.ntmps4
    go_wp2_with fail
    refine hlv.mono ?_
    rintro e1 w1 ⟨rfl, b1⟩
    have t1 : w1.cell? ⟨w.heap.size, 1, none⟩ = some (.string (bs t.s)) := keep_cell b1 (by simp)
    go_wp2
    go_ret
    exact ⟨rfl, hA.trans (b1.mono hA.size)⟩

/-! ### The row's step -/
set_option maxRecDepth 100000 in
theorem lifted (os : Os) (started : os.Started) (H : Type) (enc : TypeId × Value → H) :
    ReturnsInHanded {} Tryd.checked os 4 .any (fun w args => (Rows.scanChecksSpec.pre enc Tryd.prog Tryd.f4 [] false w args ∧ laidMetH Tryd.prog LD w) ∧ sizedMet enc Tryd.prog Tryd.f4 (OpenSpec.ofChange Rows.scanChecksSpec) false w args) (Rows.scanChecksSpec.post enc Tryd.prog Tryd.f4 false true false false) := by
  refine returnsLaid (C := Tryd.checked) own started (by kernel_rfl) Tryd.func4
    (ChangeSpec.witness_shaped (enc := enc) (C := Tryd.checked) (os := os) (X := fun w _ => laidMetH Tryd.prog LD w) false (World.doorLaid Tryd.prog 29 os) #[.agg #[.int .i64 0, .string ⟨#[]⟩, .int .i64 0, .int .u64 0, .int .i64 0], .string ⟨#[]⟩] 8 rfl (World.shaped_of_RefB (by kernel_rfl) (by kernel_rfl)) (by kernel_rfl) (by kernel_rfl) (by kernel_rfl) (door_met os _)) ?_
  intro W base args ds gs before hval0 hW hL hsh
  have hval : ∀ (j : Nat) t v, Tryd.f4.params[j]? = some t → args[j]? = some v → Value.okWide Tryd.prog W .any base t v := hval0
  have hW' := hW
  obtain ⟨p, q, hA0, hV, rfl, hfz, hnd⟩ := hW
  have hA : DataW.TrodAll enc Tryd.prog W 0 (fun _ => true) true Tryd.f4.params.toList args.toList ds p := hA0
  rw [Tryd.params4] at hA hval
  obtain ⟨v0, vs0, d0, ds0, p0, q0, hargs, rfl, rfl, h0, r0⟩ := trodAll_cons hA
  obtain ⟨v1, vs1, d1, ds1, p1, q1, rfl, rfl, rfl, h1, r1⟩ := trodAll_cons r0
  obtain ⟨rfl, rfl, rfl⟩ := trodAll_nil r1
  obtain rfl : args = #[v0, v1] := by cases args; simp_all
  obtain ⟨rfl, rfl⟩ := trodVars_none hV
  have he := env_of hL hsh
  have k0 : ∀ (W' : World), Below W.heap.size W W' → DataW.Trod enc Tryd.prog W' 0 (fun b => decide (b < W.heap.size)) true 32 v0 d0 p0 := fun W' hn => Below.trod laidOut (by kernel_rfl) (of_decide_eq_true (by kernel_rfl)) h0 hn (fun x hx => by simpa using hW'.lt x (by simp [hx]))
  have k1 : ∀ (W' : World), Below W.heap.size W W' → DataW.Trod enc Tryd.prog W' 0 (fun b => decide (b < W.heap.size)) true 9 v1 d1 p1 := fun W' hn => Below.trod laidOut (by kernel_rfl) (of_decide_eq_true (by kernel_rfl)) h1 hn (fun x hx => by simpa using hW'.lt x (by simp [hx]))
  obtain ⟨t0, rfl, hV0⟩ := tok_of (hval 0 32 v0 rfl rfl) h0
  obtain ⟨s1, rfl, _, _, _⟩ := Go.ChangeMaps.open_string Tryd.underlying9 (hval 1 9 v1 rfl rfl) h1
  obtain ⟨l1, rfl⟩ : ∃ l, s1 = bs l := ⟨_, bs_toList s1⟩
  clear hA0 hval0
  simp only [List.append_nil] at hW'
  refine (walk t0 hV0 l1 W he).mono fun e W' ⟨hr, bel⟩ => ?_
  subst hr
  exact ⟨_, rfl, _, _, _, [], _, [], hW', trodAll_mk1 (shut_bool Tryd.underlying4 _), (trodAll_cons_mk (k0 _ bel) (trodAll_cons_mk (k1 _ bel) trodAll_mk0)), rfl, bel.frame _, fun h => by cases h⟩

theorem over : Rows.ScanChecksSaid :=
  OpenClaim.holds_of_wide 4 Tryd.f4 rfl rfl rfl rfl rfl rfl rfl ⟨rfl, rfl, rfl, rfl, rfl⟩ rfl rfl rfl rfl rfl (by kernel_rfl) Tryd.func4 (by kernel_rfl)
    (of_decide_eq_true (by kernel_rfl)) (by unfold Func.isWrapper; first | (rw [if_pos (by decide +kernel)]; kernel_rfl) | (rw [if_neg (by decide +kernel)]; exact ⟨rfl, rfl⟩))
    (fun os started H enc _ => lifted os started H enc)

/-- The given statement. -/
theorem proved : Rows.ScanChecksCardSaid :=
  Claim7.holds_tied_plain_at .later [] [.data, .data, .data, .data] true _ false
    over (fun _ h => by cases h) (by kernel_rfl) (fun _ h => by cases h) scanChecks_row_tie rfl ⟨rfl, rfl⟩ (by kernel_rfl) rfl
    (fun f fn hf hfn => by
      obtain rfl : f = 4 := Option.some.inj ((show Tryd.prog.funcNamed "filigree/filigreelaw02.ScanChecks" = some 4 by kernel_rfl).symm.trans hf) |>.symm
      obtain rfl : fn = Tryd.f4 := (Option.some.inj (Tryd.func4.symm.trans hfn)).symm
      exact ⟨by kernel_rfl, fun j t ht => by
        rw [Tryd.params4] at ht
        have hm : t ∈ [32, 9] := by simpa using Array.mem_of_getElem? ht
        have hall : ([32, 9].all fun u => !Tryd.prog.wantsStandIn u) = true := by kernel_rfl
        exact (show Tryd.prog.wantsStandIn t = false by simpa using List.all_eq_true.1 hall t hm)⟩)
    (by kernel_rfl)
#print axioms proved
end Go.Proofs.YtoogncfpoecckaaDoor.scanChecks
