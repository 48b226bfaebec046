/-
  What is told of sums of numbers is that of the numbers.
-/
import Derived.Test.YtlhcnbgllgodoaaDoorTie
import Derived.Test.YtlhcnbgllgodoaaDoorCards
import Derived.Test.YtlhcnbgllgodoaaDoorAsOp
import Derived.Test.YtlhcnbgllgodoaaDoorKsO
import Derived.Test.YtlhcnbgllgodoaaDoorKsL
import Derived.Test.YtlhcnbgllgodoaaDoorKsP
import Derived.JoinedCond
import Derived.Deep.DeepHandedRow
namespace Go.Proofs.YtlhcnbgllgodoaaDoor.konstSums
open Go Go.ChangeShapes Go.WideShapes Go.ChangeAt Go.RowKit Go.Joins Go.Sort Go.Deep
set_option linter.unusedVariables false
set_option linter.unusedSimpArgs false

set_option maxHeartbeats 64000000 in
set_option maxRecDepth 100000 in
theorem walk_yes (a b : Nat) (ha : a ≤ 2147483647) (hb9 : b ≤ 2147483647) (w : World) (he : EnvA w) : Calls Tryd.prog 6 #[.int .i64 (a : Int), .int .i64 (b : Int)] w fun e w' => e = .returned (.bool true) ∧ Below w.heap.size w w' := by
  have s1 : ¬ ((a : Int) < 0) := by omega
  have s2 : ¬ ((b : Int) < 0) := by omega
  have s3 : ¬ (2147483647 < (a : Int)) := by omega
  have s4 : ¬ (2147483647 < (b : Int)) := by omega
  have s5 : (0 : Int) ≤ (a : Int) := by omega
  have s6 : (0 : Int) ≤ (b : Int) := by omega
  have s7 : (a : Int) ≤ 2147483647 := by omega
  have s8 : (b : Int) ≤ 2147483647 := by omega
  have p1 : 0 ≤ (a : Int) * b := Int.mul_nonneg s5 s6
  have p2 : (a : Int) * b ≤ 2147483647 * 2147483647 := Int.mul_le_mul s7 s8 s6 (by decide)
  have NA := fun (W : World) => num_any a ha W
  have NB := fun (W : World) => num_any b hb9 W
  have BN := fun (op : Int) (W : World) => nbin op a b W
  have I14 := fun (g : Nat) (W : World) h1 h2 => is14 g a b ha hb9 W h1 h2
  have I15 := fun (g : Nat) (W : World) h1 h2 => is15 g a b ha hb9 W h1 h2
  have I16 := fun (g : Nat) (W : World) h1 h2 => is16 g a b ha hb9 W h1 h2
  have I19 := fun (g : Nat) (W : World) h1 h2 => is19 g a b ha hb9 W h1 h2
  have I20 := fun (g : Nat) (W : World) h1 h2 => is20 g a b ha hb9 W h1 h2
  have I21 := fun (g : Nat) (W : World) h1 h2 => is21 g a b ha hb9 W h1 h2
  have I22 := fun (g : Nat) (W : World) h1 h2 => is22 g a b ha hb9 W h1 h2
  have I23 := fun (g : Nat) (W : World) h1 h2 => is23 g a b ha hb9 W h1 h2
  have I24 := fun (g : Nat) (W : World) h1 h2 => is24 g a b ha hb9 W h1 h2
  obtain ⟨A, hA⟩ : ∃ A : Int, (a : Int) = A := ⟨_, rfl⟩
  obtain ⟨B, hB⟩ : ∃ B : Int, (b : Int) = B := ⟨_, rfl⟩
  simp only [hA, hB] at NA NB BN s1 s2 s3 s4 s5 s6 s7 s8 p1 p2 ⊢
  simp only [hA, hB] at I14 I15 I16 I19 I20 I21 I22 I23 I24
  replace NA := Lib.hid NA
  replace NB := Lib.hid NB
  replace BN := Lib.hid BN
  clear hA hB
  obtain ⟨t21, ht21⟩ : ∃ t, decide (A < B) = t := ⟨_, rfl⟩
  have J21 := fun (W : World) => bit_any t21 W
  simp only [ht21] at I21
  generalize kTruth t21 = K21 at *
  replace J21 := Lib.hid J21
  obtain ⟨t24, ht24⟩ : ∃ t, decide (B ≤ A) = t := ⟨_, rfl⟩
  have J24 := fun (W : World) => bit_any t24 W
  simp only [ht24] at I24
  generalize kTruth t24 = K24 at *
  replace J24 := Lib.hid J24
  obtain ⟨t19, ht19⟩ : ∃ t, (A == B) = t := ⟨_, rfl⟩
  have J19 := fun (W : World) => bit_any t19 W
  simp only [ht19] at I19
  generalize kTruth t19 = K19 at *
  replace J19 := Lib.hid J19
  obtain ⟨t20, ht20⟩ : ∃ t, (A != B) = t := ⟨_, rfl⟩
  have J20 := fun (W : World) => bit_any t20 W
  simp only [ht20] at I20
  generalize kTruth t20 = K20 at *
  replace J20 := Lib.hid J20
  obtain ⟨t22, ht22⟩ : ∃ t, decide (A ≤ B) = t := ⟨_, rfl⟩
  have J22 := fun (W : World) => bit_any t22 W
  simp only [ht22] at I22
  generalize kTruth t22 = K22 at *
  replace J22 := Lib.hid J22
  obtain ⟨t23, ht23⟩ : ∃ t, decide (B < A) = t := ⟨_, rfl⟩
  have J23 := fun (W : World) => bit_any t23 W
  simp only [ht23] at I23
  generalize kTruth t23 = K23 at *
  replace J23 := Lib.hid J23
  replace I14 := Lib.hid I14
  replace I15 := Lib.hid I15
  replace I16 := Lib.hid I16
  replace I19 := Lib.hid I19
  replace I20 := Lib.hid I20
  replace I21 := Lib.hid I21
  replace I22 := Lib.hid I22
  replace I23 := Lib.hid I23
  replace I24 := Lib.hid I24
  go_enter Tryd.func6, Tryd.ntmps6
  go_wp2_with fail
  refine (live_any _ he).mono ?_
  rintro e w1 ⟨rfl, hq⟩
  go_wp2_with fail
  refine (NA.out _).mono ?_
  rintro e w2 ⟨rfl, hb⟩
  replace hq := step0 hq rfl hb
  clear hb
  go_wp2_with fail
  refine (NB.out _).mono ?_
  rintro e w2 ⟨rfl, hb⟩
  replace hq := step0 hq rfl hb
  clear hb
  go_wp2_with fail
  refine (BN.out _ _).mono ?_
  rintro e w2 ⟨g, rfl, hbi, hb⟩
  replace hq := step0 hq rfl hb
  clear hb
  go_wp2_with fail
  refine (I14.out _ _ (he.keep hq) hbi).mono ?_
  rintro e w2 ⟨rfl, hb⟩
  replace hq := step0 hq rfl hb
  clear hb hbi
  go_wp2_with fail
  refine (NA.out _).mono ?_
  rintro e w2 ⟨rfl, hb⟩
  replace hq := step0 hq rfl hb
  clear hb
  go_wp2_with fail
  refine (NB.out _).mono ?_
  rintro e w2 ⟨rfl, hb⟩
  replace hq := step0 hq rfl hb
  clear hb
  go_wp2_with fail
  refine (BN.out _ _).mono ?_
  rintro e w2 ⟨g, rfl, hbi, hb⟩
  replace hq := step0 hq rfl hb
  clear hb
  go_wp2_with fail
  refine (I15.out _ _ (he.keep hq) hbi).mono ?_
  rintro e w2 ⟨rfl, hb⟩
  replace hq := step0 hq rfl hb
  clear hb hbi
  go_wp2_with fail
  refine (NA.out _).mono ?_
  rintro e w2 ⟨rfl, hb⟩
  replace hq := step0 hq rfl hb
  clear hb
  go_wp2_with fail
  refine (NB.out _).mono ?_
  rintro e w2 ⟨rfl, hb⟩
  replace hq := step0 hq rfl hb
  clear hb
  go_wp2_with fail
  refine (BN.out _ _).mono ?_
  rintro e w2 ⟨g, rfl, hbi, hb⟩
  replace hq := step0 hq rfl hb
  clear hb
  go_wp2_with fail
  refine (I16.out _ _ (he.keep hq) hbi).mono ?_
  rintro e w2 ⟨rfl, hb⟩
  replace hq := step0 hq rfl hb
  clear hb hbi
  go_wp2_with fail
  refine (NA.out _).mono ?_
  rintro e w2 ⟨rfl, hb⟩
  replace hq := step0 hq rfl hb
  clear hb
  go_wp2_with fail
  refine (NB.out _).mono ?_
  rintro e w2 ⟨rfl, hb⟩
  replace hq := step0 hq rfl hb
  clear hb
  go_wp2_with fail
  refine (BN.out _ _).mono ?_
  rintro e w2 ⟨g, rfl, hbi, hb⟩
  replace hq := step0 hq rfl hb
  clear hb
  go_wp2_with fail
  refine (J21.out _).mono ?_
  rintro e _ ⟨rfl, rfl⟩
  go_wp2_with fail
  refine (I21.out _ _ (he.keep hq) hbi).mono ?_
  rintro e w2 ⟨rfl, hb⟩
  replace hq := step0 hq rfl hb
  clear hb hbi
  go_wp2_with fail
  refine (NA.out _).mono ?_
  rintro e w2 ⟨rfl, hb⟩
  replace hq := step0 hq rfl hb
  clear hb
  go_wp2_with fail
  refine (NB.out _).mono ?_
  rintro e w2 ⟨rfl, hb⟩
  replace hq := step0 hq rfl hb
  clear hb
  go_wp2_with fail
  refine (BN.out _ _).mono ?_
  rintro e w2 ⟨g, rfl, hbi, hb⟩
  replace hq := step0 hq rfl hb
  clear hb
  go_wp2_with fail
  refine (J24.out _).mono ?_
  rintro e _ ⟨rfl, rfl⟩
  go_wp2_with fail
  refine (I24.out _ _ (he.keep hq) hbi).mono ?_
  rintro e w2 ⟨rfl, hb⟩
  replace hq := step0 hq rfl hb
  clear hb hbi
  go_wp2_with fail
  refine (NA.out _).mono ?_
  rintro e w2 ⟨rfl, hb⟩
  replace hq := step0 hq rfl hb
  clear hb
  go_wp2_with fail
  refine (NB.out _).mono ?_
  rintro e w2 ⟨rfl, hb⟩
  replace hq := step0 hq rfl hb
  clear hb
  go_wp2_with fail
  refine (BN.out _ _).mono ?_
  rintro e w2 ⟨g, rfl, hbi, hb⟩
  replace hq := step0 hq rfl hb
  clear hb
  go_wp2_with fail
  refine (J19.out _).mono ?_
  rintro e _ ⟨rfl, rfl⟩
  go_wp2_with fail
  refine (I19.out _ _ (he.keep hq) hbi).mono ?_
  rintro e w2 ⟨rfl, hb⟩
  replace hq := step0 hq rfl hb
  clear hb hbi
  go_wp2_with fail
  refine (NA.out _).mono ?_
  rintro e w2 ⟨rfl, hb⟩
  replace hq := step0 hq rfl hb
  clear hb
  go_wp2_with fail
  refine (NB.out _).mono ?_
  rintro e w2 ⟨rfl, hb⟩
  replace hq := step0 hq rfl hb
  clear hb
  go_wp2_with fail
  refine (BN.out _ _).mono ?_
  rintro e w2 ⟨g, rfl, hbi, hb⟩
  replace hq := step0 hq rfl hb
  clear hb
  go_wp2_with fail
  refine (J20.out _).mono ?_
  rintro e _ ⟨rfl, rfl⟩
  go_wp2_with fail
  refine (I20.out _ _ (he.keep hq) hbi).mono ?_
  rintro e w2 ⟨rfl, hb⟩
  replace hq := step0 hq rfl hb
  clear hb hbi
  go_wp2_with fail
  refine (NA.out _).mono ?_
  rintro e w2 ⟨rfl, hb⟩
  replace hq := step0 hq rfl hb
  clear hb
  go_wp2_with fail
  refine (NB.out _).mono ?_
  rintro e w2 ⟨rfl, hb⟩
  replace hq := step0 hq rfl hb
  clear hb
  go_wp2_with fail
  refine (BN.out _ _).mono ?_
  rintro e w2 ⟨g, rfl, hbi, hb⟩
  replace hq := step0 hq rfl hb
  clear hb
  go_wp2_with fail
  refine (J22.out _).mono ?_
  rintro e _ ⟨rfl, rfl⟩
  go_wp2_with fail
  refine (I22.out _ _ (he.keep hq) hbi).mono ?_
  rintro e w2 ⟨rfl, hb⟩
  replace hq := step0 hq rfl hb
  clear hb hbi
  go_wp2_with fail
  refine (NA.out _).mono ?_
  rintro e w2 ⟨rfl, hb⟩
  replace hq := step0 hq rfl hb
  clear hb
  go_wp2_with fail
  refine (NB.out _).mono ?_
  rintro e w2 ⟨rfl, hb⟩
  replace hq := step0 hq rfl hb
  clear hb
  go_wp2_with fail
  refine (BN.out _ _).mono ?_
  rintro e w2 ⟨g, rfl, hbi, hb⟩
  replace hq := step0 hq rfl hb
  clear hb
  go_wp2_with fail
  refine (J23.out _).mono ?_
  rintro e _ ⟨rfl, rfl⟩
  go_wp2_with fail
  refine (I23.out _ _ (he.keep hq) hbi).mono ?_
  rintro e w2 ⟨rfl, hb⟩
  replace hq := step0 hq rfl hb
  clear hb hbi
  go_wp2
  go_ret
  exact ⟨rfl, hq⟩
set_option maxHeartbeats 8000000 in
theorem walk_any (a b : Int) (w : World) (he : EnvA w) : Calls Tryd.prog 6 #[.int .i64 a, .int .i64 b] w fun e w' => e = .returned (.bool true) ∧ Below w.heap.size w w' := by
  by_cases h : 0 ≤ a ∧ 0 ≤ b ∧ a ≤ 2147483647 ∧ b ≤ 2147483647
  · obtain ⟨h1, h2, h3, h4⟩ := h
    have q := walk_yes a.toNat b.toNat (by omega) (by omega) w he
    rw [Int.toNat_of_nonneg h1, Int.toNat_of_nonneg h2] at q
    exact q
  · have hs : (decide (a < 0) || decide (b < 0) || decide (2147483647 < a) || decide (2147483647 < b)) = true := by
      simp only [Bool.or_eq_true, decide_eq_true_eq]; omega
    have hs2 : a < 0 ∨ (¬ a < 0 ∧ b < 0) ∨ (¬ a < 0 ∧ ¬ b < 0 ∧ 2147483647 < a) ∨ (¬ a < 0 ∧ ¬ b < 0 ∧ ¬ 2147483647 < a ∧ 2147483647 < b) := by omega
    clear hs h
    rcases hs2 with h1 | ⟨h1, h2⟩ | ⟨h1, h2, h3⟩ | ⟨h1, h2, h3, h4⟩
    all_goals
      go_enter Tryd.func6, Tryd.ntmps6
      go_wp2_with fail
      refine (live_any _ he).mono ?_
      rintro e w1 ⟨rfl, hq⟩
      go_wp2
      go_ret
      exact ⟨rfl, hq⟩

/-! ### The row's step -/
set_option maxRecDepth 100000 in
theorem contract (H : Type) (enc : TypeId × Value → H) (W : World) (base : Nat) (args : Array Value) (ds gs : List (DataW H)) (before : List MemPlace)
    (hval0 : ∀ (j : Nat) t v, Tryd.f6.params[j]? = some t → args[j]? = some v → Value.okWide Tryd.prog W .any base t v)
    (hW : DataW.Whole enc Tryd.prog Tryd.f6.params.toList Rows.konstSumsSpec.vars false W args.toList ds gs before) (hbk : Rows.uptoBulkAll (ds ++ gs) ≤ 1048576) (hL : laidMetH Tryd.prog LD W) (hsh : W.ShapedOpen Tryd.prog) :
    Calls Tryd.prog 6 args W fun e W' => ∃ v, e = .returned v ∧ Rows.konstSumsSpec.post enc Tryd.prog Tryd.f6 false true false false W args v W' := by
  have hval : ∀ (j : Nat) t v, Tryd.f6.params[j]? = some t → args[j]? = some v → Value.okWide Tryd.prog W .any base t v := hval0
  have hW' := hW
  obtain ⟨p, q, hA0, hV, rfl, hfz, hnd⟩ := hW
  have hA : DataW.TrodAll enc Tryd.prog W 0 (fun _ => true) true Tryd.f6.params.toList args.toList ds p := hA0
  rw [Tryd.params6] at hA hval
  obtain ⟨v0, vs0, d0, ds0, p0, q0, hargs, rfl, rfl, h0, r0⟩ := trodAll_cons hA
  obtain ⟨v1, vs1, d1, ds1, p1, q1, rfl, rfl, rfl, h1, r1⟩ := trodAll_cons r0
  obtain ⟨rfl, rfl, rfl⟩ := trodAll_nil r1
  obtain rfl : args = #[v0, v1] := by cases args; simp_all
  obtain ⟨rfl, rfl⟩ := trodVars_none hV
  have he := env_of hL hsh
  simp only [List.append_nil, Rows.uptoBulkAll] at hbk
  have k0 : ∀ (W' : World), Below W.heap.size W W' → DataW.Trod enc Tryd.prog W' 0 (fun b => decide (b < W.heap.size)) true 3 v0 d0 p0 := fun W' hn => Below.trod laidOut (by kernel_rfl) (of_decide_eq_true (by kernel_rfl)) h0 hn (fun x hx => by simpa using hW'.lt x (by simp [hx]))
  have k1 : ∀ (W' : World), Below W.heap.size W W' → DataW.Trod enc Tryd.prog W' 0 (fun b => decide (b < W.heap.size)) true 3 v1 d1 p1 := fun W' hn => Below.trod laidOut (by kernel_rfl) (of_decide_eq_true (by kernel_rfl)) h1 hn (fun x hx => by simpa using hW'.lt x (by simp [hx]))
  obtain ⟨x0, rfl, _, _, wf0⟩ := open_int Tryd.underlying3 (hval 0 3 v0 rfl rfl) h0
  obtain ⟨x1, rfl, _, _, wf1⟩ := open_int Tryd.underlying3 (hval 1 3 v1 rfl rfl) h1
  clear hA0 hval0
  simp only [List.append_nil] at hW'
  refine (walk_any x0 x1 W he).mono fun e W' ⟨hr, bel⟩ => ?_
  subst hr
  exact ⟨_, rfl, _, _, _, [], _, [], hW', trodAll_mk1 (shut_bool Tryd.underlying4 _), (trodAll_cons_mk (k0 _ bel) (trodAll_cons_mk (k1 _ bel) trodAll_mk0)), rfl, bel.frame _, fun h => by cases h⟩
theorem reads (os : Os) {H : Type} (enc : TypeId × Value → H) : ∃ places, DataW.whole enc Tryd.prog ((World.doorLaid Tryd.prog 55 os).forCall (fun _ _ => 0) ⟨#[], #[.int .i64 0, .int .i64 0], []⟩).memory Tryd.f6.params.toList Rows.konstSumsSpec.vars false #[.int .i64 0, .int .i64 0].toList 8 = some ([.lit (.int .i64 0), .lit (.int .i64 0)], [], places) :=
  ⟨[], by kernel_rfl⟩
set_option maxRecDepth 100000 in
theorem lifted (os : Os) (started : os.Started) (H : Type) (enc : TypeId × Value → H) (F : Stop.Interp) :
    ReturnsInHanded {} Tryd.checked os 6 .any ((Rows.OpenSpec.upto Rows.konstSumsSpec).preRow enc Tryd.prog Tryd.f6 Rows.konstSumsUptoRow.domain false Rows.konstSumsUptoRow.laid) (((Rows.OpenSpec.upto Rows.konstSumsSpec).at F).post enc Tryd.prog Tryd.f6 false true false false) := by
  obtain ⟨places, hx⟩ := reads os enc
  refine returnsInHanded_of_row (C := Tryd.checked) (s := Rows.OpenSpec.upto Rows.konstSumsSpec) own started (by kernel_rfl) Tryd.func6
    (witness_row_at (enc := enc) (C := Tryd.checked) false (World.doorLaid Tryd.prog 55 os) #[.int .i64 0, .int .i64 0] rfl (by kernel_rfl) (by kernel_rfl) (by kernel_rfl)
      (OpenSpec.preRow_of_cond 8 hx (by kernel_rfl) (fun k hk => by cases hk; kernel_rfl) (by kernel_rfl) (door_met os _))) ?_
  intro W base args ds gs before hval hW _ hcond _ hL hsh _
  have hbk : Rows.uptoBulkAll (ds ++ gs) ≤ 1048576 := of_decide_eq_true (hcond _ rfl)
  exact contract H enc W base args ds gs before hval hW hbk hL hsh
theorem over : Rows.KonstSumsUptoSaid :=
  OpenClaim.holds_of_cond 6 Tryd.f6 rfl rfl rfl rfl rfl rfl rfl ⟨rfl, rfl, rfl, rfl, rfl⟩ rfl rfl rfl rfl rfl (by kernel_rfl) Tryd.func6 (by kernel_rfl)
    (of_decide_eq_true (by kernel_rfl)) (by unfold Func.isWrapper; first | (rw [if_pos (by decide +kernel)]; kernel_rfl) | (rw [if_neg (by decide +kernel)]; exact ⟨rfl, rfl⟩))
    (fun os started H enc _ F => by rw [OpenClaim.pre_eq_preRow]; exact lifted os started H enc F)
/-- The given statement. -/
theorem proved : Rows.KonstSumsUptoCardSaid :=
  Claim7.holds_tied_plain_at .later [] _ _ _ _
    over (fun _ h => by cases h) (by kernel_rfl) (fun _ h => by cases h) konstSumsUpto_row_tie rfl ⟨rfl, rfl⟩ (by kernel_rfl) rfl
    (fun f fn hf hfn => by
      obtain rfl : f = 6 := Option.some.inj ((show Tryd.prog.funcNamed "filigree/filigreelaw06.KonstSums" = some 6 by kernel_rfl).symm.trans hf) |>.symm
      obtain rfl : fn = Tryd.f6 := (Option.some.inj (Tryd.func6.symm.trans hfn)).symm
      exact ⟨by kernel_rfl, fun j t ht => by
        rw [Tryd.params6] at ht
        have hm : t ∈ [3, 3] := by simpa using Array.mem_of_getElem? ht
        have hall : ([3, 3].all fun u => !Tryd.prog.wantsStandIn u) = true := by kernel_rfl
        exact (show Tryd.prog.wantsStandIn t = false by simpa using List.all_eq_true.1 hall t hm)⟩)
    (by kernel_rfl)
#print axioms proved
end Go.Proofs.YtlhcnbgllgodoaaDoor.konstSums
