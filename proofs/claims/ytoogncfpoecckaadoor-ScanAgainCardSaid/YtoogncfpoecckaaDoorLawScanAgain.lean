/-
  What is read is written, and read again, the same; written once more it is the same text. For every input; the listed variables hold what the program's text lays in them.
-/
import Derived.Test.YtoogncfpoecckaaDoorTie
import Derived.Test.YtoogncfpoecckaaDoorCards
import Derived.Test.YtoogncfpoecckaaDoorScOp
import Derived.Test.YtoogncfpoecckaaDoorScSm
import Derived.BigQuiet
namespace Go.Proofs.YtoogncfpoecckaaDoor.scanAgain
open Go Go.ChangeShapes Go.WideShapes Go.ChangeAt Go.RowKit Go.Joins Go.Sort Go.Deep
set_option linter.unusedVariables false
set_option linter.unusedSimpArgs false

set_option maxHeartbeats 8000000 in
set_option maxRecDepth 100000 in
theorem walk (a : Option Addr) (cap : Nat) (l : Bytes) (w : World) (he : Env2 w) (ht : BytesAt w a l) : Calls Tryd.prog 7 #[.slice a l.length cap] w fun e w' => e = .returned (.bool true) ∧ Below w.heap.size w w' := by
  by_cases h1 : l.length ≤ 2000
  · have d1 : decide (2000 < l.length) = false := by rw [decide_eq_false_iff_not]; omega
    have d1b : decide ((2000 : Int) < (l.length : Int)) = false := by rw [decide_eq_false_iff_not]; omega
    obtain ⟨ts, i0, x, S⟩ : ∃ ts i x, scanS l = (ts, i, x) := ⟨_, _, _, rfl⟩
    have HS := Lib.hid S
    clear S
    by_cases hx : x = 0
    · subst hx
      have hr := (scan_right l ts i0 HS.out).1
      obtain ⟨_, hV, hS64⟩ := right_checks hr
      have hlen := right_len hr none
      have hcnt := right_count hr
      obtain ⟨hB, us, hU, hal, hB2⟩ := text_again l h1 ts i0 HS.out
      obtain ⟨B, eB⟩ : ∃ B, bodyS none (ts.map T5.g) = B := ⟨_, rfl⟩
      rw [eB] at hB hU hB2 hlen
      have hrU := (scan_right B us 0 hU).1
      obtain ⟨_, hV2, hS2⟩ := right_checks hrU
      have hcnt2 := right_count hrU
      have HV := Lib.hid hV
      have HV2 := Lib.hid hV2
      have HS64 := Lib.hid hS64
      have HS2 := Lib.hid hS2
      have HAL := Lib.hid (alikeG hal)
      have HB := Lib.hid hB
      have HB2 := Lib.hid hB2
      have HU := Lib.hid hU
      clear hr hrU hV hV2 hS64 hS2 hal hB hB2 hU eB
      go_enter Tryd.func7, Tryd.ntmps7
      go_wp2_with fail
      refine (live_any _ he).mono ?_
      rintro e1 w1 ⟨rfl, b1⟩
      have he1 := he.keep b1
      have ht1 := ht.keep b1
      have z1 := b1.size
      have hs := scan_call a cap l (by omega) w1 he1 ht1
      rw [HS.out] at hs
      go_wp2_with fail
      refine hs.mono ?_
      rintro e2 w2 ⟨v2, rfl, own2, nil2, b2⟩
      simp only at own2 b2 nil2
      have he2 := he1.keep b2
      have B2 := b1.trans (b2.mono z1)
      have z2 := B2.size
      clear hs ht1 he1 b1 b2 z1
      obtain ⟨a5, c5, rfl, ly, hc5, _⟩ := told_lies own2
      clear own2 nil2
      have hx2 := text_call a5 c5 (ts.map T5.g) (by simp; omega) (by simpa using hc5) (fun t h => by have := HS64.out t h; omega) HV.out w2 he2 ly
      rw [HB.out, List.length_map] at hx2
      go_wp2_with fail
      refine hx2.mono ?_
      rintro e3 w3 ⟨v3, rfl, own3, nil3, b3⟩
      simp only at own3 b3 nil3
      clear hx2 nil3
      have he3 := he2.keep b3
      have B3 := B2.trans (b3.mono z2)
      have z3 := B3.size
      replace ly := ly.keep b3
      obtain ⟨a3, c3, rfl, bt⟩ := told_bytes own3
      clear own3 b3 B2 z2 he2
      have hx3 := scan_call a3 c3 B (by omega) w3 he3 bt
      rw [HU.out] at hx3
      go_wp2_with fail
      refine hx3.mono ?_
      rintro e4 w4 ⟨v4, rfl, own4, nil4, b4⟩
      simp only at own4 b4 nil4
      clear hx3 nil4
      have he4 := he3.keep b4
      have B4 := B3.trans (b4.mono z3)
      have z4 := B4.size
      replace ly := ly.keep b4
      replace bt := bt.keep b4
      obtain ⟨a4, c4, rfl, ly4, hc4, _⟩ := told_lies own4
      clear own4 b4 B3 z3 he3
      have hx4 := text_call a4 c4 (us.map T5.g) (by simp; omega) (by simpa using hc4) (fun t h => by have := HS2.out t h; omega) HV2.out w4 he4 ly4
      rw [HB2.out, List.length_map] at hx4
      go_wp2_with fail
      refine hx4.mono ?_
      rintro e6 w6 ⟨v6, rfl, own6, nil6, b6⟩
      simp only at own6 b6 nil6
      clear hx4 nil6
      have he6 := he4.keep b6
      have B6 := B4.trans (b6.mono z4)
      have z6 := B6.size
      replace ly := ly.keep b6
      replace ly4 := ly4.keep b6
      replace bt := bt.keep b6
      obtain ⟨a6, c6, rfl, bt6⟩ := told_bytes own6
      clear own6 b6 B4 z4 he4
      have hx5 := same_any a5 a4 c5 c4 (ts.map T5.g) (us.map T5.g) (by simp; omega) HAL.out w6 ly ly4
      rw [List.length_map, List.length_map] at hx5
      go_wp2_with fail
      refine hx5.mono ?_
      rintro e7 w7 ⟨rfl, b7⟩
      clear hx5 ly ly4
      have cv1 := (bt.keep b7).conv c3
      have cv2 := (bt6.keep b7).conv c6
      have B7 := B6.trans (b7.mono z6)
      have eq1 : (B == B) = true := by simp
      clear bt bt6 b7
      go_wp2
      go_ret
      exact ⟨rfl, B7⟩
    · have e1 : (x == 0) = false := by simpa using hx
      have e2 : decide (x = 0) = false := by simpa using hx
      have hn := scan_wrong_nil l ts i0 x HS.out hx
      subst hn
      go_enter Tryd.func7, Tryd.ntmps7
      go_wp2_with fail
      refine (live_any _ he).mono ?_
      rintro e1 w1 ⟨rfl, b1⟩
      have he1 := he.keep b1
      have ht1 := ht.keep b1
      have z1 := b1.size
      have hs := scan_call a cap l (by omega) w1 he1 ht1
      rw [HS.out] at hs
      go_wp2_with fail
      refine hs.mono ?_
      rintro e2 w2 ⟨v2, rfl, own2, nil2, b2⟩
      simp only at own2 b2 nil2
      have he2 := he1.keep b2
      have B2 := b1.trans (b2.mono z1)
      have z2 := B2.size
      clear hs ht1 he1 b1 b2 z1
      obtain rfl := nil2 (by first | rfl | trivial)
      go_wp2
      go_ret
      exact ⟨rfl, B2⟩
  · have d1 : decide (2000 < l.length) = true := by rw [decide_eq_true_eq]; omega
    have d1b : decide ((2000 : Int) < (l.length : Int)) = true := by rw [decide_eq_true_eq]; omega
    go_enter Tryd.func7, Tryd.ntmps7
    go_wp2_with fail
    refine (live_any _ he).mono ?_
    rintro e1 w1 ⟨rfl, b1⟩
    have he1 := he.keep b1
    have ht1 := ht.keep b1
    have z1 := b1.size
    go_wp2
    go_ret
    exact ⟨rfl, b1⟩

/-! ### The row's step -/
set_option maxRecDepth 100000 in
theorem lifted (os : Os) (started : os.Started) (H : Type) (enc : TypeId × Value → H) :
    ReturnsInHanded {} Tryd.checked os 7 .any (fun w args => (Rows.scanAgainSpec.pre enc Tryd.prog Tryd.f7 [] false w args ∧ laidMetH Tryd.prog LD w) ∧ sizedMet enc Tryd.prog Tryd.f7 (OpenSpec.ofChange Rows.scanAgainSpec) false w args) (Rows.scanAgainSpec.post enc Tryd.prog Tryd.f7 false true false false) := by
  refine returnsLaid (C := Tryd.checked) own started (by kernel_rfl) Tryd.func7
    (ChangeSpec.witness_shaped (enc := enc) (C := Tryd.checked) (os := os) (X := fun w _ => laidMetH Tryd.prog LD w) false (World.doorLaid Tryd.prog 29 os) #[.slice none 0 0] 8 rfl (World.shaped_of_RefB (by kernel_rfl) (by kernel_rfl)) (by kernel_rfl) (by kernel_rfl) (by kernel_rfl) (door_met os _)) ?_
  intro W base args ds gs before hval0 hW hwt0 hL hsh
  have hval : ∀ (j : Nat) t v, Tryd.f7.params[j]? = some t → args[j]? = some v → Value.okWide Tryd.prog W .any base t v := hval0
  have hW' := hW
  obtain ⟨p, q, hA0, hV, rfl, hfz, hnd⟩ := hW
  have hA : DataW.TrodAll enc Tryd.prog W 0 (fun _ => true) true Tryd.f7.params.toList args.toList ds p := hA0
  rw [Tryd.params7] at hA hval
  obtain ⟨v0, vs0, d0, ds0, p0, q0, hargs, rfl, rfl, h0, r0⟩ := trodAll_cons hA
  obtain ⟨rfl, rfl, rfl⟩ := trodAll_nil r0
  obtain rfl : args = #[v0] := by cases args; simp_all
  obtain ⟨rfl, rfl⟩ := trodVars_none hV
  have he := env_of hL hsh
  have k0 : ∀ (W' : World), Below W.heap.size W W' → DataW.Trod enc Tryd.prog W' 0 (fun b => decide (b < W.heap.size)) true 22 v0 d0 p0 := fun W' hn => Below.trod laidOut (by kernel_rfl) (of_decide_eq_true (by kernel_rfl)) h0 hn (fun x hx => by simpa using hW'.lt x (by simp [hx]))
  obtain ⟨a0, n0, c0, rfl⟩ := okWide_slice Tryd.underlying22 (hval 0 22 v0 rfl rfl)
  obtain ⟨l0, rfl, hc0, ht0⟩ := text_of h0
  clear hA0 hval0
  simp only [List.append_nil] at hW'
  refine (walk a0 c0 l0 W he ht0).mono fun e W' ⟨hr, bel⟩ => ?_
  subst hr
  exact ⟨_, rfl, _, _, _, [], _, [], hW', trodAll_mk1 (shut_bool Tryd.underlying4 _), (trodAll_cons_mk (k0 _ bel) trodAll_mk0), rfl, bel.frame _, fun h => by cases h⟩

theorem over : Rows.ScanAgainSaid :=
  OpenClaim.holds_of_wide 7 Tryd.f7 rfl rfl rfl rfl rfl rfl rfl ⟨rfl, rfl, rfl, rfl, rfl⟩ rfl rfl rfl rfl rfl (by kernel_rfl) Tryd.func7 (by kernel_rfl)
    (of_decide_eq_true (by kernel_rfl)) (by unfold Func.isWrapper; first | (rw [if_pos (by decide +kernel)]; kernel_rfl) | (rw [if_neg (by decide +kernel)]; exact ⟨rfl, rfl⟩))
    (fun os started H enc _ => lifted os started H enc)

/-- The given statement. -/
theorem proved : Rows.ScanAgainCardSaid :=
  Claim7.holds_tied_plain_at .later [] [.data, .data, .data, .data] true _ false
    over (fun _ h => by cases h) (by kernel_rfl) (fun _ h => by cases h) scanAgain_row_tie rfl ⟨rfl, rfl⟩ (by kernel_rfl) rfl
    (fun f fn hf hfn => by
      obtain rfl : f = 7 := Option.some.inj ((show Tryd.prog.funcNamed "filigree/filigreelaw02.ScanAgain" = some 7 by kernel_rfl).symm.trans hf) |>.symm
      obtain rfl : fn = Tryd.f7 := (Option.some.inj (Tryd.func7.symm.trans hfn)).symm
      exact ⟨by kernel_rfl, fun j t ht => by
        rw [Tryd.params7] at ht
        have hm : t ∈ [22] := by simpa using Array.mem_of_getElem? ht
        have hall : ([22].all fun u => !Tryd.prog.wantsStandIn u) = true := by kernel_rfl
        exact (show Tryd.prog.wantsStandIn t = false by simpa using List.all_eq_true.1 hall t hm)⟩)
    (by kernel_rfl)
#print axioms proved
end Go.Proofs.YtoogncfpoecckaaDoor.scanAgain
