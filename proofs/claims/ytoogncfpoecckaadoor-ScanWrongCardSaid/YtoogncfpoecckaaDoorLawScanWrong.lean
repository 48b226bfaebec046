/-
  What is wrong of a text is wrong by itself, and all ahead of it is right. For every input; the listed variables hold what the program's text lays in them.
-/
import Derived.Test.YtoogncfpoecckaaDoorTie
import Derived.Test.YtoogncfpoecckaaDoorCards
import Derived.Test.YtoogncfpoecckaaDoorScOp
import Derived.BigQuiet
namespace Go.Proofs.YtoogncfpoecckaaDoor.scanWrong
open Go Go.ChangeShapes Go.WideShapes Go.ChangeAt Go.RowKit Go.Joins Go.Sort Go.Deep
set_option linter.unusedVariables false
set_option linter.unusedSimpArgs false

set_option maxHeartbeats 4000000 in
theorem walk (a : Option Addr) (cap : Nat) (l : Bytes) (w : World) (he : Env2 w) (ht : BytesAt w a l) (hcap : l.length ≤ cap) : Calls Tryd.prog 10 #[.slice a l.length cap] w fun e w' => e = .returned (.bool true) ∧ Below w.heap.size w w' := by
  by_cases h1 : l.length ≤ 2000
  · have d1 : decide (2000 < l.length) = false := by rw [decide_eq_false_iff_not]; omega
    have d1b : decide ((2000 : Int) < (l.length : Int)) = false := by rw [decide_eq_false_iff_not]; omega
    go_enter Tryd.func10, Tryd.ntmps10
    go_wp2_with fail
    refine (live_any _ he).mono ?_
    rintro e1 w1 ⟨rfl, b1⟩
    have ht1 := ht.keep b1
    have he1 := he.keep b1
    have z1 := b1.size
    have hs := scan_call a cap l (by omega) w1 he1 ht1
    obtain ⟨ts, i, x, hR⟩ : ∃ ts i x, scanS l = (ts, i, x) := ⟨_, _, _, rfl⟩
    rw [hR] at hs
    have HR := Lib.hid hR
    clear hR
    go_wp2_with fail
    refine hs.mono ?_
    rintro e2 w2 ⟨v2, rfl, own2, nil2, b2⟩
    simp only at own2 b2 nil2
    have ht2 := ht1.keep b2
    have he2 := he1.keep b2
    have hB2 := b1.trans (b2.mono z1)
    have z2 := hB2.size
    clear hs ht1 he1
    by_cases hx : x = 0
    · subst hx
      have hi := (scan_right l ts i HR.out).2
      subst hi
      go_wp2
      go_ret
      exact ⟨rfl, hB2⟩
    · have hx0 : (x == 0) = false := by simpa using hx
      have hx1 : decide (x = 0) = false := by simpa using hx
      obtain ⟨hil, ⟨ts3, hS3⟩, hS4⟩ := scan_wrong l ts i x HR.out hx
      have hn := scan_wrong_nil l ts i x HR.out hx
      subst hn
      obtain rfl := nil2 rfl
      have hne : l ≠ [] := by intro e; subst e; simp at hil
      have ha : ∃ b o, a = some ⟨b, o, none⟩ := by
          rcases ht2 with h | ⟨b, o, h, _⟩
          · exact absurd h hne
          · exact ⟨b, o, h⟩
      obtain ⟨b, o, rfl⟩ := ha
      have hil2 : decide ((l.length : Int) ≤ (i : Int)) = false := by rw [decide_eq_false_iff_not]; omega
      have hil3 : decide ((i : Int) < 0) = false := by rw [decide_eq_false_iff_not]; omega
      have hs3 := scan_call (some ⟨b, o, none⟩) cap (l.take i) (by simp; omega) w2 he2 (ht2.take i)
      rw [hS3, show (l.take i).length = i by simp; omega] at hs3
      have q1 : (i : Int) ≤ (cap : Int) := by omega
      have q2 : (i : Int) ≤ (l.length : Int) := by omega
      have q3 : i ≤ cap := by omega
      have q4 : i ≤ l.length := by omega
      go_wp2_with fail
      refine hs3.mono ?_
      rintro e3 w3 ⟨v3, rfl, own3, nil3, b3⟩
      simp only at own3 b3 nil3
      have ht3 := ht2.keep b3
      have he3 := he2.keep b3
      have hB3 := hB2.trans (b3.mono z2)
      have z3 := hB3.size
      obtain ⟨a3, c3, rfl⟩ := own_form own3
      have hs4 := scan_call (some ⟨b, o + i, none⟩) (cap - i) (l.drop i) (by simp; omega) w3 he3 (by have := ht3.drop i; simpa [Addr.add_mid] using this)
      rw [hS4, show (l.drop i).length = l.length - i by simp] at hs4
      clear hs3
      go_wp2_with fail
      refine hs4.mono ?_
      rintro e4 w4 ⟨v4, rfl, own4, nil4, b4⟩
      simp only at own4 b4 nil4
      obtain rfl := nil4 (by first | rfl | trivial)
      go_wp2
      go_ret
      exact ⟨rfl, hB3.trans (b4.mono z3)⟩
  · have d1 : decide (2000 < l.length) = true := by rw [decide_eq_true_eq]; omega
    have d1b : decide ((2000 : Int) < (l.length : Int)) = true := by rw [decide_eq_true_eq]; omega
    go_enter Tryd.func10, Tryd.ntmps10
    go_wp2_with fail
    refine (live_any _ he).mono ?_
    rintro e1 w1 ⟨rfl, b1⟩
    have ht1 := ht.keep b1
    have he1 := he.keep b1
    have z1 := b1.size
    go_wp2
    go_ret
    exact ⟨rfl, b1⟩

/-! ### The row's step -/
set_option maxRecDepth 100000 in
theorem lifted (os : Os) (started : os.Started) (H : Type) (enc : TypeId × Value → H) :
    ReturnsInHanded {} Tryd.checked os 10 .any (fun w args => (Rows.scanWrongSpec.pre enc Tryd.prog Tryd.f10 [] false w args ∧ laidMetH Tryd.prog LD w) ∧ sizedMet enc Tryd.prog Tryd.f10 (OpenSpec.ofChange Rows.scanWrongSpec) false w args) (Rows.scanWrongSpec.post enc Tryd.prog Tryd.f10 false true false false) := by
  refine returnsLaid (C := Tryd.checked) own started (by kernel_rfl) Tryd.func10
    (ChangeSpec.witness_shaped (enc := enc) (C := Tryd.checked) (os := os) (X := fun w _ => laidMetH Tryd.prog LD w) false (World.doorLaid Tryd.prog 29 os) #[.slice none 0 0] 8 rfl (World.shaped_of_RefB (by kernel_rfl) (by kernel_rfl)) (by kernel_rfl) (by kernel_rfl) (by kernel_rfl) (door_met os _)) ?_
  intro W base args ds gs before hval0 hW hL hsh
  have hval : ∀ (j : Nat) t v, Tryd.f10.params[j]? = some t → args[j]? = some v → Value.okWide Tryd.prog W .any base t v := hval0
  have hW' := hW
  obtain ⟨p, q, hA0, hV, rfl, hfz, hnd⟩ := hW
  have hA : DataW.TrodAll enc Tryd.prog W 0 (fun _ => true) true Tryd.f10.params.toList args.toList ds p := hA0
  rw [Tryd.params10] at hA hval
  obtain ⟨v0, vs0, d0, ds0, p0, q0, hargs, rfl, rfl, h0, r0⟩ := trodAll_cons hA
  obtain ⟨rfl, rfl, rfl⟩ := trodAll_nil r0
  obtain rfl : args = #[v0] := by cases args; simp_all
  obtain ⟨rfl, rfl⟩ := trodVars_none hV
  have he := env_of hL hsh
  have k0 : ∀ (W' : World), Below W.heap.size W W' → DataW.Trod enc Tryd.prog W' 0 (fun b => decide (b < W.heap.size)) true 22 v0 d0 p0 := fun W' hn => Below.trod laidOut (by kernel_rfl) (of_decide_eq_true (by kernel_rfl)) h0 hn (fun x hx => by simpa using hW'.lt x (by simp [hx]))
  obtain ⟨a0, n0, c0, rfl⟩ := okWide_slice Tryd.underlying22 (hval 0 22 v0 rfl rfl)
  obtain ⟨l0, rfl, hc0, ht0⟩ := text_of h0
  clear hA0 hval0
  simp only [List.append_nil] at hW'
  refine (walk a0 c0 l0 W he ht0 hc0).mono fun e W' ⟨hr, bel⟩ => ?_
  subst hr
  exact ⟨_, rfl, _, _, _, [], _, [], hW', trodAll_mk1 (shut_bool Tryd.underlying4 _), (trodAll_cons_mk (k0 _ bel) trodAll_mk0), rfl, bel.frame _, fun h => by cases h⟩

theorem over : Rows.ScanWrongSaid :=
  OpenClaim.holds_of_wide 10 Tryd.f10 rfl rfl rfl rfl rfl rfl rfl ⟨rfl, rfl, rfl, rfl, rfl⟩ rfl rfl rfl rfl rfl (by kernel_rfl) Tryd.func10 (by kernel_rfl)
    (of_decide_eq_true (by kernel_rfl)) (by unfold Func.isWrapper; first | (rw [if_pos (by decide +kernel)]; kernel_rfl) | (rw [if_neg (by decide +kernel)]; exact ⟨rfl, rfl⟩))
    (fun os started H enc _ => lifted os started H enc)

/-- The given statement. -/
theorem proved : Rows.ScanWrongCardSaid :=
  Claim7.holds_tied_plain_at .later [] [.data, .data, .data, .data] true _ false
    over (fun _ h => by cases h) (by kernel_rfl) (fun _ h => by cases h) scanWrong_row_tie rfl ⟨rfl, rfl⟩ (by kernel_rfl) rfl
    (fun f fn hf hfn => by
      obtain rfl : f = 10 := Option.some.inj ((show Tryd.prog.funcNamed "filigree/filigreelaw02.ScanWrong" = some 10 by kernel_rfl).symm.trans hf) |>.symm
      obtain rfl : fn = Tryd.f10 := (Option.some.inj (Tryd.func10.symm.trans hfn)).symm
      exact ⟨by kernel_rfl, fun j t ht => by
        rw [Tryd.params10] at ht
        have hm : t ∈ [22] := by simpa using Array.mem_of_getElem? ht
        have hall : ([22].all fun u => !Tryd.prog.wantsStandIn u) = true := by kernel_rfl
        exact (show Tryd.prog.wantsStandIn t = false by simpa using List.all_eq_true.1 hall t hm)⟩)
    (by kernel_rfl)
#print axioms proved
end Go.Proofs.YtoogncfpoecckaaDoor.scanWrong
