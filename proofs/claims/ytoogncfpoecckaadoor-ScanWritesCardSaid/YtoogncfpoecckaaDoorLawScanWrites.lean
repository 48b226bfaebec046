/-
  How tokens are written is just what the document says, whatever they are. For every input; the listed variables hold what the program's text lays in them.
-/
import Derived.Test.YtoogncfpoecckaaDoorTie
import Derived.Test.YtoogncfpoecckaaDoorCards
import Derived.Test.YtoogncfpoecckaaDoorScOp
import Derived.Test.YtoogncfpoecckaaDoorScSm
import Derived.Test.YtoogncfpoecckaaDoorScRx
import Derived.BigQuiet
namespace Go.Proofs.YtoogncfpoecckaaDoor.scanWrites
open Go Go.ChangeShapes Go.WideShapes Go.ChangeAt Go.RowKit Go.Joins Go.Sort Go.Deep
set_option linter.unusedVariables false
set_option linter.unusedSimpArgs false

set_option maxHeartbeats 8000000 in
set_option maxRecDepth 100000 in
theorem walk (a : Option Addr) (cap : Nat) (l : List G5) (hcap : l.length ≤ cap) (hss : ∀ t ∈ l, t.s.length ≤ reachBytes) (hvv : ∀ t ∈ l, t.V < 18446744073709551616) (w : World) (he : Env2 w) (hl : LiesA w a l) : Calls Tryd.prog 5 #[.slice a l.length cap] w fun e w' => e = .returned (.bool true) ∧ Below w.heap.size w w' := by
  have HVV := Lib.hid hvv
  clear hvv
  cases hf : fewK 0 l with
  | false =>
    go_enter Tryd.func5, Tryd.ntmps5
    go_wp2_with fail
    refine (live_any _ he).mono ?_
    rintro e1 w1 ⟨rfl, b1⟩
    have he2 := he.keep b1
    have hl2 := hl.keep b1
    have z2 := b1.size
    have hfw := few_any a cap l hss w1 hl2
    rw [hf] at hfw
    go_wp2_with fail
    refine hfw.mono ?_
    rintro e2 w2 ⟨rfl, rfl⟩
    go_wp2
    go_ret
    exact ⟨rfl, b1⟩
  | true =>
    obtain ⟨hln, hsm⟩ := few_small l 0 hf (by omega)
    have HSS := Lib.hid hsm
    have hln2 : l.length ≤ 4000 := by omega
    clear hsm hln
    go_enter Tryd.func5, Tryd.ntmps5
    go_wp2_with fail
    refine (live_any _ he).mono ?_
    rintro e1 w1 ⟨rfl, b1⟩
    have he2 := he.keep b1
    have hl2 := hl.keep b1
    have z2 := b1.size
    have hfw := few_any a cap l hss w1 hl2
    rw [hf] at hfw
    clear hf
    go_wp2_with fail
    refine hfw.mono ?_
    rintro e2 w2 ⟨rfl, rfl⟩
    clear hfw hss
    have htx := text_call a cap l (by omega) hcap (fun t h => by have := HSS.out t h; omega) HVV.out w2 he2 hl2
    obtain ⟨B, x, hT⟩ : ∃ B x, textS l = (B, x) := ⟨_, _, rfl⟩
    have HT := Lib.hid hT
    rw [hT] at htx
    clear hT
    go_wp2_with fail
    refine htx.mono ?_
    rintro e3 w3 ⟨v3, rfl, own3, nil3, b3⟩
    simp only at own3 b3 nil3
    clear htx nil3
    replace hl2 := hl2.keep b3
    have B3 := b1.trans (b3.mono z2)
    have z3 := B3.size
    obtain ⟨a3, c3, rfl, bt3⟩ := told_bytes own3
    clear own3 b3 z2 he2 b1
    have hrx := reftext_any a cap l hln2 HSS.out HVV.out w3 hl2
    rw [HT.out] at hrx
    go_wp2_with fail
    refine hrx.mono ?_
    rintro e4 w4 ⟨v4, rfl, own4, nil4, b4⟩
    simp only at own4 b4 nil4
    clear hrx nil4
    have B4 := B3.trans (b4.mono z3)
    have cv1 := (bt3.keep b4).conv c3
    obtain ⟨a4, c4, rfl, bt4⟩ := told_bytes own4
    have cv2 := bt4.conv c4
    have eq1 : (B == B) = true := by simp
    have eq2 : (x == x) = true := by simp
    clear own4 b4 bt3 bt4 hl2
    go_wp2
    go_ret
    exact ⟨rfl, B4⟩

/-! ### The row's step -/
set_option maxRecDepth 100000 in
theorem lifted (os : Os) (started : os.Started) (H : Type) (enc : TypeId × Value → H) :
    ReturnsInHanded {} Tryd.checked os 5 .any (fun w args => (Rows.scanWritesSpec.pre enc Tryd.prog Tryd.f5 [] false w args ∧ laidMetH Tryd.prog LD w) ∧ sizedMet enc Tryd.prog Tryd.f5 (OpenSpec.ofChange Rows.scanWritesSpec) false w args) (Rows.scanWritesSpec.post enc Tryd.prog Tryd.f5 false true false false) := by
  refine returnsLaid (C := Tryd.checked) own started (by kernel_rfl) Tryd.func5
    (ChangeSpec.witness_shaped (enc := enc) (C := Tryd.checked) (os := os) (X := fun w _ => laidMetH Tryd.prog LD w) false (World.doorLaid Tryd.prog 29 os) #[.slice none 0 0] 8 rfl (World.shaped_of_RefB (by kernel_rfl) (by kernel_rfl)) (by kernel_rfl) (by kernel_rfl) (by kernel_rfl) (door_met os _)) ?_
  intro W base args ds gs before hval0 hW hwt0 hL hsh
  have hval : ∀ (j : Nat) t v, Tryd.f5.params[j]? = some t → args[j]? = some v → Value.okWide Tryd.prog W .any base t v := hval0
  have hW' := hW
  obtain ⟨p, q, hA0, hV, rfl, hfz, hnd⟩ := hW
  have hA : DataW.TrodAll enc Tryd.prog W 0 (fun _ => true) true Tryd.f5.params.toList args.toList ds p := hA0
  rw [Tryd.params5] at hA hval
  obtain ⟨v0, vs0, d0, ds0, p0, q0, hargs, rfl, rfl, h0, r0⟩ := trodAll_cons hA
  obtain ⟨rfl, rfl, rfl⟩ := trodAll_nil r0
  obtain rfl : args = #[v0] := by cases args; simp_all
  obtain ⟨rfl, rfl⟩ := trodVars_none hV
  have he := env_of hL hsh
  have k0 : ∀ (W' : World), Below W.heap.size W W' → DataW.Trod enc Tryd.prog W' 0 (fun b => decide (b < W.heap.size)) true 24 v0 d0 p0 := fun W' hn => Below.trod laidOut (by kernel_rfl) (of_decide_eq_true (by kernel_rfl)) h0 hn (fun x hx => by simpa using hW'.lt x (by simp [hx]))
  obtain ⟨a0, n0, c0, rfl⟩ := okWide_slice Tryd.underlying24 (hval 0 24 v0 rfl rfl)
  have hwt : (DataW.weightsEach Tryd.prog (Tryd.f5.params.toList ++ Rows.scanWritesSpec.plain.varTypes Tryd.prog) ([d0] ++ [])).all (· ≤ reachBytes) = true := hwt0
  rw [Tryd.params5] at hwt
  obtain ⟨l0, rfl, hc0, ht0, hn0, hb0, hV0, hS0⟩ := toks_of h0 (weights_first hwt)
  clear hA0 hval0
  simp only [List.append_nil] at hW'
  refine (walk a0 c0 l0 hc0 hS0 hV0 W he ht0).mono fun e W' ⟨hr, bel⟩ => ?_
  subst hr
  exact ⟨_, rfl, _, _, _, [], _, [], hW', trodAll_mk1 (shut_bool Tryd.underlying4 _), (trodAll_cons_mk (k0 _ bel) trodAll_mk0), rfl, bel.frame _, fun h => by cases h⟩

theorem over : Rows.ScanWritesSaid :=
  OpenClaim.holds_of_wide 5 Tryd.f5 rfl rfl rfl rfl rfl rfl rfl ⟨rfl, rfl, rfl, rfl, rfl⟩ rfl rfl rfl rfl rfl (by kernel_rfl) Tryd.func5 (by kernel_rfl)
    (of_decide_eq_true (by kernel_rfl)) (by unfold Func.isWrapper; first | (rw [if_pos (by decide +kernel)]; kernel_rfl) | (rw [if_neg (by decide +kernel)]; exact ⟨rfl, rfl⟩))
    (fun os started H enc _ => lifted os started H enc)

/-- The given statement. -/
theorem proved : Rows.ScanWritesCardSaid :=
  Claim7.holds_tied_plain_at .later [] [.data, .data, .data, .data] true _ false
    over (fun _ h => by cases h) (by kernel_rfl) (fun _ h => by cases h) scanWrites_row_tie rfl ⟨rfl, rfl⟩ (by kernel_rfl) rfl
    (fun f fn hf hfn => by
      obtain rfl : f = 5 := Option.some.inj ((show Tryd.prog.funcNamed "filigree/filigreelaw02.ScanWrites" = some 5 by kernel_rfl).symm.trans hf) |>.symm
      obtain rfl : fn = Tryd.f5 := (Option.some.inj (Tryd.func5.symm.trans hfn)).symm
      exact ⟨by kernel_rfl, fun j t ht => by
        rw [Tryd.params5] at ht
        have hm : t ∈ [24] := by simpa using Array.mem_of_getElem? ht
        have hall : ([24].all fun u => !Tryd.prog.wantsStandIn u) = true := by kernel_rfl
        exact (show Tryd.prog.wantsStandIn t = false by simpa using List.all_eq_true.1 hall t hm)⟩)
    (by kernel_rfl)
#print axioms proved
end Go.Proofs.YtoogncfpoecckaaDoor.scanWrites
