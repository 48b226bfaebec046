/-
  Tokens that may be are written, and read again, the same, but for their places; others are refused. For every input; the listed variables hold what the program's text lays in them.
-/
import Derived.Test.YtoogncfpoecckaaDoorTie
import Derived.Test.YtoogncfpoecckaaDoorCards
import Derived.Test.YtoogncfpoecckaaDoorScOp
import Derived.Test.YtoogncfpoecckaaDoorScSm
import Derived.BigQuiet
namespace Go.Proofs.YtoogncfpoecckaaDoor.scanBack
open Go Go.ChangeShapes Go.WideShapes Go.ChangeAt Go.RowKit Go.Joins Go.Sort Go.Deep
set_option linter.unusedVariables false
set_option linter.unusedSimpArgs false

set_option maxHeartbeats 8000000 in
set_option maxRecDepth 100000 in
theorem walk (a : Option Addr) (cap : Nat) (l : List G5) (hcap : l.length ≤ cap) (hss : ∀ t ∈ l, t.s.length ≤ reachBytes) (hvv : ∀ t ∈ l, t.V < 18446744073709551616) (w : World) (he : Env2 w) (hl : LiesA w a l) : Calls Tryd.prog 6 #[.slice a l.length cap] w fun e w' => e = .returned (.bool true) ∧ Below w.heap.size w w' := by
  have HVV := Lib.hid hvv
  clear hvv
  cases hf : fewK 0 l with
  | false =>
    go_enter Tryd.func6, Tryd.ntmps6
    go_wp2_with fail
    refine (live_any _ he).mono ?_
    rintro e1 w1 ⟨rfl, b1⟩
    have he2 := he.keep b1
    have hl2 := hl.keep b1
    have z2 := b1.size
    have B2 := b1
    have hfw := few_any a cap l hss w1 hl2
    rw [hf] at hfw
    go_wp2_with fail
    refine hfw.mono ?_
    rintro e2 w2 ⟨rfl, rfl⟩
    go_wp2
    go_ret
    exact ⟨rfl, b1⟩
  | true =>
    obtain ⟨hln, hsm⟩ := few_small l 0 hf (by omega)
    have HSS := Lib.hid hsm
    have hln2 : l.length ≤ 4000 := by omega
    clear hsm hln
    go_enter Tryd.func6, Tryd.ntmps6
    go_wp2_with fail
    refine (live_any _ he).mono ?_
    rintro e1 w1 ⟨rfl, b1⟩
    have he2 := he.keep b1
    have hl2 := hl.keep b1
    have z2 := b1.size
    have B2 := b1
    have hfw := few_any a cap l hss w1 hl2
    rw [hf] at hfw
    clear hf
    go_wp2_with fail
    refine hfw.mono ?_
    rintro e2 w2 ⟨rfl, rfl⟩
    clear hfw hss
    go_wp2
    go_loopg [4, 5] l.length (fun g u v wr => ∃ (i : Nat) (m : Bool), u = .bool m ∧ v = .int .i64 i ∧ i + g = l.length ∧ (m = true ↔ checksS (l.take i) = 0) ∧ Below w2.heap.size w2 wr)
    case atStart => exact ⟨0, true, rfl, rfl, by omega, ⟨fun _ => rfl, fun _ => rfl⟩, Below.refl _ _⟩
    case round =>
      obtain ⟨i, m, rfl, rfl, hi, hm, hb0⟩ := hrel
      have her := he2.keep hb0
      have hlr := hl2.keep hb0
      have HM := Lib.hid hm
      clear hm
      have zr := hb0.size
      by_cases hlt : i < l.length
      · have d1 : decide (i < l.length) = true := by simpa using hlt
        have d2 : decide ((i : Int) < (l.length : Int)) = true := by rw [decide_eq_true_eq]; omega
        have d3 : (i : Int) < (l.length : Int) := by omega
        have hstep : checksS (l.take (i + 1)) = 0 ↔ checksS (l.take i) = 0 ∧ checkS l[i].k l[i].s l[i].W l[i].V l[i].p = 0 := by
          rw [checks_all, checks_all, List.take_succ_eq_append_getElem hlt]
          simp only [List.mem_append, List.mem_singleton]
          constructor
          · intro h; exact ⟨fun t ht => h t (.inl ht), h _ (.inr rfl)⟩
          · rintro ⟨h1, h2⟩ t (ht | rfl)
            · exact h1 t ht
            · exact h2
        have HST := Lib.hid hstep
        clear hstep
        cases m with
        | false =>
          have HN : Hid (false = true ↔ checksS (l.take (i + 1)) = 0) := Lib.hid ⟨fun h => (by cases h), fun h => HM.out.2 (HST.out.1 h).1⟩
          go_wp2
          cases gk with
          | zero => omega
          | succ gg =>
            go_roundg gg
            case rel => exact ⟨i + 1, false, by simp; first | done | rfl | omega, by simp; first | done | rfl | omega, by omega, HN.out, hb0⟩
            case measure => omega
        | true =>
          obtain ⟨b, o, rfl, x0, x1, x2, x3, x4⟩ := hlr.at hlt
          have hs := HSS.out l[i] (List.getElem_mem hlt)
          have hv := HVV.out l[i] (List.getElem_mem hlt)
          generalize l[i] = t at *
          obtain ⟨tk, ts, tW, tV, tp⟩ := t
          simp only at x0 x1 x2 x3 x4 hs hv HST
          have hck := check_any tk ts tW tV tp (by omega) hv wr her.env
          have HV2 := Lib.hid hv
          clear hv
          by_cases hc : checkS tk ts tW tV tp = 0
          · rw [hc] at hck
            have HN : Hid (true = true ↔ checksS (l.take (i + 1)) = 0) := Lib.hid ⟨fun _ => HST.out.2 ⟨HM.out.1 rfl, hc⟩, fun _ => rfl⟩
            clear HST hc
            go_wp2_with fail
            refine hck.mono ?_
            rintro e3 w3 ⟨rfl, hb3⟩
            go_wp2
            cases gk with
            | zero => omega
            | succ gg =>
              go_roundg gg
              case rel => exact ⟨i + 1, true, by simp; first | done | rfl | omega, by simp; first | done | rfl | omega, by omega, by simpa using HN.out, hb0.trans (hb3.mono zr)⟩
              case measure => omega
          · have hc1 : checkS tk ts tW tV tp = 1 := by
              unfold checkS at hc ⊢
              split
              · rfl
              · rename_i h2; rw [if_neg h2] at hc; exact absurd rfl hc
            have HN : Hid (false = true ↔ checksS (l.take (i + 1)) = 0) := Lib.hid ⟨fun h => (by cases h), fun h => absurd (HST.out.1 h).2 hc⟩
            rw [hc1] at hck
            clear HST hc hc1
            go_wp2_with fail
            refine hck.mono ?_
            rintro e3 w3 ⟨rfl, hb3⟩
            go_wp2
            cases gk with
            | zero => omega
            | succ gg =>
              go_roundg gg
              case rel => exact ⟨i + 1, false, by simp; first | done | rfl | omega, by simp; first | done | rfl | omega, by omega, HN.out, hb0.trans (hb3.mono zr)⟩
              case measure => omega
      · have d1 : decide (i < l.length) = false := by simpa using hlt
        have d2 : decide ((i : Int) < (l.length : Int)) = false := by rw [decide_eq_false_iff_not]; omega
        have hm2 : m = true ↔ checksS l = 0 := by have := HM.out; rw [List.take_of_length_le (by omega)] at this; exact this
        have HM2 := Lib.hid hm2
        clear hm2 HM
        have htx := text_call a cap l (by omega) hcap (fun t h => by have := HSS.out t h; omega) HVV.out wr her hlr
        rcases textS_cases l with ⟨hc, ht⟩ | ⟨hc, ht⟩ | ⟨hc, ht, hlen⟩
        · have h1 : checksS l = 1 := by rcases checks_01 l with h | h; exact absurd h hc; exact h
          have hmf : m = false := by cases m with | false => rfl | true => exact absurd (HM2.out.1 rfl) hc
          subst hmf
          rw [ht, h1] at htx
          clear HM2 ht h1 hc
          go_wp2_with fail
          refine htx.mono ?_
          rintro e3 w3 ⟨v3, rfl, own3, nil3, b3⟩
          simp only at own3 b3 nil3
          obtain rfl := nil3 (by decide)
          go_wp2
          go_ret
          exact ⟨rfl, B2.trans ((hb0.trans (b3.mono zr)).mono z2)⟩
        · have hmf : m = true := HM2.out.2 hc
          subst hmf
          rw [ht] at htx
          clear HM2 ht hc
          go_wp2_with fail
          refine htx.mono ?_
          rintro e3 w3 ⟨v3, rfl, own3, nil3, b3⟩
          simp only at own3 b3 nil3
          obtain rfl := nil3 (by decide)
          go_wp2
          go_ret
          exact ⟨rfl, B2.trans ((hb0.trans (b3.mono zr)).mono z2)⟩
        · have hmf : m = true := HM2.out.2 hc
          subst hmf
          obtain ⟨us, hU, hal⟩ := scan_back l hc HVV.out
          have HAL := Lib.hid (alikeG hal)
          have HU := Lib.hid hU
          rw [ht] at htx
          clear HM2 ht hc hU hal
          generalize bodyS none l = B at *
          go_wp2_with fail
          refine htx.mono ?_
          rintro e3 w3 ⟨v3, rfl, own3, nil3, b3⟩
          simp only at own3 b3 nil3
          clear htx nil3
          have he3 := her.keep b3
          have B3 := B2.trans ((hb0.trans (b3.mono zr)).mono z2)
          have z3 := B3.size
          replace hlr := hlr.keep b3
          obtain ⟨a3, c3, rfl, bt⟩ := told_bytes own3
          clear own3 b3 hl2 he2 hb0 her B2 z2 zr
          have hx3 := scan_call a3 c3 B (by omega) w3 he3 bt
          rw [HU.out] at hx3
          go_wp2_with fail
          refine hx3.mono ?_
          rintro e4 w4 ⟨v4, rfl, own4, nil4, b4⟩
          simp only at own4 b4 nil4
          clear hx3 nil4
          have B4 := B3.trans (b4.mono z3)
          have z4 := B4.size
          replace hlr := hlr.keep b4
          obtain ⟨a4, c4, rfl, ly4, hc4, _⟩ := told_lies own4
          clear own4 b4 B3 z3 he3
          have hx5 := same_any a a4 cap c4 l (us.map T5.g) (by omega) HAL.out w4 hlr ly4
          rw [List.length_map] at hx5
          go_wp2_with fail
          refine hx5.mono ?_
          rintro e7 w7 ⟨rfl, b7⟩
          clear hx5 ly4 hlr
          have B7 := B4.trans (b7.mono z4)
          go_wp2
          go_ret
          exact ⟨rfl, B7⟩

/-! ### The row's step -/
set_option maxRecDepth 100000 in
theorem lifted (os : Os) (started : os.Started) (H : Type) (enc : TypeId × Value → H) :
    ReturnsInHanded {} Tryd.checked os 6 .any (fun w args => (Rows.scanBackSpec.pre enc Tryd.prog Tryd.f6 [] false w args ∧ laidMetH Tryd.prog LD w) ∧ sizedMet enc Tryd.prog Tryd.f6 (OpenSpec.ofChange Rows.scanBackSpec) false w args) (Rows.scanBackSpec.post enc Tryd.prog Tryd.f6 false true false false) := by
  refine returnsLaid (C := Tryd.checked) own started (by kernel_rfl) Tryd.func6
    (ChangeSpec.witness_shaped (enc := enc) (C := Tryd.checked) (os := os) (X := fun w _ => laidMetH Tryd.prog LD w) false (World.doorLaid Tryd.prog 29 os) #[.slice none 0 0] 8 rfl (World.shaped_of_RefB (by kernel_rfl) (by kernel_rfl)) (by kernel_rfl) (by kernel_rfl) (by kernel_rfl) (door_met os _)) ?_
  intro W base args ds gs before hval0 hW hwt0 hL hsh
  have hval : ∀ (j : Nat) t v, Tryd.f6.params[j]? = some t → args[j]? = some v → Value.okWide Tryd.prog W .any base t v := hval0
  have hW' := hW
  obtain ⟨p, q, hA0, hV, rfl, hfz, hnd⟩ := hW
  have hA : DataW.TrodAll enc Tryd.prog W 0 (fun _ => true) true Tryd.f6.params.toList args.toList ds p := hA0
  rw [Tryd.params6] at hA hval
  obtain ⟨v0, vs0, d0, ds0, p0, q0, hargs, rfl, rfl, h0, r0⟩ := trodAll_cons hA
  obtain ⟨rfl, rfl, rfl⟩ := trodAll_nil r0
  obtain rfl : args = #[v0] := by cases args; simp_all
  obtain ⟨rfl, rfl⟩ := trodVars_none hV
  have he := env_of hL hsh
  have k0 : ∀ (W' : World), Below W.heap.size W W' → DataW.Trod enc Tryd.prog W' 0 (fun b => decide (b < W.heap.size)) true 24 v0 d0 p0 := fun W' hn => Below.trod laidOut (by kernel_rfl) (of_decide_eq_true (by kernel_rfl)) h0 hn (fun x hx => by simpa using hW'.lt x (by simp [hx]))
  obtain ⟨a0, n0, c0, rfl⟩ := okWide_slice Tryd.underlying24 (hval 0 24 v0 rfl rfl)
  have hwt : (DataW.weightsEach Tryd.prog (Tryd.f6.params.toList ++ Rows.scanBackSpec.plain.varTypes Tryd.prog) ([d0] ++ [])).all (· ≤ reachBytes) = true := hwt0
  rw [Tryd.params6] at hwt
  obtain ⟨l0, rfl, hc0, ht0, hn0, hb0, hV0, hS0⟩ := toks_of h0 (weights_first hwt)
  clear hA0 hval0
  simp only [List.append_nil] at hW'
  refine (walk a0 c0 l0 hc0 hS0 hV0 W he ht0).mono fun e W' ⟨hr, bel⟩ => ?_
  subst hr
  exact ⟨_, rfl, _, _, _, [], _, [], hW', trodAll_mk1 (shut_bool Tryd.underlying4 _), (trodAll_cons_mk (k0 _ bel) trodAll_mk0), rfl, bel.frame _, fun h => by cases h⟩

theorem over : Rows.ScanBackSaid :=
  OpenClaim.holds_of_wide 6 Tryd.f6 rfl rfl rfl rfl rfl rfl rfl ⟨rfl, rfl, rfl, rfl, rfl⟩ rfl rfl rfl rfl rfl (by kernel_rfl) Tryd.func6 (by kernel_rfl)
    (of_decide_eq_true (by kernel_rfl)) (by unfold Func.isWrapper; first | (rw [if_pos (by decide +kernel)]; kernel_rfl) | (rw [if_neg (by decide +kernel)]; exact ⟨rfl, rfl⟩))
    (fun os started H enc _ => lifted os started H enc)

/-- The given statement. -/
theorem proved : Rows.ScanBackCardSaid :=
  Claim7.holds_tied_plain_at .later [] [.data, .data, .data, .data] true _ false
    over (fun _ h => by cases h) (by kernel_rfl) (fun _ h => by cases h) scanBack_row_tie rfl ⟨rfl, rfl⟩ (by kernel_rfl) rfl
    (fun f fn hf hfn => by
      obtain rfl : f = 6 := Option.some.inj ((show Tryd.prog.funcNamed "filigree/filigreelaw02.ScanBack" = some 6 by kernel_rfl).symm.trans hf) |>.symm
      obtain rfl : fn = Tryd.f6 := (Option.some.inj (Tryd.func6.symm.trans hfn)).symm
      exact ⟨by kernel_rfl, fun j t ht => by
        rw [Tryd.params6] at ht
        have hm : t ∈ [24] := by simpa using Array.mem_of_getElem? ht
        have hall : ([24].all fun u => !Tryd.prog.wantsStandIn u) = true := by kernel_rfl
        exact (show Tryd.prog.wantsStandIn t = false by simpa using List.all_eq_true.1 hall t hm)⟩)
    (by kernel_rfl)
#print axioms proved
end Go.Proofs.YtoogncfpoecckaaDoor.scanBack
