/-
  What is read may be, and stands where it says, one behind the other. For every input; the listed variables hold what the program's text lays in them.
-/
import Derived.Test.YtoogncfpoecckaaDoorTie
import Derived.Test.YtoogncfpoecckaaDoorCards
import Derived.Test.YtoogncfpoecckaaDoorScOp
import Derived.BigQuiet
namespace Go.Proofs.YtoogncfpoecckaaDoor.scanRight
open Go Go.ChangeShapes Go.WideShapes Go.ChangeAt Go.RowKit Go.Joins Go.Sort Go.Deep
set_option linter.unusedVariables false
set_option linter.unusedSimpArgs false

set_option maxHeartbeats 8000000 in
set_option maxRecDepth 100000 in
theorem walk (a : Option Addr) (cap : Nat) (l : Bytes) (w : World) (he : Env2 w) (ht : BytesAt w a l) (hcap : l.length ≤ cap) : Calls Tryd.prog 8 #[.slice a l.length cap] w fun e w' => e = .returned (.bool true) ∧ Below w.heap.size w w' := by
  by_cases h1 : l.length ≤ 2000
  · have d1 : decide (2000 < l.length) = false := by rw [decide_eq_false_iff_not]; omega
    have d1b : decide ((2000 : Int) < (l.length : Int)) = false := by rw [decide_eq_false_iff_not]; omega
    obtain ⟨ts, i0, x, S⟩ : ∃ ts i x, scanS l = (ts, i, x) := ⟨_, _, _, rfl⟩
    have HS := Lib.hid S
    clear S
    by_cases hx : x = 0
    · subst hx
      have HRI := Lib.hid (scan_right l ts i0 HS.out).1
      have htl : ts.length ≤ 2000 := by have := right_count HRI.out; omega
      go_enter Tryd.func8, Tryd.ntmps8
      go_wp2_with fail
      refine (live_any _ he).mono ?_
      rintro e1 w1 ⟨rfl, b1⟩
      have he1 := he.keep b1
      have ht1 := ht.keep b1
      have z1 := b1.size
      have hs := scan_call a cap l (by omega) w1 he1 ht1
      rw [HS.out] at hs
      go_wp2_with fail
      refine hs.mono ?_
      rintro e2 w2 ⟨v2, rfl, own2, nil2, b2⟩
      simp only at own2 b2 nil2
      have ht2 := ht1.keep b2
      have he2 := he1.keep b2
      have B2 := b1.trans (b2.mono z1)
      have z2 := B2.size
      clear hs ht1 he1 b1 b2 z1
      obtain ⟨a5, c5, rfl, ly, _, _⟩ := told_lies own2
      clear own2 nil2
      go_wp2
      go_loopg [7, 8] ts.length (fun g u v wr => ∃ i e : Nat, u = .int .i64 e ∧ v = .int .i64 i ∧ i + g = ts.length ∧ Right l e (ts.drop i) ∧ Below w2.heap.size w2 wr)
      case atStart => exact ⟨0, 0, rfl, rfl, by omega, by rw [List.drop_zero]; exact HRI.out, Below.refl _ _⟩
      case round =>
        obtain ⟨i, e, rfl, rfl, hi, hr, hb0⟩ := hrel
        have hLr := ly.keep hb0
        have htr := ht2.keep hb0
        have her := he2.keep hb0
        have HRR := Lib.hid hr
        clear hr
        by_cases hlt : i < ts.length
        · have d1 : decide (i < ts.length) = true := by simpa using hlt
          have d2 : decide ((i : Int) < (ts.length : Int)) = true := by rw [decide_eq_true_eq]; omega
          obtain ⟨b, o, rfl, x0, x1, x2, x3, x4⟩ := hLr.at (i := i) (by simpa using hlt)
          have hrr : Right l e (ts[i] :: ts.drop (i + 1)) := by rw [List.getElem_cons_drop]; exact HRR.out
          simp only [List.getElem_map, T5.g] at x0 x1 x2 x3 x4
          generalize ts[i] = t at *
          obtain ⟨k, s, Wd, V, p⟩ := t
          simp only at x0 x1 x2 x3 x4
          have hh : RightAt l e ⟨k, s, Wd, V, p⟩ ∧ Right l (p + max s.length 1) (ts.drop (i + 1)) := by cases hrr with | cons _ _ _ h hr' => exact ⟨h, hr'⟩
          obtain ⟨⟨hchk, hge, hlp, hroom, htext, hnum, hkinds, hsmall⟩, hr'⟩ := hh
          simp only at hchk hge hlp hroom htext hnum hkinds hsmall
          have HR' := Lib.hid hr'
          clear hrr hr'
          have hck := check_any k s Wd V p (by omega) hsmall.2.2 (wr.alloc (.cells #[.int .i64 k, .string (bs s), .int .i64 (Wd : Int), .int .u64 (V : Int), .int .i64 (p : Int)] 32)) (her.env.alloc _)
          rw [hchk] at hck
          have HV := Lib.hid hsmall
          have ha : ∃ b' o', a = some ⟨b', o', none⟩ ∧ ∀ j (hj : j < l.length), wr.cell? ⟨b', o' + j, none⟩ = some (.int .u8 (l[j].toNat : Int)) := by
            rcases htr with h | ⟨b', o', h, h2⟩
            · subst h; exact absurd hlp (by simp)
            · exact ⟨b', o', h, h2⟩
          obtain ⟨tb, tO, rfl, htc⟩ := ha
          clear hsmall hLr
          go_wp2_with fail
          refine hck.mono ?_
          rintro e3 w3 ⟨rfl, hb3⟩
          have hb4 := ((Below.refl _ _).alloc (Nat.le_refl _) _).trans (hb3.mono (by simp))
          have y0 : w3.cell? ⟨wr.heap.size, 0, none⟩ = some (.int .i64 k) := keep_cell hb3 (by simp)
          have y1 : w3.cell? ⟨wr.heap.size, 1, none⟩ = some (.string (bs s)) := keep_cell hb3 (by simp)
          have y4 : w3.cell? ⟨wr.heap.size, 4, none⟩ = some (.int .i64 (p : Int)) := keep_cell hb3 (by simp)
          have htc3 : ∀ j (hj : j < l.length), w3.cell? ⟨tb, tO + j, none⟩ = some (.int .u8 (l[j].toNat : Int)) := fun j hj => keep_cell hb3 (alloc_cell (htc j hj) _)
          clear hck htr her htc x0 x1 x2 x3 x4
          have g1 : decide ((p : Int) < (e : Int)) = false := by rw [decide_eq_false_iff_not]; omega
          have g2 : decide ((l.length : Int) ≤ (p : Int)) = false := by rw [decide_eq_false_iff_not]; omega
          have g3 : decide ((l.length : Int) - (p : Int) < (s.length : Int)) = false := by rw [decide_eq_false_iff_not]; omega
          have hsub : IntKind.i64.wrap ((l.length : Int) - (p : Int)) = (l.length : Int) - (p : Int) := IntWalk.i64_in _ (by omega)
          have hadd : IntKind.i64.wrap ((p : Int) + (s.length : Int)) = (p : Int) + (s.length : Int) := IntWalk.i64_in _ (by omega)
          by_cases hk : k = 3
          · subst hk
            obtain ⟨rfl, _, hdig⟩ := hnum rfl
            have hc := htc3 p hlp
            unfold digit digitI bi at hdig
            simp only [Bool.and_eq_true, decide_eq_true_eq] at hdig
            have c1 : decide ((l[p].toNat : Int) < 48) = false := by rw [decide_eq_false_iff_not]; omega
            have c2 : decide ((57 : Int) < (l[p].toNat : Int)) = false := by rw [decide_eq_false_iff_not]; omega
            have c3 : (p : Int) < (l.length : Int) := by omega
            go_wp2_with fail
            go_quiet (fail)
            go_wp2
            cases gk with
            | zero => omega
            | succ gg =>
              go_roundg gg
              case rel => exact ⟨i + 1, p + 1, by simp; first | done | rfl | omega, by simp; first | done | rfl | omega, by omega, HR'.out, (below_drewN (hb0.trans (hb4.mono hb0.size)) _)⟩
              case measure => omega
          · have k1 : (k == 3) = false := by simpa using hk
            have k2 : decide (k = 3) = false := by simpa using hk
            have k3 : (k != 3) = true := by simpa using hk
            have hts := htext hk
            have hcv : ∀ q, (convert 22 9 (.slice (some ⟨tb, tO + p, none⟩) s.length (cap - p))).run Tryd.prog (w3.drewN q) = .ok (.string (bs s)) (w3.drewN q) := fun q => by
              have hB : BytesAt (w3.drewN q) (some ⟨tb, tO + p, none⟩) s := .inr ⟨tb, tO + p, rfl, fun j hj => by
                rw [World.cell?_drewN, Nat.add_assoc, htc3 (p + j) (by omega)]
                congr 2
                have : s[j] = ((l.drop p).take s.length)[j]'(by rw [hts]; exact hj) := by simp only [hts]
                rw [this, List.getElem_take, List.getElem_drop]⟩
              exact hB.conv _
            have hcv0 := hcv 0
            have q1 : (p : Int) ≤ ((p + s.length : Nat) : Int) := by omega
            have q2 : ((p + s.length : Nat) : Int) ≤ (cap : Int) := by omega
            have q3 : p + s.length ≤ cap := by omega
            have q4 : (p : Int) ≤ (p : Int) + (s.length : Int) := by omega
            have q5 : (p : Int) + (s.length : Int) ≤ (cap : Int) := by omega
            have q6 : p ≤ p + s.length := by omega
            have q7 : p ≤ cap := by omega
            have q8 : ¬ cap = p := by omega
            have q9 : ((p : Int) + (s.length : Int)).toNat - p = s.length := by omega
            have e1 : (s == s) = true := by simp
            have e2 : (s != s) = false := by simp
            go_wp2_with fail
            go_quiet (fail)
            go_wp2
            cases gk with
            | zero => omega
            | succ gg =>
              go_roundg gg
              case rel => exact ⟨i + 1, p + max s.length 1, by simp; first | done | rfl | omega, by simp; first | done | rfl | omega, by omega, HR'.out, (below_drewN (hb0.trans (hb4.mono hb0.size)) _)⟩
              case measure => omega
        · have d1 : decide (i < ts.length) = false := by simpa using hlt
          have d2 : decide ((i : Int) < (ts.length : Int)) = false := by rw [decide_eq_false_iff_not]; omega
          go_wp2
          go_ret
          exact ⟨rfl, B2.trans (hb0.mono z2)⟩
    · have e1 : (x == 0) = false := by simpa using hx
      have e2 : decide (x = 0) = false := by simpa using hx
      have hn := scan_wrong_nil l ts i0 x HS.out hx
      subst hn
      go_enter Tryd.func8, Tryd.ntmps8
      go_wp2_with fail
      refine (live_any _ he).mono ?_
      rintro e1 w1 ⟨rfl, b1⟩
      have he1 := he.keep b1
      have ht1 := ht.keep b1
      have z1 := b1.size
      have hs := scan_call a cap l (by omega) w1 he1 ht1
      rw [HS.out] at hs
      go_wp2_with fail
      refine hs.mono ?_
      rintro e2 w2 ⟨v2, rfl, own2, nil2, b2⟩
      simp only at own2 b2 nil2
      have ht2 := ht1.keep b2
      have he2 := he1.keep b2
      have B2 := b1.trans (b2.mono z1)
      have z2 := B2.size
      clear hs ht1 he1 b1 b2 z1
      obtain rfl := nil2 (by first | rfl | trivial)
      go_wp2
      go_ret
      exact ⟨rfl, B2⟩
  · have d1 : decide (2000 < l.length) = true := by rw [decide_eq_true_eq]; omega
    have d1b : decide ((2000 : Int) < (l.length : Int)) = true := by rw [decide_eq_true_eq]; omega
    go_enter Tryd.func8, Tryd.ntmps8
    go_wp2_with fail
    refine (live_any _ he).mono ?_
    rintro e1 w1 ⟨rfl, b1⟩
    have he1 := he.keep b1
    have ht1 := ht.keep b1
    have z1 := b1.size
    go_wp2
    go_ret
    exact ⟨rfl, b1⟩

/-! ### The row's step -/
set_option maxRecDepth 100000 in
theorem lifted (os : Os) (started : os.Started) (H : Type) (enc : TypeId × Value → H) :
    ReturnsInHanded {} Tryd.checked os 8 .any (fun w args => (Rows.scanRightSpec.pre enc Tryd.prog Tryd.f8 [] false w args ∧ laidMetH Tryd.prog LD w) ∧ sizedMet enc Tryd.prog Tryd.f8 (OpenSpec.ofChange Rows.scanRightSpec) false w args) (Rows.scanRightSpec.post enc Tryd.prog Tryd.f8 false true false false) := by
  refine returnsLaid (C := Tryd.checked) own started (by kernel_rfl) Tryd.func8
    (ChangeSpec.witness_shaped (enc := enc) (C := Tryd.checked) (os := os) (X := fun w _ => laidMetH Tryd.prog LD w) false (World.doorLaid Tryd.prog 29 os) #[.slice none 0 0] 8 rfl (World.shaped_of_RefB (by kernel_rfl) (by kernel_rfl)) (by kernel_rfl) (by kernel_rfl) (by kernel_rfl) (door_met os _)) ?_
  intro W base args ds gs before hval0 hW hwt0 hL hsh
  have hval : ∀ (j : Nat) t v, Tryd.f8.params[j]? = some t → args[j]? = some v → Value.okWide Tryd.prog W .any base t v := hval0
  have hW' := hW
  obtain ⟨p, q, hA0, hV, rfl, hfz, hnd⟩ := hW
  have hA : DataW.TrodAll enc Tryd.prog W 0 (fun _ => true) true Tryd.f8.params.toList args.toList ds p := hA0
  rw [Tryd.params8] at hA hval
  obtain ⟨v0, vs0, d0, ds0, p0, q0, hargs, rfl, rfl, h0, r0⟩ := trodAll_cons hA
  obtain ⟨rfl, rfl, rfl⟩ := trodAll_nil r0
  obtain rfl : args = #[v0] := by cases args; simp_all
  obtain ⟨rfl, rfl⟩ := trodVars_none hV
  have he := env_of hL hsh
  have k0 : ∀ (W' : World), Below W.heap.size W W' → DataW.Trod enc Tryd.prog W' 0 (fun b => decide (b < W.heap.size)) true 22 v0 d0 p0 := fun W' hn => Below.trod laidOut (by kernel_rfl) (of_decide_eq_true (by kernel_rfl)) h0 hn (fun x hx => by simpa using hW'.lt x (by simp [hx]))
  obtain ⟨a0, n0, c0, rfl⟩ := okWide_slice Tryd.underlying22 (hval 0 22 v0 rfl rfl)
  obtain ⟨l0, rfl, hc0, ht0⟩ := text_of h0
  clear hA0 hval0
  simp only [List.append_nil] at hW'
  refine (walk a0 c0 l0 W he ht0 hc0).mono fun e W' ⟨hr, bel⟩ => ?_
  subst hr
  exact ⟨_, rfl, _, _, _, [], _, [], hW', trodAll_mk1 (shut_bool Tryd.underlying4 _), (trodAll_cons_mk (k0 _ bel) trodAll_mk0), rfl, bel.frame _, fun h => by cases h⟩

theorem over : Rows.ScanRightSaid :=
  OpenClaim.holds_of_wide 8 Tryd.f8 rfl rfl rfl rfl rfl rfl rfl ⟨rfl, rfl, rfl, rfl, rfl⟩ rfl rfl rfl rfl rfl (by kernel_rfl) Tryd.func8 (by kernel_rfl)
    (of_decide_eq_true (by kernel_rfl)) (by unfold Func.isWrapper; first | (rw [if_pos (by decide +kernel)]; kernel_rfl) | (rw [if_neg (by decide +kernel)]; exact ⟨rfl, rfl⟩))
    (fun os started H enc _ => lifted os started H enc)

/-- The given statement. -/
theorem proved : Rows.ScanRightCardSaid :=
  Claim7.holds_tied_plain_at .later [] [.data, .data, .data, .data] true _ false
    over (fun _ h => by cases h) (by kernel_rfl) (fun _ h => by cases h) scanRight_row_tie rfl ⟨rfl, rfl⟩ (by kernel_rfl) rfl
    (fun f fn hf hfn => by
      obtain rfl : f = 8 := Option.some.inj ((show Tryd.prog.funcNamed "filigree/filigreelaw02.ScanRight" = some 8 by kernel_rfl).symm.trans hf) |>.symm
      obtain rfl : fn = Tryd.f8 := (Option.some.inj (Tryd.func8.symm.trans hfn)).symm
      exact ⟨by kernel_rfl, fun j t ht => by
        rw [Tryd.params8] at ht
        have hm : t ∈ [22] := by simpa using Array.mem_of_getElem? ht
        have hall : ([22].all fun u => !Tryd.prog.wantsStandIn u) = true := by kernel_rfl
        exact (show Tryd.prog.wantsStandIn t = false by simpa using List.all_eq_true.1 hall t hm)⟩)
    (by kernel_rfl)
#print axioms proved
end Go.Proofs.YtoogncfpoecckaaDoor.scanRight
