/-
  What an expression is, and which constant a name is, is what the document says.
-/
import Derived.Test.YtlbjmnakiflfpaaDoorTie
import Derived.Test.YtlbjmnakiflfpaaDoorCards
import Derived.Test.YtlbjmnakiflfpaaDoorAsOp
import Derived.Test.YtlbjmnakiflfpaaDoorKsO
import Derived.Test.YtlbjmnakiflfpaaDoorKsL
import Derived.Test.YtlbjmnakiflfpaaDoorRfE
import Derived.JoinedCond
import Derived.Deep.DeepHandedRow
namespace Go.Proofs.YtlbjmnakiflfpaaDoor.konstEval
open Go Go.ChangeShapes Go.WideShapes Go.ChangeAt Go.RowKit Go.Joins Go.Sort Go.Deep
set_option linter.unusedVariables false
set_option linter.unusedSimpArgs false

set_option maxHeartbeats 16000000 in
set_option maxRecDepth 100000 in
theorem walk_any (x : XT) (hbk : x.bk ≤ 1400000) (hwf : x.Wf) (l : List NT) (hlk : NT.bkL l ≤ 1400000) (nm : Bytes) (hnk : nm.length ≤ 1400000) (a : Option Addr) (c : Nat) (n0 : Nat) (w : World) (hn0 : n0 ≤ w.heap.size) (he : EnvA w) (hx : x.In n0 w) (hl : NRow n0 w l a) : Calls Tryd.prog 3 #[x.val, .slice a l.length c, .string (bs nm)] w fun e w' => e = .returned (.bool true) ∧ Below w.heap.size w w' := by
  have HF := Lib.hid (fun (W : World) (h1 : n0 ≤ W.heap.size) (h3 : x.In n0 W) => kfew_any x (Nat.le_trans x.sz_bk (by omega)) l (Nat.le_trans (NT.bkL_len l) (by omega)) a c n0 W h1 h3)
  have HE := Lib.hid (fun (W : World) (h1 : n0 ≤ W.heap.size) (h2 : EnvA W) (h3 : x.In n0 W) (h4 : NRow n0 W l a) => eval_any x (by omega) hwf l (by omega) a c n0 W h1 h2 h3 h4)
  have HR := Lib.hid (fun (W : World) (h1 : n0 ≤ W.heap.size) (h3 : x.In n0 W) (h4 : NRow n0 W l a) => refEval_any x (by omega) hwf l (Nat.le_trans (NT.bkL_len l) (by omega)) a c n0 W h1 h3 h4)
  have HL := Lib.hid (fun (W : World) (h1 : n0 ≤ W.heap.size) (h4 : NRow n0 W l a) => lookup_any l (Nat.le_trans (NT.bkL_len l) (by omega)) nm a c n0 W h1 h4)
  have HM := Lib.hid (fun (W : World) (h1 : n0 ≤ W.heap.size) (h4 : NRow n0 W l a) => refLookup_any l (Nat.le_trans (NT.bkL_len l) (by omega)) nm a c n0 W h1 h4)
  obtain ⟨⟨A, F⟩, hE⟩ : ∃ p, evalK l x = p := ⟨_, rfl⟩
  obtain ⟨V, hV⟩ : ∃ V, (findN l nm).getD 0 = V := ⟨_, rfl⟩
  obtain ⟨B, hB⟩ : ∃ B, (findN l nm).isSome = B := ⟨_, rfl⟩
  simp only [hE] at HE HR
  simp only [hV, hB] at HL HM
  obtain ⟨g, hg⟩ : ∃ g, decide ((1000 : Int) < (nm.length : Int)) = g := ⟨_, rfl⟩
  clear hE hV hB hbk hwf hlk
  generalize fewK x l = fb at *
  obtain ⟨op, xnm, xn, wd, v, xa, xc, xl⟩ := x
  simp only [XT.val, XT.cells] at HF HE HR ⊢
  go_enter Tryd.func3, Tryd.ntmps3
  go_upto_region 1 with (fail)
  have BX := World.alloc_heap_new w (.cells #[.int .i64 op, .string (bs xnm), .int .i64 xn, .int .i64 wd, .int .u64 (v : Int), .slice xa xl.length xc] 25)
  have hB : Below w.heap.size w (w.alloc (.cells #[.int .i64 op, .string (bs xnm), .int .i64 xn, .int .i64 wd, .int .u64 (v : Int), .slice xa xl.length xc] 25)) := ((Below.refl _ _).alloc (by first | exact Nat.le_refl _ | (simp; done) | (simp; omega)) _)
  have hk9 := Below.keptTo hB hn0
  replace hx := XT.In.keep hk9 _ hx
  replace hl := hl.keep hk9
  replace he := he.keep hB
  replace hn0 := Nat.le_trans hn0 hB.size
  clear hk9
  generalize (w.alloc (.cells #[.int .i64 op, .string (bs xnm), .int .i64 xn, .int .i64 wd, .int .u64 (v : Int), .slice xa xl.length xc] 25)) = w1 at *
  obtain ⟨q0, q1, q2, q3, q4, q5⟩ := open6 BX
  go_wp2_with fail
  refine (live_any _ he).mono ?_
  rintro e w2 ⟨rfl, hb⟩
  clear q0 q1 q2 q3 q4 q5
  have hk9 := Below.keptTo hb hn0
  replace BX := block_kept BX hb
  replace hx := XT.In.keep hk9 _ hx
  replace hl := hl.keep hk9
  replace he := he.keep hb
  replace hn0 := Nat.le_trans hn0 hb.size
  replace hB := hB.trans (hb.mono hB.size)
  clear hb hk9
  obtain ⟨q0, q1, q2, q3, q4, q5⟩ := open6 BX
  go_wp2_with fail
  refine (HF.out _ hn0 hx).mono ?_
  rintro e w3 ⟨rfl, hb⟩
  clear q0 q1 q2 q3 q4 q5
  have hk9 := Below.keptTo hb hn0
  replace BX := block_kept BX hb
  replace hx := XT.In.keep hk9 _ hx
  replace hl := hl.keep hk9
  replace he := he.keep hb
  replace hn0 := Nat.le_trans hn0 hb.size
  replace hB := hB.trans (hb.mono hB.size)
  clear hb hk9
  clear HF
  cases fb
  case false =>
    go_wp2
    go_ret
    exact ⟨rfl, hB⟩
  cases g
  case true =>
    go_wp2
    go_ret
    exact ⟨rfl, hB⟩
  obtain ⟨q0, q1, q2, q3, q4, q5⟩ := open6 BX
  go_wp2_with fail
  refine (HE.out _ hn0 he hx hl).mono ?_
  rintro e w4 ⟨rfl, hb⟩
  clear q0 q1 q2 q3 q4 q5
  have hk9 := Below.keptTo hb hn0
  replace BX := block_kept BX hb
  replace hx := XT.In.keep hk9 _ hx
  replace hl := hl.keep hk9
  replace he := he.keep hb
  replace hn0 := Nat.le_trans hn0 hb.size
  replace hB := hB.trans (hb.mono hB.size)
  clear hb hk9
  obtain ⟨q0, q1, q2, q3, q4, q5⟩ := open6 BX
  go_wp2_with fail
  refine (HR.out _ hn0 hx hl).mono ?_
  rintro e w5 ⟨rfl, hb⟩
  clear q0 q1 q2 q3 q4 q5
  have hk9 := Below.keptTo hb hn0
  replace BX := block_kept BX hb
  replace hx := XT.In.keep hk9 _ hx
  replace hl := hl.keep hk9
  replace he := he.keep hb
  replace hn0 := Nat.le_trans hn0 hb.size
  replace hB := hB.trans (hb.mono hB.size)
  clear hb hk9
  obtain ⟨q0, q1, q2, q3, q4, q5⟩ := open6 BX
  go_wp2_with fail
  refine (HL.out _ hn0 hl).mono ?_
  rintro e w6 ⟨rfl, hb⟩
  clear q0 q1 q2 q3 q4 q5
  have hk9 := Below.keptTo hb hn0
  replace BX := block_kept BX hb
  replace hx := XT.In.keep hk9 _ hx
  replace hl := hl.keep hk9
  replace he := he.keep hb
  replace hn0 := Nat.le_trans hn0 hb.size
  replace hB := hB.trans (hb.mono hB.size)
  clear hb hk9
  obtain ⟨q0, q1, q2, q3, q4, q5⟩ := open6 BX
  go_wp2_with fail
  refine (HM.out _ hn0 hl).mono ?_
  rintro e wz ⟨rfl, rfl⟩
  clear q0 q1 q2 q3 q4 q5
  clear HE HR HL HM BX hx hl
  go_wp2
  go_ret
  exact ⟨rfl, hB⟩

/-! ### The row's step -/
set_option maxRecDepth 100000 in
theorem contract (H : Type) (enc : TypeId × Value → H) (W : World) (base : Nat) (args : Array Value) (ds gs : List (DataW H)) (before : List MemPlace)
    (hval0 : ∀ (j : Nat) t v, Tryd.f3.params[j]? = some t → args[j]? = some v → Value.okWide Tryd.prog W .any base t v)
    (hW : DataW.Whole enc Tryd.prog Tryd.f3.params.toList Rows.konstEvalSpec.vars false W args.toList ds gs before) (hbk : Rows.uptoBulkAll (ds ++ gs) ≤ 1048576) (hL : laidMetH Tryd.prog LD W) (hsh : W.ShapedOpen Tryd.prog) :
    Calls Tryd.prog 3 args W fun e W' => ∃ v, e = .returned v ∧ Rows.konstEvalSpec.post enc Tryd.prog Tryd.f3 false true false false W args v W' := by
  have hval : ∀ (j : Nat) t v, Tryd.f3.params[j]? = some t → args[j]? = some v → Value.okWide Tryd.prog W .any base t v := hval0
  have hW' := hW
  obtain ⟨p, q, hA0, hV, rfl, hfz, hnd⟩ := hW
  have hA : DataW.TrodAll enc Tryd.prog W 0 (fun _ => true) true Tryd.f3.params.toList args.toList ds p := hA0
  rw [Tryd.params3] at hA hval
  obtain ⟨v0, vs0, d0, ds0, p0, q0, hargs, rfl, rfl, h0, r0⟩ := trodAll_cons hA
  obtain ⟨v1, vs1, d1, ds1, p1, q1, rfl, rfl, rfl, h1, r1⟩ := trodAll_cons r0
  obtain ⟨v2, vs2, d2, ds2, p2, q2, rfl, rfl, rfl, h2, r2⟩ := trodAll_cons r1
  obtain ⟨rfl, rfl, rfl⟩ := trodAll_nil r2
  obtain rfl : args = #[v0, v1, v2] := by cases args; simp_all
  obtain ⟨rfl, rfl⟩ := trodVars_none hV
  have he := env_of hL hsh
  simp only [List.append_nil, Rows.uptoBulkAll] at hbk
  have k0 : ∀ (W' : World), Below W.heap.size W W' → DataW.Trod enc Tryd.prog W' 0 (fun b => decide (b < W.heap.size)) true 25 v0 d0 p0 := fun W' hn => Below.trod laidOut (by kernel_rfl) (of_decide_eq_true (by kernel_rfl)) h0 hn (fun x hx => by simpa using hW'.lt x (by simp [hx]))
  have k1 : ∀ (W' : World), Below W.heap.size W W' → DataW.Trod enc Tryd.prog W' 0 (fun b => decide (b < W.heap.size)) true 26 v1 d1 p1 := fun W' hn => Below.trod laidOut (by kernel_rfl) (of_decide_eq_true (by kernel_rfl)) h1 hn (fun x hx => by simpa using hW'.lt x (by simp [hx]))
  have k2 : ∀ (W' : World), Below W.heap.size W W' → DataW.Trod enc Tryd.prog W' 0 (fun b => decide (b < W.heap.size)) true 9 v2 d2 p2 := fun W' hn => Below.trod laidOut (by kernel_rfl) (of_decide_eq_true (by kernel_rfl)) h2 hn (fun x hx => by simpa using hW'.lt x (by simp [hx]))
  obtain ⟨t0, rfl, i0, w0, b0⟩ := xt_of (hval 0 25 v0 rfl rfl) h0
  obtain ⟨a1, c1, l1, rfl, r1_, b1, z1⟩ := rowN_of (hval 1 26 v1 rfl rfl) h1
  obtain ⟨s2, rfl, hd2, _, _⟩ := Go.ChangeMaps.open_string Tryd.underlying9 (hval 2 9 v2 rfl rfl) h2
  subst hd2
  have es2 := bs_toList s2
  generalize s2.data.toList = l2 at *
  subst es2
  simp only [Rows.uptoBulk] at hbk
  clear hA0 hval0
  simp only [List.append_nil] at hW'
  refine (walk_any t0 (by omega) w0 l1 (by omega) l2 (by omega) a1 c1 W.heap.size W (Nat.le_refl _) he i0 r1_).mono fun e W' ⟨hr, bel⟩ => ?_
  subst hr
  exact ⟨_, rfl, _, _, _, [], _, [], hW', trodAll_mk1 (shut_bool Tryd.underlying4 _), (trodAll_cons_mk (k0 _ bel) (trodAll_cons_mk (k1 _ bel) (trodAll_cons_mk (k2 _ bel) trodAll_mk0))), rfl, bel.frame _, fun h => by cases h⟩
theorem reads (os : Os) {H : Type} (enc : TypeId × Value → H) : ∃ places, DataW.whole enc Tryd.prog ((World.doorLaid Tryd.prog 55 os).forCall (fun _ _ => 0) ⟨#[], #[.agg #[.int .i64 0, .string ⟨#[]⟩, .int .i64 0, .int .i64 0, .int .u64 0, .slice none 0 0], .slice none 0 0, .string ⟨#[]⟩], []⟩).memory Tryd.f3.params.toList Rows.konstEvalSpec.vars false #[.agg #[.int .i64 0, .string ⟨#[]⟩, .int .i64 0, .int .i64 0, .int .u64 0, .slice none 0 0], .slice none 0 0, .string ⟨#[]⟩].toList 8 = some ([.agg [.lit (.int .i64 0), .lit (.string []), .lit (.int .i64 0), .lit (.int .i64 0), .lit (.int .u64 0), .nil], .nil, .lit (.string [])], [], places) :=
  ⟨[], by kernel_rfl⟩
set_option maxRecDepth 100000 in
theorem lifted (os : Os) (started : os.Started) (H : Type) (enc : TypeId × Value → H) (F : Stop.Interp) :
    ReturnsInHanded {} Tryd.checked os 3 .any ((Rows.OpenSpec.upto Rows.konstEvalSpec).preRow enc Tryd.prog Tryd.f3 Rows.konstEvalUptoRow.domain false Rows.konstEvalUptoRow.laid) (((Rows.OpenSpec.upto Rows.konstEvalSpec).at F).post enc Tryd.prog Tryd.f3 false true false false) := by
  obtain ⟨places, hx⟩ := reads os enc
  refine returnsInHanded_of_row (C := Tryd.checked) (s := Rows.OpenSpec.upto Rows.konstEvalSpec) own started (by kernel_rfl) Tryd.func3
    (witness_row_at (enc := enc) (C := Tryd.checked) false (World.doorLaid Tryd.prog 55 os) #[.agg #[.int .i64 0, .string ⟨#[]⟩, .int .i64 0, .int .i64 0, .int .u64 0, .slice none 0 0], .slice none 0 0, .string ⟨#[]⟩] rfl (by kernel_rfl) (by kernel_rfl) (by kernel_rfl)
      (OpenSpec.preRow_of_cond 8 hx (by kernel_rfl) (fun k hk => by cases hk; kernel_rfl) (by kernel_rfl) (door_met os _))) ?_
  intro W base args ds gs before hval hW _ hcond _ hL hsh _
  have hbk : Rows.uptoBulkAll (ds ++ gs) ≤ 1048576 := of_decide_eq_true (hcond _ rfl)
  exact contract H enc W base args ds gs before hval hW hbk hL hsh
theorem over : Rows.KonstEvalUptoSaid :=
  OpenClaim.holds_of_cond 3 Tryd.f3 rfl rfl rfl rfl rfl rfl rfl ⟨rfl, rfl, rfl, rfl, rfl⟩ rfl rfl rfl rfl rfl (by kernel_rfl) Tryd.func3 (by kernel_rfl)
    (of_decide_eq_true (by kernel_rfl)) (by unfold Func.isWrapper; first | (rw [if_pos (by decide +kernel)]; kernel_rfl) | (rw [if_neg (by decide +kernel)]; exact ⟨rfl, rfl⟩))
    (fun os started H enc _ F => by rw [OpenClaim.pre_eq_preRow]; exact lifted os started H enc F)
/-- The given statement. -/
theorem proved : Rows.KonstEvalUptoCardSaid :=
  Claim7.holds_tied_plain_at .later [] _ _ _ _
    over (fun _ h => by cases h) (by kernel_rfl) (fun _ h => by cases h) konstEvalUpto_row_tie rfl ⟨rfl, rfl⟩ (by kernel_rfl) rfl
    (fun f fn hf hfn => by
      obtain rfl : f = 3 := Option.some.inj ((show Tryd.prog.funcNamed "filigree/filigreelaw06.KonstEval" = some 3 by kernel_rfl).symm.trans hf) |>.symm
      obtain rfl : fn = Tryd.f3 := (Option.some.inj (Tryd.func3.symm.trans hfn)).symm
      exact ⟨by kernel_rfl, fun j t ht => by
        rw [Tryd.params3] at ht
        have hm : t ∈ [25, 26, 9] := by simpa using Array.mem_of_getElem? ht
        have hall : ([25, 26, 9].all fun u => !Tryd.prog.wantsStandIn u) = true := by kernel_rfl
        exact (show Tryd.prog.wantsStandIn t = false by simpa using List.all_eq_true.1 hall t hm)⟩)
    (by kernel_rfl)
#print axioms proved
end Go.Proofs.YtlbjmnakiflfpaaDoor.konstEval
