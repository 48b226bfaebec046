/-
  What is told of an expression lies in bounds.
-/
import Derived.Test.YtlhcnbgllgodoaaDoorTie
import Derived.Test.YtlhcnbgllgodoaaDoorCards
import Derived.Test.YtlhcnbgllgodoaaDoorAsOp
import Derived.Test.YtlhcnbgllgodoaaDoorKsO
import Derived.Test.YtlhcnbgllgodoaaDoorKsL
import Derived.JoinedCond
import Derived.Deep.DeepHandedRow
namespace Go.Proofs.YtlhcnbgllgodoaaDoor.konstBounds
open Go Go.ChangeShapes Go.WideShapes Go.ChangeAt Go.RowKit Go.Joins Go.Sort Go.Deep
set_option linter.unusedVariables false
set_option linter.unusedSimpArgs false

theorem kNum_val {v : Nat} (h : (kNum v).2 = 0) : (kNum v).1 = (v : Int) := by
  unfold kNum at *; split <;> simp_all
theorem num_ok (l : List NT) (x : XT) (h : (evalK l x).2 = 0) : numberK l x = (0, (evalK l x).1.toNat, 0) := by
  unfold numberK
  split
  · rename_i h1
    obtain ⟨h1, h2⟩ := h1
    obtain ⟨op, nm, n, wd, v, a, c, xl⟩ := x
    simp only [XT.op] at h1
    subst h1
    have e : evalK l (.mk 1 nm n wd v a c xl) = if wd = 0 then kNum v else (0, 61) := by
      unfold evalK
      rw [if_pos h2, evX_mk, kNode, if_pos rfl]
    rw [e] at h ⊢
    by_cases hw : wd = 0
    · rw [if_pos hw] at h ⊢
      rw [kNum_val h]
      simp [XT.wd, XT.v, hw]
    · rw [if_neg hw] at h; exact absurd h (by decide)
  · rw [h]
/-- What the law asks, told case by case. -/
theorem cases_of (l : List NT) (x : XT) : ∃ n e w f b1 g : Int, ∃ b2 : Nat, evalK l x = (n, e) ∧ widthK l x = (w, f) ∧ numberK l x = (b1, b2, g) ∧ ((e ≠ 0 ∧ n = 0 ∧ w = 0 ∧ f = e ∧ x.op = 1) ∨ (e ≠ 0 ∧ n = 0 ∧ w = 0 ∧ f = e ∧ x.op ≠ 1 ∧ b1 = 0 ∧ (b2 : Int) = 0 ∧ g = e) ∨ (e = 0 ∧ 0 ≤ n ∧ n ≤ 2147483647 ∧ b1 = 0 ∧ (b2 : Int) = n ∧ g = 0 ∧ ((1 ≤ n ∧ n ≤ 64 ∧ w = n ∧ f = 0) ∨ (n < 1 ∧ w = 0 ∧ f = 83) ∨ (64 < n ∧ w = 0 ∧ f = 83)))) := by
  refine ⟨(evalK l x).1, (evalK l x).2, (widthK l x).1, (widthK l x).2, (numberK l x).1, (numberK l x).2.2, (numberK l x).2.1, rfl, rfl, rfl, ?_⟩
  have hk := evalK_ok l x
  by_cases he : (evalK l x).2 = 0
  · right; right
    have hn := num_ok l x he
    rw [hn]
    refine ⟨he, hk.1, hk.2.1, rfl, Int.toNat_of_nonneg hk.1, rfl, ?_⟩
    unfold widthK
    rw [if_pos he]
    by_cases h1 : (evalK l x).1 < 1
    · right; left
      simp [h1]
    · by_cases h2 : 64 < (evalK l x).1
      · right; right
        simp [h1, h2]
      · left
        simp [h1, h2]
        omega
  · have h0 := hk.2.2.1 he
    have hw : widthK l x = (0, (evalK l x).2) := by unfold widthK; rw [if_neg he]
    rw [hw]
    by_cases h1 : x.op = 1
    · left; exact ⟨he, h0, rfl, rfl, h1⟩
    · right; left
      have hn : numberK l x = (0, (evalK l x).1.toNat, (evalK l x).2) := by
        unfold numberK; rw [if_neg (fun h => h1 h.1)]
      rw [hn]
      exact ⟨he, h0, rfl, rfl, h1, rfl, by rw [h0]; rfl, rfl⟩

set_option maxHeartbeats 8000000 in
set_option maxRecDepth 100000 in
theorem walk_any (x : XT) (hbk : x.bk ≤ 1500000) (hwf : x.Wf) (l : List NT) (hlk : NT.bkL l ≤ 1500000) (a : Option Addr) (c n0 : Nat) (w : World) (hn0 : n0 ≤ w.heap.size) (he : EnvA w) (hx : x.In n0 w) (hl : NRow n0 w l a) : Calls Tryd.prog 10 #[x.val, .slice a l.length c] w fun e w' => e = .returned (.bool true) ∧ Below w.heap.size w w' := by
  obtain ⟨n, e, wi, fi, b1, g, b2, hE, hW, hN, hC⟩ := cases_of l x
  have HF := Lib.hid (fun (W : World) (h1 : n0 ≤ W.heap.size) (h3 : x.In n0 W) => kfew_any x (Nat.le_trans x.sz_bk hbk) l (Nat.le_trans (NT.bkL_len l) hlk) a c n0 W h1 h3)
  have HE := Lib.hid (fun (W : World) (h1 : n0 ≤ W.heap.size) (h2 : EnvA W) (h3 : x.In n0 W) (h4 : NRow n0 W l a) => eval_any x hbk hwf l hlk a c n0 W h1 h2 h3 h4)
  have HW := Lib.hid (fun (W : World) (h1 : n0 ≤ W.heap.size) (h2 : EnvA W) (h3 : x.In n0 W) (h4 : NRow n0 W l a) => width_any x hbk hwf l hlk a c n0 W h1 h2 h3 h4)
  have HN := Lib.hid (fun (W : World) (h1 : n0 ≤ W.heap.size) (h2 : EnvA W) (h3 : x.In n0 W) (h4 : NRow n0 W l a) => number_any x hbk hwf l hlk a c n0 W h1 h2 h3 h4)
  simp only [hE, hW, hN] at HE HW HN
  clear hE hW hN hbk hwf hlk
  generalize (b2 : Int) = B at *
  generalize fewK x l = fb at *
  obtain ⟨op, nm, xn, wd, v, xa, xc, xl⟩ := x
  have HC := Lib.hid hC
  clear hC
  simp only [XT.op] at HC
  simp only [XT.val, XT.cells] at HF HE HW HN ⊢
  go_enter Tryd.func10, Tryd.ntmps10
  go_upto_region 1 with (fail)
  have BX := World.alloc_heap_new w (.cells #[.int .i64 op, .string (bs nm), .int .i64 xn, .int .i64 wd, .int .u64 (v : Int), .slice xa xl.length xc] 25)
  have hB : Below w.heap.size w (w.alloc (.cells #[.int .i64 op, .string (bs nm), .int .i64 xn, .int .i64 wd, .int .u64 (v : Int), .slice xa xl.length xc] 25)) := ((Below.refl _ _).alloc (by first | exact Nat.le_refl _ | (simp; done) | (simp; omega)) _)
  have hk9 := Below.keptTo hB hn0
  replace hx := XT.In.keep hk9 _ hx
  replace hl := hl.keep hk9
  replace he := he.keep hB
  replace hn0 := Nat.le_trans hn0 hB.size
  clear hk9
  generalize (w.alloc (.cells #[.int .i64 op, .string (bs nm), .int .i64 xn, .int .i64 wd, .int .u64 (v : Int), .slice xa xl.length xc] 25)) = w1 at *
  obtain ⟨q0, q1, q2, q3, q4, q5⟩ := open6 BX
  go_wp2_with fail
  refine (live_any _ he).mono ?_
  rintro e w2 ⟨rfl, hb⟩
  clear q0 q1 q2 q3 q4 q5
  have hk9 := Below.keptTo hb hn0
  replace BX := block_kept BX hb
  replace hx := XT.In.keep hk9 _ hx
  replace hl := hl.keep hk9
  replace he := he.keep hb
  replace hn0 := Nat.le_trans hn0 hb.size
  replace hB := hB.trans (hb.mono hB.size)
  clear hb hk9
  obtain ⟨q0, q1, q2, q3, q4, q5⟩ := open6 BX
  go_wp2_with fail
  refine (HF.out _ hn0 hx).mono ?_
  rintro e w3 ⟨rfl, hb⟩
  clear q0 q1 q2 q3 q4 q5
  have hk9 := Below.keptTo hb hn0
  replace BX := block_kept BX hb
  replace hx := XT.In.keep hk9 _ hx
  replace hl := hl.keep hk9
  replace he := he.keep hb
  replace hn0 := Nat.le_trans hn0 hb.size
  replace hB := hB.trans (hb.mono hB.size)
  clear hb hk9
  cases fb with
  | false =>
    go_wp2
    go_ret
    exact ⟨rfl, hB⟩
  | true =>
    obtain ⟨q0, q1, q2, q3, q4, q5⟩ := open6 BX
    go_wp2_with fail
    refine (HE.out _ hn0 he hx hl).mono ?_
    rintro e w4 ⟨rfl, hb⟩
    clear q0 q1 q2 q3 q4 q5
    have hk9 := Below.keptTo hb hn0
    replace BX := block_kept BX hb
    replace hx := XT.In.keep hk9 _ hx
    replace hl := hl.keep hk9
    replace he := he.keep hb
    replace hn0 := Nat.le_trans hn0 hb.size
    replace hB := hB.trans (hb.mono hB.size)
    clear hb hk9
    obtain ⟨q0, q1, q2, q3, q4, q5⟩ := open6 BX
    go_wp2_with fail
    refine (HW.out _ hn0 he hx hl).mono ?_
    rintro e w5 ⟨rfl, hb⟩
    clear q0 q1 q2 q3 q4 q5
    have hk9 := Below.keptTo hb hn0
    replace BX := block_kept BX hb
    replace hx := XT.In.keep hk9 _ hx
    replace hl := hl.keep hk9
    replace he := he.keep hb
    replace hn0 := Nat.le_trans hn0 hb.size
    replace hB := hB.trans (hb.mono hB.size)
    clear hb hk9
    obtain ⟨q0, q1, q2, q3, q4, q5⟩ := open6 BX
    go_wp2_with fail
    refine (HN.out _ hn0 he hx hl).mono ?_
    rintro e0 w6 ⟨rfl, hb⟩
    clear q0 q1 q2 q3 q4 q5
    have hk9 := Below.keptTo hb hn0
    replace BX := block_kept BX hb
    replace hx := XT.In.keep hk9 _ hx
    replace hl := hl.keep hk9
    replace he := he.keep hb
    replace hn0 := Nat.le_trans hn0 hb.size
    replace hB := hB.trans (hb.mono hB.size)
    clear hb hk9
    obtain ⟨q0, q1, q2, q3, q4, q5⟩ := open6 BX
    have q0A := alloc_cell q0 (.cells #[.int .i64 b1, .int .u64 B] 56)
    have q1A := alloc_cell q1 (.cells #[.int .i64 b1, .int .u64 B] 56)
    have q2A := alloc_cell q2 (.cells #[.int .i64 b1, .int .u64 B] 56)
    have q3A := alloc_cell q3 (.cells #[.int .i64 b1, .int .u64 B] 56)
    have q4A := alloc_cell q4 (.cells #[.int .i64 b1, .int .u64 B] 56)
    have q5A := alloc_cell q5 (.cells #[.int .i64 b1, .int .u64 B] 56)
    clear q0 q1 q2 q3 q4 q5
    clear HF HE HW HN BX hx hl
    rcases HC.out with ⟨h1, rfl, rfl, rfl, rfl⟩ | ⟨h1, rfl, rfl, rfl, h2, rfl, rfl, rfl⟩ | ⟨rfl, h1, h2, rfl, h3, rfl, ⟨h4, h5, rfl, rfl⟩ | ⟨h4, rfl, rfl⟩ | ⟨h4, rfl, rfl⟩⟩
    · have h2 : (fi != 0) = true := by simpa using h1
      go_wp2
      go_ret
      exact ⟨rfl, hB.alloc hB.size _⟩
    · have h3 : (g != 0) = true := by simpa using h1
      have h4 : (op == 1) = false := by simpa using h2
      go_wp2
      go_ret
      exact ⟨rfl, hB.alloc hB.size _⟩
    · subst h3
      have h6 : ¬ (B < 0) := by omega
      have h7 : ¬ (2147483647 < B) := by omega
      go_wp2
      go_ret
      exact ⟨rfl, hB.alloc hB.size _⟩
    · subst h3
      have h6 : ¬ (B < 0) := by omega
      have h7 : ¬ (2147483647 < B) := by omega
      have h8 : ¬ (1 ≤ B) := by omega
      go_wp2
      go_ret
      exact ⟨rfl, hB.alloc hB.size _⟩
    · subst h3
      have h6 : ¬ (B < 0) := by omega
      have h7 : ¬ (2147483647 < B) := by omega
      have h8 : 1 ≤ B := by omega
      have h9 : ¬ (B ≤ 64) := by omega
      go_wp2
      go_ret
      exact ⟨rfl, hB.alloc hB.size _⟩

/-! ### The row's step -/
set_option maxRecDepth 100000 in
theorem contract (H : Type) (enc : TypeId × Value → H) (W : World) (base : Nat) (args : Array Value) (ds gs : List (DataW H)) (before : List MemPlace)
    (hval0 : ∀ (j : Nat) t v, Tryd.f10.params[j]? = some t → args[j]? = some v → Value.okWide Tryd.prog W .any base t v)
    (hW : DataW.Whole enc Tryd.prog Tryd.f10.params.toList Rows.konstBoundsSpec.vars false W args.toList ds gs before) (hbk : Rows.uptoBulkAll (ds ++ gs) ≤ 1048576) (hL : laidMetH Tryd.prog LD W) (hsh : W.ShapedOpen Tryd.prog) :
    Calls Tryd.prog 10 args W fun e W' => ∃ v, e = .returned v ∧ Rows.konstBoundsSpec.post enc Tryd.prog Tryd.f10 false true false false W args v W' := by
  have hval : ∀ (j : Nat) t v, Tryd.f10.params[j]? = some t → args[j]? = some v → Value.okWide Tryd.prog W .any base t v := hval0
  have hW' := hW
  obtain ⟨p, q, hA0, hV, rfl, hfz, hnd⟩ := hW
  have hA : DataW.TrodAll enc Tryd.prog W 0 (fun _ => true) true Tryd.f10.params.toList args.toList ds p := hA0
  rw [Tryd.params10] at hA hval
  obtain ⟨v0, vs0, d0, ds0, p0, q0, hargs, rfl, rfl, h0, r0⟩ := trodAll_cons hA
  obtain ⟨v1, vs1, d1, ds1, p1, q1, rfl, rfl, rfl, h1, r1⟩ := trodAll_cons r0
  obtain ⟨rfl, rfl, rfl⟩ := trodAll_nil r1
  obtain rfl : args = #[v0, v1] := by cases args; simp_all
  obtain ⟨rfl, rfl⟩ := trodVars_none hV
  have he := env_of hL hsh
  simp only [List.append_nil, Rows.uptoBulkAll] at hbk
  have k0 : ∀ (W' : World), Below W.heap.size W W' → DataW.Trod enc Tryd.prog W' 0 (fun b => decide (b < W.heap.size)) true 25 v0 d0 p0 := fun W' hn => Below.trod laidOut (by kernel_rfl) (of_decide_eq_true (by kernel_rfl)) h0 hn (fun x hx => by simpa using hW'.lt x (by simp [hx]))
  have k1 : ∀ (W' : World), Below W.heap.size W W' → DataW.Trod enc Tryd.prog W' 0 (fun b => decide (b < W.heap.size)) true 26 v1 d1 p1 := fun W' hn => Below.trod laidOut (by kernel_rfl) (of_decide_eq_true (by kernel_rfl)) h1 hn (fun x hx => by simpa using hW'.lt x (by simp [hx]))
  obtain ⟨t0, rfl, i0, w0, b0⟩ := xt_of (hval 0 25 v0 rfl rfl) h0
  obtain ⟨a1, c1, l1, rfl, r1_, b1, z1⟩ := rowN_of (hval 1 26 v1 rfl rfl) h1
  clear hA0 hval0
  simp only [List.append_nil] at hW'
  refine (walk_any t0 (by omega) w0 l1 (by omega) a1 c1 W.heap.size W (Nat.le_refl _) he i0 r1_).mono fun e W' ⟨hr, bel⟩ => ?_
  subst hr
  exact ⟨_, rfl, _, _, _, [], _, [], hW', trodAll_mk1 (shut_bool Tryd.underlying4 _), (trodAll_cons_mk (k0 _ bel) (trodAll_cons_mk (k1 _ bel) trodAll_mk0)), rfl, bel.frame _, fun h => by cases h⟩
theorem reads (os : Os) {H : Type} (enc : TypeId × Value → H) : ∃ places, DataW.whole enc Tryd.prog ((World.doorLaid Tryd.prog 55 os).forCall (fun _ _ => 0) ⟨#[], #[.agg #[.int .i64 0, .string ⟨#[]⟩, .int .i64 0, .int .i64 0, .int .u64 0, .slice none 0 0], .slice none 0 0], []⟩).memory Tryd.f10.params.toList Rows.konstBoundsSpec.vars false #[.agg #[.int .i64 0, .string ⟨#[]⟩, .int .i64 0, .int .i64 0, .int .u64 0, .slice none 0 0], .slice none 0 0].toList 8 = some ([.agg [.lit (.int .i64 0), .lit (.string []), .lit (.int .i64 0), .lit (.int .i64 0), .lit (.int .u64 0), .nil], .nil], [], places) :=
  ⟨[], by kernel_rfl⟩
set_option maxRecDepth 100000 in
theorem lifted (os : Os) (started : os.Started) (H : Type) (enc : TypeId × Value → H) (F : Stop.Interp) :
    ReturnsInHanded {} Tryd.checked os 10 .any ((Rows.OpenSpec.upto Rows.konstBoundsSpec).preRow enc Tryd.prog Tryd.f10 Rows.konstBoundsUptoRow.domain false Rows.konstBoundsUptoRow.laid) (((Rows.OpenSpec.upto Rows.konstBoundsSpec).at F).post enc Tryd.prog Tryd.f10 false true false false) := by
  obtain ⟨places, hx⟩ := reads os enc
  refine returnsInHanded_of_row (C := Tryd.checked) (s := Rows.OpenSpec.upto Rows.konstBoundsSpec) own started (by kernel_rfl) Tryd.func10
    (witness_row_at (enc := enc) (C := Tryd.checked) false (World.doorLaid Tryd.prog 55 os) #[.agg #[.int .i64 0, .string ⟨#[]⟩, .int .i64 0, .int .i64 0, .int .u64 0, .slice none 0 0], .slice none 0 0] rfl (by kernel_rfl) (by kernel_rfl) (by kernel_rfl)
      (OpenSpec.preRow_of_cond 8 hx (by kernel_rfl) (fun k hk => by cases hk; kernel_rfl) (by kernel_rfl) (door_met os _))) ?_
  intro W base args ds gs before hval hW _ hcond _ hL hsh _
  have hbk : Rows.uptoBulkAll (ds ++ gs) ≤ 1048576 := of_decide_eq_true (hcond _ rfl)
  exact contract H enc W base args ds gs before hval hW hbk hL hsh
theorem over : Rows.KonstBoundsUptoSaid :=
  OpenClaim.holds_of_cond 10 Tryd.f10 rfl rfl rfl rfl rfl rfl rfl ⟨rfl, rfl, rfl, rfl, rfl⟩ rfl rfl rfl rfl rfl (by kernel_rfl) Tryd.func10 (by kernel_rfl)
    (of_decide_eq_true (by kernel_rfl)) (by unfold Func.isWrapper; first | (rw [if_pos (by decide +kernel)]; kernel_rfl) | (rw [if_neg (by decide +kernel)]; exact ⟨rfl, rfl⟩))
    (fun os started H enc _ F => by rw [OpenClaim.pre_eq_preRow]; exact lifted os started H enc F)
/-- The given statement. -/
theorem proved : Rows.KonstBoundsUptoCardSaid :=
  Claim7.holds_tied_plain_at .later [] _ _ _ _
    over (fun _ h => by cases h) (by kernel_rfl) (fun _ h => by cases h) konstBoundsUpto_row_tie rfl ⟨rfl, rfl⟩ (by kernel_rfl) rfl
    (fun f fn hf hfn => by
      obtain rfl : f = 10 := Option.some.inj ((show Tryd.prog.funcNamed "filigree/filigreelaw06.KonstBounds" = some 10 by kernel_rfl).symm.trans hf) |>.symm
      obtain rfl : fn = Tryd.f10 := (Option.some.inj (Tryd.func10.symm.trans hfn)).symm
      exact ⟨by kernel_rfl, fun j t ht => by
        rw [Tryd.params10] at ht
        have hm : t ∈ [25, 26] := by simpa using Array.mem_of_getElem? ht
        have hall : ([25, 26].all fun u => !Tryd.prog.wantsStandIn u) = true := by kernel_rfl
        exact (show Tryd.prog.wantsStandIn t = false by simpa using List.all_eq_true.1 hall t hm)⟩)
    (by kernel_rfl)
#print axioms proved
end Go.Proofs.YtlhcnbgllgodoaaDoor.konstBounds
