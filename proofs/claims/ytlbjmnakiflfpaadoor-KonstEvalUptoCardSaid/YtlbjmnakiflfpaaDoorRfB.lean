/-
  The reference: may an expression be, its size too.
-/
import Derived.Test.YtlbjmnakiflfpaaDoorRfA
import Derived.Test.YtlbjmnakiflfpaaDoorAsR
import Derived.Test.YtlbjmnakiflfpaaDoorAsU
import Derived.Lib.QuietBelow
import Derived.BigQuiet
namespace Go.Proofs.YtlbjmnakiflfpaaDoor
open Go Go.RowKit
set_option linter.unusedVariables false
set_option linter.unusedSimpArgs false
open Go.Sort

theorem valB_num (op wd : Int) (v : Nat) (hv : v < 18446744073709551616) : valB op wd v = numB op wd v := by
  unfold valB numB
  by_cases h : op = 1
  · rw [if_pos h, if_pos h]
    unfold holdsI
    by_cases h0 : wd = 0
    · subst h0; simp
    · have e0 : (wd == 0) = false := by rw [beq_eq_false_iff_ne]; exact h0
      rw [e0, Bool.false_or, Bool.false_or]
      by_cases h1 : 0 ≤ wd
      · by_cases h2 : wd ≤ 64
        · have e1 : decide (0 ≤ wd) = true := by simpa using h1
          have e2 : decide (wd ≤ 64) = true := by simpa using h2
          have e3 : decide (1 ≤ wd) = true := by rw [decide_eq_true_eq]; omega
          rw [e1, e2, e3]
          by_cases h3 : wd = 64
          · subst h3
            simp [hv]
          · have e4 : (wd == 64) = false := by rw [beq_eq_false_iff_ne]; exact h3
            rw [e4]; simp
        · have e2 : decide (wd ≤ 64) = false := by simpa using h2
          rw [e2]; simp
      · have e1 : decide (0 ≤ wd) = false := by simpa using h1
        have e3 : decide (1 ≤ wd) = false := by rw [decide_eq_false_iff_not]; omega
        rw [e1, e3]; simp
  · rw [if_neg h, if_neg h]
theorem mayX_ref (op : Int) (nm : Bytes) (xn wd : Int) (v : Nat) (xa : Option Addr) (xc : Nat) (xl : List XT) (hv : v < 18446744073709551616) :
    mayX (.mk op nm xn wd v xa xc xl) = (!(namB op != (nm != [])) && (!(namB op && !isNameB nm) && (partsB op xl.length && (numerB op xn && (valB op wd v && xl.all mayX))))) := by
  rw [mayX, mayXL_all, valB_num op wd v hv]
  cases hb : amongB op 11 with
  | false =>
    have h9 : partsB op xl.length = false := by
      have h1 : ¬ (1 ≤ op ∧ op < 11) := by
        intro h; unfold amongB at hb
        rw [decide_eq_true h.1, decide_eq_true h.2] at hb; cases hb
      unfold partsB
      rw [if_neg (by omega), if_neg (by omega), if_neg (by omega), if_neg (by omega), if_neg (by omega)]
    rw [h9]; simp
  | true =>
    have hr : 1 ≤ op ∧ op < 11 := by unfold amongB at hb; simpa using hb
    have hn0 : nameB nm false = (nm == []) := by unfold nameB; cases nm <;> rfl
    have hn1 : nameB nm true = isNameB nm := rfl
    have hn2 : (nm != []) = !(nm == []) := rfl
    have hn3 : (nm == []) = true → isNameB nm = false := by intro h; rw [eq_of_beq h]; rfl
    obtain ⟨k, rfl⟩ : ∃ k : Nat, op = (k : Int) := ⟨op.toNat, by omega⟩
    rw [Int.toNat_natCast, hn2]
    generalize numB (k : Int) wd v = NB
    generalize xl.all mayX = ALL
    generalize (xl.length : Int) = len
    have hk1 : 1 ≤ k := by omega
    have hk2 : k < 11 := by omega
    have cases10 : k = 1 ∨ k = 2 ∨ k = 3 ∨ k = 4 ∨ k = 5 ∨ k = 6 ∨ k = 7 ∨ k = 8 ∨ k = 9 ∨ k = 10 := by omega
    rcases cases10 with h | h | h | h | h | h | h | h | h | h
    all_goals
      subst h
      simp only [kx, namB, partsB, numerB, countB]
      first | rw [hn1] | rw [hn0]
      revert hn3
      generalize isNameB nm = I
      generalize (nm == []) = E
      intro hn3
      cases I <;> cases E <;> simp_all <;> (try simp [Int.le_antisymm_iff]) <;> grind

set_option maxHeartbeats 2000000 in
set_option maxRecDepth 100000 in
theorem refvalue_any (op : Int) (nm : Bytes) (xn wd : Int) (v : Nat) (xa : Option Addr) (xc : Nat) (xl : List XT) (hv : v < 18446744073709551616) (w : World) : Calls Tryd.prog 77 #[.agg #[.int .i64 op, .string (bs nm), .int .i64 xn, .int .i64 wd, .int .u64 (v : Int), .slice xa xl.length xc]] w fun e w' => e = .returned (.bool (valB op wd v)) ∧ Below w.heap.size w w' := by
  have HB : Below w.heap.size w (w.alloc (.cells #[.int .i64 op, .string (bs nm), .int .i64 xn, .int .i64 wd, .int .u64 (v : Int), .slice xa xl.length xc] 25)) := (Below.refl _ _).alloc (Nat.le_refl _) _
  have HI : Hid (valB op wd v = if op = 1 then decide (0 ≤ wd) && (decide (wd ≤ 64) && ((wd == 0) || ((wd == 64) || decide (v < 2 ^ wd.toNat)))) else (wd == 0) && ((v : Int) == 0)) := Lib.hid rfl
  generalize valB op wd v = R at *
  by_cases h1 : op = 1
  · subst h1
    replace HI : Hid (R = (decide (0 ≤ wd) && (decide (wd ≤ 64) && ((wd == 0) || ((wd == 64) || decide (v < 2 ^ wd.toNat)))))) := Lib.hid (by rw [HI.out, if_pos rfl])
    by_cases h2 : 0 ≤ wd
    · have d2 : decide (0 ≤ wd) = true := by simpa using h2
      by_cases h3 : wd ≤ 64
      · have d3 : decide (wd ≤ 64) = true := by simpa using h3
        by_cases h4 : wd = 0
        · subst h4
          have HE : Hid (R = true) := Lib.hid (by rw [HI.out, d3]; rfl)
          go_enter Tryd.func77, Tryd.ntmps77
          go_wp2
          go_ret
          exact ⟨ret_b HE.out.symm, HB⟩
        · have d4 : (wd == 0) = false := by rw [beq_eq_false_iff_ne]; exact h4
          by_cases h5 : wd = 64
          · subst h5
            have HE : Hid (R = true) := Lib.hid (by rw [HI.out]; rfl)
            go_enter Tryd.func77, Tryd.ntmps77
            go_wp2
            go_ret
            exact ⟨ret_b HE.out.symm, HB⟩
          · have d5 : (wd == 64) = false := by rw [beq_eq_false_iff_ne]; exact h5
            have HE : Hid (R = decide (v < 2 ^ wd.toNat)) := Lib.hid (by rw [HI.out, d2, d3, d4, d5]; rfl)
            obtain ⟨n, rfl⟩ : ∃ n : Nat, wd = n := ⟨wd.toNat, by omega⟩
            have wu : IntKind.u64.wrap (n : Int) = n := by rw [IntKind.wrap_u64]; omega
            go_enter Tryd.func77, Tryd.ntmps77
            go_wp2
            go_ret
            refine ⟨ret_b ?_, HB⟩
            rw [HE.out, Int.toNat_natCast, Bool.eq_iff_iff, beq_iff_eq, decide_eq_true_eq]
            have e : (v : Int) / 2 ^ n = ((v / 2 ^ n : Nat) : Int) := by rw [Int.natCast_ediv, Int.natCast_pow]; rfl
            rw [e]
            have := Nat.div_eq_zero_iff_lt (x := v) (Nat.two_pow_pos n)
            omega
      · have d3 : decide (wd ≤ 64) = false := by simpa using h3
        have HE : Hid (R = false) := Lib.hid (by rw [HI.out, d2, d3]; rfl)
        go_enter Tryd.func77, Tryd.ntmps77
        go_wp2
        go_ret
        exact ⟨ret_b HE.out.symm, HB⟩
    · have d2 : decide (0 ≤ wd) = false := by simpa using h2
      have HE : Hid (R = false) := Lib.hid (by rw [HI.out, d2]; rfl)
      go_enter Tryd.func77, Tryd.ntmps77
      go_wp2
      go_ret
      exact ⟨ret_b HE.out.symm, HB⟩
  · have d1 : (op != 1) = true := by simpa using h1
    obtain ⟨b1, hb1⟩ : ∃ b, (wd == 0) = b := ⟨_, rfl⟩
    obtain ⟨b2, hb2⟩ : ∃ b, ((v : Int) == 0) = b := ⟨_, rfl⟩
    have HE : Hid (R = (b1 && b2)) := Lib.hid (by rw [HI.out, if_neg h1, hb1, hb2])
    cases b1
    all_goals
      go_enter Tryd.func77, Tryd.ntmps77
      go_wp2
      go_ret
      exact ⟨ret_b (by rw [HE.out]; rfl), HB⟩
set_option maxHeartbeats 1000000 in
theorem reftold_any (n d : Int) (may : Bool) (w : World) : Calls Tryd.prog 40 #[.int .i64 n, .int .i64 d, .bool may] w fun e w' => e = .returned (.int .i64 (if (decide (65536 < n) || decide (64 < d)) = true then 2 else if may = true then 0 else 1)) ∧ w = w' := by
  obtain ⟨b1, hb1⟩ : ∃ b, decide (65536 < n) = b := ⟨_, rfl⟩
  obtain ⟨b2, hb2⟩ : ∃ b, decide (64 < d) = b := ⟨_, rfl⟩
  rw [hb1, hb2]
  cases b1 <;> cases b2 <;> cases may
  all_goals
    go_enter Tryd.func40, Tryd.ntmps40
    go_wp2
    go_ret
    exact ⟨rfl, rfl⟩

set_option maxHeartbeats 8000000 in
set_option maxRecDepth 100000 in
theorem refmayL_of (p : XT → Bool) (n0 : Nat) (l : List XT) (hll : l.length ≤ 4000000) (hc : ∀ x ∈ l, ∀ w, n0 ≤ w.heap.size → x.In n0 w → Calls Tryd.prog 41 #[x.val] w fun e w' => e = .returned (.bool (p x)) ∧ Below w.heap.size w w') (a : Option Addr) (c : Nat) (w : World) (hn0 : n0 ≤ w.heap.size) (hin : InRow 6 XT.cells (XT.In n0 w) n0 w l a) : Calls Tryd.prog 78 #[.slice a l.length c] w fun e w' => e = .returned (.bool (l.all p)) ∧ Below w.heap.size w w' := by
  go_enter Tryd.func78, Tryd.ntmps78
  go_wp2
  go_loopw [3] (fun u wr => ∃ k : Nat, u = .int .i64 k ∧ k ≤ l.length ∧ (l.take k).all p = true ∧ Below w.heap.size w wr) (fun u _ => l.length - (intOf u).toNat)
  case atStart => exact ⟨0, rfl, Nat.zero_le _, rfl, Below.refl _ _⟩
  case round =>
    obtain ⟨k, rfl, hk, hal, hb0⟩ := hrel
    have HA := Lib.hid hal
    clear hal
    by_cases hlt : k < l.length
    · have d1 : decide (k < l.length) = true := by simpa using hlt
      have d2 : decide ((k : Int) < (l.length : Int)) = true := by rw [decide_eq_true_eq]; omega
      have x1 : (k : Int) < (l.length : Int) := by omega
      obtain ⟨b, o, rfl, hb, hr, hx⟩ := hin.kept (Below.keptTo hb0 hn0) hlt
      have HT := Lib.hid (all_take p l k hlt)
      have HS := Lib.hid (all_stop p l k hlt)
      have hcx := hc l[k] (List.getElem_mem hlt)
      have hxin := hx.keep (Below.keptTo hb0 hn0)
      have zz := hb0.size
      have c0 := hcx wr (by omega) hxin
      generalize p l[k] = bp at *
      generalize hgx : l[k] = x at *
      obtain ⟨op, nm, xn, wd, v, xa, xc, xl⟩ := x
      have r0 : wr.cell? ⟨b, o + k * 6, none⟩ = some (.int .i64 op) := hr 0 _ rfl
      have r1 : wr.cell? ⟨b, o + k * 6 + 1, none⟩ = some (.string (bs nm)) := hr 1 _ rfl
      have r2 : wr.cell? ⟨b, o + k * 6 + 2, none⟩ = some (.int .i64 xn) := hr 2 _ rfl
      have r3 : wr.cell? ⟨b, o + k * 6 + 3, none⟩ = some (.int .i64 wd) := hr 3 _ rfl
      have r4 : wr.cell? ⟨b, o + k * 6 + 4, none⟩ = some (.int .u64 (v : Int)) := hr 4 _ rfl
      have r5 : wr.cell? ⟨b, o + k * 6 + 5, none⟩ = some (.slice xa xl.length xc) := hr 5 _ rfl
      simp only [XT.val, XT.cells] at c0
      clear hin hc hcx hr hx hxin hgx
      cases bp with
      | true =>
        clear HS
        go_wp2_with fail
        refine c0.mono ?_
        clear c0
        rintro e W1 ⟨rfl, hb1⟩
        have hb2 := hb0.trans (hb1.mono zz)
        go_wp2
        go_roundw
        case rel => exact ⟨k + 1, by simp; first | done | rfl | omega, by omega, by rw [HT.out, HA.out]; rfl, hb2⟩
        case measure => simp [intOf]; omega
      | false =>
        have HE : Hid (l.all p = false) := Lib.hid (HS.out rfl)
        clear HS HT
        go_wp2_with fail
        refine c0.mono ?_
        clear c0
        rintro e W1 ⟨rfl, hb1⟩
        have hb2 := hb0.trans (hb1.mono zz)
        go_wp2
        go_ret
        exact ⟨by rw [HE.out]; rfl, hb2⟩
    · have d1 : decide (k < l.length) = false := by simpa using hlt
      have d2 : decide ((k : Int) < (l.length : Int)) = false := by rw [decide_eq_false_iff_not]; omega
      have hkl : k = l.length := by omega
      have HE : Hid (l.all p = true) := Lib.hid (by have := HA.out; rw [hkl, List.take_length] at this; exact this)
      clear hkl
      go_wp2
      go_ret
      exact ⟨by rw [HE.out]; rfl, hb0⟩

set_option maxHeartbeats 16000000 in
set_option maxRecDepth 100000 in
theorem refmayX_any : ∀ x : XT, x.bk ≤ 1500000 → x.Wf → ∀ (n0 : Nat) (w : World), n0 ≤ w.heap.size → x.In n0 w → Calls Tryd.prog 41 #[x.val] w fun e w' => e = .returned (.bool (mayX x)) ∧ Below w.heap.size w w' := by
  refine XT.ind ?_
  intro op nm xn wd v xa xc xl ih hbk hwf n0 w hn0 hin
  rw [XT.In_mk] at hin
  rw [XT.wf_mk] at hwf
  obtain ⟨hv, hwl⟩ := hwf
  simp only [XT.bk] at hbk
  have hlen := XT.bkL_len xl
  have HI : Hid (mayX (.mk op nm xn wd v xa xc xl) = (!(namB op != (nm != [])) && (!(namB op && !isNameB nm) && (partsB op xl.length && (numerB op xn && (valB op wd v && xl.all mayX)))))) := Lib.hid (mayX_ref op nm xn wd v xa xc xl hv)
  generalize mayX (.mk op nm xn wd v xa xc xl) = R at *
  have HN1 := Lib.hid (fun w => refnamed_any op w)
  have HN2 := Lib.hid (fun w => refname_any nm (by omega) w)
  have HN3 := Lib.hid (fun w => refparts_any op (xl.length : Int) w)
  have HN4 := Lib.hid (fun w => refnumber_any op xn w)
  have HN5 := Lib.hid (fun w => refvalue_any op nm xn wd v xa xc xl hv w)
  have HL := Lib.hid (fun (w' : World) h1 h2 => refmayL_of mayX n0 xl (by omega) (fun y hy w2 g1 g2 => ih y hy (by have := XT.bkL_mem hy; omega) (hwl y hy) n0 w2 g1 g2) xa xc w' h1 h2)
  clear ih hbk hv hwl hlen
  generalize namB op = nb at *
  obtain ⟨ne, hne⟩ : ∃ b, (nm != []) = b := ⟨_, rfl⟩
  have hne2 : (nm == []) = !ne := by rw [← hne, bne, Bool.not_not]
  generalize isNameB nm = nk at *
  generalize partsB op xl.length = pb at *
  generalize numerB op xn = ub at *
  generalize valB op wd v = vb at *
  generalize xl.all mayX = al at *
  rw [hne] at HI
  simp only [XT.val, XT.cells]
  have BX := World.alloc_heap_new w (.cells #[.int .i64 op, .string (bs nm), .int .i64 xn, .int .i64 wd, .int .u64 (v : Int), .slice xa xl.length xc] 25)
  have hB : Below w.heap.size w (w.alloc (.cells #[.int .i64 op, .string (bs nm), .int .i64 xn, .int .i64 wd, .int .u64 (v : Int), .slice xa xl.length xc] 25)) := (Below.refl _ _).alloc (Nat.le_refl _) _
  have hin1 := hin.keep (Below.keptTo hB hn0) (fun x _ => XT.In.keep (Below.keptTo hB hn0) x)
  have hn1 := Nat.le_trans hn0 hB.size
  clear hin hn0
  go_enter Tryd.func41, Tryd.ntmps41
  go_upto_region 1 with (fail)
  generalize w.alloc (.cells #[.int .i64 op, .string (bs nm), .int .i64 xn, .int .i64 wd, .int .u64 (v : Int), .slice xa xl.length xc] 25) = w1 at *
  cases nb with
  | true =>
    cases ne with
    | false =>
      obtain ⟨q0, q1, q2, q3, q4, q5⟩ := open6 BX
      go_wp2_with fail
      have q0R := cell_regrown q0
      have q1R := cell_regrown q1
      have q2R := cell_regrown q2
      have q3R := cell_regrown q3
      have q4R := cell_regrown q4
      have q5R := cell_regrown q5
      refine wp_region_quiet_below (by kernel_rfl) (by kernel_rfl) ?_
      repeat (go_big_quiet_step (first | (go_at_call 73; exact regrown_same (HN1.out _)) | (go_at_call 74; exact Calls.regrown_of (HN2.out _)) | (go_at_call 75; exact regrown_same (HN3.out _)) | (go_at_call 76; exact regrown_same (HN4.out _)) | (go_at_call 77; exact Calls.regrown_of (HN5.out _))))
      refine wpQuiet_nil ?_
      intro _ hw'
      obtain ⟨⟨dq, osq⟩, hw''⟩ := hw'
      subst hw''
      have hB3 := hB.trans ((below_regrown w1 dq osq).mono hB.size)
      have hk9 := Below.keptTo (below_regrown w1 dq osq) hn1
      clear q0R q1R q2R q3R q4R q5R
      generalize grow (redrawn w1 dq) osq = w3 at *
      go_wp2
      go_ret
      exact ⟨ret_b (by rw [HI.out]; rfl), hB3⟩
    | true =>
      cases nk with
      | false =>
        obtain ⟨q0, q1, q2, q3, q4, q5⟩ := open6 BX
        go_wp2_with fail
        have q0R := cell_regrown q0
        have q1R := cell_regrown q1
        have q2R := cell_regrown q2
        have q3R := cell_regrown q3
        have q4R := cell_regrown q4
        have q5R := cell_regrown q5
        refine wp_region_quiet_below (by kernel_rfl) (by kernel_rfl) ?_
        repeat (go_big_quiet_step (first | (go_at_call 73; exact regrown_same (HN1.out _)) | (go_at_call 74; exact Calls.regrown_of (HN2.out _)) | (go_at_call 75; exact regrown_same (HN3.out _)) | (go_at_call 76; exact regrown_same (HN4.out _)) | (go_at_call 77; exact Calls.regrown_of (HN5.out _))))
        refine wpQuiet_nil ?_
        intro _ hw'
        obtain ⟨⟨dq, osq⟩, hw''⟩ := hw'
        subst hw''
        have hB3 := hB.trans ((below_regrown w1 dq osq).mono hB.size)
        have hk9 := Below.keptTo (below_regrown w1 dq osq) hn1
        clear q0R q1R q2R q3R q4R q5R
        generalize grow (redrawn w1 dq) osq = w3 at *
        go_wp2
        go_ret
        exact ⟨ret_b (by rw [HI.out]; rfl), hB3⟩
      | true =>
        cases pb with
        | false =>
          obtain ⟨q0, q1, q2, q3, q4, q5⟩ := open6 BX
          go_wp2_with fail
          have q0R := cell_regrown q0
          have q1R := cell_regrown q1
          have q2R := cell_regrown q2
          have q3R := cell_regrown q3
          have q4R := cell_regrown q4
          have q5R := cell_regrown q5
          refine wp_region_quiet_below (by kernel_rfl) (by kernel_rfl) ?_
          repeat (go_big_quiet_step (first | (go_at_call 73; exact regrown_same (HN1.out _)) | (go_at_call 74; exact Calls.regrown_of (HN2.out _)) | (go_at_call 75; exact regrown_same (HN3.out _)) | (go_at_call 76; exact regrown_same (HN4.out _)) | (go_at_call 77; exact Calls.regrown_of (HN5.out _))))
          refine wpQuiet_nil ?_
          intro _ hw'
          obtain ⟨⟨dq, osq⟩, hw''⟩ := hw'
          subst hw''
          have hB3 := hB.trans ((below_regrown w1 dq osq).mono hB.size)
          have hk9 := Below.keptTo (below_regrown w1 dq osq) hn1
          clear q0R q1R q2R q3R q4R q5R
          generalize grow (redrawn w1 dq) osq = w3 at *
          go_wp2
          go_ret
          exact ⟨ret_b (by rw [HI.out]; rfl), hB3⟩
        | true =>
          cases ub with
          | false =>
            obtain ⟨q0, q1, q2, q3, q4, q5⟩ := open6 BX
            go_wp2_with fail
            have q0R := cell_regrown q0
            have q1R := cell_regrown q1
            have q2R := cell_regrown q2
            have q3R := cell_regrown q3
            have q4R := cell_regrown q4
            have q5R := cell_regrown q5
            refine wp_region_quiet_below (by kernel_rfl) (by kernel_rfl) ?_
            repeat (go_big_quiet_step (first | (go_at_call 73; exact regrown_same (HN1.out _)) | (go_at_call 74; exact Calls.regrown_of (HN2.out _)) | (go_at_call 75; exact regrown_same (HN3.out _)) | (go_at_call 76; exact regrown_same (HN4.out _)) | (go_at_call 77; exact Calls.regrown_of (HN5.out _))))
            refine wpQuiet_nil ?_
            intro _ hw'
            obtain ⟨⟨dq, osq⟩, hw''⟩ := hw'
            subst hw''
            have hB3 := hB.trans ((below_regrown w1 dq osq).mono hB.size)
            have hk9 := Below.keptTo (below_regrown w1 dq osq) hn1
            clear q0R q1R q2R q3R q4R q5R
            generalize grow (redrawn w1 dq) osq = w3 at *
            go_wp2
            go_ret
            exact ⟨ret_b (by rw [HI.out]; rfl), hB3⟩
          | true =>
            cases vb with
            | false =>
              obtain ⟨q0, q1, q2, q3, q4, q5⟩ := open6 BX
              go_wp2_with fail
              have q0R := cell_regrown q0
              have q1R := cell_regrown q1
              have q2R := cell_regrown q2
              have q3R := cell_regrown q3
              have q4R := cell_regrown q4
              have q5R := cell_regrown q5
              refine wp_region_quiet_below (by kernel_rfl) (by kernel_rfl) ?_
              repeat (go_big_quiet_step (first | (go_at_call 73; exact regrown_same (HN1.out _)) | (go_at_call 74; exact Calls.regrown_of (HN2.out _)) | (go_at_call 75; exact regrown_same (HN3.out _)) | (go_at_call 76; exact regrown_same (HN4.out _)) | (go_at_call 77; exact Calls.regrown_of (HN5.out _))))
              refine wpQuiet_nil ?_
              intro _ hw'
              obtain ⟨⟨dq, osq⟩, hw''⟩ := hw'
              subst hw''
              have hB3 := hB.trans ((below_regrown w1 dq osq).mono hB.size)
              have hk9 := Below.keptTo (below_regrown w1 dq osq) hn1
              clear q0R q1R q2R q3R q4R q5R
              generalize grow (redrawn w1 dq) osq = w3 at *
              go_wp2
              go_ret
              exact ⟨ret_b (by rw [HI.out]; rfl), hB3⟩
            | true =>
              obtain ⟨q0, q1, q2, q3, q4, q5⟩ := open6 BX
              go_wp2_with fail
              have q0R := cell_regrown q0
              have q1R := cell_regrown q1
              have q2R := cell_regrown q2
              have q3R := cell_regrown q3
              have q4R := cell_regrown q4
              have q5R := cell_regrown q5
              refine wp_region_quiet_below (by kernel_rfl) (by kernel_rfl) ?_
              repeat (go_big_quiet_step (first | (go_at_call 73; exact regrown_same (HN1.out _)) | (go_at_call 74; exact Calls.regrown_of (HN2.out _)) | (go_at_call 75; exact regrown_same (HN3.out _)) | (go_at_call 76; exact regrown_same (HN4.out _)) | (go_at_call 77; exact Calls.regrown_of (HN5.out _))))
              refine wpQuiet_nil ?_
              intro _ hw'
              obtain ⟨⟨dq, osq⟩, hw''⟩ := hw'
              subst hw''
              have hB3 := hB.trans ((below_regrown w1 dq osq).mono hB.size)
              have hk9 := Below.keptTo (below_regrown w1 dq osq) hn1
              have i3 := hin1.keep hk9 (fun x _ => XT.In.keep hk9 x)
              replace hn1 := Nat.le_trans hn1 (below_regrown w1 dq osq).size
              have z0 := q0R dq osq
              have z5 := q5R dq osq
              clear q0 q1 q2 q3 q4 q5 q0R q1R q2R q3R q4R q5R hk9 hin1 hB
              generalize grow (redrawn w1 dq) osq = w3 at *
              go_wp2_with fail
              refine (HL.out _ hn1 i3).mono ?_
              rintro e w4 ⟨rfl, hb⟩
              have hB4 := hB3.trans (hb.mono hB3.size)
              go_wp2
              go_ret
              exact ⟨ret_b (by rw [HI.out]; rfl), hB4⟩
  | false =>
    cases ne with
    | true =>
      obtain ⟨q0, q1, q2, q3, q4, q5⟩ := open6 BX
      go_wp2_with fail
      have q0R := cell_regrown q0
      have q1R := cell_regrown q1
      have q2R := cell_regrown q2
      have q3R := cell_regrown q3
      have q4R := cell_regrown q4
      have q5R := cell_regrown q5
      refine wp_region_quiet_below (by kernel_rfl) (by kernel_rfl) ?_
      repeat (go_big_quiet_step (first | (go_at_call 73; exact regrown_same (HN1.out _)) | (go_at_call 74; exact Calls.regrown_of (HN2.out _)) | (go_at_call 75; exact regrown_same (HN3.out _)) | (go_at_call 76; exact regrown_same (HN4.out _)) | (go_at_call 77; exact Calls.regrown_of (HN5.out _))))
      refine wpQuiet_nil ?_
      intro _ hw'
      obtain ⟨⟨dq, osq⟩, hw''⟩ := hw'
      subst hw''
      have hB3 := hB.trans ((below_regrown w1 dq osq).mono hB.size)
      have hk9 := Below.keptTo (below_regrown w1 dq osq) hn1
      clear q0R q1R q2R q3R q4R q5R
      generalize grow (redrawn w1 dq) osq = w3 at *
      go_wp2
      go_ret
      exact ⟨ret_b (by rw [HI.out]; rfl), hB3⟩
    | false =>
      cases pb with
      | false =>
        obtain ⟨q0, q1, q2, q3, q4, q5⟩ := open6 BX
        go_wp2_with fail
        have q0R := cell_regrown q0
        have q1R := cell_regrown q1
        have q2R := cell_regrown q2
        have q3R := cell_regrown q3
        have q4R := cell_regrown q4
        have q5R := cell_regrown q5
        refine wp_region_quiet_below (by kernel_rfl) (by kernel_rfl) ?_
        repeat (go_big_quiet_step (first | (go_at_call 73; exact regrown_same (HN1.out _)) | (go_at_call 74; exact Calls.regrown_of (HN2.out _)) | (go_at_call 75; exact regrown_same (HN3.out _)) | (go_at_call 76; exact regrown_same (HN4.out _)) | (go_at_call 77; exact Calls.regrown_of (HN5.out _))))
        refine wpQuiet_nil ?_
        intro _ hw'
        obtain ⟨⟨dq, osq⟩, hw''⟩ := hw'
        subst hw''
        have hB3 := hB.trans ((below_regrown w1 dq osq).mono hB.size)
        have hk9 := Below.keptTo (below_regrown w1 dq osq) hn1
        clear q0R q1R q2R q3R q4R q5R
        generalize grow (redrawn w1 dq) osq = w3 at *
        go_wp2
        go_ret
        exact ⟨ret_b (by rw [HI.out]; rfl), hB3⟩
      | true =>
        cases ub with
        | false =>
          obtain ⟨q0, q1, q2, q3, q4, q5⟩ := open6 BX
          go_wp2_with fail
          have q0R := cell_regrown q0
          have q1R := cell_regrown q1
          have q2R := cell_regrown q2
          have q3R := cell_regrown q3
          have q4R := cell_regrown q4
          have q5R := cell_regrown q5
          refine wp_region_quiet_below (by kernel_rfl) (by kernel_rfl) ?_
          repeat (go_big_quiet_step (first | (go_at_call 73; exact regrown_same (HN1.out _)) | (go_at_call 74; exact Calls.regrown_of (HN2.out _)) | (go_at_call 75; exact regrown_same (HN3.out _)) | (go_at_call 76; exact regrown_same (HN4.out _)) | (go_at_call 77; exact Calls.regrown_of (HN5.out _))))
          refine wpQuiet_nil ?_
          intro _ hw'
          obtain ⟨⟨dq, osq⟩, hw''⟩ := hw'
          subst hw''
          have hB3 := hB.trans ((below_regrown w1 dq osq).mono hB.size)
          have hk9 := Below.keptTo (below_regrown w1 dq osq) hn1
          clear q0R q1R q2R q3R q4R q5R
          generalize grow (redrawn w1 dq) osq = w3 at *
          go_wp2
          go_ret
          exact ⟨ret_b (by rw [HI.out]; rfl), hB3⟩
        | true =>
          cases vb with
          | false =>
            obtain ⟨q0, q1, q2, q3, q4, q5⟩ := open6 BX
            go_wp2_with fail
            have q0R := cell_regrown q0
            have q1R := cell_regrown q1
            have q2R := cell_regrown q2
            have q3R := cell_regrown q3
            have q4R := cell_regrown q4
            have q5R := cell_regrown q5
            refine wp_region_quiet_below (by kernel_rfl) (by kernel_rfl) ?_
            repeat (go_big_quiet_step (first | (go_at_call 73; exact regrown_same (HN1.out _)) | (go_at_call 74; exact Calls.regrown_of (HN2.out _)) | (go_at_call 75; exact regrown_same (HN3.out _)) | (go_at_call 76; exact regrown_same (HN4.out _)) | (go_at_call 77; exact Calls.regrown_of (HN5.out _))))
            refine wpQuiet_nil ?_
            intro _ hw'
            obtain ⟨⟨dq, osq⟩, hw''⟩ := hw'
            subst hw''
            have hB3 := hB.trans ((below_regrown w1 dq osq).mono hB.size)
            have hk9 := Below.keptTo (below_regrown w1 dq osq) hn1
            clear q0R q1R q2R q3R q4R q5R
            generalize grow (redrawn w1 dq) osq = w3 at *
            go_wp2
            go_ret
            exact ⟨ret_b (by rw [HI.out]; rfl), hB3⟩
          | true =>
            obtain ⟨q0, q1, q2, q3, q4, q5⟩ := open6 BX
            go_wp2_with fail
            have q0R := cell_regrown q0
            have q1R := cell_regrown q1
            have q2R := cell_regrown q2
            have q3R := cell_regrown q3
            have q4R := cell_regrown q4
            have q5R := cell_regrown q5
            refine wp_region_quiet_below (by kernel_rfl) (by kernel_rfl) ?_
            repeat (go_big_quiet_step (first | (go_at_call 73; exact regrown_same (HN1.out _)) | (go_at_call 74; exact Calls.regrown_of (HN2.out _)) | (go_at_call 75; exact regrown_same (HN3.out _)) | (go_at_call 76; exact regrown_same (HN4.out _)) | (go_at_call 77; exact Calls.regrown_of (HN5.out _))))
            refine wpQuiet_nil ?_
            intro _ hw'
            obtain ⟨⟨dq, osq⟩, hw''⟩ := hw'
            subst hw''
            have hB3 := hB.trans ((below_regrown w1 dq osq).mono hB.size)
            have hk9 := Below.keptTo (below_regrown w1 dq osq) hn1
            have i3 := hin1.keep hk9 (fun x _ => XT.In.keep hk9 x)
            replace hn1 := Nat.le_trans hn1 (below_regrown w1 dq osq).size
            have z0 := q0R dq osq
            have z5 := q5R dq osq
            clear q0 q1 q2 q3 q4 q5 q0R q1R q2R q3R q4R q5R hk9 hin1 hB
            generalize grow (redrawn w1 dq) osq = w3 at *
            go_wp2_with fail
            refine (HL.out _ hn1 i3).mono ?_
            rintro e w4 ⟨rfl, hb⟩
            have hB4 := hB3.trans (hb.mono hB3.size)
            go_wp2
            go_ret
            exact ⟨ret_b (by rw [HI.out]; rfl), hB4⟩

set_option maxHeartbeats 4000000 in
set_option maxRecDepth 100000 in
theorem refcheckX_any (x : XT) (hbk : x.bk ≤ 1500000) (hwf : x.Wf) (n0 : Nat) (w : World) (hn0 : n0 ≤ w.heap.size) (hx : x.In n0 w) : Calls Tryd.prog 23 #[x.val] w fun e w' => e = .returned (.int .i64 (checkX x)) ∧ Below w.heap.size w w' := by
  have hsz := x.sz_bk
  have HS0 := fun (w' : World) h1 h2 => refsizeX_any x (by omega) n0 w' h1 h2
  have HD0 := fun (w' : World) h1 h2 => refdeepX_any x (by omega) n0 w' h1 h2
  have HM0 := fun (w' : World) h1 h2 => refmayX_any x hbk hwf n0 w' h1 h2
  have HI : Hid (checkX x = if (decide ((65536 : Int) < (x.sz : Int)) || decide ((64 : Int) < (x.dp : Int))) = true then 2 else if mayX x = true then 0 else 1) := Lib.hid (by
    unfold checkX
    have e1 : decide ((65536 : Int) < (x.sz : Int)) = decide (65536 < x.sz) := decide_eq_decide.2 (by omega)
    have e2 : decide ((64 : Int) < (x.dp : Int)) = decide (64 < x.dp) := decide_eq_decide.2 (by omega)
    rw [e1, e2])
  generalize (x.sz : Int) = S at *
  generalize (x.dp : Int) = D at *
  generalize mayX x = mb at *
  have HT := Lib.hid (fun w => reftold_any S D mb w)
  rw [← HI.out] at HT
  generalize checkX x = R at *
  clear hsz hbk hwf HI
  have hx0 := hx
  obtain ⟨op, nm, xn, wd, v, xa, xc, xl⟩ := x
  simp only [XT.val, XT.cells] at HS0 HD0 HM0 ⊢
  have BX := World.alloc_heap_new w (.cells #[.int .i64 op, .string (bs nm), .int .i64 xn, .int .i64 wd, .int .u64 (v : Int), .slice xa xl.length xc] 25)
  have hB : Below w.heap.size w (w.alloc (.cells #[.int .i64 op, .string (bs nm), .int .i64 xn, .int .i64 wd, .int .u64 (v : Int), .slice xa xl.length xc] 25)) := (Below.refl _ _).alloc (Nat.le_refl _) _
  replace hx0 := XT.In.keep (Below.keptTo hB hn0) _ hx0
  have hn1 := Nat.le_trans hn0 hB.size
  clear hx hn0
  go_enter Tryd.func23, Tryd.ntmps23
  go_upto_region 1 with (fail)
  generalize w.alloc (.cells #[.int .i64 op, .string (bs nm), .int .i64 xn, .int .i64 wd, .int .u64 (v : Int), .slice xa xl.length xc] 25) = w1 at *
  have bq := fun (dq : Nat) (os : Array Obj) => below_regrown w1 dq os
  have HS := Lib.hid (fun (dq : Nat) (os : Array Obj) => HS0 (grow (redrawn w1 dq) os) (Nat.le_trans hn1 (bq dq os).size) (XT.In.keep (Below.keptTo (bq dq os) hn1) _ hx0))
  have HD := Lib.hid (fun (dq : Nat) (os : Array Obj) => HD0 (grow (redrawn w1 dq) os) (Nat.le_trans hn1 (bq dq os).size) (XT.In.keep (Below.keptTo (bq dq os) hn1) _ hx0))
  have HM := Lib.hid (fun (dq : Nat) (os : Array Obj) => HM0 (grow (redrawn w1 dq) os) (Nat.le_trans hn1 (bq dq os).size) (XT.In.keep (Below.keptTo (bq dq os) hn1) _ hx0))
  clear HS0 HD0 HM0 bq hx0
  obtain ⟨q0, q1, q2, q3, q4, q5⟩ := open6 BX
  go_wp2_with fail
  have q0R := cell_regrown q0
  have q1R := cell_regrown q1
  have q2R := cell_regrown q2
  have q3R := cell_regrown q3
  have q4R := cell_regrown q4
  have q5R := cell_regrown q5
  refine wp_region_quiet_below (by kernel_rfl) (by kernel_rfl) ?_
  repeat (go_big_quiet_step (first | (go_at_call 18; exact Calls.regrown_of (HS.out _ _)) | (go_at_call 19; exact Calls.regrown_of (HD.out _ _)) | (go_at_call 41; exact Calls.regrown_of (HM.out _ _)) | (go_at_call 40; exact regrown_same (HT.out _))))
  refine wpQuiet_nil ?_
  intro _ hw'
  obtain ⟨⟨dq, osq⟩, hw''⟩ := hw'
  subst hw''
  have hB3 := hB.trans ((below_regrown w1 dq osq).mono hB.size)
  clear q0R q1R q2R q3R q4R q5R
  generalize grow (redrawn w1 dq) osq = w3 at *
  go_wp2
  go_ret
  exact ⟨rfl, hB3⟩
end Go.Proofs.YtlbjmnakiflfpaaDoor
