/-
  RfY, in one text.
-/
import Derived.Test.YtiipjbafdhijlaaGreatDoorZAn
import Derived.Test.YtiipjbafdhijlaaGreatDoorZAR
import Derived.Test.YtiipjbafdhijlaaGreatDoorZAU
import Derived.Lib.QuietBelow
import Derived.BigQuiet
import Derived.Test.YtiipjbafdhijlaaGreatDoorZAz
namespace Go.Proofs.YtiipjbafdhijlaaGreatDoor
open Go Go.RowKit
set_option linter.unusedVariables false
set_option linter.unusedSimpArgs false
open Go.Sort
def namB (op : Int) : Bool := (op == 2) || ((op == 3) || (op == 4))
def partsB (op n : Int) : Bool := if op = 1 ∨ op = 2 then n == 0 else if op = 4 ∨ op = 5 then n == 1 else if op = 3 ∨ op = 6 ∨ op = 9 ∨ op = 10 then n == 2 else if op = 7 then n == 3 else if op = 8 then decide (1 ≤ n) else false
def numerB (op n : Int) : Bool := if op = 5 then decide (1 ≤ n) && decide (n ≤ 6) else if op = 6 then decide (11 ≤ n) && decide (n ≤ 26) else if op = 10 then decide (31 ≤ n) && decide (n ≤ 33) else n == 0
def valB (op wd : Int) (v : Nat) : Bool := if op = 1 then decide (0 ≤ wd) && (decide (wd ≤ 64) && ((wd == 0) || ((wd == 64) || decide (v < 2 ^ wd.toNat)))) else (wd == 0) && ((v : Int) == 0)
def wordsR : List Bytes := [[109, 111, 100, 117, 108, 101], [105, 110], [111, 117, 116], [119, 105, 114, 101], [114, 101, 103], [99, 111, 110, 115, 116], [97, 115, 115, 105, 103, 110], [99, 111, 109, 98], [111, 110], [116, 105, 99, 107], [105, 110, 115, 116], [105, 102], [101, 108, 115, 101], [102, 111, 114], [99, 104, 101, 99, 107], [99, 97, 115, 101], [122, 101, 120, 116], [115, 101, 120, 116], [116, 114, 117, 110, 99]]
def okC (i : Nat) (c : UInt8) : Bool := letter c || (!(i == 0) && digit c)
def okN (i : Nat) : Bytes → Bool
 | [] => true
 | c :: r => okC i c && okN (i + 1) r
theorem okN_pos : ∀ (l : Bytes) (i : Nat), 0 < i → okN i l = l.all inName
 | [], i, h => rfl
 | c :: r, i, h => by
  rw [okN, okN_pos r (i + 1) (by omega), List.all_cons]
  have : (i == 0) = false := by rw [beq_eq_false_iff_ne]; omega
  unfold okC inName
  rw [this]; rfl
theorem isWord_ref (s : Bytes) : isWord s = wordsR.contains s := by
 unfold isWord
 rw [Bool.eq_iff_iff, List.contains_iff_mem, List.contains_iff_mem]
 have h1 : ∀ x ∈ wordList, x ∈ wordsR := by decide
 have h2 : ∀ x ∈ wordsR, x ∈ wordList := by decide
 exact ⟨h1 s, h2 s⟩
theorem isName_ref (s : Bytes) : isNameB s = (!wordsR.contains s && (okN 0 s && (decide (1 ≤ s.length) && decide (s.length ≤ 64)))) := by
 rw [← isWord_ref]
 cases s with
 | nil => simp [isNameB]
 | cons c r =>
  have e : okN 0 (c :: r) = (letter c && r.all inName) := by
   rw [okN, okN_pos r 1 (by omega)]
   simp [okC]
  rw [e]
  have e2 : isNameB (c :: r) = (letter c && (decide ((c :: r).length ≤ 64) && ((c :: r).all inName && !isWord (c :: r)))) := rfl
  rw [e2, List.all_cons]
  have e3 : decide (1 ≤ (c :: r).length) = true := by simp
  rw [e3]
  cases h : letter c
  ·simp
  ·have e4 : inName c = true := by unfold inName; rw [h]; rfl
   rw [e4]
   cases isWord (c :: r) <;> cases r.all inName <;> cases decide ((c :: r).length ≤ 64) <;> rfl
theorem okN_drop (l : Bytes) (i : Nat) (h : i < l.length) : okN i (l.drop i) = (okC i l[i] && okN (i + 1) (l.drop (i + 1))) := by
 rw [← List.getElem_cons_drop h, okN]
theorem refnamed_any (op : Int) (w : World) : Calls Tryz.prog 121 #[.int .i64 op] w fun e w' => e = .returned (.bool (namB op)) ∧ w = w' := by
 have HI : Hid (namB op = ((op == 2) || ((op == 3) || (op == 4)))) := Lib.hid rfl
 generalize namB op = R at *
 obtain ⟨a, ha⟩ : ∃ b, (op == 2) = b := ⟨_, rfl⟩
 obtain ⟨b, hb⟩ : ∃ b, (op == 3) = b := ⟨_, rfl⟩
 obtain ⟨c, hc⟩ : ∃ b, (op == 4) = b := ⟨_, rfl⟩
 have HE : Hid (R = (a || (b || c))) := Lib.hid (by rw [HI.out, ha, hb, hc])
 cases a <;> cases b
 all_goals
  go_enter Tryz.func121, Tryz.ntmps121
  go_wp2
  go_ret
  exact ⟨ret_b (by rw [HE.out]; rfl), rfl⟩
set_option maxHeartbeats 2000000 in
theorem refparts_any (op n : Int) (w : World) : Calls Tryz.prog 122 #[.int .i64 op, .int .i64 n] w fun e w' => e = .returned (.bool (partsB op n)) ∧ w = w' := by
 by_cases h1 : op = 1
 ·subst h1
  have HE : Hid ((partsB 1 n) = (n == 0)) := Lib.hid rfl
  generalize (partsB 1 n) = R at *
  go_enter Tryz.func122, Tryz.ntmps122
  go_wp2
  go_ret
  exact ⟨ret_b HE.out.symm, rfl⟩
 ·have e1 : (op == 1) = false := by rw [beq_eq_false_iff_ne]; exact h1
  by_cases h2 : op = 2
  ·subst h2
   have HE : Hid ((partsB 2 n) = (n == 0)) := Lib.hid rfl
   generalize (partsB 2 n) = R at *
   go_enter Tryz.func122, Tryz.ntmps122
   go_wp2
   go_ret
   exact ⟨ret_b HE.out.symm, rfl⟩
  ·have e2 : (op == 2) = false := by rw [beq_eq_false_iff_ne]; exact h2
   by_cases h4 : op = 4
   ·subst h4
    have HE : Hid ((partsB 4 n) = (n == 1)) := Lib.hid rfl
    generalize (partsB 4 n) = R at *
    go_enter Tryz.func122, Tryz.ntmps122
    go_wp2
    go_ret
    exact ⟨ret_b HE.out.symm, rfl⟩
   ·have e4 : (op == 4) = false := by rw [beq_eq_false_iff_ne]; exact h4
    by_cases h5 : op = 5
    ·subst h5
     have HE : Hid ((partsB 5 n) = (n == 1)) := Lib.hid rfl
     generalize (partsB 5 n) = R at *
     go_enter Tryz.func122, Tryz.ntmps122
     go_wp2
     go_ret
     exact ⟨ret_b HE.out.symm, rfl⟩
    ·have e5 : (op == 5) = false := by rw [beq_eq_false_iff_ne]; exact h5
     by_cases h3 : op = 3
     ·subst h3
      have HE : Hid ((partsB 3 n) = (n == 2)) := Lib.hid rfl
      generalize (partsB 3 n) = R at *
      go_enter Tryz.func122, Tryz.ntmps122
      go_wp2
      go_ret
      exact ⟨ret_b HE.out.symm, rfl⟩
     ·have e3 : (op == 3) = false := by rw [beq_eq_false_iff_ne]; exact h3
      by_cases h6 : op = 6
      ·subst h6
       have HE : Hid ((partsB 6 n) = (n == 2)) := Lib.hid rfl
       generalize (partsB 6 n) = R at *
       go_enter Tryz.func122, Tryz.ntmps122
       go_wp2
       go_ret
       exact ⟨ret_b HE.out.symm, rfl⟩
      ·have e6 : (op == 6) = false := by rw [beq_eq_false_iff_ne]; exact h6
       by_cases h9 : op = 9
       ·subst h9
        have HE : Hid ((partsB 9 n) = (n == 2)) := Lib.hid rfl
        generalize (partsB 9 n) = R at *
        go_enter Tryz.func122, Tryz.ntmps122
        go_wp2
        go_ret
        exact ⟨ret_b HE.out.symm, rfl⟩
       ·have e9 : (op == 9) = false := by rw [beq_eq_false_iff_ne]; exact h9
        by_cases h10 : op = 10
        ·subst h10
         have HE : Hid ((partsB 10 n) = (n == 2)) := Lib.hid rfl
         generalize (partsB 10 n) = R at *
         go_enter Tryz.func122, Tryz.ntmps122
         go_wp2
         go_ret
         exact ⟨ret_b HE.out.symm, rfl⟩
        ·have e10 : (op == 10) = false := by rw [beq_eq_false_iff_ne]; exact h10
         by_cases h7 : op = 7
         ·subst h7
          have HE : Hid ((partsB 7 n) = (n == 3)) := Lib.hid rfl
          generalize (partsB 7 n) = R at *
          go_enter Tryz.func122, Tryz.ntmps122
          go_wp2
          go_ret
          exact ⟨ret_b HE.out.symm, rfl⟩
         ·have e7 : (op == 7) = false := by rw [beq_eq_false_iff_ne]; exact h7
          by_cases h8 : op = 8
          ·subst h8
           have HE : Hid ((partsB 8 n) = (decide (1 ≤ n))) := Lib.hid rfl
           generalize (partsB 8 n) = R at *
           go_enter Tryz.func122, Tryz.ntmps122
           go_wp2
           go_ret
           exact ⟨ret_b HE.out.symm, rfl⟩
          ·have e8 : (op == 8) = false := by rw [beq_eq_false_iff_ne]; exact h8
           have HE : Hid ((partsB op n) = (false)) := Lib.hid (by unfold partsB; simp [*])
           generalize (partsB op n) = R at *
           go_enter Tryz.func122, Tryz.ntmps122
           go_wp2
           go_ret
           exact ⟨ret_b HE.out.symm, rfl⟩
set_option maxHeartbeats 2000000 in
theorem refnumber_any (op n : Int) (w : World) : Calls Tryz.prog 123 #[.int .i64 op, .int .i64 n] w fun e w' => e = .returned (.bool (numerB op n)) ∧ w = w' := by
 by_cases h5 : op = 5
 ·subst h5
  have HE : Hid ((numerB 5 n) = (decide (1 ≤ n) && decide (n ≤ 6))) := Lib.hid rfl
  generalize (numerB 5 n) = R at *
  go_enter Tryz.func123, Tryz.ntmps123
  obtain ⟨b1, hb1⟩ : ∃ b, decide (1 ≤ n) = b := ⟨_, rfl⟩
  obtain ⟨b2, hb2⟩ : ∃ b, decide (n ≤ 6) = b := ⟨_, rfl⟩
  rw [hb1, hb2] at HE
  cases b1
  all_goals
   go_wp2
   go_ret
   exact ⟨ret_b (by rw [HE.out]; rfl), rfl⟩
 ·have e5 : (op == 5) = false := by rw [beq_eq_false_iff_ne]; exact h5
  by_cases h6 : op = 6
  ·subst h6
   have HE : Hid ((numerB 6 n) = (decide (11 ≤ n) && decide (n ≤ 26))) := Lib.hid rfl
   generalize (numerB 6 n) = R at *
   go_enter Tryz.func123, Tryz.ntmps123
   obtain ⟨b1, hb1⟩ : ∃ b, decide (11 ≤ n) = b := ⟨_, rfl⟩
   obtain ⟨b2, hb2⟩ : ∃ b, decide (n ≤ 26) = b := ⟨_, rfl⟩
   rw [hb1, hb2] at HE
   cases b1
   all_goals
    go_wp2
    go_ret
    exact ⟨ret_b (by rw [HE.out]; rfl), rfl⟩
  ·have e6 : (op == 6) = false := by rw [beq_eq_false_iff_ne]; exact h6
   by_cases h10 : op = 10
   ·subst h10
    have HE : Hid ((numerB 10 n) = (decide (31 ≤ n) && decide (n ≤ 33))) := Lib.hid rfl
    generalize (numerB 10 n) = R at *
    go_enter Tryz.func123, Tryz.ntmps123
    obtain ⟨b1, hb1⟩ : ∃ b, decide (31 ≤ n) = b := ⟨_, rfl⟩
    obtain ⟨b2, hb2⟩ : ∃ b, decide (n ≤ 33) = b := ⟨_, rfl⟩
    rw [hb1, hb2] at HE
    cases b1
    all_goals
     go_wp2
     go_ret
     exact ⟨ret_b (by rw [HE.out]; rfl), rfl⟩
   ·have e10 : (op == 10) = false := by rw [beq_eq_false_iff_ne]; exact h10
    have HE : Hid ((numerB op n) = (n == 0)) := Lib.hid (by unfold numerB; simp [*])
    generalize (numerB op n) = R at *
    go_enter Tryz.func123, Tryz.ntmps123
    go_wp2
    go_ret
    exact ⟨ret_b HE.out.symm, rfl⟩
set_option maxHeartbeats 2000000 in
theorem refwords_any (w : World) : Calls Tryz.prog 120 #[] w fun e w' => ∃ a, e = .returned (.slice a 19 19) ∧ LiesS w' a wordsR ∧ Below w.heap.size w w' := by
 go_enter Tryz.func120, Tryz.ntmps120
 go_wp2
 go_ret
 refine ⟨_, rfl, .inr ⟨_, _, rfl, fun i hi => ?_⟩, (Below.refl _ _).alloc (Nat.le_refl _) _⟩
 have hi2 : i < 19 := hi
 simp only [World.cell?_alloc_new, Nat.zero_add]
 rcases i with _ | _ | _ | _ | _ | _ | _ | _ | _ | _ | _ | _ | _ | _ | _ | _ | _ | _ | _ | i
 all_goals first | rfl | (simp; done) | (exfalso; omega)
set_option maxHeartbeats 8000000 in
set_option maxRecDepth 100000 in
theorem refname_any (s : Bytes) (hs : s.length ≤ 9000000) (w : World) : Calls Tryz.prog 93 #[.string (bs s)] w fun e w' => e = .returned (.bool (isNameB s)) ∧ Below w.heap.size w w' := by
 have HI : Hid (isNameB s = (!wordsR.contains s && (okN 0 s && (decide (1 ≤ s.length) && decide (s.length ≤ 64))))) := Lib.hid (isName_ref s)
 generalize isNameB s = R at *
 go_enter Tryz.func93, Tryz.ntmps93
 go_wp2_with fail
 refine (refwords_any _).mono ?_
 rintro e w1 ⟨a, rfl, hl, hB⟩
 have HL := Lib.hid hl
 clear hl
 have hwl : wordsR.length = 19 := rfl
 obtain ⟨WL, hWL⟩ : ∃ WL, wordsR = WL := ⟨_, rfl⟩
 rw [hWL] at HL HI hwl
 clear hWL
 obtain ⟨q1, hq1⟩ : ∃ b, decide ((1 : Int) ≤ s.length) = b := ⟨_, rfl⟩
 obtain ⟨q2, hq2⟩ : ∃ b, decide ((s.length : Int) ≤ 64) = b := ⟨_, rfl⟩
 have f1 : decide (1 ≤ s.length) = q1 := by rw [← hq1]; exact decide_eq_decide.2 (by omega)
 have f2 : decide (s.length ≤ 64) = q2 := by rw [← hq2]; exact decide_eq_decide.2 (by omega)
 rw [f1, f2] at HI
 have HQ := Lib.hid (And.intro f1 f2)
 clear f1 f2
 go_wp2
 go_loopg [4] WL.length (fun g u wr => ∃ i : Nat, u = .int .i64 i ∧ i + g = WL.length ∧ (WL.drop i).contains s = WL.contains s ∧ wr = w1)
 case atStart => exact ⟨0, rfl, by omega, by rw [List.drop_zero], rfl⟩
 case round =>
  obtain ⟨i, rfl, hi, hdr, rfl⟩ := hrel
  have HD := Lib.hid hdr
  clear hdr
  by_cases hlt : i < WL.length
  ·have d1 : decide (i < 19) = true := by rw [decide_eq_true_eq]; omega
   have d2 : decide ((i : Int) < 19) = true := by rw [decide_eq_true_eq]; omega
   have d3 : (i : Int) < 19 := by omega
   have HX : Hid ((s == WL[i] || (WL.drop (i + 1)).contains s) = WL.contains s) := Lib.hid (by rw [← HD.out, ← List.getElem_cons_drop hlt, List.contains_cons])
   obtain ⟨b1, o1, rfl, hL1⟩ := (HL.out).resolve_left (by intro h; rw [h] at hlt; simp at hlt)
   replace hL1 := hL1 i hlt
   generalize WL[i] = t at *
   by_cases heq : (s == t) = true
   ·have HE : Hid (R = false) := Lib.hid (by rw [HI.out, ← HX.out, heq]; rfl)
    clear HX HD HL HI
    go_wp2
    go_ret
    exact ⟨ret_bool HE.out.symm, hB⟩
   ·have heq2 : (s == t) = false := by simpa using heq
    have HX2 : Hid ((WL.drop (i + 1)).contains s = WL.contains s) := Lib.hid (by rw [← HX.out, heq2]; rfl)
    clear HX HD heq
    go_wp2
    cases gk with
    | zero => omega
    | succ gg =>
     go_roundg gg
     case rel => exact ⟨i + 1, rfl, by omega, HX2.out, rfl⟩
     case measure => omega
  ·have d1 : decide (i < 19) = false := by rw [decide_eq_false_iff_not]; omega
   have d2 : decide ((i : Int) < 19) = false := by rw [decide_eq_false_iff_not]; omega
   have HI2 : Hid (WL.contains s = false) := Lib.hid (by rw [← HD.out, List.drop_eq_nil_of_le (by omega)]; rfl)
   obtain ⟨R2, hR2⟩ : ∃ R2, okN 0 s = R2 := ⟨_, rfl⟩
   have HI3 : Hid (R = (R2 && (q1 && q2))) := Lib.hid (by rw [HI.out, HI2.out, hR2]; rfl)
   have HR2 := Lib.hid hR2
   clear HI HI2 HD HL hR2
   go_wp2
   go_loopg [5] s.length (fun g u wr' => ∃ i : Nat, u = .int .i64 i ∧ i + g = s.length ∧ okN i (s.drop i) = R2 ∧ wr' = wr)
   case atStart => exact ⟨0, rfl, by omega, by rw [List.drop_zero]; exact HR2.out, rfl⟩
   case round =>
    obtain ⟨i, rfl, hi, hdr, rfl⟩ := hrel
    have HD := Lib.hid hdr
    clear hdr
    by_cases hlt : i < s.length
    ·have d1 : decide (i < s.length) = true := by simpa using hlt
     have d2 : decide ((i : Int) < (s.length : Int)) = true := by rw [decide_eq_true_eq]; omega
     have d3 : (i : Int) < (s.length : Int) := by omega
     have HX : Hid ((okC i s[i] && okN (i + 1) (s.drop (i + 1))) = R2) := Lib.hid (by rw [← HD.out, okN_drop s i hlt])
     obtain ⟨t0, ht0⟩ : ∃ b, decide ((97 : Int) ≤ (s[i].toNat : Int)) = b := ⟨_, rfl⟩
     obtain ⟨t1, ht1⟩ : ∃ b, decide ((s[i].toNat : Int) ≤ 122) = b := ⟨_, rfl⟩
     obtain ⟨t2, ht2⟩ : ∃ b, decide ((65 : Int) ≤ (s[i].toNat : Int)) = b := ⟨_, rfl⟩
     obtain ⟨t3, ht3⟩ : ∃ b, decide ((s[i].toNat : Int) ≤ 90) = b := ⟨_, rfl⟩
     obtain ⟨t4, ht4⟩ : ∃ b, ((s[i].toNat : Int) == 95) = b := ⟨_, rfl⟩
     obtain ⟨t5, ht5⟩ : ∃ b, decide ((s[i].toNat : Int) < 48) = b := ⟨_, rfl⟩
     obtain ⟨t6, ht6⟩ : ∃ b, decide ((57 : Int) < (s[i].toNat : Int)) = b := ⟨_, rfl⟩
     obtain ⟨t7, ht7⟩ : ∃ b, ((i : Int) == 0) = b := ⟨_, rfl⟩
     have HV : Hid (okC i s[i] = (((t0 && t1) || (t2 && t3) || t4) || (!t7 && (!t5 && !t6)))) := Lib.hid (by
      rw [← ht0, ← ht1, ← ht2, ← ht3, ← ht4, ← ht5, ← ht6, ← ht7]
      have e1 : ((i : Int) == 0) = (i == 0) := by rw [Bool.eq_iff_iff, beq_iff_eq, beq_iff_eq]; omega
      have e2 : digit s[i] = (!decide ((s[i].toNat : Int) < 48) && !decide ((57 : Int) < (s[i].toNat : Int))) := by
       show (decide ((48 : Int) ≤ (s[i].toNat : Int)) && decide ((s[i].toNat : Int) ≤ 57)) = _
       congr 1
       ·rw [Bool.eq_iff_iff]; simp
       ·rw [Bool.eq_iff_iff]; simp
      unfold okC
      rw [e1, e2]; rfl)
     generalize okC i s[i] = V at *
     cases t0 with
     | false =>
      cases t2 with
      | false =>
       cases t4 with
       | true =>
        go_wp2
        cases gk with
        | zero => omega
        | succ gg =>
         go_roundg gg
         case rel => exact ⟨i + 1, by simp; first | done | rfl | omega, by omega, by rw [← HX.out, HV.out]; rfl, rfl⟩
         case measure => omega
       | false =>
        cases t7 with
        | true =>
         have HE : Hid (R = false) := Lib.hid (by rw [HI3.out, ← HX.out, HV.out]; rfl)
         go_wp2
         go_ret
         exact ⟨ret_bool HE.out.symm, hB⟩
        | false =>
         cases t5 with
         | true =>
          have HE : Hid (R = false) := Lib.hid (by rw [HI3.out, ← HX.out, HV.out]; rfl)
          go_wp2
          go_ret
          exact ⟨ret_bool HE.out.symm, hB⟩
         | false =>
          cases t6 with
          | true =>
           have HE : Hid (R = false) := Lib.hid (by rw [HI3.out, ← HX.out, HV.out]; rfl)
           go_wp2
           go_ret
           exact ⟨ret_bool HE.out.symm, hB⟩
          | false =>
           go_wp2
           cases gk with
           | zero => omega
           | succ gg =>
            go_roundg gg
            case rel => exact ⟨i + 1, by simp; first | done | rfl | omega, by omega, by rw [← HX.out, HV.out]; rfl, rfl⟩
            case measure => omega
      | true =>
       cases t3 with
       | true =>
        go_wp2
        cases gk with
        | zero => omega
        | succ gg =>
         go_roundg gg
         case rel => exact ⟨i + 1, by simp; first | done | rfl | omega, by omega, by rw [← HX.out, HV.out]; rfl, rfl⟩
         case measure => omega
       | false =>
        cases t4 with
        | true =>
         go_wp2
         cases gk with
         | zero => omega
         | succ gg =>
          go_roundg gg
          case rel => exact ⟨i + 1, by simp; first | done | rfl | omega, by omega, by rw [← HX.out, HV.out]; rfl, rfl⟩
          case measure => omega
        | false =>
         cases t7 with
         | true =>
          have HE : Hid (R = false) := Lib.hid (by rw [HI3.out, ← HX.out, HV.out]; rfl)
          go_wp2
          go_ret
          exact ⟨ret_bool HE.out.symm, hB⟩
         | false =>
          cases t5 with
          | true =>
           have HE : Hid (R = false) := Lib.hid (by rw [HI3.out, ← HX.out, HV.out]; rfl)
           go_wp2
           go_ret
           exact ⟨ret_bool HE.out.symm, hB⟩
          | false =>
           cases t6 with
           | true =>
            have HE : Hid (R = false) := Lib.hid (by rw [HI3.out, ← HX.out, HV.out]; rfl)
            go_wp2
            go_ret
            exact ⟨ret_bool HE.out.symm, hB⟩
           | false =>
            go_wp2
            cases gk with
            | zero => omega
            | succ gg =>
             go_roundg gg
             case rel => exact ⟨i + 1, by simp; first | done | rfl | omega, by omega, by rw [← HX.out, HV.out]; rfl, rfl⟩
             case measure => omega
     | true =>
      cases t1 with
      | true =>
       go_wp2
       cases gk with
       | zero => omega
       | succ gg =>
        go_roundg gg
        case rel => exact ⟨i + 1, by simp; first | done | rfl | omega, by omega, by rw [← HX.out, HV.out]; rfl, rfl⟩
        case measure => omega
      | false =>
       cases t2 with
       | false =>
        cases t4 with
        | true =>
         go_wp2
         cases gk with
         | zero => omega
         | succ gg =>
          go_roundg gg
          case rel => exact ⟨i + 1, by simp; first | done | rfl | omega, by omega, by rw [← HX.out, HV.out]; rfl, rfl⟩
          case measure => omega
        | false =>
         cases t7 with
         | true =>
          have HE : Hid (R = false) := Lib.hid (by rw [HI3.out, ← HX.out, HV.out]; rfl)
          go_wp2
          go_ret
          exact ⟨ret_bool HE.out.symm, hB⟩
         | false =>
          cases t5 with
          | true =>
           have HE : Hid (R = false) := Lib.hid (by rw [HI3.out, ← HX.out, HV.out]; rfl)
           go_wp2
           go_ret
           exact ⟨ret_bool HE.out.symm, hB⟩
          | false =>
           cases t6 with
           | true =>
            have HE : Hid (R = false) := Lib.hid (by rw [HI3.out, ← HX.out, HV.out]; rfl)
            go_wp2
            go_ret
            exact ⟨ret_bool HE.out.symm, hB⟩
           | false =>
            go_wp2
            cases gk with
            | zero => omega
            | succ gg =>
             go_roundg gg
             case rel => exact ⟨i + 1, by simp; first | done | rfl | omega, by omega, by rw [← HX.out, HV.out]; rfl, rfl⟩
             case measure => omega
       | true =>
        cases t3 with
        | true =>
         go_wp2
         cases gk with
         | zero => omega
         | succ gg =>
          go_roundg gg
          case rel => exact ⟨i + 1, by simp; first | done | rfl | omega, by omega, by rw [← HX.out, HV.out]; rfl, rfl⟩
          case measure => omega
        | false =>
         cases t4 with
         | true =>
          go_wp2
          cases gk with
          | zero => omega
          | succ gg =>
           go_roundg gg
           case rel => exact ⟨i + 1, by simp; first | done | rfl | omega, by omega, by rw [← HX.out, HV.out]; rfl, rfl⟩
           case measure => omega
         | false =>
          cases t7 with
          | true =>
           have HE : Hid (R = false) := Lib.hid (by rw [HI3.out, ← HX.out, HV.out]; rfl)
           go_wp2
           go_ret
           exact ⟨ret_bool HE.out.symm, hB⟩
          | false =>
           cases t5 with
           | true =>
            have HE : Hid (R = false) := Lib.hid (by rw [HI3.out, ← HX.out, HV.out]; rfl)
            go_wp2
            go_ret
            exact ⟨ret_bool HE.out.symm, hB⟩
           | false =>
            cases t6 with
            | true =>
             have HE : Hid (R = false) := Lib.hid (by rw [HI3.out, ← HX.out, HV.out]; rfl)
             go_wp2
             go_ret
             exact ⟨ret_bool HE.out.symm, hB⟩
            | false =>
             go_wp2
             cases gk with
             | zero => omega
             | succ gg =>
              go_roundg gg
              case rel => exact ⟨i + 1, by simp; first | done | rfl | omega, by omega, by rw [← HX.out, HV.out]; rfl, rfl⟩
              case measure => omega
    ·have d1 : decide (i < s.length) = false := by simpa using hlt
     have d2 : decide ((i : Int) < (s.length : Int)) = false := by rw [decide_eq_false_iff_not]; omega
     have HE : Hid (R2 = true) := Lib.hid (by rw [← HD.out, List.drop_eq_nil_of_le (by omega)]; rfl)
     have HF : Hid (R = (q1 && q2)) := Lib.hid (by rw [HI3.out, HE.out]; rfl)
     cases q1
     all_goals
      go_wp2
      go_ret
      exact ⟨ret_bool (by rw [HF.out]; rfl), hB⟩
end Go.Proofs.YtiipjbafdhijlaaGreatDoor
namespace Go.Proofs.YtiipjbafdhijlaaGreatDoor
open Go Go.RowKit
set_option linter.unusedVariables false
set_option linter.unusedSimpArgs false
open Go.Sort
theorem valB_num (op wd : Int) (v : Nat) (hv : v < 18446744073709551616) : valB op wd v = numB op wd v := by
 unfold valB numB
 by_cases h : op = 1
 ·rw [if_pos h, if_pos h]
  unfold holdsI
  by_cases h0 : wd = 0
  ·subst h0; simp
  ·have e0 : (wd == 0) = false := by rw [beq_eq_false_iff_ne]; exact h0
   rw [e0, Bool.false_or, Bool.false_or]
   by_cases h1 : 0 ≤ wd
   ·by_cases h2 : wd ≤ 64
    ·have e1 : decide (0 ≤ wd) = true := by simpa using h1
     have e2 : decide (wd ≤ 64) = true := by simpa using h2
     have e3 : decide (1 ≤ wd) = true := by rw [decide_eq_true_eq]; omega
     rw [e1, e2, e3]
     by_cases h3 : wd = 64
     ·subst h3
      simp [hv]
     ·have e4 : (wd == 64) = false := by rw [beq_eq_false_iff_ne]; exact h3
      rw [e4]; simp
    ·have e2 : decide (wd ≤ 64) = false := by simpa using h2
     rw [e2]; simp
   ·have e1 : decide (0 ≤ wd) = false := by simpa using h1
    have e3 : decide (1 ≤ wd) = false := by rw [decide_eq_false_iff_not]; omega
    rw [e1, e3]; simp
 ·rw [if_neg h, if_neg h]
theorem mayX_ref (op : Int) (nm : Bytes) (xn wd : Int) (v : Nat) (xa : Option Addr) (xc : Nat) (xl : List XT) (hv : v < 18446744073709551616) :
  mayX (.mk op nm xn wd v xa xc xl) = (!(namB op != (nm != [])) && (!(namB op && !isNameB nm) && (partsB op xl.length && (numerB op xn && (valB op wd v && xl.all mayX))))) := by
 rw [mayX, mayXL_all, valB_num op wd v hv]
 cases hb : amongB op 11 with
 | false =>
  have h9 : partsB op xl.length = false := by
   have h1 : ¬ (1 ≤ op ∧ op < 11) := by
    intro h; unfold amongB at hb
    rw [decide_eq_true h.1, decide_eq_true h.2] at hb; cases hb
   unfold partsB
   rw [if_neg (by omega), if_neg (by omega), if_neg (by omega), if_neg (by omega), if_neg (by omega)]
  rw [h9]; simp
 | true =>
  have hr : 1 ≤ op ∧ op < 11 := by unfold amongB at hb; simpa using hb
  have hn0 : nameB nm false = (nm == []) := by unfold nameB; cases nm <;> rfl
  have hn1 : nameB nm true = isNameB nm := rfl
  have hn2 : (nm != []) = !(nm == []) := rfl
  have hn3 : (nm == []) = true → isNameB nm = false := by intro h; rw [eq_of_beq h]; rfl
  obtain ⟨k, rfl⟩ : ∃ k : Nat, op = (k : Int) := ⟨op.toNat, by omega⟩
  rw [Int.toNat_natCast, hn2]
  generalize numB (k : Int) wd v = NB
  generalize xl.all mayX = ALL
  generalize (xl.length : Int) = len
  have hk1 : 1 ≤ k := by omega
  have hk2 : k < 11 := by omega
  have cases10 : k = 1 ∨ k = 2 ∨ k = 3 ∨ k = 4 ∨ k = 5 ∨ k = 6 ∨ k = 7 ∨ k = 8 ∨ k = 9 ∨ k = 10 := by omega
  rcases cases10 with h | h | h | h | h | h | h | h | h | h
  all_goals
   subst h
   simp only [kx, namB, partsB, numerB, countB]
   first | rw [hn1] | rw [hn0]
   revert hn3
   generalize isNameB nm = I
   generalize (nm == []) = E
   intro hn3
   cases I <;> cases E <;> simp_all <;> (try simp [Int.le_antisymm_iff]) <;> grind
set_option maxHeartbeats 2000000 in
set_option maxRecDepth 100000 in
theorem refvalue_any (op : Int) (nm : Bytes) (xn wd : Int) (v : Nat) (xa : Option Addr) (xc : Nat) (xl : List XT) (hv : v < 18446744073709551616) (w : World) : Calls Tryz.prog 124 #[.agg #[.int .i64 op, .string (bs nm), .int .i64 xn, .int .i64 wd, .int .u64 (v : Int), .slice xa xl.length xc]] w fun e w' => e = .returned (.bool (valB op wd v)) ∧ Below w.heap.size w w' := by
 have HB : Below w.heap.size w (w.alloc (.cells #[.int .i64 op, .string (bs nm), .int .i64 xn, .int .i64 wd, .int .u64 (v : Int), .slice xa xl.length xc] 54)) := (Below.refl _ _).alloc (Nat.le_refl _) _
 have HI : Hid (valB op wd v = if op = 1 then decide (0 ≤ wd) && (decide (wd ≤ 64) && ((wd == 0) || ((wd == 64) || decide (v < 2 ^ wd.toNat)))) else (wd == 0) && ((v : Int) == 0)) := Lib.hid rfl
 generalize valB op wd v = R at *
 by_cases h1 : op = 1
 ·subst h1
  replace HI : Hid (R = (decide (0 ≤ wd) && (decide (wd ≤ 64) && ((wd == 0) || ((wd == 64) || decide (v < 2 ^ wd.toNat)))))) := Lib.hid (by rw [HI.out, if_pos rfl])
  by_cases h2 : 0 ≤ wd
  ·have d2 : decide (0 ≤ wd) = true := by simpa using h2
   by_cases h3 : wd ≤ 64
   ·have d3 : decide (wd ≤ 64) = true := by simpa using h3
    by_cases h4 : wd = 0
    ·subst h4
     have HE : Hid (R = true) := Lib.hid (by rw [HI.out, d3]; rfl)
     go_enter Tryz.func124, Tryz.ntmps124
     go_wp2
     go_ret
     exact ⟨ret_b HE.out.symm, HB⟩
    ·have d4 : (wd == 0) = false := by rw [beq_eq_false_iff_ne]; exact h4
     by_cases h5 : wd = 64
     ·subst h5
      have HE : Hid (R = true) := Lib.hid (by rw [HI.out]; rfl)
      go_enter Tryz.func124, Tryz.ntmps124
      go_wp2
      go_ret
      exact ⟨ret_b HE.out.symm, HB⟩
     ·have d5 : (wd == 64) = false := by rw [beq_eq_false_iff_ne]; exact h5
      have HE : Hid (R = decide (v < 2 ^ wd.toNat)) := Lib.hid (by rw [HI.out, d2, d3, d4, d5]; rfl)
      obtain ⟨n, rfl⟩ : ∃ n : Nat, wd = n := ⟨wd.toNat, by omega⟩
      have wu : IntKind.u64.wrap (n : Int) = n := by rw [IntKind.wrap_u64]; omega
      go_enter Tryz.func124, Tryz.ntmps124
      go_wp2
      go_ret
      refine ⟨ret_b ?_, HB⟩
      rw [HE.out, Int.toNat_natCast, Bool.eq_iff_iff, beq_iff_eq, decide_eq_true_eq]
      have e : (v : Int) / 2 ^ n = ((v / 2 ^ n : Nat) : Int) := by rw [Int.natCast_ediv, Int.natCast_pow]; rfl
      rw [e]
      have := Nat.div_eq_zero_iff_lt (x := v) (Nat.two_pow_pos n)
      omega
   ·have d3 : decide (wd ≤ 64) = false := by simpa using h3
    have HE : Hid (R = false) := Lib.hid (by rw [HI.out, d2, d3]; rfl)
    go_enter Tryz.func124, Tryz.ntmps124
    go_wp2
    go_ret
    exact ⟨ret_b HE.out.symm, HB⟩
  ·have d2 : decide (0 ≤ wd) = false := by simpa using h2
   have HE : Hid (R = false) := Lib.hid (by rw [HI.out, d2]; rfl)
   go_enter Tryz.func124, Tryz.ntmps124
   go_wp2
   go_ret
   exact ⟨ret_b HE.out.symm, HB⟩
 ·have d1 : (op != 1) = true := by simpa using h1
  obtain ⟨b1, hb1⟩ : ∃ b, (wd == 0) = b := ⟨_, rfl⟩
  obtain ⟨b2, hb2⟩ : ∃ b, ((v : Int) == 0) = b := ⟨_, rfl⟩
  have HE : Hid (R = (b1 && b2)) := Lib.hid (by rw [HI.out, if_neg h1, hb1, hb2])
  cases b1
  all_goals
   go_enter Tryz.func124, Tryz.ntmps124
   go_wp2
   go_ret
   exact ⟨ret_b (by rw [HE.out]; rfl), HB⟩
set_option maxHeartbeats 8000000 in
set_option maxRecDepth 100000 in
theorem refmayL_of (p : XT → Bool) (n0 : Nat) (l : List XT) (hll : l.length ≤ 12000000) (hc : ∀ x ∈ l, ∀ w, n0 ≤ w.heap.size → x.In n0 w → Calls Tryz.prog 94 #[x.val] w fun e w' => e = .returned (.bool (p x)) ∧ Below w.heap.size w w') (a : Option Addr) (c : Nat) (w : World) (hn0 : n0 ≤ w.heap.size) (hin : InRow 6 XT.cells (XT.In n0 w) n0 w l a) : Calls Tryz.prog 125 #[.slice a l.length c] w fun e w' => e = .returned (.bool (l.all p)) ∧ Below w.heap.size w w' := by
 go_enter Tryz.func125, Tryz.ntmps125
 go_wp2
 go_loopw [3] (fun u wr => ∃ k : Nat, u = .int .i64 k ∧ k ≤ l.length ∧ (l.take k).all p = true ∧ Below w.heap.size w wr) (fun u _ => l.length - (intOf u).toNat)
 case atStart => exact ⟨0, rfl, Nat.zero_le _, rfl, Below.refl _ _⟩
 case round =>
  obtain ⟨k, rfl, hk, hal, hb0⟩ := hrel
  have HA := Lib.hid hal
  clear hal
  by_cases hlt : k < l.length
  ·have d1 : decide (k < l.length) = true := by simpa using hlt
   have d2 : decide ((k : Int) < (l.length : Int)) = true := by rw [decide_eq_true_eq]; omega
   have x1 : (k : Int) < (l.length : Int) := by omega
   obtain ⟨b, o, rfl, hb, hr, hx⟩ := hin.kept (Below.keptTo hb0 hn0) hlt
   have HT := Lib.hid (all_take p l k hlt)
   have HS := Lib.hid (all_stop p l k hlt)
   have hcx := hc l[k] (List.getElem_mem hlt)
   have hxin := hx.keep (Below.keptTo hb0 hn0)
   have zz := hb0.size
   have c0 := hcx wr (by omega) hxin
   generalize p l[k] = bp at *
   generalize hgx : l[k] = x at *
   obtain ⟨op, nm, xn, wd, v, xa, xc, xl⟩ := x
   have r0 : wr.cell? ⟨b, o + k * 6, none⟩ = some (.int .i64 op) := hr 0 _ rfl
   have r1 : wr.cell? ⟨b, o + k * 6 + 1, none⟩ = some (.string (bs nm)) := hr 1 _ rfl
   have r2 : wr.cell? ⟨b, o + k * 6 + 2, none⟩ = some (.int .i64 xn) := hr 2 _ rfl
   have r3 : wr.cell? ⟨b, o + k * 6 + 3, none⟩ = some (.int .i64 wd) := hr 3 _ rfl
   have r4 : wr.cell? ⟨b, o + k * 6 + 4, none⟩ = some (.int .u64 (v : Int)) := hr 4 _ rfl
   have r5 : wr.cell? ⟨b, o + k * 6 + 5, none⟩ = some (.slice xa xl.length xc) := hr 5 _ rfl
   simp only [XT.val, XT.cells] at c0
   clear hin hc hcx hr hx hxin hgx
   cases bp with
   | true =>
    clear HS
    go_wp2_with fail
    refine c0.mono ?_
    clear c0
    rintro e W1 ⟨rfl, hb1⟩
    have hb2 := hb0.trans (hb1.mono zz)
    go_wp2
    go_roundw
    case rel => exact ⟨k + 1, by simp; first | done | rfl | omega, by omega, by rw [HT.out, HA.out]; rfl, hb2⟩
    case measure => simp [intOf]; omega
   | false =>
    have HE : Hid (l.all p = false) := Lib.hid (HS.out rfl)
    clear HS HT
    go_wp2_with fail
    refine c0.mono ?_
    clear c0
    rintro e W1 ⟨rfl, hb1⟩
    have hb2 := hb0.trans (hb1.mono zz)
    go_wp2
    go_ret
    exact ⟨by rw [HE.out]; rfl, hb2⟩
  ·have d1 : decide (k < l.length) = false := by simpa using hlt
   have d2 : decide ((k : Int) < (l.length : Int)) = false := by rw [decide_eq_false_iff_not]; omega
   have hkl : k = l.length := by omega
   have HE : Hid (l.all p = true) := Lib.hid (by have := HA.out; rw [hkl, List.take_length] at this; exact this)
   clear hkl
   go_wp2
   go_ret
   exact ⟨by rw [HE.out]; rfl, hb0⟩
set_option maxHeartbeats 16000000 in
set_option maxRecDepth 100000 in
theorem refmayX_any : ∀ x : XT, x.bk ≤ 4500000 → x.Wf → ∀ (n0 : Nat) (w : World), n0 ≤ w.heap.size → x.In n0 w → Calls Tryz.prog 94 #[x.val] w fun e w' => e = .returned (.bool (mayX x)) ∧ Below w.heap.size w w' := by
 refine XT.ind ?_
 intro op nm xn wd v xa xc xl ih hbk hwf n0 w hn0 hin
 rw [XT.In_mk] at hin
 rw [XT.wf_mk] at hwf
 obtain ⟨hv, hwl⟩ := hwf
 simp only [XT.bk] at hbk
 have hlen := XT.bkL_len xl
 have HI : Hid (mayX (.mk op nm xn wd v xa xc xl) = (!(namB op != (nm != [])) && (!(namB op && !isNameB nm) && (partsB op xl.length && (numerB op xn && (valB op wd v && xl.all mayX)))))) := Lib.hid (mayX_ref op nm xn wd v xa xc xl hv)
 generalize mayX (.mk op nm xn wd v xa xc xl) = R at *
 have HN1 := Lib.hid (fun w => refnamed_any op w)
 have HN2 := Lib.hid (fun w => refname_any nm (by omega) w)
 have HN3 := Lib.hid (fun w => refparts_any op (xl.length : Int) w)
 have HN4 := Lib.hid (fun w => refnumber_any op xn w)
 have HN5 := Lib.hid (fun w => refvalue_any op nm xn wd v xa xc xl hv w)
 have HL := Lib.hid (fun (w' : World) h1 h2 => refmayL_of mayX n0 xl (by omega) (fun y hy w2 g1 g2 => ih y hy (by have := XT.bkL_mem hy; omega) (hwl y hy) n0 w2 g1 g2) xa xc w' h1 h2)
 clear ih hbk hv hwl hlen
 generalize namB op = nb at *
 obtain ⟨ne, hne⟩ : ∃ b, (nm != []) = b := ⟨_, rfl⟩
 have hne2 : (nm == []) = !ne := by rw [← hne, bne, Bool.not_not]
 generalize isNameB nm = nk at *
 generalize partsB op xl.length = pb at *
 generalize numerB op xn = ub at *
 generalize valB op wd v = vb at *
 generalize xl.all mayX = al at *
 rw [hne] at HI
 simp only [XT.val, XT.cells]
 have BX := World.alloc_heap_new w (.cells #[.int .i64 op, .string (bs nm), .int .i64 xn, .int .i64 wd, .int .u64 (v : Int), .slice xa xl.length xc] 54)
 have hB : Below w.heap.size w (w.alloc (.cells #[.int .i64 op, .string (bs nm), .int .i64 xn, .int .i64 wd, .int .u64 (v : Int), .slice xa xl.length xc] 54)) := (Below.refl _ _).alloc (Nat.le_refl _) _
 have hin1 := hin.keep (Below.keptTo hB hn0) (fun x _ => XT.In.keep (Below.keptTo hB hn0) x)
 have hn1 := Nat.le_trans hn0 hB.size
 clear hin hn0
 go_enter Tryz.func94, Tryz.ntmps94
 go_upto_region 1 with (fail)
 generalize w.alloc (.cells #[.int .i64 op, .string (bs nm), .int .i64 xn, .int .i64 wd, .int .u64 (v : Int), .slice xa xl.length xc] 54) = w1 at *
 cases nb with
 | true =>
  cases ne with
  | false =>
   obtain ⟨q0, q1, q2, q3, q4, q5⟩ := open6 BX
   go_wp2_with fail
   have q0R := cell_regrown q0
   have q1R := cell_regrown q1
   have q2R := cell_regrown q2
   have q3R := cell_regrown q3
   have q4R := cell_regrown q4
   have q5R := cell_regrown q5
   refine wp_region_quiet_below (by kernel_rfl) (by kernel_rfl) ?_
   repeat (go_big_quiet_step (first | (go_at_call 121; exact regrown_same (HN1.out _)) | (go_at_call 93; exact Calls.regrown_of (HN2.out _)) | (go_at_call 122; exact regrown_same (HN3.out _)) | (go_at_call 123; exact regrown_same (HN4.out _)) | (go_at_call 124; exact Calls.regrown_of (HN5.out _))))
   refine wpQuiet_nil ?_
   intro _ hw'
   obtain ⟨⟨dq, osq⟩, hw''⟩ := hw'
   subst hw''
   have hB3 := hB.trans ((below_regrown w1 dq osq).mono hB.size)
   have hk9 := Below.keptTo (below_regrown w1 dq osq) hn1
   clear q0R q1R q2R q3R q4R q5R
   generalize grow (redrawn w1 dq) osq = w3 at *
   go_wp2
   go_ret
   exact ⟨ret_b (by rw [HI.out]; rfl), hB3⟩
  | true =>
   cases nk with
   | false =>
    obtain ⟨q0, q1, q2, q3, q4, q5⟩ := open6 BX
    go_wp2_with fail
    have q0R := cell_regrown q0
    have q1R := cell_regrown q1
    have q2R := cell_regrown q2
    have q3R := cell_regrown q3
    have q4R := cell_regrown q4
    have q5R := cell_regrown q5
    refine wp_region_quiet_below (by kernel_rfl) (by kernel_rfl) ?_
    repeat (go_big_quiet_step (first | (go_at_call 121; exact regrown_same (HN1.out _)) | (go_at_call 93; exact Calls.regrown_of (HN2.out _)) | (go_at_call 122; exact regrown_same (HN3.out _)) | (go_at_call 123; exact regrown_same (HN4.out _)) | (go_at_call 124; exact Calls.regrown_of (HN5.out _))))
    refine wpQuiet_nil ?_
    intro _ hw'
    obtain ⟨⟨dq, osq⟩, hw''⟩ := hw'
    subst hw''
    have hB3 := hB.trans ((below_regrown w1 dq osq).mono hB.size)
    have hk9 := Below.keptTo (below_regrown w1 dq osq) hn1
    clear q0R q1R q2R q3R q4R q5R
    generalize grow (redrawn w1 dq) osq = w3 at *
    go_wp2
    go_ret
    exact ⟨ret_b (by rw [HI.out]; rfl), hB3⟩
   | true =>
    cases pb with
    | false =>
     obtain ⟨q0, q1, q2, q3, q4, q5⟩ := open6 BX
     go_wp2_with fail
     have q0R := cell_regrown q0
     have q1R := cell_regrown q1
     have q2R := cell_regrown q2
     have q3R := cell_regrown q3
     have q4R := cell_regrown q4
     have q5R := cell_regrown q5
     refine wp_region_quiet_below (by kernel_rfl) (by kernel_rfl) ?_
     repeat (go_big_quiet_step (first | (go_at_call 121; exact regrown_same (HN1.out _)) | (go_at_call 93; exact Calls.regrown_of (HN2.out _)) | (go_at_call 122; exact regrown_same (HN3.out _)) | (go_at_call 123; exact regrown_same (HN4.out _)) | (go_at_call 124; exact Calls.regrown_of (HN5.out _))))
     refine wpQuiet_nil ?_
     intro _ hw'
     obtain ⟨⟨dq, osq⟩, hw''⟩ := hw'
     subst hw''
     have hB3 := hB.trans ((below_regrown w1 dq osq).mono hB.size)
     have hk9 := Below.keptTo (below_regrown w1 dq osq) hn1
     clear q0R q1R q2R q3R q4R q5R
     generalize grow (redrawn w1 dq) osq = w3 at *
     go_wp2
     go_ret
     exact ⟨ret_b (by rw [HI.out]; rfl), hB3⟩
    | true =>
     cases ub with
     | false =>
      obtain ⟨q0, q1, q2, q3, q4, q5⟩ := open6 BX
      go_wp2_with fail
      have q0R := cell_regrown q0
      have q1R := cell_regrown q1
      have q2R := cell_regrown q2
      have q3R := cell_regrown q3
      have q4R := cell_regrown q4
      have q5R := cell_regrown q5
      refine wp_region_quiet_below (by kernel_rfl) (by kernel_rfl) ?_
      repeat (go_big_quiet_step (first | (go_at_call 121; exact regrown_same (HN1.out _)) | (go_at_call 93; exact Calls.regrown_of (HN2.out _)) | (go_at_call 122; exact regrown_same (HN3.out _)) | (go_at_call 123; exact regrown_same (HN4.out _)) | (go_at_call 124; exact Calls.regrown_of (HN5.out _))))
      refine wpQuiet_nil ?_
      intro _ hw'
      obtain ⟨⟨dq, osq⟩, hw''⟩ := hw'
      subst hw''
      have hB3 := hB.trans ((below_regrown w1 dq osq).mono hB.size)
      have hk9 := Below.keptTo (below_regrown w1 dq osq) hn1
      clear q0R q1R q2R q3R q4R q5R
      generalize grow (redrawn w1 dq) osq = w3 at *
      go_wp2
      go_ret
      exact ⟨ret_b (by rw [HI.out]; rfl), hB3⟩
     | true =>
      cases vb with
      | false =>
       obtain ⟨q0, q1, q2, q3, q4, q5⟩ := open6 BX
       go_wp2_with fail
       have q0R := cell_regrown q0
       have q1R := cell_regrown q1
       have q2R := cell_regrown q2
       have q3R := cell_regrown q3
       have q4R := cell_regrown q4
       have q5R := cell_regrown q5
       refine wp_region_quiet_below (by kernel_rfl) (by kernel_rfl) ?_
       repeat (go_big_quiet_step (first | (go_at_call 121; exact regrown_same (HN1.out _)) | (go_at_call 93; exact Calls.regrown_of (HN2.out _)) | (go_at_call 122; exact regrown_same (HN3.out _)) | (go_at_call 123; exact regrown_same (HN4.out _)) | (go_at_call 124; exact Calls.regrown_of (HN5.out _))))
       refine wpQuiet_nil ?_
       intro _ hw'
       obtain ⟨⟨dq, osq⟩, hw''⟩ := hw'
       subst hw''
       have hB3 := hB.trans ((below_regrown w1 dq osq).mono hB.size)
       have hk9 := Below.keptTo (below_regrown w1 dq osq) hn1
       clear q0R q1R q2R q3R q4R q5R
       generalize grow (redrawn w1 dq) osq = w3 at *
       go_wp2
       go_ret
       exact ⟨ret_b (by rw [HI.out]; rfl), hB3⟩
      | true =>
       obtain ⟨q0, q1, q2, q3, q4, q5⟩ := open6 BX
       go_wp2_with fail
       have q0R := cell_regrown q0
       have q1R := cell_regrown q1
       have q2R := cell_regrown q2
       have q3R := cell_regrown q3
       have q4R := cell_regrown q4
       have q5R := cell_regrown q5
       refine wp_region_quiet_below (by kernel_rfl) (by kernel_rfl) ?_
       repeat (go_big_quiet_step (first | (go_at_call 121; exact regrown_same (HN1.out _)) | (go_at_call 93; exact Calls.regrown_of (HN2.out _)) | (go_at_call 122; exact regrown_same (HN3.out _)) | (go_at_call 123; exact regrown_same (HN4.out _)) | (go_at_call 124; exact Calls.regrown_of (HN5.out _))))
       refine wpQuiet_nil ?_
       intro _ hw'
       obtain ⟨⟨dq, osq⟩, hw''⟩ := hw'
       subst hw''
       have hB3 := hB.trans ((below_regrown w1 dq osq).mono hB.size)
       have hk9 := Below.keptTo (below_regrown w1 dq osq) hn1
       have i3 := hin1.keep hk9 (fun x _ => XT.In.keep hk9 x)
       replace hn1 := Nat.le_trans hn1 (below_regrown w1 dq osq).size
       have z0 := q0R dq osq
       have z5 := q5R dq osq
       clear q0 q1 q2 q3 q4 q5 q0R q1R q2R q3R q4R q5R hk9 hin1 hB
       generalize grow (redrawn w1 dq) osq = w3 at *
       go_wp2_with fail
       refine (HL.out _ hn1 i3).mono ?_
       rintro e w4 ⟨rfl, hb⟩
       have hB4 := hB3.trans (hb.mono hB3.size)
       go_wp2
       go_ret
       exact ⟨ret_b (by rw [HI.out]; rfl), hB4⟩
 | false =>
  cases ne with
  | true =>
   obtain ⟨q0, q1, q2, q3, q4, q5⟩ := open6 BX
   go_wp2_with fail
   have q0R := cell_regrown q0
   have q1R := cell_regrown q1
   have q2R := cell_regrown q2
   have q3R := cell_regrown q3
   have q4R := cell_regrown q4
   have q5R := cell_regrown q5
   refine wp_region_quiet_below (by kernel_rfl) (by kernel_rfl) ?_
   repeat (go_big_quiet_step (first | (go_at_call 121; exact regrown_same (HN1.out _)) | (go_at_call 93; exact Calls.regrown_of (HN2.out _)) | (go_at_call 122; exact regrown_same (HN3.out _)) | (go_at_call 123; exact regrown_same (HN4.out _)) | (go_at_call 124; exact Calls.regrown_of (HN5.out _))))
   refine wpQuiet_nil ?_
   intro _ hw'
   obtain ⟨⟨dq, osq⟩, hw''⟩ := hw'
   subst hw''
   have hB3 := hB.trans ((below_regrown w1 dq osq).mono hB.size)
   have hk9 := Below.keptTo (below_regrown w1 dq osq) hn1
   clear q0R q1R q2R q3R q4R q5R
   generalize grow (redrawn w1 dq) osq = w3 at *
   go_wp2
   go_ret
   exact ⟨ret_b (by rw [HI.out]; rfl), hB3⟩
  | false =>
   cases pb with
   | false =>
    obtain ⟨q0, q1, q2, q3, q4, q5⟩ := open6 BX
    go_wp2_with fail
    have q0R := cell_regrown q0
    have q1R := cell_regrown q1
    have q2R := cell_regrown q2
    have q3R := cell_regrown q3
    have q4R := cell_regrown q4
    have q5R := cell_regrown q5
    refine wp_region_quiet_below (by kernel_rfl) (by kernel_rfl) ?_
    repeat (go_big_quiet_step (first | (go_at_call 121; exact regrown_same (HN1.out _)) | (go_at_call 93; exact Calls.regrown_of (HN2.out _)) | (go_at_call 122; exact regrown_same (HN3.out _)) | (go_at_call 123; exact regrown_same (HN4.out _)) | (go_at_call 124; exact Calls.regrown_of (HN5.out _))))
    refine wpQuiet_nil ?_
    intro _ hw'
    obtain ⟨⟨dq, osq⟩, hw''⟩ := hw'
    subst hw''
    have hB3 := hB.trans ((below_regrown w1 dq osq).mono hB.size)
    have hk9 := Below.keptTo (below_regrown w1 dq osq) hn1
    clear q0R q1R q2R q3R q4R q5R
    generalize grow (redrawn w1 dq) osq = w3 at *
    go_wp2
    go_ret
    exact ⟨ret_b (by rw [HI.out]; rfl), hB3⟩
   | true =>
    cases ub with
    | false =>
     obtain ⟨q0, q1, q2, q3, q4, q5⟩ := open6 BX
     go_wp2_with fail
     have q0R := cell_regrown q0
     have q1R := cell_regrown q1
     have q2R := cell_regrown q2
     have q3R := cell_regrown q3
     have q4R := cell_regrown q4
     have q5R := cell_regrown q5
     refine wp_region_quiet_below (by kernel_rfl) (by kernel_rfl) ?_
     repeat (go_big_quiet_step (first | (go_at_call 121; exact regrown_same (HN1.out _)) | (go_at_call 93; exact Calls.regrown_of (HN2.out _)) | (go_at_call 122; exact regrown_same (HN3.out _)) | (go_at_call 123; exact regrown_same (HN4.out _)) | (go_at_call 124; exact Calls.regrown_of (HN5.out _))))
     refine wpQuiet_nil ?_
     intro _ hw'
     obtain ⟨⟨dq, osq⟩, hw''⟩ := hw'
     subst hw''
     have hB3 := hB.trans ((below_regrown w1 dq osq).mono hB.size)
     have hk9 := Below.keptTo (below_regrown w1 dq osq) hn1
     clear q0R q1R q2R q3R q4R q5R
     generalize grow (redrawn w1 dq) osq = w3 at *
     go_wp2
     go_ret
     exact ⟨ret_b (by rw [HI.out]; rfl), hB3⟩
    | true =>
     cases vb with
     | false =>
      obtain ⟨q0, q1, q2, q3, q4, q5⟩ := open6 BX
      go_wp2_with fail
      have q0R := cell_regrown q0
      have q1R := cell_regrown q1
      have q2R := cell_regrown q2
      have q3R := cell_regrown q3
      have q4R := cell_regrown q4
      have q5R := cell_regrown q5
      refine wp_region_quiet_below (by kernel_rfl) (by kernel_rfl) ?_
      repeat (go_big_quiet_step (first | (go_at_call 121; exact regrown_same (HN1.out _)) | (go_at_call 93; exact Calls.regrown_of (HN2.out _)) | (go_at_call 122; exact regrown_same (HN3.out _)) | (go_at_call 123; exact regrown_same (HN4.out _)) | (go_at_call 124; exact Calls.regrown_of (HN5.out _))))
      refine wpQuiet_nil ?_
      intro _ hw'
      obtain ⟨⟨dq, osq⟩, hw''⟩ := hw'
      subst hw''
      have hB3 := hB.trans ((below_regrown w1 dq osq).mono hB.size)
      have hk9 := Below.keptTo (below_regrown w1 dq osq) hn1
      clear q0R q1R q2R q3R q4R q5R
      generalize grow (redrawn w1 dq) osq = w3 at *
      go_wp2
      go_ret
      exact ⟨ret_b (by rw [HI.out]; rfl), hB3⟩
     | true =>
      obtain ⟨q0, q1, q2, q3, q4, q5⟩ := open6 BX
      go_wp2_with fail
      have q0R := cell_regrown q0
      have q1R := cell_regrown q1
      have q2R := cell_regrown q2
      have q3R := cell_regrown q3
      have q4R := cell_regrown q4
      have q5R := cell_regrown q5
      refine wp_region_quiet_below (by kernel_rfl) (by kernel_rfl) ?_
      repeat (go_big_quiet_step (first | (go_at_call 121; exact regrown_same (HN1.out _)) | (go_at_call 93; exact Calls.regrown_of (HN2.out _)) | (go_at_call 122; exact regrown_same (HN3.out _)) | (go_at_call 123; exact regrown_same (HN4.out _)) | (go_at_call 124; exact Calls.regrown_of (HN5.out _))))
      refine wpQuiet_nil ?_
      intro _ hw'
      obtain ⟨⟨dq, osq⟩, hw''⟩ := hw'
      subst hw''
      have hB3 := hB.trans ((below_regrown w1 dq osq).mono hB.size)
      have hk9 := Below.keptTo (below_regrown w1 dq osq) hn1
      have i3 := hin1.keep hk9 (fun x _ => XT.In.keep hk9 x)
      replace hn1 := Nat.le_trans hn1 (below_regrown w1 dq osq).size
      have z0 := q0R dq osq
      have z5 := q5R dq osq
      clear q0 q1 q2 q3 q4 q5 q0R q1R q2R q3R q4R q5R hk9 hin1 hB
      generalize grow (redrawn w1 dq) osq = w3 at *
      go_wp2_with fail
      refine (HL.out _ hn1 i3).mono ?_
      rintro e w4 ⟨rfl, hb⟩
      have hB4 := hB3.trans (hb.mono hB3.size)
      go_wp2
      go_ret
      exact ⟨ret_b (by rw [HI.out]; rfl), hB4⟩
end Go.Proofs.YtiipjbafdhijlaaGreatDoor
namespace Go.Proofs.YtiipjbafdhijlaaGreatDoor
open Go Go.RowKit
set_option linter.unusedVariables false
set_option linter.unusedSimpArgs false
open Go.Sort
def targR : List XT → Bool
 | [] => false
 | x :: _ => namB x.op
def armB (last : Bool) (x : ST) : Bool := (x.op == 4) && ((x.nm == []) && ((x.xl.isEmpty == last) && (x.xl.all mayX && x.sl.all standS)))
def armsB : List ST → Bool
 | [] => true
 | x :: r => armB r.isEmpty x && armsB r
def opAt (l : List ST) (i : Nat) : Int := match l[i]? with | none => 0 | some x => x.op
def msB (op : Int) (nm : Bytes) (xl : List XT) (sl : List ST) : Bool :=
 xl.all mayX && (!((op == 6) != (nm != [])) && (!((op == 6) && !isNameB nm) &&
  (if op = 1 then ((xl.length : Int) == 2) && (targR xl && ((sl.length : Int) == 0))
   else if op = 2 then ((xl.length : Int) == 1) && (((sl.length : Int) == 2) && ((opAt sl 0 == 5) && (((opAt sl 1 == 5) || (opAt sl 1 == 2)) && sl.all standS)))
   else if op = 3 then ((xl.length : Int) == 1) && (armsB sl && decide (1 ≤ (sl.length : Int)))
   else if op = 5 then ((xl.length : Int) == 0) && sl.all standS
   else if op = 6 then ((xl.length : Int) == 2) && sl.all standS
   else false)))
theorem hasB_nam (op : Int) : hasB op = namB op := by
 unfold hasB
 cases hb : amongB op 11 with
 | false =>
  have h1 : ¬ (1 ≤ op ∧ op < 11) := by
   intro h; unfold amongB at hb
   rw [decide_eq_true h.1, decide_eq_true h.2] at hb; cases hb
  have e2 : (op == 2) = false := by rw [beq_eq_false_iff_ne]; omega
  have e3 : (op == 3) = false := by rw [beq_eq_false_iff_ne]; omega
  have e4 : (op == 4) = false := by rw [beq_eq_false_iff_ne]; omega
  unfold namB
  rw [e2, e3, e4]; rfl
 | true =>
  have hr : 1 ≤ op ∧ op < 11 := by unfold amongB at hb; simpa using hb
  obtain ⟨k, rfl⟩ : ∃ k : Nat, op = (k : Int) := ⟨op.toNat, by omega⟩
  have c10 : k = 1 ∨ k = 2 ∨ k = 3 ∨ k = 4 ∨ k = 5 ∨ k = 6 ∨ k = 7 ∨ k = 8 ∨ k = 9 ∨ k = 10 := by omega
  rcases c10 with h | h | h | h | h | h | h | h | h | h <;> subst h <;> rfl
theorem head_targ (xl : List XT) : headB true xl = targR xl := by
 cases xl with
 | nil => rfl
 | cons x r => show (!true || hasB x.op) = _; rw [hasB_nam]; rfl
theorem mayS_op6 {x : ST} (h : mayS x = true) : x.op = 1 ∨ x.op = 2 ∨ x.op = 3 ∨ x.op = 4 ∨ x.op = 5 ∨ x.op = 6 := by
 obtain ⟨op, nm, xa, xc, xl, sa, sc, sl⟩ := x
 rw [mayS, Bool.and_eq_true] at h
 have h1 := h.1
 unfold amongB at h1
 simp only [Bool.and_eq_true, decide_eq_true_eq] at h1
 simp only [ST.op]
 omega
theorem kind_is (x : ST) (K : Nat) (p : Int → Bool) (h : ∀ k : Nat, k = 1 ∨ k = 2 ∨ k = 3 ∨ k = 4 ∨ k = 5 ∨ k = 6 → (!(K &&& (1 <<< k) == 0)) = p (k : Int)) : (mayS x && !(K &&& (1 <<< x.op.toNat) == 0)) = (mayS x && p x.op) := by
 cases hm : mayS x with
 | false => rfl
 | true =>
  have h1 := mayS_op6 hm
  have h2 := h x.op.toNat (by omega)
  rw [h2, show ((x.op.toNat : Nat) : Int) = x.op by omega]
theorem kind110 (x : ST) : (mayS x && !(110 &&& (1 <<< x.op.toNat) == 0)) = standS x := by
 rw [kind_is x 110 (fun o => !(o == 4)) (by intro k h; rcases h with rfl | rfl | rfl | rfl | rfl | rfl <;> rfl)]
 unfold standS
 rw [Bool.and_comm]
theorem kinds110 : ∀ l : List ST, (l.all mayS && kindsK 110 110 l) = l.all standS
 | [] => rfl
 | x :: r => by
  have h1 := kind110 x
  have h2 := kinds110 r
  rw [List.all_cons, List.all_cons, kindsK, ← h1, ← h2]
  cases mayS x <;> cases (!(110 &&& (1 <<< x.op.toNat) == 0)) <;> cases r.all mayS <;> cases kindsK 110 110 r <;> rfl
theorem arm_is (x : ST) (last : Bool) : ((mayS x && !(16 &&& (1 <<< x.op.toNat) == 0)) && (last == x.xl.isEmpty)) = armB last x := by
 rw [kind_is x 16 (fun o => o == 4) (by intro k h; rcases h with rfl | rfl | rfl | rfl | rfl | rfl <;> rfl)]
 obtain ⟨op, nm, xa, xc, xl, sa, sc, sl⟩ := x
 unfold armB
 simp only [ST.op, ST.nm, ST.xl, ST.sl]
 by_cases h : op = 4
 ·subst h
  have hn0 : nameB nm false = (nm == []) := by unfold nameB; cases nm <;> rfl
  have hc1 : countB (xl.length : Int) 0 true = true := by
   unfold countB
   by_cases h0 : (xl.length : Int) = 0
   ·rw [h0]; rfl
   ·have : decide ((0 : Int) < xl.length) = true := by rw [decide_eq_true_eq]; omega
    rw [this]; simp
  have hc2 : countB (sl.length : Int) 0 true = true := by
   unfold countB
   by_cases h0 : (sl.length : Int) = 0
   ·rw [h0]; rfl
   ·have : decide ((0 : Int) < sl.length) = true := by rw [decide_eq_true_eq]; omega
    rw [this]; simp
  rw [mayS, maySL_all]
  have e : (4 : Int).toNat = 4 := rfl
  rw [e]
  simp only [ks]
  rw [hn0, hc1, hc2, ← kinds110 sl]
  have hh : headB false xl = true := rfl
  rw [hh]
  have ha : amongB 4 7 = true := rfl
  rw [ha, show ((4 : Int) == 3) = false from rfl, show ((4 : Int) == 4) = true from rfl, show (last == xl.isEmpty) = (xl.isEmpty == last) from Bool.beq_comm]
  cases (nm == []) <;> cases xl.all mayX <;> cases sl.all mayS <;> cases kindsK 110 110 sl <;> cases (xl.isEmpty == last) <;> rfl
 ·have e : (op == 4) = false := by rw [beq_eq_false_iff_ne]; exact h
  rw [e]; simp
theorem arms_are : ∀ l : List ST, ((l.all mayS && kindsK 16 16 l) && labelsK l) = armsB l
 | [] => rfl
 | x :: r => by
  have h1 := arm_is x r.isEmpty
  have h2 := arms_are r
  rw [List.all_cons, kindsK, labelsK, armsB, ← h1, ← h2]
  cases mayS x <;> cases (!(16 &&& (1 <<< x.op.toNat) == 0)) <;> cases r.all mayS <;> cases kindsK 16 16 r <;> cases labelsK r <;> cases (r.isEmpty == x.xl.isEmpty) <;> rfl
theorem pair_is (p q : ST) : (([p, q].all mayS) && kindsK 36 32 [p, q]) = ((p.op == 5) && (((q.op == 5) || (q.op == 2)) && [p, q].all standS)) := by
 have h1 := kind_is p 32 (fun o => o == 5) (by intro k h; rcases h with rfl | rfl | rfl | rfl | rfl | rfl <;> rfl)
 have h2 := kind_is q 36 (fun o => (o == 5) || (o == 2)) (by intro k h; rcases h with rfl | rfl | rfl | rfl | rfl | rfl <;> rfl)
 have e1 : ((p.op == 5) && standS p) = (mayS p && (p.op == 5)) := by
  unfold standS
  by_cases h : p.op = 5
  ·rw [h]; simp
  ·have : (p.op == 5) = false := by rw [beq_eq_false_iff_ne]; exact h
   rw [this]; simp
 have e2 : (((q.op == 5) || (q.op == 2)) && standS q) = (mayS q && ((q.op == 5) || (q.op == 2))) := by
  unfold standS
  by_cases h : q.op = 5
  ·rw [h]; simp
  ·by_cases h3 : q.op = 2
   ·rw [h3]; simp
   ·have a1 : (q.op == 5) = false := by rw [beq_eq_false_iff_ne]; exact h
    have a2 : (q.op == 2) = false := by rw [beq_eq_false_iff_ne]; exact h3
    rw [a1, a2]; simp
 have e3 : ((p.op == 5) && (((q.op == 5) || (q.op == 2)) && [p, q].all standS)) = (((p.op == 5) && standS p) && (((q.op == 5) || (q.op == 2)) && standS q)) := by
  simp only [List.all_cons, List.all_nil, Bool.and_true]
  cases (p.op == 5) <;> cases ((q.op == 5) || (q.op == 2)) <;> cases standS p <;> cases standS q <;> rfl
 rw [e3, e1, e2, ← h1, ← h2]
 simp only [List.all_cons, List.all_nil, kindsK, Bool.and_true]
 cases mayS p <;> cases mayS q <;> cases (!(32 &&& (1 <<< p.op.toNat) == 0)) <;> cases (!(36 &&& (1 <<< q.op.toNat) == 0)) <;> rfl
theorem stand_ref (op : Int) (nm : Bytes) (xa : Option Addr) (xc : Nat) (xl : List XT) (sa : Option Addr) (sc : Nat) (sl : List ST) : standS (.mk op nm xa xc xl sa sc sl) = msB op nm xl sl := by
 unfold standS
 rw [mayS, maySL_all]
 simp only [ST.op]
 have hn0 : nameB nm false = (nm == []) := by unfold nameB; cases nm <;> rfl
 have hn1 : nameB nm true = isNameB nm := rfl
 have hn2 : (nm != []) = !(nm == []) := rfl
 have hn3 : (nm == []) = true → isNameB nm = false := by intro h; rw [eq_of_beq h]; rfl
 cases hb : amongB op 7 with
 | false =>
  have h1 : ¬ (1 ≤ op ∧ op < 7) := by
   intro h; unfold amongB at hb
   rw [decide_eq_true h.1, decide_eq_true h.2] at hb; cases hb
  unfold msB
  rw [if_neg (by omega), if_neg (by omega), if_neg (by omega), if_neg (by omega), if_neg (by omega)]
  simp
 | true =>
  have hr : 1 ≤ op ∧ op < 7 := by unfold amongB at hb; simpa using hb
  have c6 : op = 1 ∨ op = 2 ∨ op = 3 ∨ op = 4 ∨ op = 5 ∨ op = 6 := by omega
  rcases c6 with h | h | h | h | h | h
  ·subst h
   unfold msB
   rw [if_pos rfl, show (1 : Int).toNat = 1 from rfl, hn2]
   simp only [ks]
   rw [head_targ, hn0, show ((1 : Int) == 6) = false from rfl, show ((1 : Int) == 4) = false from rfl, show ((1 : Int) == 3) = false from rfl]
   unfold countB
   cases sl with
   | nil =>
    simp only [List.length_nil, List.all_nil, kindsK]
    cases (nm == []) <;> cases ((xl.length : Int) == 2) <;> cases xl.all mayX <;> cases targR xl <;> rfl
   | cons y r =>
    have e : (((y :: r).length : Int) == 0) = false := by rw [beq_eq_false_iff_ne]; simp; omega
    rw [e]
    cases (nm == []) <;> cases ((xl.length : Int) == 2) <;> cases xl.all mayX <;> cases targR xl <;> simp
  ·subst h
   unfold msB
   rw [if_neg (by decide), if_pos rfl, show (2 : Int).toNat = 2 from rfl, hn2]
   simp only [ks]
   rw [hn0, show headB false xl = true from rfl, show ((2 : Int) == 6) = false from rfl, show ((2 : Int) == 4) = false from rfl, show ((2 : Int) == 3) = false from rfl]
   unfold countB
   match sl with
   | [] => simp
   | [y] => simp
   | [p, q] =>
    have h9 := pair_is p q
    have o0 : opAt [p, q] 0 = p.op := rfl
    have o1 : opAt [p, q] 1 = q.op := rfl
    rw [o0, o1, ← h9]
    have hl : (([p, q].length : Int) == 2) = true := rfl
    rw [hl]
    cases (nm == []) <;> cases ((xl.length : Int) == 1) <;> cases xl.all mayX <;> cases [p, q].all mayS <;> cases kindsK 36 32 [p, q] <;> rfl
   | p :: q :: y :: r =>
    have e : (((p :: q :: y :: r).length : Int) == 2) = false := by rw [beq_eq_false_iff_ne]; simp; omega
    rw [e]
    cases (nm == []) <;> cases ((xl.length : Int) == 1) <;> cases xl.all mayX <;> simp
  ·subst h
   unfold msB
   rw [if_neg (by decide), if_neg (by decide), if_pos rfl, show (3 : Int).toNat = 3 from rfl, hn2, ← arms_are sl]
   simp only [ks]
   rw [hn0, show headB false xl = true from rfl, show ((3 : Int) == 6) = false from rfl, show ((3 : Int) == 4) = false from rfl, show ((3 : Int) == 3) = true from rfl]
   have hc : countB (sl.length : Int) 1 true = decide (1 ≤ (sl.length : Int)) := by
    unfold countB
    by_cases h1 : (sl.length : Int) = 1
    ·rw [h1]; rfl
    ·have e1 : ((sl.length : Int) == 1) = false := by rw [beq_eq_false_iff_ne]; exact h1
     rw [e1, Bool.false_or, Bool.true_and]
     exact decide_eq_decide.2 (by omega)
   rw [hc]
   unfold countB
   cases (nm == []) <;> cases ((xl.length : Int) == 1) <;> cases xl.all mayX <;> cases sl.all mayS <;> cases kindsK 16 16 sl <;> cases labelsK sl <;> cases decide (1 ≤ (sl.length : Int)) <;> rfl
  ·subst h
   unfold msB
   rw [if_neg (by decide), if_neg (by decide), if_neg (by decide), if_neg (by decide), if_neg (by decide)]
   simp
  ·subst h
   unfold msB
   rw [if_neg (by decide), if_neg (by decide), if_neg (by decide), if_pos rfl, show (5 : Int).toNat = 5 from rfl, hn2, ← kinds110 sl]
   simp only [ks]
   rw [hn0, show headB false xl = true from rfl, show ((5 : Int) == 6) = false from rfl, show ((5 : Int) == 4) = false from rfl, show ((5 : Int) == 3) = false from rfl]
   have hc : countB (sl.length : Int) 0 true = true := by
    unfold countB
    by_cases h0 : (sl.length : Int) = 0
    ·rw [h0]; rfl
    ·have : decide ((0 : Int) < sl.length) = true := by rw [decide_eq_true_eq]; omega
     rw [this]; simp
   rw [hc]
   unfold countB
   cases (nm == []) <;> cases ((xl.length : Int) == 0) <;> cases xl.all mayX <;> cases sl.all mayS <;> cases kindsK 110 110 sl <;> rfl
  ·subst h
   unfold msB
   rw [if_neg (by decide), if_neg (by decide), if_neg (by decide), if_neg (by decide), if_pos rfl, show (6 : Int).toNat = 6 from rfl, hn2, ← kinds110 sl]
   simp only [ks]
   rw [hn1, show headB false xl = true from rfl, show ((6 : Int) == 6) = true from rfl, show ((6 : Int) == 4) = false from rfl, show ((6 : Int) == 3) = false from rfl]
   have hc : countB (sl.length : Int) 0 true = true := by
    unfold countB
    by_cases h0 : (sl.length : Int) = 0
    ·rw [h0]; rfl
    ·have : decide ((0 : Int) < sl.length) = true := by rw [decide_eq_true_eq]; omega
     rw [this]; simp
   rw [hc]
   unfold countB
   revert hn3
   generalize isNameB nm = N
   generalize (nm == []) = E
   intro hn3
   cases E
   ·cases N <;> cases ((xl.length : Int) == 2) <;> cases xl.all mayX <;> cases sl.all mayS <;> cases kindsK 110 110 sl <;> rfl
   ·have := hn3 rfl
    subst this
    cases ((xl.length : Int) == 2) <;> cases xl.all mayX <;> cases sl.all mayS <;> cases kindsK 110 110 sl <;> rfl
end Go.Proofs.YtiipjbafdhijlaaGreatDoor
namespace Go.Proofs.YtiipjbafdhijlaaGreatDoor
open Go Go.RowKit
set_option linter.unusedVariables false
set_option linter.unusedSimpArgs false
open Go.Sort
theorem refmayL_any (l : List XT) (hbk : XT.bkL l ≤ 4500000) (hwf : ∀ x ∈ l, x.Wf) (a : Option Addr) (c n0 : Nat) (w : World) (hn0 : n0 ≤ w.heap.size) (hin : InRow 6 XT.cells (XT.In n0 w) n0 w l a) : Calls Tryz.prog 125 #[.slice a l.length c] w fun e w' => e = .returned (.bool (l.all mayX)) ∧ Below w.heap.size w w' := by
 have hl := XT.bkL_len l
 exact refmayL_of mayX n0 l (by omega) (fun y hy w2 g1 g2 => refmayX_any y (by have := XT.bkL_mem hy; omega) (hwf y hy) n0 w2 g1 g2) a c w hn0 hin
set_option maxHeartbeats 2000000 in
theorem reftarget_any (l : List XT) (hl : l.length ≤ 12000000) (a : Option Addr) (c n0 : Nat) (w : World) (hin : InRow 6 XT.cells (XT.In n0 w) n0 w l a) : Calls Tryz.prog 149 #[.slice a l.length c] w fun e w' => e = .returned (.bool (targR l)) ∧ w = w' := by
 cases l with
 | nil =>
  go_enter Tryz.func149, Tryz.ntmps149
  go_wp2
  go_ret
  exact ⟨rfl, rfl⟩
 | cons x r =>
  obtain ⟨⟨b, o, rfl, hb, hr⟩, _, _⟩ := hin
  have d1 : decide ((0 : Int) < ((x :: r).length : Int)) = true := by rw [decide_eq_true_eq]; first | (simp; done) | (simp; omega)
  have d2 : (0 : Int) < ((x :: r).length : Int) := of_decide_eq_true d1
  obtain ⟨L, hL⟩ : ∃ L, (x :: r).length = L := ⟨_, rfl⟩
  rw [hL] at d1 d2 ⊢
  have d3 : 0 < L := by omega
  clear hL hl
  obtain ⟨op, nm, xn, wd, v, xa, xc, xl⟩ := x
  have HT : Hid (targR (XT.mk op nm xn wd v xa xc xl :: r) = namB op) := Lib.hid rfl
  have r0 : w.cell? ⟨b, o, none⟩ = some (.int .i64 op) := hr 0 _ rfl
  rw [HT.out]
  clear hr
  go_enter Tryz.func149, Tryz.ntmps149
  go_wp2_with fail
  refine (refnamed_any op _).mono ?_
  rintro e w1 ⟨rfl, rfl⟩
  go_wp2
  go_ret
  exact ⟨rfl, rfl⟩
set_option maxHeartbeats 8000000 in
set_option maxRecDepth 100000 in
theorem refMayAll_of (p : ST → Bool) (n0 : Nat) (l : List ST) (hll : l.length ≤ 12000000) (hc : ∀ x ∈ l, ∀ w, n0 ≤ w.heap.size → x.In n0 w → Calls Tryz.prog 162 #[x.val] w fun e w' => e = .returned (.bool (p x)) ∧ Below w.heap.size w w') (a : Option Addr) (c : Nat) (w : World) (hn0 : n0 ≤ w.heap.size) (hin : InRow 4 ST.cells (ST.In n0 w) n0 w l a) : Calls Tryz.prog 150 #[.slice a l.length c] w fun e w' => e = .returned (.bool (l.all p)) ∧ Below w.heap.size w w' := by
 go_enter Tryz.func150, Tryz.ntmps150
 go_wp2
 go_loopw [3] (fun u wr => ∃ k : Nat, u = .int .i64 k ∧ k ≤ l.length ∧ (l.take k).all p = true ∧ Below w.heap.size w wr) (fun u _ => l.length - (intOf u).toNat)
 case atStart => exact ⟨0, rfl, Nat.zero_le _, rfl, Below.refl _ _⟩
 case round =>
  obtain ⟨k, rfl, hk, hal, hb0⟩ := hrel
  have HA := Lib.hid hal
  clear hal
  by_cases hlt : k < l.length
  ·have d1 : decide (k < l.length) = true := by simpa using hlt
   have d2 : decide ((k : Int) < (l.length : Int)) = true := by rw [decide_eq_true_eq]; omega
   have x1 : (k : Int) < (l.length : Int) := by omega
   obtain ⟨b, o, rfl, hb, hr, hx⟩ := hin.kept (Below.keptTo hb0 hn0) hlt
   have HT := Lib.hid (all_take p l k hlt)
   have HS := Lib.hid (all_stop p l k hlt)
   have hcx := hc l[k] (List.getElem_mem hlt)
   have hxin := hx.keep (Below.keptTo hb0 hn0)
   have zz := hb0.size
   have c0 := hcx wr (by omega) hxin
   generalize p l[k] = bp at *
   generalize hgx : l[k] = x at *
   obtain ⟨op, nm, xa, xc, xl, sa, sc, sl⟩ := x
   have r0 : wr.cell? ⟨b, o + k * 4, none⟩ = some (.int .i64 op) := hr 0 _ rfl
   have r1 : wr.cell? ⟨b, o + k * 4 + 1, none⟩ = some (.string (bs nm)) := hr 1 _ rfl
   have r2 : wr.cell? ⟨b, o + k * 4 + 2, none⟩ = some (.slice xa xl.length xc) := hr 2 _ rfl
   have r3 : wr.cell? ⟨b, o + k * 4 + 3, none⟩ = some (.slice sa sl.length sc) := hr 3 _ rfl
   simp only [ST.val, ST.cells] at c0
   clear hin hc hcx hr hx hxin hgx
   cases bp with
   | true =>
    clear HS
    go_wp2_with fail
    refine c0.mono ?_
    clear c0
    rintro e W1 ⟨rfl, hb1⟩
    have hb2 := hb0.trans (hb1.mono zz)
    go_wp2
    go_roundw
    case rel => exact ⟨k + 1, by simp; first | done | rfl | omega, by omega, by rw [HT.out, HA.out]; rfl, hb2⟩
    case measure => simp [intOf]; omega
   | false =>
    have HE : Hid (l.all p = false) := Lib.hid (HS.out rfl)
    clear HS HT
    go_wp2_with fail
    refine c0.mono ?_
    clear c0
    rintro e W1 ⟨rfl, hb1⟩
    have hb2 := hb0.trans (hb1.mono zz)
    go_wp2
    go_ret
    exact ⟨by rw [HE.out]; rfl, hb2⟩
  ·have d1 : decide (k < l.length) = false := by simpa using hlt
   have d2 : decide ((k : Int) < (l.length : Int)) = false := by rw [decide_eq_false_iff_not]; omega
   have hkl : k = l.length := by omega
   have HE : Hid (l.all p = true) := Lib.hid (by have := HA.out; rw [hkl, List.take_length] at this; exact this)
   clear hkl
   go_wp2
   go_ret
   exact ⟨by rw [HE.out]; rfl, hb0⟩
theorem armsB_drop (l : List ST) (k : Nat) (h : k < l.length) : armsB (l.drop k) = (armB (l.drop (k + 1)).isEmpty l[k] && armsB (l.drop (k + 1))) := by
 rw [← List.getElem_cons_drop h, armsB]
theorem last_is (l : List ST) (k : Nat) (h : k < l.length) : ((k : Int) == (l.length : Int) - 1) = (l.drop (k + 1)).isEmpty := by
 rw [Bool.eq_iff_iff, beq_iff_eq, List.isEmpty_iff, List.drop_eq_nil_iff]; omega
theorem empty_is (xl : List XT) : ((xl.length : Int) == 0) = xl.isEmpty := by
 rw [Bool.eq_iff_iff, beq_iff_eq, List.isEmpty_iff]
 cases xl <;> simp <;> omega
set_option maxHeartbeats 8000000 in
set_option maxRecDepth 100000 in
theorem refarms_of (n0 : Nat) (l : List ST) (hbl : ST.bkL l ≤ 4500000) (hwf : ∀ x ∈ l, x.Wf) (hc : ∀ x ∈ l, ∀ y ∈ x.sl, ∀ w, n0 ≤ w.heap.size → y.In n0 w → Calls Tryz.prog 162 #[y.val] w fun e w' => e = .returned (.bool (standS y)) ∧ Below w.heap.size w w') (a : Option Addr) (c : Nat) (w : World) (hn0 : n0 ≤ w.heap.size) (hin : InRow 4 ST.cells (ST.In n0 w) n0 w l a) : Calls Tryz.prog 170 #[.slice a l.length c] w fun e w' => e = .returned (.bool (armsB l && decide (1 ≤ (l.length : Int)))) ∧ Below w.heap.size w w' := by
 have hll := ST.bkL_len l
 obtain ⟨g1, hg1⟩ : ∃ g, decide (1 ≤ (l.length : Int)) = g := ⟨_, rfl⟩
 obtain ⟨R, hR⟩ : ∃ R, armsB l = R := ⟨_, rfl⟩
 have HR := Lib.hid hR
 rw [hR, hg1]
 clear hR
 go_enter Tryz.func170, Tryz.ntmps170
 go_wp2
 go_loopg [3] l.length (fun g u wr => ∃ (k : Nat), u = .int .i64 k ∧ k + g = l.length ∧ armsB (l.drop k) = R ∧ Below w.heap.size w wr)
 case atStart => exact ⟨0, rfl, by omega, by rw [List.drop_zero]; exact HR.out, Below.refl _ _⟩
 case round =>
  obtain ⟨k, rfl, hk, hkk, hb0⟩ := hrel
  have HK0 := Lib.hid hkk
  clear hkk
  by_cases hlt : k < l.length
  ·have d1 : decide (k < l.length) = true := by simpa using hlt
   have d2 : decide ((k : Int) < (l.length : Int)) = true := by rw [decide_eq_true_eq]; omega
   have x1 : (k : Int) < (l.length : Int) := by omega
   have hsub : IntKind.i64.wrap ((l.length : Int) - 1) = (l.length : Int) - 1 := IntWalk.i64_in _ (by omega)
   obtain ⟨b, o, rfl, hb, hr, hx⟩ := hin.kept (Below.keptTo hb0 hn0) hlt
   have hD := armsB_drop l k hlt
   have hlast := last_is l k hlt
   have hbx := ST.bkL_mem (List.getElem_mem hlt)
   have hxw := hwf l[k] (List.getElem_mem hlt)
   have hcx := hc l[k] (List.getElem_mem hlt)
   have hxin := hx.keep (Below.keptTo hb0 hn0)
   have zz := hb0.size
   have hnr : n0 ≤ wr.heap.size := by omega
   obtain ⟨lst, hlst⟩ : ∃ b, (l.drop (k + 1)).isEmpty = b := ⟨_, rfl⟩
   rw [hlst] at hD hlast
   obtain ⟨rest, hrest⟩ : ∃ b, armsB (l.drop (k + 1)) = b := ⟨_, rfl⟩
   rw [hrest] at hD
   generalize hgx : l[k] = x at *
   obtain ⟨op, nm, xa, xc, xl, sa, sc, sl⟩ := x
   simp only [ST.bk] at hbx
   rw [ST.In_mk] at hxin
   obtain ⟨i0, i1⟩ := hxin
   have hxw2 : XT.WfL xl ∧ ST.WfL sl := hxw
   have c0 := fun (w' : World) h1 h2 => refmayL_any xl (by omega) ((XT.wfL_iff xl).1 hxw2.1) xa xc n0 w' h1 h2
   have hsl := ST.bkL_len sl
   have c1 := fun (w' : World) h1 h2 => refMayAll_of standS n0 sl (by omega) (fun y hy w2 g1 g2 => hcx y hy w2 g1 g2) sa sc w' h1 h2
   obtain ⟨n1, hn1_⟩ : ∃ b, (op != 4) = b := ⟨_, rfl⟩
   have hn2_ : (op == 4) = !n1 := by rw [← hn1_, bne, Bool.not_not]
   obtain ⟨e2, he2⟩ : ∃ b, (nm != []) = b := ⟨_, rfl⟩
   have he3 : (nm == []) = !e2 := by rw [← he2, bne, Bool.not_not]
   have hz := empty_is xl
   obtain ⟨z, hz2⟩ : ∃ b, xl.isEmpty = b := ⟨_, rfl⟩
   rw [hz2] at hz
   obtain ⟨a1, ha1⟩ : ∃ b, xl.all mayX = b := ⟨_, rfl⟩
   obtain ⟨a2, ha2⟩ : ∃ b, sl.all standS = b := ⟨_, rfl⟩
   rw [ha1] at c0
   rw [ha2] at c1
   have HD : Hid (armsB (l.drop k) = ((!n1 && (!e2 && ((z == lst) && (a1 && a2)))) && rest)) := Lib.hid (by rw [hD]; unfold armB; simp only [ST.op, ST.nm, ST.xl, ST.sl]; rw [hn2_, he3, hz2, ha1, ha2])
   have HX := Lib.hid c0
   have HS2 := Lib.hid c1
   have HK := HK0
   have r0 : wr.cell? ⟨b, o + k * 4, none⟩ = some (.int .i64 op) := hr 0 _ rfl
   have r1 : wr.cell? ⟨b, o + k * 4 + 1, none⟩ = some (.string (bs nm)) := hr 1 _ rfl
   have r2 : wr.cell? ⟨b, o + k * 4 + 2, none⟩ = some (.slice xa xl.length xc) := hr 2 _ rfl
   have r3 : wr.cell? ⟨b, o + k * 4 + 3, none⟩ = some (.slice sa sl.length sc) := hr 3 _ rfl
   have HRS := Lib.hid hrest
   clear hin hc hcx hr hx hgx hxw hxw2 c0 c1 hD hlst hrest ha1 ha2 hz2 hbx hwf
   have BX := World.alloc_heap_new wr (.cells #[.int .i64 op, .string (bs nm), .slice xa xl.length xc, .slice sa sl.length sc] 134)
   have kk : Below wr.heap.size wr (wr.alloc (.cells #[.int .i64 op, .string (bs nm), .slice xa xl.length xc, .slice sa sl.length sc] 134)) := (Below.refl _ _).alloc (Nat.le_refl _) _
   have hbE := hb0.trans (kk.mono hb0.size)
   have hk8 := Below.keptTo kk hnr
   replace i0 := i0.keep hk8 (fun x _ => XT.In.keep hk8 x)
   replace i1 := i1.keep hk8 (fun x _ => ST.In.keep hk8 x)
   have hn1 : n0 ≤ (wr.alloc (.cells #[.int .i64 op, .string (bs nm), .slice xa xl.length xc, .slice sa sl.length sc] 134)).heap.size := Nat.le_trans hnr kk.size
   clear hk8 kk
   go_upto_region 5 with (fail)
   clear r0 r1 r2 r3
   generalize wr.alloc (.cells #[.int .i64 op, .string (bs nm), .slice xa xl.length xc, .slice sa sl.length sc] 134) = w2 at *
   obtain ⟨q0, q1, q2, q3⟩ := open4 BX
   cases n1 with
   | true =>
    go_wp2
    go_ret
    exact ⟨ret_b (by rw [← HK.out, HD.out]; rfl), hbE⟩
   | false =>
    cases e2 with
    | true =>
     go_wp2
     go_ret
     exact ⟨ret_b (by rw [← HK.out, HD.out]; rfl), hbE⟩
    | false =>
     cases z with
     | true =>
      cases lst with
      | true =>
       go_wp2_with fail
       refine (HX.out _ hn1 i0).mono ?_
       rintro e w9 ⟨rfl, hb⟩
       clear q0 q1 q2 q3
       replace BX := block_kept BX hb
       have hk9 := Below.keptTo hb hn1
       replace i0 := i0.keep hk9 (fun x _ => XT.In.keep hk9 x)
       replace i1 := i1.keep hk9 (fun x _ => ST.In.keep hk9 x)
       replace hn1 := Nat.le_trans hn1 hb.size
       replace hbE := hbE.trans (hb.mono hbE.size)
       clear hb hk9
       obtain ⟨q0, q1, q2, q3⟩ := open4 BX
       cases a1 with
       | true =>
        go_wp2_with fail
        refine (HS2.out _ hn1 i1).mono ?_
        rintro e w9 ⟨rfl, hb⟩
        clear q0 q1 q2 q3
        replace BX := block_kept BX hb
        have hk9 := Below.keptTo hb hn1
        replace i0 := i0.keep hk9 (fun x _ => XT.In.keep hk9 x)
        replace i1 := i1.keep hk9 (fun x _ => ST.In.keep hk9 x)
        replace hn1 := Nat.le_trans hn1 hb.size
        replace hbE := hbE.trans (hb.mono hbE.size)
        clear hb hk9
        obtain ⟨q0, q1, q2, q3⟩ := open4 BX
        cases a2 with
        | true =>
         go_wp2
         cases gk with
         | zero => omega
         | succ gg =>
          go_roundg gg
          case rel => exact ⟨k + 1, by simp; first | done | rfl | omega, by omega, by have h9 := HD.out; rw [HK0.out] at h9; rw [h9, ← HRS.out]; rfl, hbE⟩
          case measure => omega
        | false =>
         go_wp2
         go_ret
         exact ⟨ret_b (by rw [← HK.out, HD.out]; rfl), hbE⟩
       | false =>
        go_wp2
        go_ret
        exact ⟨ret_b (by rw [← HK.out, HD.out]; rfl), hbE⟩
      | false =>
       go_wp2
       go_ret
       exact ⟨ret_b (by rw [← HK.out, HD.out]; rfl), hbE⟩
     | false =>
      cases lst with
      | true =>
       go_wp2
       go_ret
       exact ⟨ret_b (by rw [← HK.out, HD.out]; rfl), hbE⟩
      | false =>
       go_wp2_with fail
       refine (HX.out _ hn1 i0).mono ?_
       rintro e w9 ⟨rfl, hb⟩
       clear q0 q1 q2 q3
       replace BX := block_kept BX hb
       have hk9 := Below.keptTo hb hn1
       replace i0 := i0.keep hk9 (fun x _ => XT.In.keep hk9 x)
       replace i1 := i1.keep hk9 (fun x _ => ST.In.keep hk9 x)
       replace hn1 := Nat.le_trans hn1 hb.size
       replace hbE := hbE.trans (hb.mono hbE.size)
       clear hb hk9
       obtain ⟨q0, q1, q2, q3⟩ := open4 BX
       cases a1 with
       | true =>
        go_wp2_with fail
        refine (HS2.out _ hn1 i1).mono ?_
        rintro e w9 ⟨rfl, hb⟩
        clear q0 q1 q2 q3
        replace BX := block_kept BX hb
        have hk9 := Below.keptTo hb hn1
        replace i0 := i0.keep hk9 (fun x _ => XT.In.keep hk9 x)
        replace i1 := i1.keep hk9 (fun x _ => ST.In.keep hk9 x)
        replace hn1 := Nat.le_trans hn1 hb.size
        replace hbE := hbE.trans (hb.mono hbE.size)
        clear hb hk9
        obtain ⟨q0, q1, q2, q3⟩ := open4 BX
        cases a2 with
        | true =>
         go_wp2
         cases gk with
         | zero => omega
         | succ gg =>
          go_roundg gg
          case rel => exact ⟨k + 1, by simp; first | done | rfl | omega, by omega, by have h9 := HD.out; rw [HK0.out] at h9; rw [h9, ← HRS.out]; rfl, hbE⟩
          case measure => omega
        | false =>
         go_wp2
         go_ret
         exact ⟨ret_b (by rw [← HK.out, HD.out]; rfl), hbE⟩
       | false =>
        go_wp2
        go_ret
        exact ⟨ret_b (by rw [← HK.out, HD.out]; rfl), hbE⟩
  ·have d1 : decide (k < l.length) = false := by simpa using hlt
   have d2 : decide ((k : Int) < (l.length : Int)) = false := by rw [decide_eq_false_iff_not]; omega
   have HE : Hid (R = true) := Lib.hid (by rw [← HK0.out, List.drop_eq_nil_of_le (by omega)]; rfl)
   go_wp2
   go_ret
   exact ⟨ret_b (by rw [HE.out]; rfl), hb0⟩
set_option maxHeartbeats 4000000 in
set_option maxRecDepth 100000 in
theorem refMayS_1 (n0 : Nat) (nm : Bytes) (xa : Option Addr) (xc : Nat) (xl : List XT) (sa : Option Addr) (sc : Nat) (sl : List ST) (hxl : xl.length ≤ 12000000) (hX : ∀ w, n0 ≤ w.heap.size → InRow 6 XT.cells (XT.In n0 w) n0 w xl xa → Calls Tryz.prog 125 #[.slice xa xl.length xc] w fun e w' => e = .returned (.bool (xl.all mayX)) ∧ Below w.heap.size w w') (hN : ∀ w, Calls Tryz.prog 93 #[.string (bs nm)] w fun e w' => e = .returned (.bool (isNameB nm)) ∧ Below w.heap.size w w') (hS : ∀ w, n0 ≤ w.heap.size → InRow 4 ST.cells (ST.In n0 w) n0 w sl sa → Calls Tryz.prog 150 #[.slice sa sl.length sc] w fun e w' => e = .returned (.bool (sl.all standS)) ∧ Below w.heap.size w w')  (w : World) (hn0 : n0 ≤ w.heap.size) (h0 : InRow 6 XT.cells (XT.In n0 w) n0 w xl xa) (h1 : InRow 4 ST.cells (ST.In n0 w) n0 w sl sa) : Calls Tryz.prog 162 #[.agg #[.int .i64 1, .string (bs nm), .slice xa xl.length xc, .slice sa sl.length sc]] w fun e w' => e = .returned (.bool (msB 1 nm xl sl)) ∧ Below w.heap.size w w' := by
 have hB : Below w.heap.size w (w.alloc (.cells #[.int .i64 1, .string (bs nm), .slice xa xl.length xc, .slice sa sl.length sc] 134)) := (Below.refl _ _).alloc (Nat.le_refl _) _
 have BX := World.alloc_heap_new w (.cells #[.int .i64 1, .string (bs nm), .slice xa xl.length xc, .slice sa sl.length sc] 134)
 have hk8 := Below.keptTo hB hn0
 have i0 := h0.keep hk8 (fun x _ => XT.In.keep hk8 x)
 have i1 := h1.keep hk8 (fun x _ => ST.In.keep hk8 x)
 have hn1 := Nat.le_trans hn0 hB.size
 obtain ⟨R, hR⟩ : ∃ R, msB 1 nm xl sl = R := ⟨_, rfl⟩
 have HI0 : Hid (R = (xl.all mayX && (!((1 == (6 : Int)) != (nm != [])) && (!((1 == (6 : Int)) && !isNameB nm) && (((xl.length : Int) == 2) && (targR xl && ((sl.length : Int) == 0))))))) := Lib.hid (by rw [← hR]; unfold msB; rw [if_pos rfl])
 rw [hR]
 clear hR h0 h1 hk8 hn0
 obtain ⟨aX, haX⟩ : ∃ b, xl.all mayX = b := ⟨_, rfl⟩
 obtain ⟨e2, he2⟩ : ∃ b, (nm != []) = b := ⟨_, rfl⟩
 have he3 : (nm == []) = !e2 := by rw [← he2, bne, Bool.not_not]
 obtain ⟨nk, hnk⟩ : ∃ b, isNameB nm = b := ⟨_, rfl⟩
 rw [haX] at hX
 rw [hnk] at hN
 have HX := Lib.hid hX
 have HN := Lib.hid hN
 rw [haX, he2, hnk] at HI0
 clear hX hN haX hnk
 obtain ⟨lx, h_lx⟩ : ∃ b, ((xl.length : Int) == 2) = b := ⟨_, rfl⟩
 rw [h_lx] at HI0
 obtain ⟨ls, h_ls⟩ : ∃ b, ((sl.length : Int) == 0) = b := ⟨_, rfl⟩
 rw [h_ls] at HI0
 have HS := Lib.hid hS
 have HI := HI0
 clear hS HI0
 go_enter Tryz.func162, Tryz.ntmps162
 go_upto_region 1 with (fail)
 generalize w.alloc (.cells #[.int .i64 1, .string (bs nm), .slice xa xl.length xc, .slice sa sl.length sc] 134) = w1 at *
 obtain ⟨q0, q1, q2, q3⟩ := open4 BX
 go_wp2_with fail
 refine (HX.out _ hn1 i0).mono ?_
 rintro e w9 ⟨rfl, hb⟩
 clear q0 q1 q2 q3
 replace BX := block_kept BX hb
 have hk9 := Below.keptTo hb hn1
 replace i0 := i0.keep hk9 (fun x _ => XT.In.keep hk9 x)
 replace i1 := i1.keep hk9 (fun x _ => ST.In.keep hk9 x)
 replace hn1 := Nat.le_trans hn1 hb.size
 replace hB := hB.trans (hb.mono hB.size)
 clear hb hk9
 obtain ⟨q0, q1, q2, q3⟩ := open4 BX
 cases aX with
 | true =>
  cases e2 with
  | true =>
   go_wp2
   go_ret
   exact ⟨ret_b (by rw [HI.out]; rfl), hB⟩
  | false =>
   cases lx with
   | true =>
    go_wp2_with fail
    refine (reftarget_any xl hxl xa xc n0 _ i0).mono ?_
    rintro e w9 ⟨rfl, rfl⟩
    obtain ⟨tg, htg⟩ : ∃ b, targR xl = b := ⟨_, rfl⟩
    rw [htg]
    rw [htg] at HI
    clear htg
    cases tg with
    | true =>
     go_wp2
     go_ret
     exact ⟨ret_b (by rw [HI.out]; rfl), hB⟩
    | false =>
     go_wp2
     go_ret
     exact ⟨ret_b (by rw [HI.out]; rfl), hB⟩
   | false =>
    go_wp2
    go_ret
    exact ⟨ret_b (by rw [HI.out]; rfl), hB⟩
 | false =>
  go_wp2
  go_ret
  exact ⟨ret_b (by rw [HI.out]; rfl), hB⟩
set_option maxHeartbeats 4000000 in
set_option maxRecDepth 100000 in
theorem refMayS_3 (n0 : Nat) (nm : Bytes) (xa : Option Addr) (xc : Nat) (xl : List XT) (sa : Option Addr) (sc : Nat) (sl : List ST) (hxl : xl.length ≤ 12000000) (hX : ∀ w, n0 ≤ w.heap.size → InRow 6 XT.cells (XT.In n0 w) n0 w xl xa → Calls Tryz.prog 125 #[.slice xa xl.length xc] w fun e w' => e = .returned (.bool (xl.all mayX)) ∧ Below w.heap.size w w') (hN : ∀ w, Calls Tryz.prog 93 #[.string (bs nm)] w fun e w' => e = .returned (.bool (isNameB nm)) ∧ Below w.heap.size w w') (hS : ∀ w, n0 ≤ w.heap.size → InRow 4 ST.cells (ST.In n0 w) n0 w sl sa → Calls Tryz.prog 170 #[.slice sa sl.length sc] w fun e w' => e = .returned (.bool (armsB sl && decide (1 ≤ (sl.length : Int)))) ∧ Below w.heap.size w w')  (w : World) (hn0 : n0 ≤ w.heap.size) (h0 : InRow 6 XT.cells (XT.In n0 w) n0 w xl xa) (h1 : InRow 4 ST.cells (ST.In n0 w) n0 w sl sa) : Calls Tryz.prog 162 #[.agg #[.int .i64 3, .string (bs nm), .slice xa xl.length xc, .slice sa sl.length sc]] w fun e w' => e = .returned (.bool (msB 3 nm xl sl)) ∧ Below w.heap.size w w' := by
 have hB : Below w.heap.size w (w.alloc (.cells #[.int .i64 3, .string (bs nm), .slice xa xl.length xc, .slice sa sl.length sc] 134)) := (Below.refl _ _).alloc (Nat.le_refl _) _
 have BX := World.alloc_heap_new w (.cells #[.int .i64 3, .string (bs nm), .slice xa xl.length xc, .slice sa sl.length sc] 134)
 have hk8 := Below.keptTo hB hn0
 have i0 := h0.keep hk8 (fun x _ => XT.In.keep hk8 x)
 have i1 := h1.keep hk8 (fun x _ => ST.In.keep hk8 x)
 have hn1 := Nat.le_trans hn0 hB.size
 obtain ⟨R, hR⟩ : ∃ R, msB 3 nm xl sl = R := ⟨_, rfl⟩
 have HI0 : Hid (R = (xl.all mayX && (!((3 == (6 : Int)) != (nm != [])) && (!((3 == (6 : Int)) && !isNameB nm) && (((xl.length : Int) == 1) && (armsB sl && decide (1 ≤ (sl.length : Int)))))))) := Lib.hid (by rw [← hR]; unfold msB; rw [if_neg (by decide)]; rw [if_neg (by decide)]; rw [if_pos rfl])
 rw [hR]
 clear hR h0 h1 hk8 hn0
 obtain ⟨aX, haX⟩ : ∃ b, xl.all mayX = b := ⟨_, rfl⟩
 obtain ⟨e2, he2⟩ : ∃ b, (nm != []) = b := ⟨_, rfl⟩
 have he3 : (nm == []) = !e2 := by rw [← he2, bne, Bool.not_not]
 obtain ⟨nk, hnk⟩ : ∃ b, isNameB nm = b := ⟨_, rfl⟩
 rw [haX] at hX
 rw [hnk] at hN
 have HX := Lib.hid hX
 have HN := Lib.hid hN
 rw [haX, he2, hnk] at HI0
 clear hX hN haX hnk
 obtain ⟨lx, h_lx⟩ : ∃ b, ((xl.length : Int) == 1) = b := ⟨_, rfl⟩
 rw [h_lx] at HI0
 obtain ⟨ar, h_ar⟩ : ∃ b, (armsB sl && decide (1 ≤ (sl.length : Int))) = b := ⟨_, rfl⟩
 rw [h_ar] at HI0
 rw [h_ar] at hS
 have HS := Lib.hid hS
 have HI := HI0
 clear hS HI0
 go_enter Tryz.func162, Tryz.ntmps162
 go_upto_region 1 with (fail)
 generalize w.alloc (.cells #[.int .i64 3, .string (bs nm), .slice xa xl.length xc, .slice sa sl.length sc] 134) = w1 at *
 obtain ⟨q0, q1, q2, q3⟩ := open4 BX
 go_wp2_with fail
 refine (HX.out _ hn1 i0).mono ?_
 rintro e w9 ⟨rfl, hb⟩
 clear q0 q1 q2 q3
 replace BX := block_kept BX hb
 have hk9 := Below.keptTo hb hn1
 replace i0 := i0.keep hk9 (fun x _ => XT.In.keep hk9 x)
 replace i1 := i1.keep hk9 (fun x _ => ST.In.keep hk9 x)
 replace hn1 := Nat.le_trans hn1 hb.size
 replace hB := hB.trans (hb.mono hB.size)
 clear hb hk9
 obtain ⟨q0, q1, q2, q3⟩ := open4 BX
 cases aX with
 | true =>
  cases e2 with
  | true =>
   go_wp2
   go_ret
   exact ⟨ret_b (by rw [HI.out]; rfl), hB⟩
  | false =>
   cases lx with
   | true =>
    go_wp2_with fail
    refine (HS.out _ hn1 i1).mono ?_
    rintro e w9 ⟨rfl, hb⟩
    clear q0 q1 q2 q3
    replace BX := block_kept BX hb
    have hk9 := Below.keptTo hb hn1
    replace i0 := i0.keep hk9 (fun x _ => XT.In.keep hk9 x)
    replace i1 := i1.keep hk9 (fun x _ => ST.In.keep hk9 x)
    replace hn1 := Nat.le_trans hn1 hb.size
    replace hB := hB.trans (hb.mono hB.size)
    clear hb hk9
    obtain ⟨q0, q1, q2, q3⟩ := open4 BX
    go_wp2
    go_ret
    exact ⟨ret_b (by rw [HI.out]; rfl), hB⟩
   | false =>
    go_wp2
    go_ret
    exact ⟨ret_b (by rw [HI.out]; rfl), hB⟩
 | false =>
  go_wp2
  go_ret
  exact ⟨ret_b (by rw [HI.out]; rfl), hB⟩
set_option maxHeartbeats 4000000 in
set_option maxRecDepth 100000 in
theorem refMayS_5 (n0 : Nat) (nm : Bytes) (xa : Option Addr) (xc : Nat) (xl : List XT) (sa : Option Addr) (sc : Nat) (sl : List ST) (hxl : xl.length ≤ 12000000) (hX : ∀ w, n0 ≤ w.heap.size → InRow 6 XT.cells (XT.In n0 w) n0 w xl xa → Calls Tryz.prog 125 #[.slice xa xl.length xc] w fun e w' => e = .returned (.bool (xl.all mayX)) ∧ Below w.heap.size w w') (hN : ∀ w, Calls Tryz.prog 93 #[.string (bs nm)] w fun e w' => e = .returned (.bool (isNameB nm)) ∧ Below w.heap.size w w') (hS : ∀ w, n0 ≤ w.heap.size → InRow 4 ST.cells (ST.In n0 w) n0 w sl sa → Calls Tryz.prog 150 #[.slice sa sl.length sc] w fun e w' => e = .returned (.bool (sl.all standS)) ∧ Below w.heap.size w w')  (w : World) (hn0 : n0 ≤ w.heap.size) (h0 : InRow 6 XT.cells (XT.In n0 w) n0 w xl xa) (h1 : InRow 4 ST.cells (ST.In n0 w) n0 w sl sa) : Calls Tryz.prog 162 #[.agg #[.int .i64 5, .string (bs nm), .slice xa xl.length xc, .slice sa sl.length sc]] w fun e w' => e = .returned (.bool (msB 5 nm xl sl)) ∧ Below w.heap.size w w' := by
 have hB : Below w.heap.size w (w.alloc (.cells #[.int .i64 5, .string (bs nm), .slice xa xl.length xc, .slice sa sl.length sc] 134)) := (Below.refl _ _).alloc (Nat.le_refl _) _
 have BX := World.alloc_heap_new w (.cells #[.int .i64 5, .string (bs nm), .slice xa xl.length xc, .slice sa sl.length sc] 134)
 have hk8 := Below.keptTo hB hn0
 have i0 := h0.keep hk8 (fun x _ => XT.In.keep hk8 x)
 have i1 := h1.keep hk8 (fun x _ => ST.In.keep hk8 x)
 have hn1 := Nat.le_trans hn0 hB.size
 obtain ⟨R, hR⟩ : ∃ R, msB 5 nm xl sl = R := ⟨_, rfl⟩
 have HI0 : Hid (R = (xl.all mayX && (!((5 == (6 : Int)) != (nm != [])) && (!((5 == (6 : Int)) && !isNameB nm) && (((xl.length : Int) == 0) && sl.all standS))))) := Lib.hid (by rw [← hR]; unfold msB; rw [if_neg (by decide)]; rw [if_neg (by decide)]; rw [if_neg (by decide)]; rw [if_pos rfl])
 rw [hR]
 clear hR h0 h1 hk8 hn0
 obtain ⟨aX, haX⟩ : ∃ b, xl.all mayX = b := ⟨_, rfl⟩
 obtain ⟨e2, he2⟩ : ∃ b, (nm != []) = b := ⟨_, rfl⟩
 have he3 : (nm == []) = !e2 := by rw [← he2, bne, Bool.not_not]
 obtain ⟨nk, hnk⟩ : ∃ b, isNameB nm = b := ⟨_, rfl⟩
 rw [haX] at hX
 rw [hnk] at hN
 have HX := Lib.hid hX
 have HN := Lib.hid hN
 rw [haX, he2, hnk] at HI0
 clear hX hN haX hnk
 obtain ⟨lx, h_lx⟩ : ∃ b, ((xl.length : Int) == 0) = b := ⟨_, rfl⟩
 rw [h_lx] at HI0
 obtain ⟨al, h_al⟩ : ∃ b, (sl.all standS) = b := ⟨_, rfl⟩
 rw [h_al] at HI0
 rw [h_al] at hS
 have HS := Lib.hid hS
 have HI := HI0
 clear hS HI0
 go_enter Tryz.func162, Tryz.ntmps162
 go_upto_region 1 with (fail)
 generalize w.alloc (.cells #[.int .i64 5, .string (bs nm), .slice xa xl.length xc, .slice sa sl.length sc] 134) = w1 at *
 obtain ⟨q0, q1, q2, q3⟩ := open4 BX
 go_wp2_with fail
 refine (HX.out _ hn1 i0).mono ?_
 rintro e w9 ⟨rfl, hb⟩
 clear q0 q1 q2 q3
 replace BX := block_kept BX hb
 have hk9 := Below.keptTo hb hn1
 replace i0 := i0.keep hk9 (fun x _ => XT.In.keep hk9 x)
 replace i1 := i1.keep hk9 (fun x _ => ST.In.keep hk9 x)
 replace hn1 := Nat.le_trans hn1 hb.size
 replace hB := hB.trans (hb.mono hB.size)
 clear hb hk9
 obtain ⟨q0, q1, q2, q3⟩ := open4 BX
 cases aX with
 | true =>
  cases e2 with
  | true =>
   go_wp2
   go_ret
   exact ⟨ret_b (by rw [HI.out]; rfl), hB⟩
  | false =>
   cases lx with
   | true =>
    go_wp2_with fail
    refine (HS.out _ hn1 i1).mono ?_
    rintro e w9 ⟨rfl, hb⟩
    clear q0 q1 q2 q3
    replace BX := block_kept BX hb
    have hk9 := Below.keptTo hb hn1
    replace i0 := i0.keep hk9 (fun x _ => XT.In.keep hk9 x)
    replace i1 := i1.keep hk9 (fun x _ => ST.In.keep hk9 x)
    replace hn1 := Nat.le_trans hn1 hb.size
    replace hB := hB.trans (hb.mono hB.size)
    clear hb hk9
    obtain ⟨q0, q1, q2, q3⟩ := open4 BX
    go_wp2
    go_ret
    exact ⟨ret_b (by rw [HI.out]; rfl), hB⟩
   | false =>
    go_wp2
    go_ret
    exact ⟨ret_b (by rw [HI.out]; rfl), hB⟩
 | false =>
  go_wp2
  go_ret
  exact ⟨ret_b (by rw [HI.out]; rfl), hB⟩
set_option maxHeartbeats 4000000 in
set_option maxRecDepth 100000 in
theorem refMayS_6 (n0 : Nat) (nm : Bytes) (xa : Option Addr) (xc : Nat) (xl : List XT) (sa : Option Addr) (sc : Nat) (sl : List ST) (hxl : xl.length ≤ 12000000) (hX : ∀ w, n0 ≤ w.heap.size → InRow 6 XT.cells (XT.In n0 w) n0 w xl xa → Calls Tryz.prog 125 #[.slice xa xl.length xc] w fun e w' => e = .returned (.bool (xl.all mayX)) ∧ Below w.heap.size w w') (hN : ∀ w, Calls Tryz.prog 93 #[.string (bs nm)] w fun e w' => e = .returned (.bool (isNameB nm)) ∧ Below w.heap.size w w') (hS : ∀ w, n0 ≤ w.heap.size → InRow 4 ST.cells (ST.In n0 w) n0 w sl sa → Calls Tryz.prog 150 #[.slice sa sl.length sc] w fun e w' => e = .returned (.bool (sl.all standS)) ∧ Below w.heap.size w w')  (w : World) (hn0 : n0 ≤ w.heap.size) (h0 : InRow 6 XT.cells (XT.In n0 w) n0 w xl xa) (h1 : InRow 4 ST.cells (ST.In n0 w) n0 w sl sa) : Calls Tryz.prog 162 #[.agg #[.int .i64 6, .string (bs nm), .slice xa xl.length xc, .slice sa sl.length sc]] w fun e w' => e = .returned (.bool (msB 6 nm xl sl)) ∧ Below w.heap.size w w' := by
 have hB : Below w.heap.size w (w.alloc (.cells #[.int .i64 6, .string (bs nm), .slice xa xl.length xc, .slice sa sl.length sc] 134)) := (Below.refl _ _).alloc (Nat.le_refl _) _
 have BX := World.alloc_heap_new w (.cells #[.int .i64 6, .string (bs nm), .slice xa xl.length xc, .slice sa sl.length sc] 134)
 have hk8 := Below.keptTo hB hn0
 have i0 := h0.keep hk8 (fun x _ => XT.In.keep hk8 x)
 have i1 := h1.keep hk8 (fun x _ => ST.In.keep hk8 x)
 have hn1 := Nat.le_trans hn0 hB.size
 obtain ⟨R, hR⟩ : ∃ R, msB 6 nm xl sl = R := ⟨_, rfl⟩
 have HI0 : Hid (R = (xl.all mayX && (!((6 == (6 : Int)) != (nm != [])) && (!((6 == (6 : Int)) && !isNameB nm) && (((xl.length : Int) == 2) && sl.all standS))))) := Lib.hid (by rw [← hR]; unfold msB; rw [if_neg (by decide)]; rw [if_neg (by decide)]; rw [if_neg (by decide)]; rw [if_neg (by decide)]; rw [if_pos rfl])
 rw [hR]
 clear hR h0 h1 hk8 hn0
 obtain ⟨aX, haX⟩ : ∃ b, xl.all mayX = b := ⟨_, rfl⟩
 obtain ⟨e2, he2⟩ : ∃ b, (nm != []) = b := ⟨_, rfl⟩
 have he3 : (nm == []) = !e2 := by rw [← he2, bne, Bool.not_not]
 obtain ⟨nk, hnk⟩ : ∃ b, isNameB nm = b := ⟨_, rfl⟩
 rw [haX] at hX
 rw [hnk] at hN
 have HX := Lib.hid hX
 have HN := Lib.hid hN
 rw [haX, he2, hnk] at HI0
 clear hX hN haX hnk
 obtain ⟨lx, h_lx⟩ : ∃ b, ((xl.length : Int) == 2) = b := ⟨_, rfl⟩
 rw [h_lx] at HI0
 obtain ⟨al, h_al⟩ : ∃ b, (sl.all standS) = b := ⟨_, rfl⟩
 rw [h_al] at HI0
 rw [h_al] at hS
 have HS := Lib.hid hS
 have HI := HI0
 clear hS HI0
 go_enter Tryz.func162, Tryz.ntmps162
 go_upto_region 1 with (fail)
 generalize w.alloc (.cells #[.int .i64 6, .string (bs nm), .slice xa xl.length xc, .slice sa sl.length sc] 134) = w1 at *
 obtain ⟨q0, q1, q2, q3⟩ := open4 BX
 go_wp2_with fail
 refine (HX.out _ hn1 i0).mono ?_
 rintro e w9 ⟨rfl, hb⟩
 clear q0 q1 q2 q3
 replace BX := block_kept BX hb
 have hk9 := Below.keptTo hb hn1
 replace i0 := i0.keep hk9 (fun x _ => XT.In.keep hk9 x)
 replace i1 := i1.keep hk9 (fun x _ => ST.In.keep hk9 x)
 replace hn1 := Nat.le_trans hn1 hb.size
 replace hB := hB.trans (hb.mono hB.size)
 clear hb hk9
 obtain ⟨q0, q1, q2, q3⟩ := open4 BX
 cases aX with
 | true =>
  cases e2 with
  | true =>
   go_wp2_with fail
   refine (HN.out _).mono ?_
   rintro e w9 ⟨rfl, hb⟩
   clear q0 q1 q2 q3
   replace BX := block_kept BX hb
   have hk9 := Below.keptTo hb hn1
   replace i0 := i0.keep hk9 (fun x _ => XT.In.keep hk9 x)
   replace i1 := i1.keep hk9 (fun x _ => ST.In.keep hk9 x)
   replace hn1 := Nat.le_trans hn1 hb.size
   replace hB := hB.trans (hb.mono hB.size)
   clear hb hk9
   obtain ⟨q0, q1, q2, q3⟩ := open4 BX
   cases nk with
   | true =>
    cases lx with
    | true =>
     go_wp2_with fail
     refine (HS.out _ hn1 i1).mono ?_
     rintro e w9 ⟨rfl, hb⟩
     clear q0 q1 q2 q3
     replace BX := block_kept BX hb
     have hk9 := Below.keptTo hb hn1
     replace i0 := i0.keep hk9 (fun x _ => XT.In.keep hk9 x)
     replace i1 := i1.keep hk9 (fun x _ => ST.In.keep hk9 x)
     replace hn1 := Nat.le_trans hn1 hb.size
     replace hB := hB.trans (hb.mono hB.size)
     clear hb hk9
     obtain ⟨q0, q1, q2, q3⟩ := open4 BX
     go_wp2
     go_ret
     exact ⟨ret_b (by rw [HI.out]; rfl), hB⟩
    | false =>
     go_wp2
     go_ret
     exact ⟨ret_b (by rw [HI.out]; rfl), hB⟩
   | false =>
    go_wp2
    go_ret
    exact ⟨ret_b (by rw [HI.out]; rfl), hB⟩
  | false =>
   go_wp2
   go_ret
   exact ⟨ret_b (by rw [HI.out]; rfl), hB⟩
 | false =>
  go_wp2
  go_ret
  exact ⟨ret_b (by rw [HI.out]; rfl), hB⟩
set_option maxHeartbeats 4000000 in
set_option maxRecDepth 100000 in
theorem refMayS_o (n0 : Nat) (op : Int) (nm : Bytes) (xa : Option Addr) (xc : Nat) (xl : List XT) (sa : Option Addr) (sc : Nat) (sl : List ST) (hxl : xl.length ≤ 12000000) (hX : ∀ w, n0 ≤ w.heap.size → InRow 6 XT.cells (XT.In n0 w) n0 w xl xa → Calls Tryz.prog 125 #[.slice xa xl.length xc] w fun e w' => e = .returned (.bool (xl.all mayX)) ∧ Below w.heap.size w w') (hN : ∀ w, Calls Tryz.prog 93 #[.string (bs nm)] w fun e w' => e = .returned (.bool (isNameB nm)) ∧ Below w.heap.size w w') (hS : ∀ w, n0 ≤ w.heap.size → InRow 4 ST.cells (ST.In n0 w) n0 w sl sa → Calls Tryz.prog 150 #[.slice sa sl.length sc] w fun e w' => e = .returned (.bool (sl.all standS)) ∧ Below w.heap.size w w') (o1 : op ≠ 1) (o2 : op ≠ 2) (o3 : op ≠ 3) (o5 : op ≠ 5) (o6 : op ≠ 6) (w : World) (hn0 : n0 ≤ w.heap.size) (h0 : InRow 6 XT.cells (XT.In n0 w) n0 w xl xa) (h1 : InRow 4 ST.cells (ST.In n0 w) n0 w sl sa) : Calls Tryz.prog 162 #[.agg #[.int .i64 op, .string (bs nm), .slice xa xl.length xc, .slice sa sl.length sc]] w fun e w' => e = .returned (.bool (msB op nm xl sl)) ∧ Below w.heap.size w w' := by
 have hB : Below w.heap.size w (w.alloc (.cells #[.int .i64 op, .string (bs nm), .slice xa xl.length xc, .slice sa sl.length sc] 134)) := (Below.refl _ _).alloc (Nat.le_refl _) _
 have BX := World.alloc_heap_new w (.cells #[.int .i64 op, .string (bs nm), .slice xa xl.length xc, .slice sa sl.length sc] 134)
 have hk8 := Below.keptTo hB hn0
 have i0 := h0.keep hk8 (fun x _ => XT.In.keep hk8 x)
 have i1 := h1.keep hk8 (fun x _ => ST.In.keep hk8 x)
 have hn1 := Nat.le_trans hn0 hB.size
 obtain ⟨R, hR⟩ : ∃ R, msB op nm xl sl = R := ⟨_, rfl⟩
 have HI0 : Hid (R = (xl.all mayX && (!((op == (6 : Int)) != (nm != [])) && (!((op == (6 : Int)) && !isNameB nm) && (false))))) := Lib.hid (by rw [← hR]; unfold msB; rw [if_neg o1, if_neg o2, if_neg o3, if_neg o5, if_neg o6])
 rw [hR]
 clear hR h0 h1 hk8 hn0
 obtain ⟨aX, haX⟩ : ∃ b, xl.all mayX = b := ⟨_, rfl⟩
 obtain ⟨e2, he2⟩ : ∃ b, (nm != []) = b := ⟨_, rfl⟩
 have he3 : (nm == []) = !e2 := by rw [← he2, bne, Bool.not_not]
 obtain ⟨nk, hnk⟩ : ∃ b, isNameB nm = b := ⟨_, rfl⟩
 rw [haX] at hX
 rw [hnk] at hN
 have HX := Lib.hid hX
 have HN := Lib.hid hN
 rw [haX, he2, hnk] at HI0
 clear hX hN haX hnk
 have d1 : (op == 1) = false := by rw [beq_eq_false_iff_ne]; exact o1
 have d2 : (op == 2) = false := by rw [beq_eq_false_iff_ne]; exact o2
 have d3 : (op == 3) = false := by rw [beq_eq_false_iff_ne]; exact o3
 have d5 : (op == 5) = false := by rw [beq_eq_false_iff_ne]; exact o5
 have d6 : (op == 6) = false := by rw [beq_eq_false_iff_ne]; exact o6
 rw [d6] at HI0
 clear o1 o2 o3 o5 o6
 have HS := Lib.hid hS
 have HI := HI0
 clear hS HI0
 go_enter Tryz.func162, Tryz.ntmps162
 go_upto_region 1 with (fail)
 generalize w.alloc (.cells #[.int .i64 op, .string (bs nm), .slice xa xl.length xc, .slice sa sl.length sc] 134) = w1 at *
 obtain ⟨q0, q1, q2, q3⟩ := open4 BX
 go_wp2_with fail
 refine (HX.out _ hn1 i0).mono ?_
 rintro e w9 ⟨rfl, hb⟩
 clear q0 q1 q2 q3
 replace BX := block_kept BX hb
 have hk9 := Below.keptTo hb hn1
 replace i0 := i0.keep hk9 (fun x _ => XT.In.keep hk9 x)
 replace i1 := i1.keep hk9 (fun x _ => ST.In.keep hk9 x)
 replace hn1 := Nat.le_trans hn1 hb.size
 replace hB := hB.trans (hb.mono hB.size)
 clear hb hk9
 obtain ⟨q0, q1, q2, q3⟩ := open4 BX
 cases aX with
 | true =>
  cases e2 with
  | true =>
   go_wp2
   go_ret
   exact ⟨ret_b (by rw [HI.out]; rfl), hB⟩
  | false =>
   go_wp2
   go_ret
   exact ⟨ret_b (by rw [HI.out]; rfl), hB⟩
 | false =>
  go_wp2
  go_ret
  exact ⟨ret_b (by rw [HI.out]; rfl), hB⟩
set_option maxHeartbeats 4000000 in
set_option maxRecDepth 100000 in
theorem refMayS_2n (n0 : Nat) (nm : Bytes) (xa : Option Addr) (xc : Nat) (xl : List XT) (sa : Option Addr) (sc : Nat) (sl : List ST) (hxl : xl.length ≤ 12000000) (hX : ∀ w, n0 ≤ w.heap.size → InRow 6 XT.cells (XT.In n0 w) n0 w xl xa → Calls Tryz.prog 125 #[.slice xa xl.length xc] w fun e w' => e = .returned (.bool (xl.all mayX)) ∧ Below w.heap.size w w') (hN : ∀ w, Calls Tryz.prog 93 #[.string (bs nm)] w fun e w' => e = .returned (.bool (isNameB nm)) ∧ Below w.heap.size w w') (hS : ∀ w, n0 ≤ w.heap.size → InRow 4 ST.cells (ST.In n0 w) n0 w sl sa → Calls Tryz.prog 150 #[.slice sa sl.length sc] w fun e w' => e = .returned (.bool (sl.all standS)) ∧ Below w.heap.size w w') (hls : ((sl.length : Int) == 2) = false) (w : World) (hn0 : n0 ≤ w.heap.size) (h0 : InRow 6 XT.cells (XT.In n0 w) n0 w xl xa) (h1 : InRow 4 ST.cells (ST.In n0 w) n0 w sl sa) : Calls Tryz.prog 162 #[.agg #[.int .i64 2, .string (bs nm), .slice xa xl.length xc, .slice sa sl.length sc]] w fun e w' => e = .returned (.bool (msB 2 nm xl sl)) ∧ Below w.heap.size w w' := by
 have hB : Below w.heap.size w (w.alloc (.cells #[.int .i64 2, .string (bs nm), .slice xa xl.length xc, .slice sa sl.length sc] 134)) := (Below.refl _ _).alloc (Nat.le_refl _) _
 have BX := World.alloc_heap_new w (.cells #[.int .i64 2, .string (bs nm), .slice xa xl.length xc, .slice sa sl.length sc] 134)
 have hk8 := Below.keptTo hB hn0
 have i0 := h0.keep hk8 (fun x _ => XT.In.keep hk8 x)
 have i1 := h1.keep hk8 (fun x _ => ST.In.keep hk8 x)
 have hn1 := Nat.le_trans hn0 hB.size
 obtain ⟨R, hR⟩ : ∃ R, msB 2 nm xl sl = R := ⟨_, rfl⟩
 have HI0 : Hid (R = (xl.all mayX && (!((2 == (6 : Int)) != (nm != [])) && (!((2 == (6 : Int)) && !isNameB nm) && (((xl.length : Int) == 1) && (false && ((opAt sl 0 == 5) && (((opAt sl 1 == 5) || (opAt sl 1 == 2)) && sl.all standS)))))))) := Lib.hid (by rw [← hR]; unfold msB; rw [if_neg (by decide)]; rw [if_pos rfl]; rw [hls])
 rw [hR]
 clear hR h0 h1 hk8 hn0
 obtain ⟨aX, haX⟩ : ∃ b, xl.all mayX = b := ⟨_, rfl⟩
 obtain ⟨e2, he2⟩ : ∃ b, (nm != []) = b := ⟨_, rfl⟩
 have he3 : (nm == []) = !e2 := by rw [← he2, bne, Bool.not_not]
 obtain ⟨nk, hnk⟩ : ∃ b, isNameB nm = b := ⟨_, rfl⟩
 rw [haX] at hX
 rw [hnk] at hN
 have HX := Lib.hid hX
 have HN := Lib.hid hN
 rw [haX, he2, hnk] at HI0
 clear hX hN haX hnk
 obtain ⟨lx, h_lx⟩ : ∃ b, ((xl.length : Int) == 1) = b := ⟨_, rfl⟩
 rw [h_lx] at HI0
 have HS := Lib.hid hS
 have HI := HI0
 clear hS HI0
 go_enter Tryz.func162, Tryz.ntmps162
 go_upto_region 1 with (fail)
 generalize w.alloc (.cells #[.int .i64 2, .string (bs nm), .slice xa xl.length xc, .slice sa sl.length sc] 134) = w1 at *
 obtain ⟨q0, q1, q2, q3⟩ := open4 BX
 go_wp2_with fail
 refine (HX.out _ hn1 i0).mono ?_
 rintro e w9 ⟨rfl, hb⟩
 clear q0 q1 q2 q3
 replace BX := block_kept BX hb
 have hk9 := Below.keptTo hb hn1
 replace i0 := i0.keep hk9 (fun x _ => XT.In.keep hk9 x)
 replace i1 := i1.keep hk9 (fun x _ => ST.In.keep hk9 x)
 replace hn1 := Nat.le_trans hn1 hb.size
 replace hB := hB.trans (hb.mono hB.size)
 clear hb hk9
 obtain ⟨q0, q1, q2, q3⟩ := open4 BX
 cases aX with
 | true =>
  cases e2 with
  | true =>
   go_wp2
   go_ret
   exact ⟨ret_b (by rw [HI.out]; rfl), hB⟩
  | false =>
   cases lx with
   | true =>
    go_wp2
    go_ret
    exact ⟨ret_b (by rw [HI.out]; rfl), hB⟩
   | false =>
    go_wp2
    go_ret
    exact ⟨ret_b (by rw [HI.out]; rfl), hB⟩
 | false =>
  go_wp2
  go_ret
  exact ⟨ret_b (by rw [HI.out]; rfl), hB⟩
theorem ST.op_cell (x : ST) : x.cells[0]? = some (.int .i64 x.op) := by cases x; rfl
set_option maxHeartbeats 4000000 in
set_option maxRecDepth 100000 in
theorem refMayS_2 (n0 : Nat) (nm : Bytes) (xa : Option Addr) (xc : Nat) (xl : List XT) (sa : Option Addr) (sc : Nat) (p q : ST) (hxl : xl.length ≤ 12000000) (hX : ∀ w, n0 ≤ w.heap.size → InRow 6 XT.cells (XT.In n0 w) n0 w xl xa → Calls Tryz.prog 125 #[.slice xa xl.length xc] w fun e w' => e = .returned (.bool (xl.all mayX)) ∧ Below w.heap.size w w') (hN : ∀ w, Calls Tryz.prog 93 #[.string (bs nm)] w fun e w' => e = .returned (.bool (isNameB nm)) ∧ Below w.heap.size w w') (hS : ∀ w, n0 ≤ w.heap.size → InRow 4 ST.cells (ST.In n0 w) n0 w [p, q] sa → Calls Tryz.prog 150 #[.slice sa 2 sc] w fun e w' => e = .returned (.bool ([p, q].all standS)) ∧ Below w.heap.size w w')  (w : World) (hn0 : n0 ≤ w.heap.size) (h0 : InRow 6 XT.cells (XT.In n0 w) n0 w xl xa) (h1 : InRow 4 ST.cells (ST.In n0 w) n0 w [p, q] sa) : Calls Tryz.prog 162 #[.agg #[.int .i64 2, .string (bs nm), .slice xa xl.length xc, .slice sa 2 sc]] w fun e w' => e = .returned (.bool (msB 2 nm xl [p, q])) ∧ Below w.heap.size w w' := by
 have hB : Below w.heap.size w (w.alloc (.cells #[.int .i64 2, .string (bs nm), .slice xa xl.length xc, .slice sa 2 sc] 134)) := (Below.refl _ _).alloc (Nat.le_refl _) _
 have BX := World.alloc_heap_new w (.cells #[.int .i64 2, .string (bs nm), .slice xa xl.length xc, .slice sa 2 sc] 134)
 have hk8 := Below.keptTo hB hn0
 have i0 := h0.keep hk8 (fun x _ => XT.In.keep hk8 x)
 have i1 := h1.keep hk8 (fun x _ => ST.In.keep hk8 x)
 have hn1 := Nat.le_trans hn0 hB.size
 obtain ⟨R, hR⟩ : ∃ R, msB 2 nm xl [p, q] = R := ⟨_, rfl⟩
 have HI0 : Hid (R = (xl.all mayX && (!((2 == (6 : Int)) != (nm != [])) && (!((2 == (6 : Int)) && !isNameB nm) && (((xl.length : Int) == 1) && ((p.op == 5) && (((q.op == 5) || (q.op == 2)) && [p, q].all standS))))))) := Lib.hid (by rw [← hR]; unfold msB; rw [if_neg (by decide)]; rw [if_pos rfl]; rfl)
 rw [hR]
 clear hR h0 h1 hk8 hn0
 obtain ⟨aX, haX⟩ : ∃ b, xl.all mayX = b := ⟨_, rfl⟩
 obtain ⟨e2, he2⟩ : ∃ b, (nm != []) = b := ⟨_, rfl⟩
 have he3 : (nm == []) = !e2 := by rw [← he2, bne, Bool.not_not]
 obtain ⟨nk, hnk⟩ : ∃ b, isNameB nm = b := ⟨_, rfl⟩
 rw [haX] at hX
 rw [hnk] at hN
 have HX := Lib.hid hX
 have HN := Lib.hid hN
 rw [haX, he2, hnk] at HI0
 clear hX hN haX hnk
 obtain ⟨lx, h_lx⟩ : ∃ b, ((xl.length : Int) == 1) = b := ⟨_, rfl⟩
 rw [h_lx] at HI0
 obtain ⟨b5, h_b5⟩ : ∃ b, (p.op == 5) = b := ⟨_, rfl⟩
 rw [h_b5] at HI0
 obtain ⟨c5, h_c5⟩ : ∃ b, (q.op == 5) = b := ⟨_, rfl⟩
 rw [h_c5] at HI0
 obtain ⟨c2, h_c2⟩ : ∃ b, (q.op == 2) = b := ⟨_, rfl⟩
 rw [h_c2] at HI0
 obtain ⟨al, h_al⟩ : ∃ b, ([p, q].all standS) = b := ⟨_, rfl⟩
 rw [h_al] at HI0
 rw [h_al] at hS
 have HS := Lib.hid hS
 have HI := HI0
 clear hS HI0
 go_enter Tryz.func162, Tryz.ntmps162
 go_upto_region 1 with (fail)
 generalize w.alloc (.cells #[.int .i64 2, .string (bs nm), .slice xa xl.length xc, .slice sa 2 sc] 134) = w1 at *
 obtain ⟨q0, q1, q2, q3⟩ := open4 BX
 go_wp2_with fail
 refine (HX.out _ hn1 i0).mono ?_
 rintro e w9 ⟨rfl, hb⟩
 clear q0 q1 q2 q3
 replace BX := block_kept BX hb
 have hk9 := Below.keptTo hb hn1
 replace i0 := i0.keep hk9 (fun x _ => XT.In.keep hk9 x)
 replace i1 := i1.keep hk9 (fun x _ => ST.In.keep hk9 x)
 replace hn1 := Nat.le_trans hn1 hb.size
 replace hB := hB.trans (hb.mono hB.size)
 clear hb hk9
 obtain ⟨q0, q1, q2, q3⟩ := open4 BX
 cases aX with
 | true =>
  cases e2 with
  | true =>
   go_wp2
   go_ret
   exact ⟨ret_b (by rw [HI.out]; rfl), hB⟩
  | false =>
   cases lx with
   | true =>
    obtain ⟨b, o, he0, hb0, hr0, _⟩ := i1.at (i := 0) (by simp)
    obtain ⟨b1, o1, he1, hb1, hr1, _⟩ := i1.at (i := 1) (by simp)
    obtain ⟨rfl, rfl⟩ : b = b1 ∧ o = o1 := by have := Option.some.inj (he0.symm.trans he1); injection this with h1 h2; exact ⟨h1, h2⟩
    subst he0
    simp only [List.getElem_cons_zero, List.getElem_cons_succ, Nat.zero_mul, Nat.one_mul, Nat.add_zero] at hr0 hr1
    have p0 := hr0 0 _ (ST.op_cell p)
    have p1 := hr1 0 _ (ST.op_cell q)
    simp only [Nat.add_zero] at p0 p1
    clear he1 hb1 hr0 hr1
    cases b5 with
    | true =>
     cases c5 with
     | true =>
      go_wp2_with fail
      refine (HS.out _ hn1 i1).mono ?_
      rintro e w9 ⟨rfl, hb⟩
      clear q0 q1 q2 q3
      replace BX := block_kept BX hb
      have hk9 := Below.keptTo hb hn1
      replace i0 := i0.keep hk9 (fun x _ => XT.In.keep hk9 x)
      replace i1 := i1.keep hk9 (fun x _ => ST.In.keep hk9 x)
      replace hn1 := Nat.le_trans hn1 hb.size
      replace hB := hB.trans (hb.mono hB.size)
      clear hb hk9
      obtain ⟨q0, q1, q2, q3⟩ := open4 BX
      go_wp2
      go_ret
      exact ⟨ret_b (by rw [HI.out]; rfl), hB⟩
     | false =>
      cases c2 with
      | true =>
       go_wp2_with fail
       refine (HS.out _ hn1 i1).mono ?_
       rintro e w9 ⟨rfl, hb⟩
       clear q0 q1 q2 q3
       replace BX := block_kept BX hb
       have hk9 := Below.keptTo hb hn1
       replace i0 := i0.keep hk9 (fun x _ => XT.In.keep hk9 x)
       replace i1 := i1.keep hk9 (fun x _ => ST.In.keep hk9 x)
       replace hn1 := Nat.le_trans hn1 hb.size
       replace hB := hB.trans (hb.mono hB.size)
       clear hb hk9
       obtain ⟨q0, q1, q2, q3⟩ := open4 BX
       go_wp2
       go_ret
       exact ⟨ret_b (by rw [HI.out]; rfl), hB⟩
      | false =>
       go_wp2
       go_ret
       exact ⟨ret_b (by rw [HI.out]; rfl), hB⟩
    | false =>
     go_wp2
     go_ret
     exact ⟨ret_b (by rw [HI.out]; rfl), hB⟩
   | false =>
    go_wp2
    go_ret
    exact ⟨ret_b (by rw [HI.out]; rfl), hB⟩
 | false =>
  go_wp2
  go_ret
  exact ⟨ret_b (by rw [HI.out]; rfl), hB⟩
theorem refMayS_in : ∀ x : ST, x.bk ≤ 4500000 → x.Wf → (∀ (n0 : Nat) (w : World), n0 ≤ w.heap.size → x.In n0 w → Calls Tryz.prog 162 #[x.val] w fun e w' => e = .returned (.bool (standS x)) ∧ Below w.heap.size w w') ∧ (∀ y ∈ x.sl, ∀ (n0 : Nat) (w : World), n0 ≤ w.heap.size → y.In n0 w → Calls Tryz.prog 162 #[y.val] w fun e w' => e = .returned (.bool (standS y)) ∧ Below w.heap.size w w') := by
 refine ST.ind ?_
 intro op nm xa xc xl sa sc sl ih hbk hwf
 simp only [ST.bk] at hbk
 have hwf2 : XT.WfL xl ∧ ST.WfL sl := hwf
 have hws := (ST.wfL_iff sl).1 hwf2.2
 have hwx := (XT.wfL_iff xl).1 hwf2.1
 have l0 := XT.bkL_len xl
 have l1 := ST.bkL_len sl
 have ihy := fun y (hy : y ∈ sl) => ih y hy (by have := ST.bkL_mem hy; omega) (hws y hy)
 refine ⟨fun n0 w hn0 hin => ?_, fun y hy => (ihy y hy).1⟩
 rw [ST.In_mk] at hin
 obtain ⟨h0, h1⟩ := hin
 rw [stand_ref]
 have cX := fun (w' : World) g1 g2 => refmayL_any xl (by omega) hwx xa xc n0 w' g1 g2
 have cN := fun (w' : World) => refname_any nm (by omega) w'
 have cS := fun (w' : World) g1 g2 => refMayAll_of standS n0 sl (by omega) (fun y hy w2 e1 e2 => (ihy y hy).1 n0 w2 e1 e2) sa sc w' g1 g2
 have cA := fun (w' : World) g1 g2 => refarms_of n0 sl (by omega) hws (fun x hx y hy w2 e1 e2 => (ihy x hx).2 y hy n0 w2 e1 e2) sa sc w' g1 g2
 have hxl : xl.length ≤ 12000000 := by omega
 by_cases o1 : op = 1
 ·subst o1; exact refMayS_1 n0 nm xa xc xl sa sc sl hxl cX cN cS w hn0 h0 h1
 by_cases o2 : op = 2
 ·subst o2
  match sl, cS, h1 with
  | [], cS, h1 => exact refMayS_2n n0 nm xa xc xl sa sc [] hxl cX cN cS rfl w hn0 h0 h1
  | [y], cS, h1 => exact refMayS_2n n0 nm xa xc xl sa sc [y] hxl cX cN cS rfl w hn0 h0 h1
  | [p, q], cS, h1 => exact refMayS_2 n0 nm xa xc xl sa sc p q hxl cX cN cS w hn0 h0 h1
  | p :: q :: y :: r, cS, h1 => exact refMayS_2n n0 nm xa xc xl sa sc (p :: q :: y :: r) hxl cX cN cS (by rw [beq_eq_false_iff_ne]; simp; omega) w hn0 h0 h1
 by_cases o3 : op = 3
 ·subst o3; exact refMayS_3 n0 nm xa xc xl sa sc sl hxl cX cN cA w hn0 h0 h1
 by_cases o5 : op = 5
 ·subst o5; exact refMayS_5 n0 nm xa xc xl sa sc sl hxl cX cN cS w hn0 h0 h1
 by_cases o6 : op = 6
 ·subst o6; exact refMayS_6 n0 nm xa xc xl sa sc sl hxl cX cN cS w hn0 h0 h1
 exact refMayS_o n0 op nm xa xc xl sa sc sl hxl cX cN cS o1 o2 o3 o5 o6 w hn0 h0 h1
end Go.Proofs.YtiipjbafdhijlaaGreatDoor
