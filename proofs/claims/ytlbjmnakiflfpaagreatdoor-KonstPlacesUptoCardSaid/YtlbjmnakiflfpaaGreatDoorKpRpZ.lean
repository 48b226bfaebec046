/-
  RfA, RfB, RfK, RfL, RfE, RfP, RfQ, in one text.
-/
import Derived.Test.YtlbjmnakiflfpaaGreatDoorKpAsNm
import Derived.Test.YtlbjmnakiflfpaaGreatDoorKpAsR
import Derived.Test.YtlbjmnakiflfpaaGreatDoorKpAsU
import Derived.Lib.QuietBelow
import Derived.BigQuiet
import Derived.Test.YtlbjmnakiflfpaaGreatDoorKpKsF
import Derived.Test.YtlbjmnakiflfpaaGreatDoorKpKsJ
import Derived.Laws.AppendOwn
import Derived.Laws.AppendOwnNone
import Derived.OwnWalk
import Derived.Maps.AppendAt
namespace Go.Proofs.YtlbjmnakiflfpaaGreatDoor
open Go Go.RowKit
set_option linter.unusedVariables false
set_option linter.unusedSimpArgs false
open Go.Sort

def namB (op : Int) : Bool := (op == 2) || ((op == 3) || (op == 4))
def partsB (op n : Int) : Bool := if op = 1 ∨ op = 2 then n == 0 else if op = 4 ∨ op = 5 then n == 1 else if op = 3 ∨ op = 6 ∨ op = 9 ∨ op = 10 then n == 2 else if op = 7 then n == 3 else if op = 8 then decide (1 ≤ n) else false
def numerB (op n : Int) : Bool := if op = 5 then decide (1 ≤ n) && decide (n ≤ 6) else if op = 6 then decide (11 ≤ n) && decide (n ≤ 26) else if op = 10 then decide (31 ≤ n) && decide (n ≤ 33) else n == 0
def valB (op wd : Int) (v : Nat) : Bool := if op = 1 then decide (0 ≤ wd) && (decide (wd ≤ 64) && ((wd == 0) || ((wd == 64) || decide (v < 2 ^ wd.toNat)))) else (wd == 0) && ((v : Int) == 0)
def wordsR : List Bytes := [[109, 111, 100, 117, 108, 101], [105, 110], [111, 117, 116], [119, 105, 114, 101], [114, 101, 103], [99, 111, 110, 115, 116], [97, 115, 115, 105, 103, 110], [99, 111, 109, 98], [111, 110], [116, 105, 99, 107], [105, 110, 115, 116], [105, 102], [101, 108, 115, 101], [102, 111, 114], [99, 104, 101, 99, 107], [99, 97, 115, 101], [122, 101, 120, 116], [115, 101, 120, 116], [116, 114, 117, 110, 99]]
def okC (i : Nat) (c : UInt8) : Bool := letter c || (!(i == 0) && digit c)
def okN (i : Nat) : Bytes → Bool
  | [] => true
  | c :: r => okC i c && okN (i + 1) r
theorem okN_pos : ∀ (l : Bytes) (i : Nat), 0 < i → okN i l = l.all inName
  | [], i, h => rfl
  | c :: r, i, h => by
    rw [okN, okN_pos r (i + 1) (by omega), List.all_cons]
    have : (i == 0) = false := by rw [beq_eq_false_iff_ne]; omega
    unfold okC inName
    rw [this]; rfl
theorem isWord_ref (s : Bytes) : isWord s = wordsR.contains s := by
  unfold isWord
  rw [Bool.eq_iff_iff, List.contains_iff_mem, List.contains_iff_mem]
  have h1 : ∀ x ∈ wordList, x ∈ wordsR := by decide
  have h2 : ∀ x ∈ wordsR, x ∈ wordList := by decide
  exact ⟨h1 s, h2 s⟩
theorem isName_ref (s : Bytes) : isNameB s = (!wordsR.contains s && (okN 0 s && (decide (1 ≤ s.length) && decide (s.length ≤ 64)))) := by
  rw [← isWord_ref]
  cases s with
  | nil => simp [isNameB]
  | cons c r =>
    have e : okN 0 (c :: r) = (letter c && r.all inName) := by
      rw [okN, okN_pos r 1 (by omega)]
      simp [okC]
    rw [e]
    have e2 : isNameB (c :: r) = (letter c && (decide ((c :: r).length ≤ 64) && ((c :: r).all inName && !isWord (c :: r)))) := rfl
    rw [e2, List.all_cons]
    have e3 : decide (1 ≤ (c :: r).length) = true := by simp
    rw [e3]
    cases h : letter c
    · simp
    · have e4 : inName c = true := by unfold inName; rw [h]; rfl
      rw [e4]
      cases isWord (c :: r) <;> cases r.all inName <;> cases decide ((c :: r).length ≤ 64) <;> rfl
theorem okN_drop (l : Bytes) (i : Nat) (h : i < l.length) : okN i (l.drop i) = (okC i l[i] && okN (i + 1) (l.drop (i + 1))) := by
  rw [← List.getElem_cons_drop h, okN]

theorem refnamed_any (op : Int) (w : World) : Calls Tryz.prog 83 #[.int .i64 op] w fun e w' => e = .returned (.bool (namB op)) ∧ w = w' := by
  have HI : Hid (namB op = ((op == 2) || ((op == 3) || (op == 4)))) := Lib.hid rfl
  generalize namB op = R at *
  obtain ⟨a, ha⟩ : ∃ b, (op == 2) = b := ⟨_, rfl⟩
  obtain ⟨b, hb⟩ : ∃ b, (op == 3) = b := ⟨_, rfl⟩
  obtain ⟨c, hc⟩ : ∃ b, (op == 4) = b := ⟨_, rfl⟩
  have HE : Hid (R = (a || (b || c))) := Lib.hid (by rw [HI.out, ha, hb, hc])
  cases a <;> cases b
  all_goals
    go_enter Tryz.func83, Tryz.ntmps83
    go_wp2
    go_ret
    exact ⟨ret_b (by rw [HE.out]; rfl), rfl⟩
set_option maxHeartbeats 2000000 in
theorem refparts_any (op n : Int) (w : World) : Calls Tryz.prog 85 #[.int .i64 op, .int .i64 n] w fun e w' => e = .returned (.bool (partsB op n)) ∧ w = w' := by
  by_cases h1 : op = 1
  · subst h1
    have HE : Hid ((partsB 1 n) = (n == 0)) := Lib.hid rfl
    generalize (partsB 1 n) = R at *
    go_enter Tryz.func85, Tryz.ntmps85
    go_wp2
    go_ret
    exact ⟨ret_b HE.out.symm, rfl⟩
  · have e1 : (op == 1) = false := by rw [beq_eq_false_iff_ne]; exact h1
    by_cases h2 : op = 2
    · subst h2
      have HE : Hid ((partsB 2 n) = (n == 0)) := Lib.hid rfl
      generalize (partsB 2 n) = R at *
      go_enter Tryz.func85, Tryz.ntmps85
      go_wp2
      go_ret
      exact ⟨ret_b HE.out.symm, rfl⟩
    · have e2 : (op == 2) = false := by rw [beq_eq_false_iff_ne]; exact h2
      by_cases h4 : op = 4
      · subst h4
        have HE : Hid ((partsB 4 n) = (n == 1)) := Lib.hid rfl
        generalize (partsB 4 n) = R at *
        go_enter Tryz.func85, Tryz.ntmps85
        go_wp2
        go_ret
        exact ⟨ret_b HE.out.symm, rfl⟩
      · have e4 : (op == 4) = false := by rw [beq_eq_false_iff_ne]; exact h4
        by_cases h5 : op = 5
        · subst h5
          have HE : Hid ((partsB 5 n) = (n == 1)) := Lib.hid rfl
          generalize (partsB 5 n) = R at *
          go_enter Tryz.func85, Tryz.ntmps85
          go_wp2
          go_ret
          exact ⟨ret_b HE.out.symm, rfl⟩
        · have e5 : (op == 5) = false := by rw [beq_eq_false_iff_ne]; exact h5
          by_cases h3 : op = 3
          · subst h3
            have HE : Hid ((partsB 3 n) = (n == 2)) := Lib.hid rfl
            generalize (partsB 3 n) = R at *
            go_enter Tryz.func85, Tryz.ntmps85
            go_wp2
            go_ret
            exact ⟨ret_b HE.out.symm, rfl⟩
          · have e3 : (op == 3) = false := by rw [beq_eq_false_iff_ne]; exact h3
            by_cases h6 : op = 6
            · subst h6
              have HE : Hid ((partsB 6 n) = (n == 2)) := Lib.hid rfl
              generalize (partsB 6 n) = R at *
              go_enter Tryz.func85, Tryz.ntmps85
              go_wp2
              go_ret
              exact ⟨ret_b HE.out.symm, rfl⟩
            · have e6 : (op == 6) = false := by rw [beq_eq_false_iff_ne]; exact h6
              by_cases h9 : op = 9
              · subst h9
                have HE : Hid ((partsB 9 n) = (n == 2)) := Lib.hid rfl
                generalize (partsB 9 n) = R at *
                go_enter Tryz.func85, Tryz.ntmps85
                go_wp2
                go_ret
                exact ⟨ret_b HE.out.symm, rfl⟩
              · have e9 : (op == 9) = false := by rw [beq_eq_false_iff_ne]; exact h9
                by_cases h10 : op = 10
                · subst h10
                  have HE : Hid ((partsB 10 n) = (n == 2)) := Lib.hid rfl
                  generalize (partsB 10 n) = R at *
                  go_enter Tryz.func85, Tryz.ntmps85
                  go_wp2
                  go_ret
                  exact ⟨ret_b HE.out.symm, rfl⟩
                · have e10 : (op == 10) = false := by rw [beq_eq_false_iff_ne]; exact h10
                  by_cases h7 : op = 7
                  · subst h7
                    have HE : Hid ((partsB 7 n) = (n == 3)) := Lib.hid rfl
                    generalize (partsB 7 n) = R at *
                    go_enter Tryz.func85, Tryz.ntmps85
                    go_wp2
                    go_ret
                    exact ⟨ret_b HE.out.symm, rfl⟩
                  · have e7 : (op == 7) = false := by rw [beq_eq_false_iff_ne]; exact h7
                    by_cases h8 : op = 8
                    · subst h8
                      have HE : Hid ((partsB 8 n) = (decide (1 ≤ n))) := Lib.hid rfl
                      generalize (partsB 8 n) = R at *
                      go_enter Tryz.func85, Tryz.ntmps85
                      go_wp2
                      go_ret
                      exact ⟨ret_b HE.out.symm, rfl⟩
                    · have e8 : (op == 8) = false := by rw [beq_eq_false_iff_ne]; exact h8
                      have HE : Hid ((partsB op n) = (false)) := Lib.hid (by unfold partsB; simp [*])
                      generalize (partsB op n) = R at *
                      go_enter Tryz.func85, Tryz.ntmps85
                      go_wp2
                      go_ret
                      exact ⟨ret_b HE.out.symm, rfl⟩
set_option maxHeartbeats 2000000 in
theorem refnumber_any (op n : Int) (w : World) : Calls Tryz.prog 86 #[.int .i64 op, .int .i64 n] w fun e w' => e = .returned (.bool (numerB op n)) ∧ w = w' := by
  by_cases h5 : op = 5
  · subst h5
    have HE : Hid ((numerB 5 n) = (decide (1 ≤ n) && decide (n ≤ 6))) := Lib.hid rfl
    generalize (numerB 5 n) = R at *
    go_enter Tryz.func86, Tryz.ntmps86
    obtain ⟨b1, hb1⟩ : ∃ b, decide (1 ≤ n) = b := ⟨_, rfl⟩
    obtain ⟨b2, hb2⟩ : ∃ b, decide (n ≤ 6) = b := ⟨_, rfl⟩
    rw [hb1, hb2] at HE
    cases b1
    all_goals
      go_wp2
      go_ret
      exact ⟨ret_b (by rw [HE.out]; rfl), rfl⟩
  · have e5 : (op == 5) = false := by rw [beq_eq_false_iff_ne]; exact h5
    by_cases h6 : op = 6
    · subst h6
      have HE : Hid ((numerB 6 n) = (decide (11 ≤ n) && decide (n ≤ 26))) := Lib.hid rfl
      generalize (numerB 6 n) = R at *
      go_enter Tryz.func86, Tryz.ntmps86
      obtain ⟨b1, hb1⟩ : ∃ b, decide (11 ≤ n) = b := ⟨_, rfl⟩
      obtain ⟨b2, hb2⟩ : ∃ b, decide (n ≤ 26) = b := ⟨_, rfl⟩
      rw [hb1, hb2] at HE
      cases b1
      all_goals
        go_wp2
        go_ret
        exact ⟨ret_b (by rw [HE.out]; rfl), rfl⟩
    · have e6 : (op == 6) = false := by rw [beq_eq_false_iff_ne]; exact h6
      by_cases h10 : op = 10
      · subst h10
        have HE : Hid ((numerB 10 n) = (decide (31 ≤ n) && decide (n ≤ 33))) := Lib.hid rfl
        generalize (numerB 10 n) = R at *
        go_enter Tryz.func86, Tryz.ntmps86
        obtain ⟨b1, hb1⟩ : ∃ b, decide (31 ≤ n) = b := ⟨_, rfl⟩
        obtain ⟨b2, hb2⟩ : ∃ b, decide (n ≤ 33) = b := ⟨_, rfl⟩
        rw [hb1, hb2] at HE
        cases b1
        all_goals
          go_wp2
          go_ret
          exact ⟨ret_b (by rw [HE.out]; rfl), rfl⟩
      · have e10 : (op == 10) = false := by rw [beq_eq_false_iff_ne]; exact h10
        have HE : Hid ((numerB op n) = (n == 0)) := Lib.hid (by unfold numerB; simp [*])
        generalize (numerB op n) = R at *
        go_enter Tryz.func86, Tryz.ntmps86
        go_wp2
        go_ret
        exact ⟨ret_b HE.out.symm, rfl⟩

set_option maxHeartbeats 2000000 in
theorem refwords_any (w : World) : Calls Tryz.prog 126 #[] w fun e w' => ∃ a, e = .returned (.slice a 19 19) ∧ LiesS w' a wordsR ∧ Below w.heap.size w w' := by
  go_enter Tryz.func126, Tryz.ntmps126
  go_wp2
  go_ret
  refine ⟨_, rfl, .inr ⟨_, _, rfl, fun i hi => ?_⟩, (Below.refl _ _).alloc (Nat.le_refl _) _⟩
  have hi2 : i < 19 := hi
  simp only [World.cell?_alloc_new, Nat.zero_add]
  rcases i with _ | _ | _ | _ | _ | _ | _ | _ | _ | _ | _ | _ | _ | _ | _ | _ | _ | _ | _ | i
  all_goals first | rfl | (simp; done) | (exfalso; omega)

set_option maxHeartbeats 8000000 in
set_option maxRecDepth 3000000 in
theorem refname_any (s : Bytes) (hs : s.length ≤ 3000000) (w : World) : Calls Tryz.prog 84 #[.string (bs s)] w fun e w' => e = .returned (.bool (isNameB s)) ∧ Below w.heap.size w w' := by
  have HI : Hid (isNameB s = (!wordsR.contains s && (okN 0 s && (decide (1 ≤ s.length) && decide (s.length ≤ 64))))) := Lib.hid (isName_ref s)
  generalize isNameB s = R at *
  go_enter Tryz.func84, Tryz.ntmps84
  go_wp2_with fail
  refine (refwords_any _).mono ?_
  rintro e w1 ⟨a, rfl, hl, hB⟩
  have HL := Lib.hid hl
  clear hl
  have hwl : wordsR.length = 19 := rfl
  obtain ⟨WL, hWL⟩ : ∃ WL, wordsR = WL := ⟨_, rfl⟩
  rw [hWL] at HL HI hwl
  clear hWL
  obtain ⟨q1, hq1⟩ : ∃ b, decide ((1 : Int) ≤ s.length) = b := ⟨_, rfl⟩
  obtain ⟨q2, hq2⟩ : ∃ b, decide ((s.length : Int) ≤ 64) = b := ⟨_, rfl⟩
  have f1 : decide (1 ≤ s.length) = q1 := by rw [← hq1]; exact decide_eq_decide.2 (by omega)
  have f2 : decide (s.length ≤ 64) = q2 := by rw [← hq2]; exact decide_eq_decide.2 (by omega)
  rw [f1, f2] at HI
  have HQ := Lib.hid (And.intro f1 f2)
  clear f1 f2
  go_wp2
  go_loopg [4] WL.length (fun g u wr => ∃ i : Nat, u = .int .i64 i ∧ i + g = WL.length ∧ (WL.drop i).contains s = WL.contains s ∧ wr = w1)
  case atStart => exact ⟨0, rfl, by omega, by rw [List.drop_zero], rfl⟩
  case round =>
    obtain ⟨i, rfl, hi, hdr, rfl⟩ := hrel
    have HD := Lib.hid hdr
    clear hdr
    by_cases hlt : i < WL.length
    · have d1 : decide (i < 19) = true := by rw [decide_eq_true_eq]; omega
      have d2 : decide ((i : Int) < 19) = true := by rw [decide_eq_true_eq]; omega
      have d3 : (i : Int) < 19 := by omega
      have HX : Hid ((s == WL[i] || (WL.drop (i + 1)).contains s) = WL.contains s) := Lib.hid (by rw [← HD.out, ← List.getElem_cons_drop hlt, List.contains_cons])
      obtain ⟨b1, o1, rfl, hL1⟩ := (HL.out).resolve_left (by intro h; rw [h] at hlt; simp at hlt)
      replace hL1 := hL1 i hlt
      generalize WL[i] = t at *
      by_cases heq : (s == t) = true
      · have HE : Hid (R = false) := Lib.hid (by rw [HI.out, ← HX.out, heq]; rfl)
        clear HX HD HL HI
        go_wp2
        go_ret
        exact ⟨ret_bool HE.out.symm, hB⟩
      · have heq2 : (s == t) = false := by simpa using heq
        have HX2 : Hid ((WL.drop (i + 1)).contains s = WL.contains s) := Lib.hid (by rw [← HX.out, heq2]; rfl)
        clear HX HD heq
        go_wp2
        cases gk with
        | zero => omega
        | succ gg =>
          go_roundg gg
          case rel => exact ⟨i + 1, rfl, by omega, HX2.out, rfl⟩
          case measure => omega
    · have d1 : decide (i < 19) = false := by rw [decide_eq_false_iff_not]; omega
      have d2 : decide ((i : Int) < 19) = false := by rw [decide_eq_false_iff_not]; omega
      have HI2 : Hid (WL.contains s = false) := Lib.hid (by rw [← HD.out, List.drop_eq_nil_of_le (by omega)]; rfl)
      obtain ⟨R2, hR2⟩ : ∃ R2, okN 0 s = R2 := ⟨_, rfl⟩
      have HI3 : Hid (R = (R2 && (q1 && q2))) := Lib.hid (by rw [HI.out, HI2.out, hR2]; rfl)
      have HR2 := Lib.hid hR2
      clear HI HI2 HD HL hR2
      go_wp2
      go_loopg [5] s.length (fun g u wr' => ∃ i : Nat, u = .int .i64 i ∧ i + g = s.length ∧ okN i (s.drop i) = R2 ∧ wr' = wr)
      case atStart => exact ⟨0, rfl, by omega, by rw [List.drop_zero]; exact HR2.out, rfl⟩
      case round =>
        obtain ⟨i, rfl, hi, hdr, rfl⟩ := hrel
        have HD := Lib.hid hdr
        clear hdr
        by_cases hlt : i < s.length
        · have d1 : decide (i < s.length) = true := by simpa using hlt
          have d2 : decide ((i : Int) < (s.length : Int)) = true := by rw [decide_eq_true_eq]; omega
          have d3 : (i : Int) < (s.length : Int) := by omega
          have HX : Hid ((okC i s[i] && okN (i + 1) (s.drop (i + 1))) = R2) := Lib.hid (by rw [← HD.out, okN_drop s i hlt])
          obtain ⟨t0, ht0⟩ : ∃ b, decide ((97 : Int) ≤ (s[i].toNat : Int)) = b := ⟨_, rfl⟩
          obtain ⟨t1, ht1⟩ : ∃ b, decide ((s[i].toNat : Int) ≤ 122) = b := ⟨_, rfl⟩
          obtain ⟨t2, ht2⟩ : ∃ b, decide ((65 : Int) ≤ (s[i].toNat : Int)) = b := ⟨_, rfl⟩
          obtain ⟨t3, ht3⟩ : ∃ b, decide ((s[i].toNat : Int) ≤ 90) = b := ⟨_, rfl⟩
          obtain ⟨t4, ht4⟩ : ∃ b, ((s[i].toNat : Int) == 95) = b := ⟨_, rfl⟩
          obtain ⟨t5, ht5⟩ : ∃ b, decide ((s[i].toNat : Int) < 48) = b := ⟨_, rfl⟩
          obtain ⟨t6, ht6⟩ : ∃ b, decide ((57 : Int) < (s[i].toNat : Int)) = b := ⟨_, rfl⟩
          obtain ⟨t7, ht7⟩ : ∃ b, ((i : Int) == 0) = b := ⟨_, rfl⟩
          have HV : Hid (okC i s[i] = (((t0 && t1) || (t2 && t3) || t4) || (!t7 && (!t5 && !t6)))) := Lib.hid (by
            rw [← ht0, ← ht1, ← ht2, ← ht3, ← ht4, ← ht5, ← ht6, ← ht7]
            have e1 : ((i : Int) == 0) = (i == 0) := by rw [Bool.eq_iff_iff, beq_iff_eq, beq_iff_eq]; omega
            have e2 : digit s[i] = (!decide ((s[i].toNat : Int) < 48) && !decide ((57 : Int) < (s[i].toNat : Int))) := by
              show (decide ((48 : Int) ≤ (s[i].toNat : Int)) && decide ((s[i].toNat : Int) ≤ 57)) = _
              congr 1
              · rw [Bool.eq_iff_iff]; simp
              · rw [Bool.eq_iff_iff]; simp
            unfold okC
            rw [e1, e2]; rfl)
          generalize okC i s[i] = V at *
          cases t0 with
          | false =>
            cases t2 with
            | false =>
              cases t4 with
              | true =>
                go_wp2
                cases gk with
                | zero => omega
                | succ gg =>
                  go_roundg gg
                  case rel => exact ⟨i + 1, by simp; first | done | rfl | omega, by omega, by rw [← HX.out, HV.out]; rfl, rfl⟩
                  case measure => omega
              | false =>
                cases t7 with
                | true =>
                  have HE : Hid (R = false) := Lib.hid (by rw [HI3.out, ← HX.out, HV.out]; rfl)
                  go_wp2
                  go_ret
                  exact ⟨ret_bool HE.out.symm, hB⟩
                | false =>
                  cases t5 with
                  | true =>
                    have HE : Hid (R = false) := Lib.hid (by rw [HI3.out, ← HX.out, HV.out]; rfl)
                    go_wp2
                    go_ret
                    exact ⟨ret_bool HE.out.symm, hB⟩
                  | false =>
                    cases t6 with
                    | true =>
                      have HE : Hid (R = false) := Lib.hid (by rw [HI3.out, ← HX.out, HV.out]; rfl)
                      go_wp2
                      go_ret
                      exact ⟨ret_bool HE.out.symm, hB⟩
                    | false =>
                      go_wp2
                      cases gk with
                      | zero => omega
                      | succ gg =>
                        go_roundg gg
                        case rel => exact ⟨i + 1, by simp; first | done | rfl | omega, by omega, by rw [← HX.out, HV.out]; rfl, rfl⟩
                        case measure => omega
            | true =>
              cases t3 with
              | true =>
                go_wp2
                cases gk with
                | zero => omega
                | succ gg =>
                  go_roundg gg
                  case rel => exact ⟨i + 1, by simp; first | done | rfl | omega, by omega, by rw [← HX.out, HV.out]; rfl, rfl⟩
                  case measure => omega
              | false =>
                cases t4 with
                | true =>
                  go_wp2
                  cases gk with
                  | zero => omega
                  | succ gg =>
                    go_roundg gg
                    case rel => exact ⟨i + 1, by simp; first | done | rfl | omega, by omega, by rw [← HX.out, HV.out]; rfl, rfl⟩
                    case measure => omega
                | false =>
                  cases t7 with
                  | true =>
                    have HE : Hid (R = false) := Lib.hid (by rw [HI3.out, ← HX.out, HV.out]; rfl)
                    go_wp2
                    go_ret
                    exact ⟨ret_bool HE.out.symm, hB⟩
                  | false =>
                    cases t5 with
                    | true =>
                      have HE : Hid (R = false) := Lib.hid (by rw [HI3.out, ← HX.out, HV.out]; rfl)
                      go_wp2
                      go_ret
                      exact ⟨ret_bool HE.out.symm, hB⟩
                    | false =>
                      cases t6 with
                      | true =>
                        have HE : Hid (R = false) := Lib.hid (by rw [HI3.out, ← HX.out, HV.out]; rfl)
                        go_wp2
                        go_ret
                        exact ⟨ret_bool HE.out.symm, hB⟩
                      | false =>
                        go_wp2
                        cases gk with
                        | zero => omega
                        | succ gg =>
                          go_roundg gg
                          case rel => exact ⟨i + 1, by simp; first | done | rfl | omega, by omega, by rw [← HX.out, HV.out]; rfl, rfl⟩
                          case measure => omega
          | true =>
            cases t1 with
            | true =>
              go_wp2
              cases gk with
              | zero => omega
              | succ gg =>
                go_roundg gg
                case rel => exact ⟨i + 1, by simp; first | done | rfl | omega, by omega, by rw [← HX.out, HV.out]; rfl, rfl⟩
                case measure => omega
            | false =>
              cases t2 with
              | false =>
                cases t4 with
                | true =>
                  go_wp2
                  cases gk with
                  | zero => omega
                  | succ gg =>
                    go_roundg gg
                    case rel => exact ⟨i + 1, by simp; first | done | rfl | omega, by omega, by rw [← HX.out, HV.out]; rfl, rfl⟩
                    case measure => omega
                | false =>
                  cases t7 with
                  | true =>
                    have HE : Hid (R = false) := Lib.hid (by rw [HI3.out, ← HX.out, HV.out]; rfl)
                    go_wp2
                    go_ret
                    exact ⟨ret_bool HE.out.symm, hB⟩
                  | false =>
                    cases t5 with
                    | true =>
                      have HE : Hid (R = false) := Lib.hid (by rw [HI3.out, ← HX.out, HV.out]; rfl)
                      go_wp2
                      go_ret
                      exact ⟨ret_bool HE.out.symm, hB⟩
                    | false =>
                      cases t6 with
                      | true =>
                        have HE : Hid (R = false) := Lib.hid (by rw [HI3.out, ← HX.out, HV.out]; rfl)
                        go_wp2
                        go_ret
                        exact ⟨ret_bool HE.out.symm, hB⟩
                      | false =>
                        go_wp2
                        cases gk with
                        | zero => omega
                        | succ gg =>
                          go_roundg gg
                          case rel => exact ⟨i + 1, by simp; first | done | rfl | omega, by omega, by rw [← HX.out, HV.out]; rfl, rfl⟩
                          case measure => omega
              | true =>
                cases t3 with
                | true =>
                  go_wp2
                  cases gk with
                  | zero => omega
                  | succ gg =>
                    go_roundg gg
                    case rel => exact ⟨i + 1, by simp; first | done | rfl | omega, by omega, by rw [← HX.out, HV.out]; rfl, rfl⟩
                    case measure => omega
                | false =>
                  cases t4 with
                  | true =>
                    go_wp2
                    cases gk with
                    | zero => omega
                    | succ gg =>
                      go_roundg gg
                      case rel => exact ⟨i + 1, by simp; first | done | rfl | omega, by omega, by rw [← HX.out, HV.out]; rfl, rfl⟩
                      case measure => omega
                  | false =>
                    cases t7 with
                    | true =>
                      have HE : Hid (R = false) := Lib.hid (by rw [HI3.out, ← HX.out, HV.out]; rfl)
                      go_wp2
                      go_ret
                      exact ⟨ret_bool HE.out.symm, hB⟩
                    | false =>
                      cases t5 with
                      | true =>
                        have HE : Hid (R = false) := Lib.hid (by rw [HI3.out, ← HX.out, HV.out]; rfl)
                        go_wp2
                        go_ret
                        exact ⟨ret_bool HE.out.symm, hB⟩
                      | false =>
                        cases t6 with
                        | true =>
                          have HE : Hid (R = false) := Lib.hid (by rw [HI3.out, ← HX.out, HV.out]; rfl)
                          go_wp2
                          go_ret
                          exact ⟨ret_bool HE.out.symm, hB⟩
                        | false =>
                          go_wp2
                          cases gk with
                          | zero => omega
                          | succ gg =>
                            go_roundg gg
                            case rel => exact ⟨i + 1, by simp; first | done | rfl | omega, by omega, by rw [← HX.out, HV.out]; rfl, rfl⟩
                            case measure => omega
        · have d1 : decide (i < s.length) = false := by simpa using hlt
          have d2 : decide ((i : Int) < (s.length : Int)) = false := by rw [decide_eq_false_iff_not]; omega
          have HE : Hid (R2 = true) := Lib.hid (by rw [← HD.out, List.drop_eq_nil_of_le (by omega)]; rfl)
          have HF : Hid (R = (q1 && q2)) := Lib.hid (by rw [HI3.out, HE.out]; rfl)
          cases q1
          all_goals
            go_wp2
            go_ret
            exact ⟨ret_bool (by rw [HF.out]; rfl), hB⟩
end Go.Proofs.YtlbjmnakiflfpaaGreatDoor
namespace Go.Proofs.YtlbjmnakiflfpaaGreatDoor
open Go Go.RowKit
set_option linter.unusedVariables false
set_option linter.unusedSimpArgs false
open Go.Sort

theorem valB_num (op wd : Int) (v : Nat) (hv : v < 18446744073709551616) : valB op wd v = numB op wd v := by
  unfold valB numB
  by_cases h : op = 1
  · rw [if_pos h, if_pos h]
    unfold holdsI
    by_cases h0 : wd = 0
    · subst h0; simp
    · have e0 : (wd == 0) = false := by rw [beq_eq_false_iff_ne]; exact h0
      rw [e0, Bool.false_or, Bool.false_or]
      by_cases h1 : 0 ≤ wd
      · by_cases h2 : wd ≤ 64
        · have e1 : decide (0 ≤ wd) = true := by simpa using h1
          have e2 : decide (wd ≤ 64) = true := by simpa using h2
          have e3 : decide (1 ≤ wd) = true := by rw [decide_eq_true_eq]; omega
          rw [e1, e2, e3]
          by_cases h3 : wd = 64
          · subst h3
            simp [hv]
          · have e4 : (wd == 64) = false := by rw [beq_eq_false_iff_ne]; exact h3
            rw [e4]; simp
        · have e2 : decide (wd ≤ 64) = false := by simpa using h2
          rw [e2]; simp
      · have e1 : decide (0 ≤ wd) = false := by simpa using h1
        have e3 : decide (1 ≤ wd) = false := by rw [decide_eq_false_iff_not]; omega
        rw [e1, e3]; simp
  · rw [if_neg h, if_neg h]
theorem mayX_ref (op : Int) (nm : Bytes) (xn wd : Int) (v : Nat) (xa : Option Addr) (xc : Nat) (xl : List XT) (hv : v < 18446744073709551616) :
    mayX (.mk op nm xn wd v xa xc xl) = (!(namB op != (nm != [])) && (!(namB op && !isNameB nm) && (partsB op xl.length && (numerB op xn && (valB op wd v && xl.all mayX))))) := by
  rw [mayX, mayXL_all, valB_num op wd v hv]
  cases hb : amongB op 11 with
  | false =>
    have h9 : partsB op xl.length = false := by
      have h1 : ¬ (1 ≤ op ∧ op < 11) := by
        intro h; unfold amongB at hb
        rw [decide_eq_true h.1, decide_eq_true h.2] at hb; cases hb
      unfold partsB
      rw [if_neg (by omega), if_neg (by omega), if_neg (by omega), if_neg (by omega), if_neg (by omega)]
    rw [h9]; simp
  | true =>
    have hr : 1 ≤ op ∧ op < 11 := by unfold amongB at hb; simpa using hb
    have hn0 : nameB nm false = (nm == []) := by unfold nameB; cases nm <;> rfl
    have hn1 : nameB nm true = isNameB nm := rfl
    have hn2 : (nm != []) = !(nm == []) := rfl
    have hn3 : (nm == []) = true → isNameB nm = false := by intro h; rw [eq_of_beq h]; rfl
    obtain ⟨k, rfl⟩ : ∃ k : Nat, op = (k : Int) := ⟨op.toNat, by omega⟩
    rw [Int.toNat_natCast, hn2]
    generalize numB (k : Int) wd v = NB
    generalize xl.all mayX = ALL
    generalize (xl.length : Int) = len
    have hk1 : 1 ≤ k := by omega
    have hk2 : k < 11 := by omega
    have cases10 : k = 1 ∨ k = 2 ∨ k = 3 ∨ k = 4 ∨ k = 5 ∨ k = 6 ∨ k = 7 ∨ k = 8 ∨ k = 9 ∨ k = 10 := by omega
    rcases cases10 with h | h | h | h | h | h | h | h | h | h
    all_goals
      subst h
      simp only [kx, namB, partsB, numerB, countB]
      first | rw [hn1] | rw [hn0]
      revert hn3
      generalize isNameB nm = I
      generalize (nm == []) = E
      intro hn3
      cases I <;> cases E <;> simp_all <;> (try simp [Int.le_antisymm_iff]) <;> grind

set_option maxHeartbeats 2000000 in
set_option maxRecDepth 3000000 in
theorem refvalue_any (op : Int) (nm : Bytes) (xn wd : Int) (v : Nat) (xa : Option Addr) (xc : Nat) (xl : List XT) (hv : v < 18446744073709551616) (w : World) : Calls Tryz.prog 87 #[.agg #[.int .i64 op, .string (bs nm), .int .i64 xn, .int .i64 wd, .int .u64 (v : Int), .slice xa xl.length xc]] w fun e w' => e = .returned (.bool (valB op wd v)) ∧ Below w.heap.size w w' := by
  have HB : Below w.heap.size w (w.alloc (.cells #[.int .i64 op, .string (bs nm), .int .i64 xn, .int .i64 wd, .int .u64 (v : Int), .slice xa xl.length xc] 25)) := (Below.refl _ _).alloc (Nat.le_refl _) _
  have HI : Hid (valB op wd v = if op = 1 then decide (0 ≤ wd) && (decide (wd ≤ 64) && ((wd == 0) || ((wd == 64) || decide (v < 2 ^ wd.toNat)))) else (wd == 0) && ((v : Int) == 0)) := Lib.hid rfl
  generalize valB op wd v = R at *
  by_cases h1 : op = 1
  · subst h1
    replace HI : Hid (R = (decide (0 ≤ wd) && (decide (wd ≤ 64) && ((wd == 0) || ((wd == 64) || decide (v < 2 ^ wd.toNat)))))) := Lib.hid (by rw [HI.out, if_pos rfl])
    by_cases h2 : 0 ≤ wd
    · have d2 : decide (0 ≤ wd) = true := by simpa using h2
      by_cases h3 : wd ≤ 64
      · have d3 : decide (wd ≤ 64) = true := by simpa using h3
        by_cases h4 : wd = 0
        · subst h4
          have HE : Hid (R = true) := Lib.hid (by rw [HI.out, d3]; rfl)
          go_enter Tryz.func87, Tryz.ntmps87
          go_wp2
          go_ret
          exact ⟨ret_b HE.out.symm, HB⟩
        · have d4 : (wd == 0) = false := by rw [beq_eq_false_iff_ne]; exact h4
          by_cases h5 : wd = 64
          · subst h5
            have HE : Hid (R = true) := Lib.hid (by rw [HI.out]; rfl)
            go_enter Tryz.func87, Tryz.ntmps87
            go_wp2
            go_ret
            exact ⟨ret_b HE.out.symm, HB⟩
          · have d5 : (wd == 64) = false := by rw [beq_eq_false_iff_ne]; exact h5
            have HE : Hid (R = decide (v < 2 ^ wd.toNat)) := Lib.hid (by rw [HI.out, d2, d3, d4, d5]; rfl)
            obtain ⟨n, rfl⟩ : ∃ n : Nat, wd = n := ⟨wd.toNat, by omega⟩
            have wu : IntKind.u64.wrap (n : Int) = n := by rw [IntKind.wrap_u64]; omega
            go_enter Tryz.func87, Tryz.ntmps87
            go_wp2
            go_ret
            refine ⟨ret_b ?_, HB⟩
            rw [HE.out, Int.toNat_natCast, Bool.eq_iff_iff, beq_iff_eq, decide_eq_true_eq]
            have e : (v : Int) / 2 ^ n = ((v / 2 ^ n : Nat) : Int) := by rw [Int.natCast_ediv, Int.natCast_pow]; rfl
            rw [e]
            have := Nat.div_eq_zero_iff_lt (x := v) (Nat.two_pow_pos n)
            omega
      · have d3 : decide (wd ≤ 64) = false := by simpa using h3
        have HE : Hid (R = false) := Lib.hid (by rw [HI.out, d2, d3]; rfl)
        go_enter Tryz.func87, Tryz.ntmps87
        go_wp2
        go_ret
        exact ⟨ret_b HE.out.symm, HB⟩
    · have d2 : decide (0 ≤ wd) = false := by simpa using h2
      have HE : Hid (R = false) := Lib.hid (by rw [HI.out, d2]; rfl)
      go_enter Tryz.func87, Tryz.ntmps87
      go_wp2
      go_ret
      exact ⟨ret_b HE.out.symm, HB⟩
  · have d1 : (op != 1) = true := by simpa using h1
    obtain ⟨b1, hb1⟩ : ∃ b, (wd == 0) = b := ⟨_, rfl⟩
    obtain ⟨b2, hb2⟩ : ∃ b, ((v : Int) == 0) = b := ⟨_, rfl⟩
    have HE : Hid (R = (b1 && b2)) := Lib.hid (by rw [HI.out, if_neg h1, hb1, hb2])
    cases b1
    all_goals
      go_enter Tryz.func87, Tryz.ntmps87
      go_wp2
      go_ret
      exact ⟨ret_b (by rw [HE.out]; rfl), HB⟩
set_option maxHeartbeats 1000000 in
theorem reftold_any (n d : Int) (may : Bool) (w : World) : Calls Tryz.prog 44 #[.int .i64 n, .int .i64 d, .bool may] w fun e w' => e = .returned (.int .i64 (if (decide (65536 < n) || decide (64 < d)) = true then 2 else if may = true then 0 else 1)) ∧ w = w' := by
  obtain ⟨b1, hb1⟩ : ∃ b, decide (65536 < n) = b := ⟨_, rfl⟩
  obtain ⟨b2, hb2⟩ : ∃ b, decide (64 < d) = b := ⟨_, rfl⟩
  rw [hb1, hb2]
  cases b1 <;> cases b2 <;> cases may
  all_goals
    go_enter Tryz.func44, Tryz.ntmps44
    go_wp2
    go_ret
    exact ⟨rfl, rfl⟩

set_option maxHeartbeats 8000000 in
set_option maxRecDepth 3000000 in
theorem refmayL_of (p : XT → Bool) (n0 : Nat) (l : List XT) (hll : l.length ≤ 4000000) (hc : ∀ x ∈ l, ∀ w, n0 ≤ w.heap.size → x.In n0 w → Calls Tryz.prog 45 #[x.val] w fun e w' => e = .returned (.bool (p x)) ∧ Below w.heap.size w w') (a : Option Addr) (c : Nat) (w : World) (hn0 : n0 ≤ w.heap.size) (hin : InRow 6 XT.cells (XT.In n0 w) n0 w l a) : Calls Tryz.prog 88 #[.slice a l.length c] w fun e w' => e = .returned (.bool (l.all p)) ∧ Below w.heap.size w w' := by
  go_enter Tryz.func88, Tryz.ntmps88
  go_wp2
  go_loopw [3] (fun u wr => ∃ k : Nat, u = .int .i64 k ∧ k ≤ l.length ∧ (l.take k).all p = true ∧ Below w.heap.size w wr) (fun u _ => l.length - (intOf u).toNat)
  case atStart => exact ⟨0, rfl, Nat.zero_le _, rfl, Below.refl _ _⟩
  case round =>
    obtain ⟨k, rfl, hk, hal, hb0⟩ := hrel
    have HA := Lib.hid hal
    clear hal
    by_cases hlt : k < l.length
    · have d1 : decide (k < l.length) = true := by simpa using hlt
      have d2 : decide ((k : Int) < (l.length : Int)) = true := by rw [decide_eq_true_eq]; omega
      have x1 : (k : Int) < (l.length : Int) := by omega
      obtain ⟨b, o, rfl, hb, hr, hx⟩ := hin.kept (Below.keptTo hb0 hn0) hlt
      have HT := Lib.hid (all_take p l k hlt)
      have HS := Lib.hid (all_stop p l k hlt)
      have hcx := hc l[k] (List.getElem_mem hlt)
      have hxin := hx.keep (Below.keptTo hb0 hn0)
      have zz := hb0.size
      have c0 := hcx wr (by omega) hxin
      generalize p l[k] = bp at *
      generalize hgx : l[k] = x at *
      obtain ⟨op, nm, xn, wd, v, xa, xc, xl⟩ := x
      have r0 : wr.cell? ⟨b, o + k * 6, none⟩ = some (.int .i64 op) := hr 0 _ rfl
      have r1 : wr.cell? ⟨b, o + k * 6 + 1, none⟩ = some (.string (bs nm)) := hr 1 _ rfl
      have r2 : wr.cell? ⟨b, o + k * 6 + 2, none⟩ = some (.int .i64 xn) := hr 2 _ rfl
      have r3 : wr.cell? ⟨b, o + k * 6 + 3, none⟩ = some (.int .i64 wd) := hr 3 _ rfl
      have r4 : wr.cell? ⟨b, o + k * 6 + 4, none⟩ = some (.int .u64 (v : Int)) := hr 4 _ rfl
      have r5 : wr.cell? ⟨b, o + k * 6 + 5, none⟩ = some (.slice xa xl.length xc) := hr 5 _ rfl
      simp only [XT.val, XT.cells] at c0
      clear hin hc hcx hr hx hxin hgx
      cases bp with
      | true =>
        clear HS
        go_wp2_with fail
        refine c0.mono ?_
        clear c0
        rintro e W1 ⟨rfl, hb1⟩
        have hb2 := hb0.trans (hb1.mono zz)
        go_wp2
        go_roundw
        case rel => exact ⟨k + 1, by simp; first | done | rfl | omega, by omega, by rw [HT.out, HA.out]; rfl, hb2⟩
        case measure => simp [intOf]; omega
      | false =>
        have HE : Hid (l.all p = false) := Lib.hid (HS.out rfl)
        clear HS HT
        go_wp2_with fail
        refine c0.mono ?_
        clear c0
        rintro e W1 ⟨rfl, hb1⟩
        have hb2 := hb0.trans (hb1.mono zz)
        go_wp2
        go_ret
        exact ⟨by rw [HE.out]; rfl, hb2⟩
    · have d1 : decide (k < l.length) = false := by simpa using hlt
      have d2 : decide ((k : Int) < (l.length : Int)) = false := by rw [decide_eq_false_iff_not]; omega
      have hkl : k = l.length := by omega
      have HE : Hid (l.all p = true) := Lib.hid (by have := HA.out; rw [hkl, List.take_length] at this; exact this)
      clear hkl
      go_wp2
      go_ret
      exact ⟨by rw [HE.out]; rfl, hb0⟩

set_option maxHeartbeats 16000000 in
set_option maxRecDepth 3000000 in
theorem refmayX_any : ∀ x : XT, x.bk ≤ 1500000 → x.Wf → ∀ (n0 : Nat) (w : World), n0 ≤ w.heap.size → x.In n0 w → Calls Tryz.prog 45 #[x.val] w fun e w' => e = .returned (.bool (mayX x)) ∧ Below w.heap.size w w' := by
  refine XT.ind ?_
  intro op nm xn wd v xa xc xl ih hbk hwf n0 w hn0 hin
  rw [XT.In_mk] at hin
  rw [XT.wf_mk] at hwf
  obtain ⟨hv, hwl⟩ := hwf
  simp only [XT.bk] at hbk
  have hlen := XT.bkL_len xl
  have HI : Hid (mayX (.mk op nm xn wd v xa xc xl) = (!(namB op != (nm != [])) && (!(namB op && !isNameB nm) && (partsB op xl.length && (numerB op xn && (valB op wd v && xl.all mayX)))))) := Lib.hid (mayX_ref op nm xn wd v xa xc xl hv)
  generalize mayX (.mk op nm xn wd v xa xc xl) = R at *
  have HN1 := Lib.hid (fun w => refnamed_any op w)
  have HN2 := Lib.hid (fun w => refname_any nm (by omega) w)
  have HN3 := Lib.hid (fun w => refparts_any op (xl.length : Int) w)
  have HN4 := Lib.hid (fun w => refnumber_any op xn w)
  have HN5 := Lib.hid (fun w => refvalue_any op nm xn wd v xa xc xl hv w)
  have HL := Lib.hid (fun (w' : World) h1 h2 => refmayL_of mayX n0 xl (by omega) (fun y hy w2 g1 g2 => ih y hy (by have := XT.bkL_mem hy; omega) (hwl y hy) n0 w2 g1 g2) xa xc w' h1 h2)
  clear ih hbk hv hwl hlen
  generalize namB op = nb at *
  obtain ⟨ne, hne⟩ : ∃ b, (nm != []) = b := ⟨_, rfl⟩
  have hne2 : (nm == []) = !ne := by rw [← hne, bne, Bool.not_not]
  generalize isNameB nm = nk at *
  generalize partsB op xl.length = pb at *
  generalize numerB op xn = ub at *
  generalize valB op wd v = vb at *
  generalize xl.all mayX = al at *
  rw [hne] at HI
  simp only [XT.val, XT.cells]
  have BX := World.alloc_heap_new w (.cells #[.int .i64 op, .string (bs nm), .int .i64 xn, .int .i64 wd, .int .u64 (v : Int), .slice xa xl.length xc] 25)
  have hB : Below w.heap.size w (w.alloc (.cells #[.int .i64 op, .string (bs nm), .int .i64 xn, .int .i64 wd, .int .u64 (v : Int), .slice xa xl.length xc] 25)) := (Below.refl _ _).alloc (Nat.le_refl _) _
  have hin1 := hin.keep (Below.keptTo hB hn0) (fun x _ => XT.In.keep (Below.keptTo hB hn0) x)
  have hn1 := Nat.le_trans hn0 hB.size
  clear hin hn0
  go_enter Tryz.func45, Tryz.ntmps45
  go_upto_region 1 with (fail)
  generalize w.alloc (.cells #[.int .i64 op, .string (bs nm), .int .i64 xn, .int .i64 wd, .int .u64 (v : Int), .slice xa xl.length xc] 25) = w1 at *
  cases nb with
  | true =>
    cases ne with
    | false =>
      obtain ⟨q0, q1, q2, q3, q4, q5⟩ := open6 BX
      go_wp2_with fail
      have q0R := cell_regrown q0
      have q1R := cell_regrown q1
      have q2R := cell_regrown q2
      have q3R := cell_regrown q3
      have q4R := cell_regrown q4
      have q5R := cell_regrown q5
      refine wp_region_quiet_below (by kernel_rfl) (by kernel_rfl) ?_
      repeat (go_big_quiet_step (first | (go_at_call 83; exact regrown_same (HN1.out _)) | (go_at_call 84; exact Calls.regrown_of (HN2.out _)) | (go_at_call 85; exact regrown_same (HN3.out _)) | (go_at_call 86; exact regrown_same (HN4.out _)) | (go_at_call 87; exact Calls.regrown_of (HN5.out _))))
      refine wpQuiet_nil ?_
      intro _ hw'
      obtain ⟨⟨dq, osq⟩, hw''⟩ := hw'
      subst hw''
      have hB3 := hB.trans ((below_regrown w1 dq osq).mono hB.size)
      have hk9 := Below.keptTo (below_regrown w1 dq osq) hn1
      clear q0R q1R q2R q3R q4R q5R
      generalize grow (redrawn w1 dq) osq = w3 at *
      go_wp2
      go_ret
      exact ⟨ret_b (by rw [HI.out]; rfl), hB3⟩
    | true =>
      cases nk with
      | false =>
        obtain ⟨q0, q1, q2, q3, q4, q5⟩ := open6 BX
        go_wp2_with fail
        have q0R := cell_regrown q0
        have q1R := cell_regrown q1
        have q2R := cell_regrown q2
        have q3R := cell_regrown q3
        have q4R := cell_regrown q4
        have q5R := cell_regrown q5
        refine wp_region_quiet_below (by kernel_rfl) (by kernel_rfl) ?_
        repeat (go_big_quiet_step (first | (go_at_call 83; exact regrown_same (HN1.out _)) | (go_at_call 84; exact Calls.regrown_of (HN2.out _)) | (go_at_call 85; exact regrown_same (HN3.out _)) | (go_at_call 86; exact regrown_same (HN4.out _)) | (go_at_call 87; exact Calls.regrown_of (HN5.out _))))
        refine wpQuiet_nil ?_
        intro _ hw'
        obtain ⟨⟨dq, osq⟩, hw''⟩ := hw'
        subst hw''
        have hB3 := hB.trans ((below_regrown w1 dq osq).mono hB.size)
        have hk9 := Below.keptTo (below_regrown w1 dq osq) hn1
        clear q0R q1R q2R q3R q4R q5R
        generalize grow (redrawn w1 dq) osq = w3 at *
        go_wp2
        go_ret
        exact ⟨ret_b (by rw [HI.out]; rfl), hB3⟩
      | true =>
        cases pb with
        | false =>
          obtain ⟨q0, q1, q2, q3, q4, q5⟩ := open6 BX
          go_wp2_with fail
          have q0R := cell_regrown q0
          have q1R := cell_regrown q1
          have q2R := cell_regrown q2
          have q3R := cell_regrown q3
          have q4R := cell_regrown q4
          have q5R := cell_regrown q5
          refine wp_region_quiet_below (by kernel_rfl) (by kernel_rfl) ?_
          repeat (go_big_quiet_step (first | (go_at_call 83; exact regrown_same (HN1.out _)) | (go_at_call 84; exact Calls.regrown_of (HN2.out _)) | (go_at_call 85; exact regrown_same (HN3.out _)) | (go_at_call 86; exact regrown_same (HN4.out _)) | (go_at_call 87; exact Calls.regrown_of (HN5.out _))))
          refine wpQuiet_nil ?_
          intro _ hw'
          obtain ⟨⟨dq, osq⟩, hw''⟩ := hw'
          subst hw''
          have hB3 := hB.trans ((below_regrown w1 dq osq).mono hB.size)
          have hk9 := Below.keptTo (below_regrown w1 dq osq) hn1
          clear q0R q1R q2R q3R q4R q5R
          generalize grow (redrawn w1 dq) osq = w3 at *
          go_wp2
          go_ret
          exact ⟨ret_b (by rw [HI.out]; rfl), hB3⟩
        | true =>
          cases ub with
          | false =>
            obtain ⟨q0, q1, q2, q3, q4, q5⟩ := open6 BX
            go_wp2_with fail
            have q0R := cell_regrown q0
            have q1R := cell_regrown q1
            have q2R := cell_regrown q2
            have q3R := cell_regrown q3
            have q4R := cell_regrown q4
            have q5R := cell_regrown q5
            refine wp_region_quiet_below (by kernel_rfl) (by kernel_rfl) ?_
            repeat (go_big_quiet_step (first | (go_at_call 83; exact regrown_same (HN1.out _)) | (go_at_call 84; exact Calls.regrown_of (HN2.out _)) | (go_at_call 85; exact regrown_same (HN3.out _)) | (go_at_call 86; exact regrown_same (HN4.out _)) | (go_at_call 87; exact Calls.regrown_of (HN5.out _))))
            refine wpQuiet_nil ?_
            intro _ hw'
            obtain ⟨⟨dq, osq⟩, hw''⟩ := hw'
            subst hw''
            have hB3 := hB.trans ((below_regrown w1 dq osq).mono hB.size)
            have hk9 := Below.keptTo (below_regrown w1 dq osq) hn1
            clear q0R q1R q2R q3R q4R q5R
            generalize grow (redrawn w1 dq) osq = w3 at *
            go_wp2
            go_ret
            exact ⟨ret_b (by rw [HI.out]; rfl), hB3⟩
          | true =>
            cases vb with
            | false =>
              obtain ⟨q0, q1, q2, q3, q4, q5⟩ := open6 BX
              go_wp2_with fail
              have q0R := cell_regrown q0
              have q1R := cell_regrown q1
              have q2R := cell_regrown q2
              have q3R := cell_regrown q3
              have q4R := cell_regrown q4
              have q5R := cell_regrown q5
              refine wp_region_quiet_below (by kernel_rfl) (by kernel_rfl) ?_
              repeat (go_big_quiet_step (first | (go_at_call 83; exact regrown_same (HN1.out _)) | (go_at_call 84; exact Calls.regrown_of (HN2.out _)) | (go_at_call 85; exact regrown_same (HN3.out _)) | (go_at_call 86; exact regrown_same (HN4.out _)) | (go_at_call 87; exact Calls.regrown_of (HN5.out _))))
              refine wpQuiet_nil ?_
              intro _ hw'
              obtain ⟨⟨dq, osq⟩, hw''⟩ := hw'
              subst hw''
              have hB3 := hB.trans ((below_regrown w1 dq osq).mono hB.size)
              have hk9 := Below.keptTo (below_regrown w1 dq osq) hn1
              clear q0R q1R q2R q3R q4R q5R
              generalize grow (redrawn w1 dq) osq = w3 at *
              go_wp2
              go_ret
              exact ⟨ret_b (by rw [HI.out]; rfl), hB3⟩
            | true =>
              obtain ⟨q0, q1, q2, q3, q4, q5⟩ := open6 BX
              go_wp2_with fail
              have q0R := cell_regrown q0
              have q1R := cell_regrown q1
              have q2R := cell_regrown q2
              have q3R := cell_regrown q3
              have q4R := cell_regrown q4
              have q5R := cell_regrown q5
              refine wp_region_quiet_below (by kernel_rfl) (by kernel_rfl) ?_
              repeat (go_big_quiet_step (first | (go_at_call 83; exact regrown_same (HN1.out _)) | (go_at_call 84; exact Calls.regrown_of (HN2.out _)) | (go_at_call 85; exact regrown_same (HN3.out _)) | (go_at_call 86; exact regrown_same (HN4.out _)) | (go_at_call 87; exact Calls.regrown_of (HN5.out _))))
              refine wpQuiet_nil ?_
              intro _ hw'
              obtain ⟨⟨dq, osq⟩, hw''⟩ := hw'
              subst hw''
              have hB3 := hB.trans ((below_regrown w1 dq osq).mono hB.size)
              have hk9 := Below.keptTo (below_regrown w1 dq osq) hn1
              have i3 := hin1.keep hk9 (fun x _ => XT.In.keep hk9 x)
              replace hn1 := Nat.le_trans hn1 (below_regrown w1 dq osq).size
              have z0 := q0R dq osq
              have z5 := q5R dq osq
              clear q0 q1 q2 q3 q4 q5 q0R q1R q2R q3R q4R q5R hk9 hin1 hB
              generalize grow (redrawn w1 dq) osq = w3 at *
              go_wp2_with fail
              refine (HL.out _ hn1 i3).mono ?_
              rintro e w4 ⟨rfl, hb⟩
              have hB4 := hB3.trans (hb.mono hB3.size)
              go_wp2
              go_ret
              exact ⟨ret_b (by rw [HI.out]; rfl), hB4⟩
  | false =>
    cases ne with
    | true =>
      obtain ⟨q0, q1, q2, q3, q4, q5⟩ := open6 BX
      go_wp2_with fail
      have q0R := cell_regrown q0
      have q1R := cell_regrown q1
      have q2R := cell_regrown q2
      have q3R := cell_regrown q3
      have q4R := cell_regrown q4
      have q5R := cell_regrown q5
      refine wp_region_quiet_below (by kernel_rfl) (by kernel_rfl) ?_
      repeat (go_big_quiet_step (first | (go_at_call 83; exact regrown_same (HN1.out _)) | (go_at_call 84; exact Calls.regrown_of (HN2.out _)) | (go_at_call 85; exact regrown_same (HN3.out _)) | (go_at_call 86; exact regrown_same (HN4.out _)) | (go_at_call 87; exact Calls.regrown_of (HN5.out _))))
      refine wpQuiet_nil ?_
      intro _ hw'
      obtain ⟨⟨dq, osq⟩, hw''⟩ := hw'
      subst hw''
      have hB3 := hB.trans ((below_regrown w1 dq osq).mono hB.size)
      have hk9 := Below.keptTo (below_regrown w1 dq osq) hn1
      clear q0R q1R q2R q3R q4R q5R
      generalize grow (redrawn w1 dq) osq = w3 at *
      go_wp2
      go_ret
      exact ⟨ret_b (by rw [HI.out]; rfl), hB3⟩
    | false =>
      cases pb with
      | false =>
        obtain ⟨q0, q1, q2, q3, q4, q5⟩ := open6 BX
        go_wp2_with fail
        have q0R := cell_regrown q0
        have q1R := cell_regrown q1
        have q2R := cell_regrown q2
        have q3R := cell_regrown q3
        have q4R := cell_regrown q4
        have q5R := cell_regrown q5
        refine wp_region_quiet_below (by kernel_rfl) (by kernel_rfl) ?_
        repeat (go_big_quiet_step (first | (go_at_call 83; exact regrown_same (HN1.out _)) | (go_at_call 84; exact Calls.regrown_of (HN2.out _)) | (go_at_call 85; exact regrown_same (HN3.out _)) | (go_at_call 86; exact regrown_same (HN4.out _)) | (go_at_call 87; exact Calls.regrown_of (HN5.out _))))
        refine wpQuiet_nil ?_
        intro _ hw'
        obtain ⟨⟨dq, osq⟩, hw''⟩ := hw'
        subst hw''
        have hB3 := hB.trans ((below_regrown w1 dq osq).mono hB.size)
        have hk9 := Below.keptTo (below_regrown w1 dq osq) hn1
        clear q0R q1R q2R q3R q4R q5R
        generalize grow (redrawn w1 dq) osq = w3 at *
        go_wp2
        go_ret
        exact ⟨ret_b (by rw [HI.out]; rfl), hB3⟩
      | true =>
        cases ub with
        | false =>
          obtain ⟨q0, q1, q2, q3, q4, q5⟩ := open6 BX
          go_wp2_with fail
          have q0R := cell_regrown q0
          have q1R := cell_regrown q1
          have q2R := cell_regrown q2
          have q3R := cell_regrown q3
          have q4R := cell_regrown q4
          have q5R := cell_regrown q5
          refine wp_region_quiet_below (by kernel_rfl) (by kernel_rfl) ?_
          repeat (go_big_quiet_step (first | (go_at_call 83; exact regrown_same (HN1.out _)) | (go_at_call 84; exact Calls.regrown_of (HN2.out _)) | (go_at_call 85; exact regrown_same (HN3.out _)) | (go_at_call 86; exact regrown_same (HN4.out _)) | (go_at_call 87; exact Calls.regrown_of (HN5.out _))))
          refine wpQuiet_nil ?_
          intro _ hw'
          obtain ⟨⟨dq, osq⟩, hw''⟩ := hw'
          subst hw''
          have hB3 := hB.trans ((below_regrown w1 dq osq).mono hB.size)
          have hk9 := Below.keptTo (below_regrown w1 dq osq) hn1
          clear q0R q1R q2R q3R q4R q5R
          generalize grow (redrawn w1 dq) osq = w3 at *
          go_wp2
          go_ret
          exact ⟨ret_b (by rw [HI.out]; rfl), hB3⟩
        | true =>
          cases vb with
          | false =>
            obtain ⟨q0, q1, q2, q3, q4, q5⟩ := open6 BX
            go_wp2_with fail
            have q0R := cell_regrown q0
            have q1R := cell_regrown q1
            have q2R := cell_regrown q2
            have q3R := cell_regrown q3
            have q4R := cell_regrown q4
            have q5R := cell_regrown q5
            refine wp_region_quiet_below (by kernel_rfl) (by kernel_rfl) ?_
            repeat (go_big_quiet_step (first | (go_at_call 83; exact regrown_same (HN1.out _)) | (go_at_call 84; exact Calls.regrown_of (HN2.out _)) | (go_at_call 85; exact regrown_same (HN3.out _)) | (go_at_call 86; exact regrown_same (HN4.out _)) | (go_at_call 87; exact Calls.regrown_of (HN5.out _))))
            refine wpQuiet_nil ?_
            intro _ hw'
            obtain ⟨⟨dq, osq⟩, hw''⟩ := hw'
            subst hw''
            have hB3 := hB.trans ((below_regrown w1 dq osq).mono hB.size)
            have hk9 := Below.keptTo (below_regrown w1 dq osq) hn1
            clear q0R q1R q2R q3R q4R q5R
            generalize grow (redrawn w1 dq) osq = w3 at *
            go_wp2
            go_ret
            exact ⟨ret_b (by rw [HI.out]; rfl), hB3⟩
          | true =>
            obtain ⟨q0, q1, q2, q3, q4, q5⟩ := open6 BX
            go_wp2_with fail
            have q0R := cell_regrown q0
            have q1R := cell_regrown q1
            have q2R := cell_regrown q2
            have q3R := cell_regrown q3
            have q4R := cell_regrown q4
            have q5R := cell_regrown q5
            refine wp_region_quiet_below (by kernel_rfl) (by kernel_rfl) ?_
            repeat (go_big_quiet_step (first | (go_at_call 83; exact regrown_same (HN1.out _)) | (go_at_call 84; exact Calls.regrown_of (HN2.out _)) | (go_at_call 85; exact regrown_same (HN3.out _)) | (go_at_call 86; exact regrown_same (HN4.out _)) | (go_at_call 87; exact Calls.regrown_of (HN5.out _))))
            refine wpQuiet_nil ?_
            intro _ hw'
            obtain ⟨⟨dq, osq⟩, hw''⟩ := hw'
            subst hw''
            have hB3 := hB.trans ((below_regrown w1 dq osq).mono hB.size)
            have hk9 := Below.keptTo (below_regrown w1 dq osq) hn1
            have i3 := hin1.keep hk9 (fun x _ => XT.In.keep hk9 x)
            replace hn1 := Nat.le_trans hn1 (below_regrown w1 dq osq).size
            have z0 := q0R dq osq
            have z5 := q5R dq osq
            clear q0 q1 q2 q3 q4 q5 q0R q1R q2R q3R q4R q5R hk9 hin1 hB
            generalize grow (redrawn w1 dq) osq = w3 at *
            go_wp2_with fail
            refine (HL.out _ hn1 i3).mono ?_
            rintro e w4 ⟨rfl, hb⟩
            have hB4 := hB3.trans (hb.mono hB3.size)
            go_wp2
            go_ret
            exact ⟨ret_b (by rw [HI.out]; rfl), hB4⟩

set_option maxHeartbeats 4000000 in
set_option maxRecDepth 3000000 in
theorem refcheckX_any (x : XT) (hbk : x.bk ≤ 1500000) (hwf : x.Wf) (n0 : Nat) (w : World) (hn0 : n0 ≤ w.heap.size) (hx : x.In n0 w) : Calls Tryz.prog 10 #[x.val] w fun e w' => e = .returned (.int .i64 (checkX x)) ∧ Below w.heap.size w w' := by
  have hsz := x.sz_bk
  have HS0 := fun (w' : World) h1 h2 => refsizeX_any x (by omega) n0 w' h1 h2
  have HD0 := fun (w' : World) h1 h2 => refdeepX_any x (by omega) n0 w' h1 h2
  have HM0 := fun (w' : World) h1 h2 => refmayX_any x hbk hwf n0 w' h1 h2
  have HI : Hid (checkX x = if (decide ((65536 : Int) < (x.sz : Int)) || decide ((64 : Int) < (x.dp : Int))) = true then 2 else if mayX x = true then 0 else 1) := Lib.hid (by
    unfold checkX
    have e1 : decide ((65536 : Int) < (x.sz : Int)) = decide (65536 < x.sz) := decide_eq_decide.2 (by omega)
    have e2 : decide ((64 : Int) < (x.dp : Int)) = decide (64 < x.dp) := decide_eq_decide.2 (by omega)
    rw [e1, e2])
  generalize (x.sz : Int) = S at *
  generalize (x.dp : Int) = D at *
  generalize mayX x = mb at *
  have HT := Lib.hid (fun w => reftold_any S D mb w)
  rw [← HI.out] at HT
  generalize checkX x = R at *
  clear hsz hbk hwf HI
  have hx0 := hx
  obtain ⟨op, nm, xn, wd, v, xa, xc, xl⟩ := x
  simp only [XT.val, XT.cells] at HS0 HD0 HM0 ⊢
  have BX := World.alloc_heap_new w (.cells #[.int .i64 op, .string (bs nm), .int .i64 xn, .int .i64 wd, .int .u64 (v : Int), .slice xa xl.length xc] 25)
  have hB : Below w.heap.size w (w.alloc (.cells #[.int .i64 op, .string (bs nm), .int .i64 xn, .int .i64 wd, .int .u64 (v : Int), .slice xa xl.length xc] 25)) := (Below.refl _ _).alloc (Nat.le_refl _) _
  replace hx0 := XT.In.keep (Below.keptTo hB hn0) _ hx0
  have hn1 := Nat.le_trans hn0 hB.size
  clear hx hn0
  go_enter Tryz.func10, Tryz.ntmps10
  go_upto_region 1 with (fail)
  generalize w.alloc (.cells #[.int .i64 op, .string (bs nm), .int .i64 xn, .int .i64 wd, .int .u64 (v : Int), .slice xa xl.length xc] 25) = w1 at *
  have bq := fun (dq : Nat) (os : Array Obj) => below_regrown w1 dq os
  have HS := Lib.hid (fun (dq : Nat) (os : Array Obj) => HS0 (grow (redrawn w1 dq) os) (Nat.le_trans hn1 (bq dq os).size) (XT.In.keep (Below.keptTo (bq dq os) hn1) _ hx0))
  have HD := Lib.hid (fun (dq : Nat) (os : Array Obj) => HD0 (grow (redrawn w1 dq) os) (Nat.le_trans hn1 (bq dq os).size) (XT.In.keep (Below.keptTo (bq dq os) hn1) _ hx0))
  have HM := Lib.hid (fun (dq : Nat) (os : Array Obj) => HM0 (grow (redrawn w1 dq) os) (Nat.le_trans hn1 (bq dq os).size) (XT.In.keep (Below.keptTo (bq dq os) hn1) _ hx0))
  clear HS0 HD0 HM0 bq hx0
  obtain ⟨q0, q1, q2, q3, q4, q5⟩ := open6 BX
  go_wp2_with fail
  have q0R := cell_regrown q0
  have q1R := cell_regrown q1
  have q2R := cell_regrown q2
  have q3R := cell_regrown q3
  have q4R := cell_regrown q4
  have q5R := cell_regrown q5
  refine wp_region_quiet_below (by kernel_rfl) (by kernel_rfl) ?_
  repeat (go_big_quiet_step (first | (go_at_call 35; exact Calls.regrown_of (HS.out _ _)) | (go_at_call 36; exact Calls.regrown_of (HD.out _ _)) | (go_at_call 45; exact Calls.regrown_of (HM.out _ _)) | (go_at_call 44; exact regrown_same (HT.out _))))
  refine wpQuiet_nil ?_
  intro _ hw'
  obtain ⟨⟨dq, osq⟩, hw''⟩ := hw'
  subst hw''
  have hB3 := hB.trans ((below_regrown w1 dq osq).mono hB.size)
  clear q0R q1R q2R q3R q4R q5R
  generalize grow (redrawn w1 dq) osq = w3 at *
  go_wp2
  go_ret
  exact ⟨rfl, hB3⟩
end Go.Proofs.YtlbjmnakiflfpaaGreatDoor
namespace Go.Proofs.YtlbjmnakiflfpaaGreatDoor
open Go Go.RowKit
set_option linter.unusedVariables false
set_option linter.unusedSimpArgs false
open Go.Sort

set_option maxHeartbeats 2000000 in
set_option maxRecDepth 3000000 in
theorem refLookup_any (l : List NT) (hll : l.length ≤ 4000000) (s : Bytes) (a : Option Addr) (c n0 : Nat) (w : World) (hn0 : n0 ≤ w.heap.size) (hin : NRow n0 w l a) : Calls Tryz.prog 69 #[.slice a l.length c, .string (bs s)] w fun e w' => e = .returned (.tuple #[.int .i64 ((findN l s).getD 0), .bool (findN l s).isSome]) ∧ w = w' := by
  obtain ⟨R, hR⟩ : ∃ R, findN l s = R := ⟨_, rfl⟩
  rw [hR]
  have HR := Lib.hid hR
  clear hR
  have hsub0 : IntKind.i64.wrap ((l.length : Int) - 1) = (l.length : Int) - 1 := IntWalk.i64_in _ (by omega)
  go_enter Tryz.func69, Tryz.ntmps69
  go_wp2
  go_loopg [6] l.length (fun g u wr => ∃ k : Nat, u = .int .i64 ((k : Int) - 1) ∧ k = g ∧ k ≤ l.length ∧ findN (l.take k) s = R ∧ wr = w)
  case atStart => exact ⟨l.length, rfl, rfl, Nat.le_refl _, by rw [List.take_length]; exact HR.out, rfl⟩
  case round =>
    obtain ⟨k, rfl, hk, hkl, hf, rfl⟩ := hrel
    have HF := Lib.hid hf
    clear hf hsub0
    cases k with
    | zero =>
      have HE : Hid (R = none) := Lib.hid (by rw [← HF.out]; rfl)
      have d1 : decide ((0 : Int) ≤ ((0 : Nat) : Int) - 1) = false := by decide
      go_wp2
      go_ret2
      exact ⟨by rw [HE.out]; rfl, rfl⟩
    | succ j =>
      have hj : j < l.length := by omega
      have e1 : (((j + 1 : Nat) : Int) - 1) = (j : Int) := by omega
      rw [e1]
      have d1 : decide ((0 : Int) ≤ (j : Int)) = true := by rw [decide_eq_true_eq]; omega
      have x2 : (j : Int) < (l.length : Int) := by omega
      have hsub : IntKind.i64.wrap ((j : Int) - 1) = (j : Int) - 1 := IntWalk.i64_in _ (by omega)
      obtain ⟨b, o, rfl, hb, hr, hx⟩ := InRow.at hin hj
      have HT := Lib.hid (findN_take l s j hj)
      obtain ⟨y, hy⟩ : ∃ y, l[j] = y := ⟨_, rfl⟩
      rw [hy] at hr HT
      clear hy hx
      obtain ⟨ynm, yv⟩ := y
      have r0 : wr.cell? ⟨b, o + j * 2, none⟩ = some (.string (bs ynm)) := hr 0 _ rfl
      have r1 : wr.cell? ⟨b, o + j * 2 + 1, none⟩ = some (.int .i64 yv) := hr 1 _ rfl
      simp only at HT
      clear hr e1
      cases hq : (ynm == s) with
      | true =>
        have HE : Hid (R = some yv) := Lib.hid (by rw [← HF.out, HT.out, if_pos hq])
        go_wp2
        go_ret2
        exact ⟨by rw [HE.out]; rfl, rfl⟩
      | false =>
        have HE : Hid (findN (l.take j) s = R) := Lib.hid (by rw [← HF.out, HT.out, if_neg (by rw [hq]; decide)])
        go_wp2
        cases gk with
        | zero => omega
        | succ gg =>
          go_roundg gg
          case rel => exact ⟨j, rfl, by omega, by omega, HE.out, rfl⟩
          case measure => omega
theorem refbit_any (b : Bool) (w : World) : Calls Tryz.prog 138 #[.bool b] w fun e w' => e = .returned (.int .i64 (kTruth b)) ∧ w = w' := by
  cases b
  all_goals
    go_enter Tryz.func138, Tryz.ntmps138
    go_wp2
    go_ret
    exact ⟨rfl, rfl⟩
theorem refwithin_any (v : Int) (w : World) : Calls Tryz.prog 137 #[.int .i64 v] w fun e w' => e = .returned (.tuple #[.int .i64 (kConst v).1, .int .i64 (kConst v).2]) ∧ w = w' := by
  have HI : Hid (kConst v = if (decide (0 ≤ v) && decide (v ≤ 2147483647)) = true then (v, 0) else (0, 62)) := Lib.hid rfl
  generalize kConst v = R at *
  by_cases h1 : v < 0
  · have d1 : decide (v < 0) = true := by simpa using h1
    have d0 : decide (0 ≤ v) = false := by rw [decide_eq_false_iff_not]; omega
    have HE : Hid (R = (0, 62)) := Lib.hid (by rw [HI.out, d0]; rfl)
    rw [HE.out]
    go_enter Tryz.func137, Tryz.ntmps137
    go_wp2
    go_ret2
    exact ⟨rfl, rfl⟩
  · have d1 : decide (v < 0) = false := by simpa using h1
    have d0 : decide (0 ≤ v) = true := by rw [decide_eq_true_eq]; omega
    by_cases h2 : 2147483647 < v
    · have d2 : decide (2147483647 < v) = true := by simpa using h2
      have d3 : decide (v ≤ 2147483647) = false := by rw [decide_eq_false_iff_not]; omega
      have HE : Hid (R = (0, 62)) := Lib.hid (by rw [HI.out, d0, d3]; rfl)
      rw [HE.out]
      go_enter Tryz.func137, Tryz.ntmps137
      go_wp2
      go_ret2
      exact ⟨rfl, rfl⟩
    · have d2 : decide (2147483647 < v) = false := by simpa using h2
      have d3 : decide (v ≤ 2147483647) = true := by rw [decide_eq_true_eq]; omega
      have HE : Hid (R = (v, 0)) := Lib.hid (by rw [HI.out, d0, d3]; rfl)
      rw [HE.out]
      go_enter Tryz.func137, Tryz.ntmps137
      go_wp2
      go_ret2
      exact ⟨rfl, rfl⟩
/-- A number times two, so often: as far as it is a constant's value. -/
theorem pow_over {A : Int} {i b : Nat} (hA : 0 ≤ A) (hi : i ≤ b) (h : 2147483647 < A * 2 ^ i) (hm : A * 2 ^ i ≤ 4294967294) : kConst (A * 2 ^ i) = kConst (A * 2 ^ (min (b : Int) 31).toNat) := by
  have hi31 : i ≤ 31 := by
    by_cases h1 : i ≤ 31
    · exact h1
    · exfalso
      have hA1 : 1 ≤ A := by
        rcases Int.lt_or_le A 1 with h2 | h2
        · have : A = 0 := by omega
          subst this; omega
        · exact h2
      have h2 : (2 : Int) ^ 32 ≤ 2 ^ i := by
        have := Nat.pow_le_pow_right (n := 2) (by omega) (show 32 ≤ i by omega)
        exact_mod_cast this
      have h3 : A * 2 ^ i ≥ 1 * 2 ^ i := Int.mul_le_mul_of_nonneg_right hA1 (by exact_mod_cast Nat.zero_le _)
      omega
  have hm2 : i ≤ (min (b : Int) 31).toNat := by omega
  have h4 : A * 2 ^ i ≤ A * 2 ^ (min (b : Int) 31).toNat := by
    refine Int.mul_le_mul_of_nonneg_left ?_ hA
    have := Nat.pow_le_pow_right (n := 2) (by omega) hm2
    exact_mod_cast this
  unfold kConst kMay
  have e1 : decide (A * 2 ^ i ≤ 2147483647) = false := by rw [decide_eq_false_iff_not]; omega
  have e2 : decide (A * 2 ^ (min (b : Int) 31).toNat ≤ 2147483647) = false := by rw [decide_eq_false_iff_not]; omega
  rw [e1, e2]; simp
theorem pow_all {A : Int} {b : Nat} (hA : 0 ≤ A) (hb : 0 < A → A * 2 ^ (b - 1) ≤ 2147483647) : kConst (A * 2 ^ b) = kConst (A * 2 ^ (min (b : Int) 31).toNat) := by
  by_cases h : b ≤ 31
  · rw [show (min (b : Int) 31).toNat = b by omega]
  · by_cases h0 : A = 0
    · subst h0; simp
    · exfalso
      have h1 := hb (by omega)
      have h2 : (2 : Int) ^ 31 ≤ 2 ^ (b - 1) := by
        have := Nat.pow_le_pow_right (n := 2) (by omega) (show 31 ≤ b - 1 by omega)
        exact_mod_cast this
      have h3 : A * 2 ^ (b - 1) ≥ 1 * 2 ^ (b - 1) := Int.mul_le_mul_of_nonneg_right (by omega) (by exact_mod_cast Nat.zero_le _)
      omega
end Go.Proofs.YtlbjmnakiflfpaaGreatDoor
namespace Go.Proofs.YtlbjmnakiflfpaaGreatDoor
open Go Go.RowKit
set_option linter.unusedVariables false
set_option linter.unusedSimpArgs false
open Go.Sort

set_option maxHeartbeats 2000000 in
set_option maxRecDepth 3000000 in
theorem reftimes_any (A : Int) (hA : 0 ≤ A) (hA2 : A ≤ 2147483647) (b : Nat) (hb : b ≤ 2147483647) (w : World) : Calls Tryz.prog 164 #[.int .i64 A, .int .i64 (b : Int)] w fun e w' => ∃ v : Int, e = .returned (.int .i64 v) ∧ kConst v = kConst (A * 2 ^ (min (b : Int) 31).toNat) ∧ w = w' := by
  have HA := Lib.hid (And.intro hA hA2)
  clear hA hA2
  go_enter Tryz.func164, Tryz.ntmps164
  go_wp2
  go_loopg [5, 6] b (fun g v u wr => ∃ (i : Nat) (V : Int), u = .int .i64 i ∧ i + g = b ∧ v = .int .i64 V ∧ Hid (V = A * 2 ^ i ∧ (0 < A → i = 0 ∨ A * 2 ^ (i - 1) ≤ 2147483647)) ∧ 0 ≤ V ∧ V ≤ 4294967294 ∧ wr = w)
  case atStart => exact ⟨0, A, rfl, by omega, rfl, Lib.hid ⟨by simp, fun _ => .inl rfl⟩, HA.out.1, by have := HA.out.2; omega, rfl⟩
  case round =>
    obtain ⟨i, V, rfl, hi, rfl, HV, hV0, hV1, rfl⟩ := hrel
    have hw : IntKind.i64.wrap (2 * V) = 2 * V := IntWalk.i64_in _ (by omega)
    have hw2 : wrap64 (2 * V) = 2 * V := by first | exact hw | (unfold wrap64; omega)
    by_cases hlt : i < b
    · have d1 : decide (i < b) = true := by simpa using hlt
      have d2 : decide ((i : Int) < (b : Int)) = true := by rw [decide_eq_true_eq]; omega
      by_cases h0 : 0 < V
      · have d3 : decide (0 < V) = true := by simpa using h0
        by_cases h1 : V ≤ 2147483647
        · have d4 : decide (V ≤ 2147483647) = true := by simpa using h1
          have HN : Hid (2 * V = A * 2 ^ (i + 1) ∧ (0 < A → i + 1 = 0 ∨ A * 2 ^ (i + 1 - 1) ≤ 2147483647)) := Lib.hid ⟨by rw [HV.out.1, Int.pow_succ]; rw [Int.mul_comm 2, Int.mul_assoc], fun _ => .inr (by rw [Nat.add_sub_cancel, ← HV.out.1]; exact h1)⟩
          go_wp2
          cases gk with
          | zero => omega
          | succ gg =>
            go_roundg gg
            case rel => exact ⟨i + 1, 2 * V, by simp; first | done | rfl | omega, by omega, by first | rfl | (simp; done) | (rw [hw2]) | (rw [hw]), HN, by omega, by omega, rfl⟩
            case measure => omega
        · have d4 : decide (V ≤ 2147483647) = false := by simpa using h1
          have HE : Hid (kConst V = kConst (A * 2 ^ (min (b : Int) 31).toNat)) := Lib.hid (by have h := HV.out.1; rw [h]; exact pow_over HA.out.1 (Nat.le_of_lt hlt) (by rw [← h]; omega) (by rw [← h]; omega))
          go_wp2
          go_ret
          exact ⟨V, rfl, HE.out, rfl⟩
      · have d3 : decide (0 < V) = false := by simpa using h0
        have HE : Hid (kConst V = kConst (A * 2 ^ (min (b : Int) 31).toNat)) := Lib.hid (by
          have h := HV.out.1
          have hV : V = 0 := by omega
          have hp : (0 : Int) < 2 ^ i := Int.pow_pos (by decide)
          have hA : A = 0 := by
            rcases Int.mul_eq_zero.1 (h.symm.trans hV) with h1 | h1
            · exact h1
            · omega
          rw [hV, hA]; simp)
        go_wp2
        go_ret
        exact ⟨V, rfl, HE.out, rfl⟩
    · have d1 : decide (i < b) = false := by simpa using hlt
      have d2 : decide ((i : Int) < (b : Int)) = false := by rw [decide_eq_false_iff_not]; omega
      have HE : Hid (kConst V = kConst (A * 2 ^ (min (b : Int) 31).toNat)) := Lib.hid (by
        have h := HV.out
        have hib : i = b := by omega
        rw [h.1, hib]
        rw [hib] at h
        refine pow_all HA.out.1 (fun hp => ?_)
        rcases h.2 hp with h1 | h1
        · rw [h1]; have := HA.out.2; simpa using this
        · exact h1)
      go_wp2
      go_ret
      exact ⟨V, rfl, HE.out, rfl⟩
theorem half_pow (A : Int) (i : Nat) (hA : 0 ≤ A) : A / 2 ^ (i + 1) = (A / 2 ^ i) / 2 := by
  rw [Int.pow_succ, Int.ediv_ediv_of_nonneg (Int.le_of_lt (Int.pow_pos (by decide)))]
set_option maxHeartbeats 2000000 in
set_option maxRecDepth 3000000 in
theorem refhalved_any (A : Int) (hA : 0 ≤ A) (hA2 : A ≤ 2147483647) (b : Nat) (hb : b ≤ 2147483647) (w : World) : Calls Tryz.prog 165 #[.int .i64 A, .int .i64 (b : Int)] w fun e w' => ∃ v : Int, e = .returned (.int .i64 v) ∧ v = A / 2 ^ b ∧ w = w' := by
  have HA := Lib.hid (And.intro hA hA2)
  clear hA hA2
  go_enter Tryz.func165, Tryz.ntmps165
  go_wp2
  go_loopg [5, 6] b (fun g v u wr => ∃ (i : Nat) (V : Int), u = .int .i64 i ∧ i + g = b ∧ v = .int .i64 V ∧ Hid (V = A / 2 ^ i) ∧ 0 ≤ V ∧ V ≤ 2147483647 ∧ wr = w)
  case atStart => exact ⟨0, A, rfl, by omega, rfl, Lib.hid (by simp), HA.out.1, HA.out.2, rfl⟩
  case round =>
    obtain ⟨i, V, rfl, hi, rfl, HV, hV0, hV1, rfl⟩ := hrel
    have hq : Int.tdiv V 2 = V / 2 := Int.tdiv_eq_ediv_of_nonneg hV0
    have hw : IntKind.i64.wrap (V / 2) = V / 2 := IntWalk.i64_in _ (by omega)
    have hw2 : wrap64 (V / 2) = V / 2 := by first | exact hw | (unfold wrap64; omega)
    by_cases hlt : i < b
    · have d1 : decide (i < b) = true := by simpa using hlt
      have d2 : decide ((i : Int) < (b : Int)) = true := by rw [decide_eq_true_eq]; omega
      by_cases h0 : 0 < V
      · have d3 : decide (0 < V) = true := by simpa using h0
        have HN : Hid (V / 2 = A / 2 ^ (i + 1)) := Lib.hid (by rw [half_pow A i HA.out.1, HV.out])
        go_wp2
        cases gk with
        | zero => omega
        | succ gg =>
          go_roundg gg
          case rel => exact ⟨i + 1, V / 2, by simp; first | done | rfl | omega, by omega, by first | rfl | (simp; done) | (rw [hq, hw2]) | (rw [hq, hw]) | (rw [hw2]) | (rw [hw]) | (rw [hq]), HN, by omega, by omega, rfl⟩
          case measure => omega
      · have d3 : decide (0 < V) = false := by simpa using h0
        have HE : Hid (V = A / 2 ^ b) := Lib.hid (by
          have h := HV.out
          have hV : V = 0 := by omega
          rw [hV] at h ⊢
          have hp : (0 : Int) < 2 ^ i := Int.pow_pos (by decide)
          have h1 : A < 2 ^ i := by
            have := Int.lt_ediv_add_one_mul_self A hp
            rw [← h] at this; omega
          have h2 : (2 : Int) ^ i ≤ 2 ^ b := by
            have := Nat.pow_le_pow_right (n := 2) (by omega) (Nat.le_of_lt hlt)
            exact_mod_cast this
          exact (Int.ediv_eq_zero_of_lt HA.out.1 (by omega)).symm)
        go_wp2
        go_ret
        exact ⟨V, rfl, HE.out, rfl⟩
    · have d1 : decide (i < b) = false := by simpa using hlt
      have d2 : decide ((i : Int) < (b : Int)) = false := by rw [decide_eq_false_iff_not]; omega
      have HE : Hid (V = A / 2 ^ b) := Lib.hid (by rw [HV.out, show i = b by omega])
      go_wp2
      go_ret
      exact ⟨V, rfl, HE.out, rfl⟩

set_option maxHeartbeats 1000000 in
set_option maxRecDepth 3000000 in
theorem reftwo_14 (A B : Int) (hA : 0 ≤ A) (hA2 : A ≤ 2147483647) (hB : 0 ≤ B) (hB2 : B ≤ 2147483647) (w : World) : Calls Tryz.prog 139 #[.int .i64 14, .int .i64 A, .int .i64 B] w fun e w' => ∃ v : Int, e = .returned (.int .i64 v) ∧ kConst v = kConst (kTwo 14 A B) ∧ w = w' := by
  have hw : IntKind.i64.wrap (A + B) = A + B := IntWalk.i64_in _ (by omega)
  have hw2 : wrap64 (A + B) = A + B := by first | exact hw | (unfold wrap64; omega)
  have HE : Hid (kTwo 14 A B = A + B) := Lib.hid rfl
  go_enter Tryz.func139, Tryz.ntmps139
  go_wp2
  go_ret
  exact ⟨A + B, by first | rfl | (rw [hw2]) | (rw [hw]), by rw [HE.out], rfl⟩

set_option maxHeartbeats 1000000 in
set_option maxRecDepth 3000000 in
theorem reftwo_15 (A B : Int) (hA : 0 ≤ A) (hA2 : A ≤ 2147483647) (hB : 0 ≤ B) (hB2 : B ≤ 2147483647) (w : World) : Calls Tryz.prog 139 #[.int .i64 15, .int .i64 A, .int .i64 B] w fun e w' => ∃ v : Int, e = .returned (.int .i64 v) ∧ kConst v = kConst (kTwo 15 A B) ∧ w = w' := by
  have hw : IntKind.i64.wrap (A - B) = A - B := IntWalk.i64_in _ (by omega)
  have hw2 : wrap64 (A - B) = A - B := by first | exact hw | (unfold wrap64; omega)
  have HE : Hid (kTwo 15 A B = A - B) := Lib.hid rfl
  go_enter Tryz.func139, Tryz.ntmps139
  go_wp2
  go_ret
  exact ⟨A - B, by first | rfl | (rw [hw2]) | (rw [hw]), by rw [HE.out], rfl⟩

set_option maxHeartbeats 1000000 in
set_option maxRecDepth 3000000 in
theorem reftwo_16 (A B : Int) (hA : 0 ≤ A) (hA2 : A ≤ 2147483647) (hB : 0 ≤ B) (hB2 : B ≤ 2147483647) (w : World) : Calls Tryz.prog 139 #[.int .i64 16, .int .i64 A, .int .i64 B] w fun e w' => ∃ v : Int, e = .returned (.int .i64 v) ∧ kConst v = kConst (kTwo 16 A B) ∧ w = w' := by
  have hm0 : 0 ≤ A * B := Int.mul_nonneg hA hB
  have hm1 : A * B ≤ 2147483647 * 2147483647 := Int.le_trans (Int.mul_le_mul_of_nonneg_right hA2 hB) (Int.mul_le_mul_of_nonneg_left hB2 (by omega))
  have hw : IntKind.i64.wrap (A * B) = A * B := IntWalk.i64_in _ (by omega)
  have hw2 : wrap64 (A * B) = A * B := by first | exact hw | (unfold wrap64; omega)
  have HE : Hid (kTwo 16 A B = A * B) := Lib.hid rfl
  go_enter Tryz.func139, Tryz.ntmps139
  go_wp2
  go_ret
  exact ⟨A * B, by first | rfl | (rw [hw2]) | (rw [hw]), by rw [HE.out], rfl⟩

set_option maxHeartbeats 1000000 in
set_option maxRecDepth 3000000 in
theorem reftwo_17 (A B : Int) (hA : 0 ≤ A) (hA2 : A ≤ 2147483647) (hB : 0 ≤ B) (hB2 : B ≤ 2147483647) (w : World) : Calls Tryz.prog 139 #[.int .i64 17, .int .i64 A, .int .i64 B] w fun e w' => ∃ v : Int, e = .returned (.int .i64 v) ∧ kConst v = kConst (kTwo 17 A B) ∧ w = w' := by
  obtain ⟨b, rfl⟩ : ∃ b : Nat, B = b := ⟨B.toNat, by omega⟩
  have HE : Hid (kTwo 17 A (b : Int) = A * 2 ^ (min (b : Int) 31).toNat) := Lib.hid rfl
  have HT := Lib.hid (fun w => reftimes_any A hA hA2 b (by omega) w)
  go_enter Tryz.func139, Tryz.ntmps139
  go_wp2_with fail
  refine (HT.out _).mono ?_
  rintro e w1 ⟨v, rfl, hv, rfl⟩
  go_wp2
  go_ret
  exact ⟨v, rfl, by rw [HE.out]; exact hv, rfl⟩

set_option maxHeartbeats 1000000 in
set_option maxRecDepth 3000000 in
theorem reftwo_18 (A B : Int) (hA : 0 ≤ A) (hA2 : A ≤ 2147483647) (hB : 0 ≤ B) (hB2 : B ≤ 2147483647) (w : World) : Calls Tryz.prog 139 #[.int .i64 18, .int .i64 A, .int .i64 B] w fun e w' => ∃ v : Int, e = .returned (.int .i64 v) ∧ kConst v = kConst (kTwo 18 A B) ∧ w = w' := by
  obtain ⟨b, rfl⟩ : ∃ b : Nat, B = b := ⟨B.toNat, by omega⟩
  have HE : Hid (kTwo 18 A (b : Int) = A / 2 ^ b) := Lib.hid rfl
  have HT := Lib.hid (fun w => refhalved_any A hA hA2 b (by omega) w)
  go_enter Tryz.func139, Tryz.ntmps139
  go_wp2_with fail
  refine (HT.out _).mono ?_
  rintro e w1 ⟨v, rfl, hv, rfl⟩
  replace hv := Lib.hid hv
  go_wp2
  go_ret
  exact ⟨v, rfl, by rw [HE.out, hv.out], rfl⟩

set_option maxHeartbeats 1000000 in
set_option maxRecDepth 3000000 in
theorem reftwo_19 (A B : Int) (hA : 0 ≤ A) (hA2 : A ≤ 2147483647) (hB : 0 ≤ B) (hB2 : B ≤ 2147483647) (w : World) : Calls Tryz.prog 139 #[.int .i64 19, .int .i64 A, .int .i64 B] w fun e w' => ∃ v : Int, e = .returned (.int .i64 v) ∧ kConst v = kConst (kTwo 19 A B) ∧ w = w' := by
  have HE : Hid (kTwo 19 A B = kTruth (A == B)) := Lib.hid rfl
  obtain ⟨q, hq⟩ : ∃ q, (A == B) = q := ⟨_, rfl⟩
  rw [hq] at HE
  go_enter Tryz.func139, Tryz.ntmps139
  go_wp2_with fail
  refine (refbit_any q _).mono ?_
  rintro e w1 ⟨rfl, rfl⟩
  go_wp2
  go_ret
  exact ⟨_, rfl, by rw [HE.out], rfl⟩

set_option maxHeartbeats 1000000 in
set_option maxRecDepth 3000000 in
theorem reftwo_20 (A B : Int) (hA : 0 ≤ A) (hA2 : A ≤ 2147483647) (hB : 0 ≤ B) (hB2 : B ≤ 2147483647) (w : World) : Calls Tryz.prog 139 #[.int .i64 20, .int .i64 A, .int .i64 B] w fun e w' => ∃ v : Int, e = .returned (.int .i64 v) ∧ kConst v = kConst (kTwo 20 A B) ∧ w = w' := by
  have HE : Hid (kTwo 20 A B = kTruth (A != B)) := Lib.hid rfl
  obtain ⟨q, hq⟩ : ∃ q, (A != B) = q := ⟨_, rfl⟩
  rw [hq] at HE
  go_enter Tryz.func139, Tryz.ntmps139
  go_wp2_with fail
  refine (refbit_any q _).mono ?_
  rintro e w1 ⟨rfl, rfl⟩
  go_wp2
  go_ret
  exact ⟨_, rfl, by rw [HE.out], rfl⟩

set_option maxHeartbeats 1000000 in
set_option maxRecDepth 3000000 in
theorem reftwo_21 (A B : Int) (hA : 0 ≤ A) (hA2 : A ≤ 2147483647) (hB : 0 ≤ B) (hB2 : B ≤ 2147483647) (w : World) : Calls Tryz.prog 139 #[.int .i64 21, .int .i64 A, .int .i64 B] w fun e w' => ∃ v : Int, e = .returned (.int .i64 v) ∧ kConst v = kConst (kTwo 21 A B) ∧ w = w' := by
  have HE : Hid (kTwo 21 A B = kTruth (decide (A < B))) := Lib.hid rfl
  obtain ⟨q, hq⟩ : ∃ q, (decide (A < B)) = q := ⟨_, rfl⟩
  rw [hq] at HE
  go_enter Tryz.func139, Tryz.ntmps139
  go_wp2_with fail
  refine (refbit_any q _).mono ?_
  rintro e w1 ⟨rfl, rfl⟩
  go_wp2
  go_ret
  exact ⟨_, rfl, by rw [HE.out], rfl⟩

set_option maxHeartbeats 1000000 in
set_option maxRecDepth 3000000 in
theorem reftwo_22 (A B : Int) (hA : 0 ≤ A) (hA2 : A ≤ 2147483647) (hB : 0 ≤ B) (hB2 : B ≤ 2147483647) (w : World) : Calls Tryz.prog 139 #[.int .i64 22, .int .i64 A, .int .i64 B] w fun e w' => ∃ v : Int, e = .returned (.int .i64 v) ∧ kConst v = kConst (kTwo 22 A B) ∧ w = w' := by
  have HE : Hid (kTwo 22 A B = kTruth (decide (A ≤ B))) := Lib.hid rfl
  obtain ⟨q, hq⟩ : ∃ q, (decide (A ≤ B)) = q := ⟨_, rfl⟩
  rw [hq] at HE
  go_enter Tryz.func139, Tryz.ntmps139
  go_wp2_with fail
  refine (refbit_any q _).mono ?_
  rintro e w1 ⟨rfl, rfl⟩
  go_wp2
  go_ret
  exact ⟨_, rfl, by rw [HE.out], rfl⟩

set_option maxHeartbeats 1000000 in
set_option maxRecDepth 3000000 in
theorem reftwo_23 (A B : Int) (hA : 0 ≤ A) (hA2 : A ≤ 2147483647) (hB : 0 ≤ B) (hB2 : B ≤ 2147483647) (w : World) : Calls Tryz.prog 139 #[.int .i64 23, .int .i64 A, .int .i64 B] w fun e w' => ∃ v : Int, e = .returned (.int .i64 v) ∧ kConst v = kConst (kTwo 23 A B) ∧ w = w' := by
  have HE : Hid (kTwo 23 A B = kTruth (decide (B < A))) := Lib.hid rfl
  obtain ⟨q, hq⟩ : ∃ q, (decide (B < A)) = q := ⟨_, rfl⟩
  rw [hq] at HE
  go_enter Tryz.func139, Tryz.ntmps139
  go_wp2_with fail
  refine (refbit_any q _).mono ?_
  rintro e w1 ⟨rfl, rfl⟩
  go_wp2
  go_ret
  exact ⟨_, rfl, by rw [HE.out], rfl⟩

set_option maxHeartbeats 1000000 in
set_option maxRecDepth 3000000 in
theorem reftwo_24 (A B : Int) (hA : 0 ≤ A) (hA2 : A ≤ 2147483647) (hB : 0 ≤ B) (hB2 : B ≤ 2147483647) (w : World) : Calls Tryz.prog 139 #[.int .i64 24, .int .i64 A, .int .i64 B] w fun e w' => ∃ v : Int, e = .returned (.int .i64 v) ∧ kConst v = kConst (kTwo 24 A B) ∧ w = w' := by
  have HE : Hid (kTwo 24 A B = kTruth (decide (B ≤ A))) := Lib.hid rfl
  obtain ⟨q, hq⟩ : ∃ q, (decide (B ≤ A)) = q := ⟨_, rfl⟩
  rw [hq] at HE
  go_enter Tryz.func139, Tryz.ntmps139
  go_wp2_with fail
  refine (refbit_any q _).mono ?_
  rintro e w1 ⟨rfl, rfl⟩
  go_wp2
  go_ret
  exact ⟨_, rfl, by rw [HE.out], rfl⟩

set_option maxHeartbeats 1000000 in
set_option maxRecDepth 3000000 in
theorem reftwo_25 (A B : Int) (hA : 0 ≤ A) (hA2 : A ≤ 2147483647) (hB : 0 ≤ B) (hB2 : B ≤ 2147483647) (w : World) : Calls Tryz.prog 139 #[.int .i64 25, .int .i64 A, .int .i64 B] w fun e w' => ∃ v : Int, e = .returned (.int .i64 v) ∧ kConst v = kConst (kTwo 25 A B) ∧ w = w' := by
  have HE : Hid (kTwo 25 A B = kTruth (A != 0 && B != 0)) := Lib.hid rfl
  obtain ⟨q, hq⟩ : ∃ q, (A != 0) = q := ⟨_, rfl⟩
  obtain ⟨p, hp⟩ : ∃ p, (B != 0) = p := ⟨_, rfl⟩
  rw [hq, hp] at HE
  cases q
  all_goals
    go_enter Tryz.func139, Tryz.ntmps139
    go_wp2_with fail
    refine (refbit_any _ _).mono ?_
    rintro e w1 ⟨rfl, rfl⟩
    go_wp2
    go_ret
    exact ⟨_, rfl, by rw [HE.out]; rfl, rfl⟩

set_option maxHeartbeats 1000000 in
set_option maxRecDepth 3000000 in
theorem reftwo_26 (A B : Int) (hA : 0 ≤ A) (hA2 : A ≤ 2147483647) (hB : 0 ≤ B) (hB2 : B ≤ 2147483647) (w : World) : Calls Tryz.prog 139 #[.int .i64 26, .int .i64 A, .int .i64 B] w fun e w' => ∃ v : Int, e = .returned (.int .i64 v) ∧ kConst v = kConst (kTwo 26 A B) ∧ w = w' := by
  have HE : Hid (kTwo 26 A B = kTruth (A != 0 || B != 0)) := Lib.hid rfl
  obtain ⟨q, hq⟩ : ∃ q, (A != 0) = q := ⟨_, rfl⟩
  obtain ⟨p, hp⟩ : ∃ p, (B != 0) = p := ⟨_, rfl⟩
  rw [hq, hp] at HE
  cases q
  all_goals
    go_enter Tryz.func139, Tryz.ntmps139
    go_wp2_with fail
    refine (refbit_any _ _).mono ?_
    rintro e w1 ⟨rfl, rfl⟩
    go_wp2
    go_ret
    exact ⟨_, rfl, by rw [HE.out]; rfl, rfl⟩

theorem reftwo_any (n A B : Int) (hn : 14 ≤ n) (hn2 : n ≤ 26) (hA : 0 ≤ A) (hA2 : A ≤ 2147483647) (hB : 0 ≤ B) (hB2 : B ≤ 2147483647) (w : World) : Calls Tryz.prog 139 #[.int .i64 n, .int .i64 A, .int .i64 B] w fun e w' => ∃ v : Int, e = .returned (.int .i64 v) ∧ kConst v = kConst (kTwo n A B) ∧ w = w' := by
  have h : n = 14 ∨ n = 15 ∨ n = 16 ∨ n = 17 ∨ n = 18 ∨ n = 19 ∨ n = 20 ∨ n = 21 ∨ n = 22 ∨ n = 23 ∨ n = 24 ∨ n = 25 ∨ n = 26 := by omega
  rcases h with rfl | rfl | rfl | rfl | rfl | rfl | rfl | rfl | rfl | rfl | rfl | rfl | rfl
  · exact reftwo_14 A B hA hA2 hB hB2 w
  · exact reftwo_15 A B hA hA2 hB hB2 w
  · exact reftwo_16 A B hA hA2 hB hB2 w
  · exact reftwo_17 A B hA hA2 hB hB2 w
  · exact reftwo_18 A B hA hA2 hB hB2 w
  · exact reftwo_19 A B hA hA2 hB hB2 w
  · exact reftwo_20 A B hA hA2 hB hB2 w
  · exact reftwo_21 A B hA hA2 hB hB2 w
  · exact reftwo_22 A B hA hA2 hB hB2 w
  · exact reftwo_23 A B hA hA2 hB hB2 w
  · exact reftwo_24 A B hA hA2 hB hB2 w
  · exact reftwo_25 A B hA hA2 hB hB2 w
  · exact reftwo_26 A B hA hA2 hB hB2 w
end Go.Proofs.YtlbjmnakiflfpaaGreatDoor
namespace Go.Proofs.YtlbjmnakiflfpaaGreatDoor
open Go Go.RowKit
set_option linter.unusedVariables false
set_option linter.unusedSimpArgs false
open Go.Sort
def kOpt (o : Option Int) : Int × Int := match o with | none => (0, 60) | some v => kConst v

set_option maxHeartbeats 4000000 in
set_option maxRecDepth 3000000 in
theorem refeval_not (l : List NT) (a : Option Addr) (c : Nat) (nm : Bytes) (wd : Int) (v : Nat) (xa : Option Addr) (xc : Nat) (p0 : XT) (ihp0 : (∀ (n0 : Nat) (w : World), n0 ≤ w.heap.size → p0.In n0 w → NRow n0 w l a → Calls Tryz.prog 110 #[p0.val, .slice a l.length c] w fun e w' => e = .returned (.tuple #[.int .i64 (evX l p0).1, .int .i64 (evX l p0).2]) ∧ Below w.heap.size w w'))  (n0 : Nat) (w : World) (hn0 : n0 ≤ w.heap.size) (hin : InRow 6 XT.cells (XT.In n0 w) n0 w [p0] xa) (hl : NRow n0 w l a) : Calls Tryz.prog 110 #[.agg #[.int .i64 5, .string (bs nm), .int .i64 6, .int .i64 wd, .int .u64 (v : Int), .slice xa 1 xc], .slice a l.length c] w fun e w' => e = .returned (.tuple #[.int .i64 (kNot (evX l p0)).1, .int .i64 (kNot (evX l p0)).2]) ∧ Below w.heap.size w w' := by
  have hB : Below w.heap.size w (w.alloc (.cells #[.int .i64 5, .string (bs nm), .int .i64 6, .int .i64 wd, .int .u64 (v : Int), .slice xa 1 xc] 25)) := (Below.refl _ _).alloc (Nat.le_refl _) _
  have BX := World.alloc_heap_new w (.cells #[.int .i64 5, .string (bs nm), .int .i64 6, .int .i64 wd, .int .u64 (v : Int), .slice xa 1 xc] 25)
  have hk9 := Below.keptTo hB hn0
  have hin1 := hin.keep hk9 (fun x _ => XT.In.keep hk9 x)
  have hl1 := hl.keep hk9
  have hn1 := Nat.le_trans hn0 hB.size
  clear hin hl hn0 hk9
  have HI0 := Lib.hid ihp0
  clear ihp0
  obtain ⟨E0, hE0⟩ : ∃ E, evX l p0 = E := ⟨_, rfl⟩
  rw [hE0] at HI0 ⊢
  have HOK0 := Lib.hid (show KOk E0 by rw [← hE0]; exact evX_ok l p0)
  clear hE0
  obtain ⟨A0, F0⟩ := E0
  obtain ⟨R, hR⟩ : ∃ R, kNot (A0, F0) = R := ⟨_, rfl⟩
  have HR := Lib.hid hR
  rw [hR]
  clear hR
  go_enter Tryz.func110, Tryz.ntmps110
  go_upto_region 1 with (fail)
  generalize w.alloc (.cells #[.int .i64 5, .string (bs nm), .int .i64 6, .int .i64 wd, .int .u64 (v : Int), .slice xa 1 xc] 25) = w1 at *
  obtain ⟨b, o, he0, hb0, hr0, hx0⟩ := hin1.at (i := 0) (by simp)
  subst he0
  simp only [List.getElem_cons_zero, List.getElem_cons_succ, Nat.zero_mul, Nat.one_mul, Nat.add_zero, Nat.reduceMul] at hr0 hx0
  obtain ⟨op0, nm0, xn0, wd0, v0, xa0, xc0, xl0⟩ := p0
  have r00 : w1.cell? ⟨b, o, none⟩ = some (.int .i64 op0) := hr0 0 _ rfl
  have r01 : w1.cell? ⟨b, o + 1, none⟩ = some (.string (bs nm0)) := hr0 1 _ rfl
  have r02 : w1.cell? ⟨b, o + 2, none⟩ = some (.int .i64 xn0) := hr0 2 _ rfl
  have r03 : w1.cell? ⟨b, o + 3, none⟩ = some (.int .i64 wd0) := hr0 3 _ rfl
  have r04 : w1.cell? ⟨b, o + 4, none⟩ = some (.int .u64 (v0 : Int)) := hr0 4 _ rfl
  have r05 : w1.cell? ⟨b, o + 5, none⟩ = some (.slice xa0 xl0.length xc0) := hr0 5 _ rfl
  simp only [XT.val, XT.cells] at HI0
  have HX0 := Lib.hid hx0
  clear hr0 hx0
  have HL := Lib.hid hl1
  clear hl1 hin1
  obtain ⟨q0, q1, q2, q3, q4, q5⟩ := open6 BX
  go_wp2_with fail
  refine (HI0.out n0 _ hn1 HX0.out HL.out).mono ?_
  rintro e0 w2 ⟨rfl, hb⟩
  clear q0 q1 q2 q3 q4 q5
  have hk9 := Below.keptTo hb hn1
  replace BX := block_kept BX hb
  replace HL := Lib.hid (NRow.keep HL.out hk9)
  replace hn1 := Nat.le_trans hn1 hb.size
  replace hB := hB.trans (hb.mono hB.size)
  clear hk9 hb
  obtain ⟨q0, q1, q2, q3, q4, q5⟩ := open6 BX
  by_cases hf : F0 = 0
  · subst hf
    have HE : Hid (R = (kTruth (A0 == 0), 0)) := Lib.hid (by rw [← HR.out]; rfl)
    obtain ⟨q, hq⟩ : ∃ q, (A0 == 0) = q := ⟨_, rfl⟩
    rw [hq] at HE
    go_wp2_with fail
    refine (refbit_any q _).mono ?_
    rintro e w3 ⟨rfl, rfl⟩
    go_wp2
    go_ret2
    exact ⟨by rw [HE.out]; rfl, hB⟩
  · have d1 : (F0 != 0) = true := by simpa using hf
    have HE : Hid (R = (0, F0)) := Lib.hid (by rw [← HR.out]; unfold kNot; rw [if_neg hf])
    go_wp2
    go_ret2
    exact ⟨by rw [HE.out]; rfl, hB⟩

set_option maxHeartbeats 4000000 in
set_option maxRecDepth 3000000 in
theorem refeval_pair (l : List NT) (a : Option Addr) (c : Nat) (nm : Bytes) (xn : Int) (wd : Int) (v : Nat) (xa : Option Addr) (xc : Nat) (p0 p1 : XT) (ihp0 : (∀ (n0 : Nat) (w : World), n0 ≤ w.heap.size → p0.In n0 w → NRow n0 w l a → Calls Tryz.prog 110 #[p0.val, .slice a l.length c] w fun e w' => e = .returned (.tuple #[.int .i64 (evX l p0).1, .int .i64 (evX l p0).2]) ∧ Below w.heap.size w w')) (ihp1 : (∀ (n0 : Nat) (w : World), n0 ≤ w.heap.size → p1.In n0 w → NRow n0 w l a → Calls Tryz.prog 110 #[p1.val, .slice a l.length c] w fun e w' => e = .returned (.tuple #[.int .i64 (evX l p1).1, .int .i64 (evX l p1).2]) ∧ Below w.heap.size w w')) (hn : 14 ≤ xn ∧ xn ≤ 26) (n0 : Nat) (w : World) (hn0 : n0 ≤ w.heap.size) (hin : InRow 6 XT.cells (XT.In n0 w) n0 w [p0, p1] xa) (hl : NRow n0 w l a) : Calls Tryz.prog 110 #[.agg #[.int .i64 6, .string (bs nm), .int .i64 xn, .int .i64 wd, .int .u64 (v : Int), .slice xa 2 xc], .slice a l.length c] w fun e w' => e = .returned (.tuple #[.int .i64 (kPair xn (evX l p0) (evX l p1)).1, .int .i64 (kPair xn (evX l p0) (evX l p1)).2]) ∧ Below w.heap.size w w' := by
  have hB : Below w.heap.size w (w.alloc (.cells #[.int .i64 6, .string (bs nm), .int .i64 xn, .int .i64 wd, .int .u64 (v : Int), .slice xa 2 xc] 25)) := (Below.refl _ _).alloc (Nat.le_refl _) _
  have BX := World.alloc_heap_new w (.cells #[.int .i64 6, .string (bs nm), .int .i64 xn, .int .i64 wd, .int .u64 (v : Int), .slice xa 2 xc] 25)
  have hk9 := Below.keptTo hB hn0
  have hin1 := hin.keep hk9 (fun x _ => XT.In.keep hk9 x)
  have hl1 := hl.keep hk9
  have hn1 := Nat.le_trans hn0 hB.size
  clear hin hl hn0 hk9
  have HI0 := Lib.hid ihp0
  clear ihp0
  obtain ⟨E0, hE0⟩ : ∃ E, evX l p0 = E := ⟨_, rfl⟩
  rw [hE0] at HI0 ⊢
  have HOK0 := Lib.hid (show KOk E0 by rw [← hE0]; exact evX_ok l p0)
  clear hE0
  obtain ⟨A0, F0⟩ := E0
  have HI1 := Lib.hid ihp1
  clear ihp1
  obtain ⟨E1, hE1⟩ : ∃ E, evX l p1 = E := ⟨_, rfl⟩
  rw [hE1] at HI1 ⊢
  have HOK1 := Lib.hid (show KOk E1 by rw [← hE1]; exact evX_ok l p1)
  clear hE1
  obtain ⟨A1, F1⟩ := E1
  obtain ⟨R, hR⟩ : ∃ R, kPair xn (A0, F0) (A1, F1) = R := ⟨_, rfl⟩
  have HR := Lib.hid hR
  rw [hR]
  clear hR
  go_enter Tryz.func110, Tryz.ntmps110
  go_upto_region 1 with (fail)
  generalize w.alloc (.cells #[.int .i64 6, .string (bs nm), .int .i64 xn, .int .i64 wd, .int .u64 (v : Int), .slice xa 2 xc] 25) = w1 at *
  obtain ⟨b, o, he0, hb0, hr0, hx0⟩ := hin1.at (i := 0) (by simp)
  obtain ⟨b1, o1, he1, hb1, hr1, hx1⟩ := hin1.at (i := 1) (by simp)
  obtain ⟨rfl, rfl⟩ : b = b1 ∧ o = o1 := by have := Option.some.inj (he0.symm.trans he1); injection this with h1 h2; exact ⟨h1, h2⟩
  subst he0
  simp only [List.getElem_cons_zero, List.getElem_cons_succ, Nat.zero_mul, Nat.one_mul, Nat.add_zero, Nat.reduceMul] at hr0 hx0 hr1 hx1
  clear he1 hb1
  obtain ⟨op0, nm0, xn0, wd0, v0, xa0, xc0, xl0⟩ := p0
  have r00 : w1.cell? ⟨b, o, none⟩ = some (.int .i64 op0) := hr0 0 _ rfl
  have r01 : w1.cell? ⟨b, o + 1, none⟩ = some (.string (bs nm0)) := hr0 1 _ rfl
  have r02 : w1.cell? ⟨b, o + 2, none⟩ = some (.int .i64 xn0) := hr0 2 _ rfl
  have r03 : w1.cell? ⟨b, o + 3, none⟩ = some (.int .i64 wd0) := hr0 3 _ rfl
  have r04 : w1.cell? ⟨b, o + 4, none⟩ = some (.int .u64 (v0 : Int)) := hr0 4 _ rfl
  have r05 : w1.cell? ⟨b, o + 5, none⟩ = some (.slice xa0 xl0.length xc0) := hr0 5 _ rfl
  simp only [XT.val, XT.cells] at HI0
  have HX0 := Lib.hid hx0
  clear hr0 hx0
  obtain ⟨op1, nm1, xn1, wd1, v1, xa1, xc1, xl1⟩ := p1
  have r10 : w1.cell? ⟨b, o + 6, none⟩ = some (.int .i64 op1) := hr1 0 _ rfl
  have r11 : w1.cell? ⟨b, o + 6 + 1, none⟩ = some (.string (bs nm1)) := hr1 1 _ rfl
  have r12 : w1.cell? ⟨b, o + 6 + 2, none⟩ = some (.int .i64 xn1) := hr1 2 _ rfl
  have r13 : w1.cell? ⟨b, o + 6 + 3, none⟩ = some (.int .i64 wd1) := hr1 3 _ rfl
  have r14 : w1.cell? ⟨b, o + 6 + 4, none⟩ = some (.int .u64 (v1 : Int)) := hr1 4 _ rfl
  have r15 : w1.cell? ⟨b, o + 6 + 5, none⟩ = some (.slice xa1 xl1.length xc1) := hr1 5 _ rfl
  simp only [XT.val, XT.cells] at HI1
  have HX1 := Lib.hid hx1
  clear hr1 hx1
  have HL := Lib.hid hl1
  clear hl1 hin1
  have d14 : decide (14 ≤ xn) = true := by simpa using hn.1
  have HN := Lib.hid hn
  clear hn
  obtain ⟨q0, q1, q2, q3, q4, q5⟩ := open6 BX
  go_wp2_with fail
  refine (HI0.out n0 _ hn1 HX0.out HL.out).mono ?_
  rintro e0 w2 ⟨rfl, hb⟩
  clear q0 q1 q2 q3 q4 q5
  have hk9 := Below.keptTo hb hn1
  replace BX := block_kept BX hb
  replace HX1 := Lib.hid (XT.In.keep hk9 _ HX1.out)
  replace r10 := keep_cell hb r10
  replace r11 := keep_cell hb r11
  replace r12 := keep_cell hb r12
  replace r13 := keep_cell hb r13
  replace r14 := keep_cell hb r14
  replace r15 := keep_cell hb r15
  replace HL := Lib.hid (NRow.keep HL.out hk9)
  replace hn1 := Nat.le_trans hn1 hb.size
  replace hB := hB.trans (hb.mono hB.size)
  clear hk9 hb
  obtain ⟨q0, q1, q2, q3, q4, q5⟩ := open6 BX
  by_cases hf0 : F0 = 0
  · subst hf0
    go_wp2_with fail
    refine (HI1.out n0 _ hn1 HX1.out HL.out).mono ?_
    rintro e1 w3 ⟨rfl, hb⟩
    clear q0 q1 q2 q3 q4 q5
    have hk9 := Below.keptTo hb hn1
    replace BX := block_kept BX hb
    replace HL := Lib.hid (NRow.keep HL.out hk9)
    replace hn1 := Nat.le_trans hn1 hb.size
    replace hB := hB.trans (hb.mono hB.size)
    clear hk9 hb
    obtain ⟨q0, q1, q2, q3, q4, q5⟩ := open6 BX
    by_cases hf1 : F1 = 0
    · subst hf1
      have HE : Hid (R = kConst (kTwo xn A0 A1)) := Lib.hid (by rw [← HR.out]; unfold kPair; rw [if_pos HN.out, if_pos rfl, if_pos rfl])
      go_wp2_with fail
      refine (reftwo_any xn A0 A1 HN.out.1 HN.out.2 HOK0.out.1 HOK0.out.2.1 HOK1.out.1 HOK1.out.2.1 _).mono ?_
      rintro e w4 ⟨v9, rfl, hv9, rfl⟩
      have HV := Lib.hid hv9
      clear hv9
      go_wp2_with fail
      refine (refwithin_any v9 _).mono ?_
      rintro e w5 ⟨rfl, rfl⟩
      go_wp2
      go_ret2
      exact ⟨by rw [HE.out, ← HV.out]; rfl, hB⟩
    · have d1 : (F1 != 0) = true := by simpa using hf1
      have HE : Hid (R = (0, F1)) := Lib.hid (by rw [← HR.out]; unfold kPair; rw [if_pos HN.out, if_pos rfl, if_neg hf1])
      go_wp2
      go_ret2
      exact ⟨by rw [HE.out]; rfl, hB⟩
  · have d1 : (F0 != 0) = true := by simpa using hf0
    have HE : Hid (R = (0, F0)) := Lib.hid (by rw [← HR.out]; unfold kPair; rw [if_pos HN.out, if_neg hf0])
    go_wp2
    go_ret2
    exact ⟨by rw [HE.out]; rfl, hB⟩

set_option maxHeartbeats 4000000 in
set_option maxRecDepth 3000000 in
theorem refeval_cond (l : List NT) (a : Option Addr) (c : Nat) (nm : Bytes) (xn : Int) (wd : Int) (v : Nat) (xa : Option Addr) (xc : Nat) (p0 p1 p2 : XT) (ihp0 : (∀ (n0 : Nat) (w : World), n0 ≤ w.heap.size → p0.In n0 w → NRow n0 w l a → Calls Tryz.prog 110 #[p0.val, .slice a l.length c] w fun e w' => e = .returned (.tuple #[.int .i64 (evX l p0).1, .int .i64 (evX l p0).2]) ∧ Below w.heap.size w w')) (ihp1 : (∀ (n0 : Nat) (w : World), n0 ≤ w.heap.size → p1.In n0 w → NRow n0 w l a → Calls Tryz.prog 110 #[p1.val, .slice a l.length c] w fun e w' => e = .returned (.tuple #[.int .i64 (evX l p1).1, .int .i64 (evX l p1).2]) ∧ Below w.heap.size w w')) (ihp2 : (∀ (n0 : Nat) (w : World), n0 ≤ w.heap.size → p2.In n0 w → NRow n0 w l a → Calls Tryz.prog 110 #[p2.val, .slice a l.length c] w fun e w' => e = .returned (.tuple #[.int .i64 (evX l p2).1, .int .i64 (evX l p2).2]) ∧ Below w.heap.size w w'))  (n0 : Nat) (w : World) (hn0 : n0 ≤ w.heap.size) (hin : InRow 6 XT.cells (XT.In n0 w) n0 w [p0, p1, p2] xa) (hl : NRow n0 w l a) : Calls Tryz.prog 110 #[.agg #[.int .i64 7, .string (bs nm), .int .i64 xn, .int .i64 wd, .int .u64 (v : Int), .slice xa 3 xc], .slice a l.length c] w fun e w' => e = .returned (.tuple #[.int .i64 (kCond (evX l p0) (evX l p1) (evX l p2)).1, .int .i64 (kCond (evX l p0) (evX l p1) (evX l p2)).2]) ∧ Below w.heap.size w w' := by
  have hB : Below w.heap.size w (w.alloc (.cells #[.int .i64 7, .string (bs nm), .int .i64 xn, .int .i64 wd, .int .u64 (v : Int), .slice xa 3 xc] 25)) := (Below.refl _ _).alloc (Nat.le_refl _) _
  have BX := World.alloc_heap_new w (.cells #[.int .i64 7, .string (bs nm), .int .i64 xn, .int .i64 wd, .int .u64 (v : Int), .slice xa 3 xc] 25)
  have hk9 := Below.keptTo hB hn0
  have hin1 := hin.keep hk9 (fun x _ => XT.In.keep hk9 x)
  have hl1 := hl.keep hk9
  have hn1 := Nat.le_trans hn0 hB.size
  clear hin hl hn0 hk9
  have HI0 := Lib.hid ihp0
  clear ihp0
  obtain ⟨E0, hE0⟩ : ∃ E, evX l p0 = E := ⟨_, rfl⟩
  rw [hE0] at HI0 ⊢
  have HOK0 := Lib.hid (show KOk E0 by rw [← hE0]; exact evX_ok l p0)
  clear hE0
  obtain ⟨A0, F0⟩ := E0
  have HI1 := Lib.hid ihp1
  clear ihp1
  obtain ⟨E1, hE1⟩ : ∃ E, evX l p1 = E := ⟨_, rfl⟩
  rw [hE1] at HI1 ⊢
  have HOK1 := Lib.hid (show KOk E1 by rw [← hE1]; exact evX_ok l p1)
  clear hE1
  obtain ⟨A1, F1⟩ := E1
  have HI2 := Lib.hid ihp2
  clear ihp2
  obtain ⟨E2, hE2⟩ : ∃ E, evX l p2 = E := ⟨_, rfl⟩
  rw [hE2] at HI2 ⊢
  have HOK2 := Lib.hid (show KOk E2 by rw [← hE2]; exact evX_ok l p2)
  clear hE2
  obtain ⟨A2, F2⟩ := E2
  obtain ⟨R, hR⟩ : ∃ R, kCond (A0, F0) (A1, F1) (A2, F2) = R := ⟨_, rfl⟩
  have HR := Lib.hid hR
  rw [hR]
  clear hR
  go_enter Tryz.func110, Tryz.ntmps110
  go_upto_region 1 with (fail)
  generalize w.alloc (.cells #[.int .i64 7, .string (bs nm), .int .i64 xn, .int .i64 wd, .int .u64 (v : Int), .slice xa 3 xc] 25) = w1 at *
  obtain ⟨b, o, he0, hb0, hr0, hx0⟩ := hin1.at (i := 0) (by simp)
  obtain ⟨b1, o1, he1, hb1, hr1, hx1⟩ := hin1.at (i := 1) (by simp)
  obtain ⟨rfl, rfl⟩ : b = b1 ∧ o = o1 := by have := Option.some.inj (he0.symm.trans he1); injection this with h1 h2; exact ⟨h1, h2⟩
  obtain ⟨b2, o2, he2, hb2, hr2, hx2⟩ := hin1.at (i := 2) (by simp)
  obtain ⟨rfl, rfl⟩ : b = b2 ∧ o = o2 := by have := Option.some.inj (he0.symm.trans he2); injection this with h1 h2; exact ⟨h1, h2⟩
  subst he0
  simp only [List.getElem_cons_zero, List.getElem_cons_succ, Nat.zero_mul, Nat.one_mul, Nat.add_zero, Nat.reduceMul] at hr0 hx0 hr1 hx1 hr2 hx2
  clear he1 hb1 he2 hb2
  obtain ⟨op0, nm0, xn0, wd0, v0, xa0, xc0, xl0⟩ := p0
  have r00 : w1.cell? ⟨b, o, none⟩ = some (.int .i64 op0) := hr0 0 _ rfl
  have r01 : w1.cell? ⟨b, o + 1, none⟩ = some (.string (bs nm0)) := hr0 1 _ rfl
  have r02 : w1.cell? ⟨b, o + 2, none⟩ = some (.int .i64 xn0) := hr0 2 _ rfl
  have r03 : w1.cell? ⟨b, o + 3, none⟩ = some (.int .i64 wd0) := hr0 3 _ rfl
  have r04 : w1.cell? ⟨b, o + 4, none⟩ = some (.int .u64 (v0 : Int)) := hr0 4 _ rfl
  have r05 : w1.cell? ⟨b, o + 5, none⟩ = some (.slice xa0 xl0.length xc0) := hr0 5 _ rfl
  simp only [XT.val, XT.cells] at HI0
  have HX0 := Lib.hid hx0
  clear hr0 hx0
  obtain ⟨op1, nm1, xn1, wd1, v1, xa1, xc1, xl1⟩ := p1
  have r10 : w1.cell? ⟨b, o + 6, none⟩ = some (.int .i64 op1) := hr1 0 _ rfl
  have r11 : w1.cell? ⟨b, o + 6 + 1, none⟩ = some (.string (bs nm1)) := hr1 1 _ rfl
  have r12 : w1.cell? ⟨b, o + 6 + 2, none⟩ = some (.int .i64 xn1) := hr1 2 _ rfl
  have r13 : w1.cell? ⟨b, o + 6 + 3, none⟩ = some (.int .i64 wd1) := hr1 3 _ rfl
  have r14 : w1.cell? ⟨b, o + 6 + 4, none⟩ = some (.int .u64 (v1 : Int)) := hr1 4 _ rfl
  have r15 : w1.cell? ⟨b, o + 6 + 5, none⟩ = some (.slice xa1 xl1.length xc1) := hr1 5 _ rfl
  simp only [XT.val, XT.cells] at HI1
  have HX1 := Lib.hid hx1
  clear hr1 hx1
  obtain ⟨op2, nm2, xn2, wd2, v2, xa2, xc2, xl2⟩ := p2
  have r20 : w1.cell? ⟨b, o + 12, none⟩ = some (.int .i64 op2) := hr2 0 _ rfl
  have r21 : w1.cell? ⟨b, o + 12 + 1, none⟩ = some (.string (bs nm2)) := hr2 1 _ rfl
  have r22 : w1.cell? ⟨b, o + 12 + 2, none⟩ = some (.int .i64 xn2) := hr2 2 _ rfl
  have r23 : w1.cell? ⟨b, o + 12 + 3, none⟩ = some (.int .i64 wd2) := hr2 3 _ rfl
  have r24 : w1.cell? ⟨b, o + 12 + 4, none⟩ = some (.int .u64 (v2 : Int)) := hr2 4 _ rfl
  have r25 : w1.cell? ⟨b, o + 12 + 5, none⟩ = some (.slice xa2 xl2.length xc2) := hr2 5 _ rfl
  simp only [XT.val, XT.cells] at HI2
  have HX2 := Lib.hid hx2
  clear hr2 hx2
  have HL := Lib.hid hl1
  clear hl1 hin1
  obtain ⟨q0, q1, q2, q3, q4, q5⟩ := open6 BX
  go_wp2_with fail
  refine (HI0.out n0 _ hn1 HX0.out HL.out).mono ?_
  rintro e0 w2 ⟨rfl, hb⟩
  clear q0 q1 q2 q3 q4 q5
  have hk9 := Below.keptTo hb hn1
  replace BX := block_kept BX hb
  replace HX1 := Lib.hid (XT.In.keep hk9 _ HX1.out)
  replace r10 := keep_cell hb r10
  replace r11 := keep_cell hb r11
  replace r12 := keep_cell hb r12
  replace r13 := keep_cell hb r13
  replace r14 := keep_cell hb r14
  replace r15 := keep_cell hb r15
  replace HX2 := Lib.hid (XT.In.keep hk9 _ HX2.out)
  replace r20 := keep_cell hb r20
  replace r21 := keep_cell hb r21
  replace r22 := keep_cell hb r22
  replace r23 := keep_cell hb r23
  replace r24 := keep_cell hb r24
  replace r25 := keep_cell hb r25
  replace HL := Lib.hid (NRow.keep HL.out hk9)
  replace hn1 := Nat.le_trans hn1 hb.size
  replace hB := hB.trans (hb.mono hB.size)
  clear hk9 hb
  obtain ⟨q0, q1, q2, q3, q4, q5⟩ := open6 BX
  by_cases hf0 : F0 = 0
  · subst hf0
    by_cases h0 : A0 = 0
    · subst h0
      have HE : Hid (R = (A2, F2)) := Lib.hid (by rw [← HR.out]; unfold kCond; rw [if_pos rfl, if_pos rfl])
      go_wp2_with fail
      refine (HI2.out n0 _ hn1 HX2.out HL.out).mono ?_
      rintro e3 w3 ⟨rfl, hb⟩
      have hB3 := hB.trans (hb.mono hB.size)
      clear hb
      go_wp2
      go_ret2
      exact ⟨by rw [HE.out]; rfl, hB3⟩
    · have d2 : (A0 != 0) = true := by simpa using h0
      have HE : Hid (R = (A1, F1)) := Lib.hid (by rw [← HR.out]; unfold kCond; rw [if_pos rfl, if_neg h0])
      go_wp2_with fail
      refine (HI1.out n0 _ hn1 HX1.out HL.out).mono ?_
      rintro e3 w3 ⟨rfl, hb⟩
      have hB3 := hB.trans (hb.mono hB.size)
      clear hb
      go_wp2
      go_ret2
      exact ⟨by rw [HE.out]; rfl, hB3⟩
  · have d1 : (F0 != 0) = true := by simpa using hf0
    have HE : Hid (R = (0, F0)) := Lib.hid (by rw [← HR.out]; unfold kCond; rw [if_neg hf0])
    go_wp2
    go_ret2
    exact ⟨by rw [HE.out]; rfl, hB⟩

set_option maxHeartbeats 2000000 in
set_option maxRecDepth 3000000 in
theorem refeval_num1 (l : List NT) (hll : l.length ≤ 4000000) (a : Option Addr) (c : Nat) (nm : Bytes) (xn : Int) (wd : Int) (v : Nat) (xa : Option Addr) (n5 xc : Nat) (hw : wd ≠ 0) (n0 : Nat) (w : World) (hn0 : n0 ≤ w.heap.size) (hl : NRow n0 w l a) : Calls Tryz.prog 110 #[.agg #[.int .i64 1, .string (bs nm), .int .i64 xn, .int .i64 wd, .int .u64 (v : Int), .slice xa n5 xc], .slice a l.length c] w fun e w' => e = .returned (.tuple #[.int .i64 (((0 : Int), (61 : Int))).1, .int .i64 (((0 : Int), (61 : Int))).2]) ∧ Below w.heap.size w w' := by
  have hB : Below w.heap.size w (w.alloc (.cells #[.int .i64 1, .string (bs nm), .int .i64 xn, .int .i64 wd, .int .u64 (v : Int), .slice xa n5 xc] 25)) := (Below.refl _ _).alloc (Nat.le_refl _) _
  have BX := World.alloc_heap_new w (.cells #[.int .i64 1, .string (bs nm), .int .i64 xn, .int .i64 wd, .int .u64 (v : Int), .slice xa n5 xc] 25)
  have hl1 := hl.keep (Below.keptTo hB hn0)
  have hn1 := Nat.le_trans hn0 hB.size
  obtain ⟨R, hR⟩ : ∃ R, ((0 : Int), (61 : Int)) = R := ⟨_, rfl⟩
  have HR := Lib.hid hR
  rw [hR]
  clear hl hn0 hR
  have d1 : (wd != 0) = true := by simpa using hw
  have HE : Hid (R = (0, 61)) := Lib.hid HR.out.symm
  go_enter Tryz.func110, Tryz.ntmps110
  go_upto_region 1 with (fail)
  generalize w.alloc (.cells #[.int .i64 1, .string (bs nm), .int .i64 xn, .int .i64 wd, .int .u64 (v : Int), .slice xa n5 xc] 25) = w1 at *
  obtain ⟨q0, q1, q2, q3, q4, q5⟩ := open6 BX
  go_wp2
  go_ret2
  exact ⟨by rw [HE.out]; rfl, hB⟩

set_option maxHeartbeats 2000000 in
set_option maxRecDepth 3000000 in
theorem refeval_num2 (l : List NT) (hll : l.length ≤ 4000000) (a : Option Addr) (c : Nat) (nm : Bytes) (xn : Int) (v : Nat) (xa : Option Addr) (n5 xc : Nat) (hv : 2147483647 < v) (n0 : Nat) (w : World) (hn0 : n0 ≤ w.heap.size) (hl : NRow n0 w l a) : Calls Tryz.prog 110 #[.agg #[.int .i64 1, .string (bs nm), .int .i64 xn, .int .i64 0, .int .u64 (v : Int), .slice xa n5 xc], .slice a l.length c] w fun e w' => e = .returned (.tuple #[.int .i64 (((0 : Int), (62 : Int))).1, .int .i64 (((0 : Int), (62 : Int))).2]) ∧ Below w.heap.size w w' := by
  have hB : Below w.heap.size w (w.alloc (.cells #[.int .i64 1, .string (bs nm), .int .i64 xn, .int .i64 0, .int .u64 (v : Int), .slice xa n5 xc] 25)) := (Below.refl _ _).alloc (Nat.le_refl _) _
  have BX := World.alloc_heap_new w (.cells #[.int .i64 1, .string (bs nm), .int .i64 xn, .int .i64 0, .int .u64 (v : Int), .slice xa n5 xc] 25)
  have hl1 := hl.keep (Below.keptTo hB hn0)
  have hn1 := Nat.le_trans hn0 hB.size
  obtain ⟨R, hR⟩ : ∃ R, ((0 : Int), (62 : Int)) = R := ⟨_, rfl⟩
  have HR := Lib.hid hR
  rw [hR]
  clear hl hn0 hR
  have d1 : decide (2147483647 < (v : Int)) = true := by rw [decide_eq_true_eq]; omega
  have HE : Hid (R = (0, 62)) := Lib.hid HR.out.symm
  go_enter Tryz.func110, Tryz.ntmps110
  go_upto_region 1 with (fail)
  generalize w.alloc (.cells #[.int .i64 1, .string (bs nm), .int .i64 xn, .int .i64 0, .int .u64 (v : Int), .slice xa n5 xc] 25) = w1 at *
  obtain ⟨q0, q1, q2, q3, q4, q5⟩ := open6 BX
  go_wp2
  go_ret2
  exact ⟨by rw [HE.out]; rfl, hB⟩

set_option maxHeartbeats 2000000 in
set_option maxRecDepth 3000000 in
theorem refeval_num3 (l : List NT) (hll : l.length ≤ 4000000) (a : Option Addr) (c : Nat) (nm : Bytes) (xn : Int) (v : Nat) (xa : Option Addr) (n5 xc : Nat) (hv : v ≤ 2147483647) (n0 : Nat) (w : World) (hn0 : n0 ≤ w.heap.size) (hl : NRow n0 w l a) : Calls Tryz.prog 110 #[.agg #[.int .i64 1, .string (bs nm), .int .i64 xn, .int .i64 0, .int .u64 (v : Int), .slice xa n5 xc], .slice a l.length c] w fun e w' => e = .returned (.tuple #[.int .i64 (((v : Int), (0 : Int))).1, .int .i64 (((v : Int), (0 : Int))).2]) ∧ Below w.heap.size w w' := by
  have hB : Below w.heap.size w (w.alloc (.cells #[.int .i64 1, .string (bs nm), .int .i64 xn, .int .i64 0, .int .u64 (v : Int), .slice xa n5 xc] 25)) := (Below.refl _ _).alloc (Nat.le_refl _) _
  have BX := World.alloc_heap_new w (.cells #[.int .i64 1, .string (bs nm), .int .i64 xn, .int .i64 0, .int .u64 (v : Int), .slice xa n5 xc] 25)
  have hl1 := hl.keep (Below.keptTo hB hn0)
  have hn1 := Nat.le_trans hn0 hB.size
  obtain ⟨R, hR⟩ : ∃ R, ((v : Int), (0 : Int)) = R := ⟨_, rfl⟩
  have HR := Lib.hid hR
  rw [hR]
  clear hl hn0 hR
  have d1 : decide (2147483647 < (v : Int)) = false := by rw [decide_eq_false_iff_not]; omega
  have hw : IntKind.i64.wrap (v : Int) = v := IntWalk.i64_in _ (by omega)
  have hw2 : wrap64 (v : Int) = v := by first | exact hw | (unfold wrap64; omega)
  have HE : Hid (R = ((v : Int), 0)) := Lib.hid HR.out.symm
  go_enter Tryz.func110, Tryz.ntmps110
  go_upto_region 1 with (fail)
  generalize w.alloc (.cells #[.int .i64 1, .string (bs nm), .int .i64 xn, .int .i64 0, .int .u64 (v : Int), .slice xa n5 xc] 25) = w1 at *
  obtain ⟨q0, q1, q2, q3, q4, q5⟩ := open6 BX
  go_wp2
  go_ret2
  exact ⟨by rw [HE.out]; rfl, hB⟩

set_option maxHeartbeats 2000000 in
set_option maxRecDepth 3000000 in
theorem refeval_name (l : List NT) (hll : l.length ≤ 4000000) (a : Option Addr) (c : Nat) (nm : Bytes) (xn : Int) (wd : Int) (v : Nat) (xa : Option Addr) (n5 xc : Nat)  (n0 : Nat) (w : World) (hn0 : n0 ≤ w.heap.size) (hl : NRow n0 w l a) : Calls Tryz.prog 110 #[.agg #[.int .i64 2, .string (bs nm), .int .i64 xn, .int .i64 wd, .int .u64 (v : Int), .slice xa n5 xc], .slice a l.length c] w fun e w' => e = .returned (.tuple #[.int .i64 (kNamed l nm).1, .int .i64 (kNamed l nm).2]) ∧ Below w.heap.size w w' := by
  have hB : Below w.heap.size w (w.alloc (.cells #[.int .i64 2, .string (bs nm), .int .i64 xn, .int .i64 wd, .int .u64 (v : Int), .slice xa n5 xc] 25)) := (Below.refl _ _).alloc (Nat.le_refl _) _
  have BX := World.alloc_heap_new w (.cells #[.int .i64 2, .string (bs nm), .int .i64 xn, .int .i64 wd, .int .u64 (v : Int), .slice xa n5 xc] 25)
  have hl1 := hl.keep (Below.keptTo hB hn0)
  have hn1 := Nat.le_trans hn0 hB.size
  obtain ⟨R, hR⟩ : ∃ R, kNamed l nm = R := ⟨_, rfl⟩
  have HR := Lib.hid hR
  rw [hR]
  clear hl hn0 hR
  have HLK := Lib.hid (fun (W : World) h1 h2 => refLookup_any l hll nm a c n0 W h1 h2)
  obtain ⟨o, ho⟩ : ∃ o, findN l nm = o := ⟨_, rfl⟩
  rw [ho] at HLK
  have HE0 : Hid (R = kOpt o) := Lib.hid (by rw [← HR.out, ← ho]; rfl)
  clear ho HR
  go_enter Tryz.func110, Tryz.ntmps110
  go_upto_region 1 with (fail)
  generalize w.alloc (.cells #[.int .i64 2, .string (bs nm), .int .i64 xn, .int .i64 wd, .int .u64 (v : Int), .slice xa n5 xc] 25) = w1 at *
  obtain ⟨q0, q1, q2, q3, q4, q5⟩ := open6 BX
  go_wp2_with fail
  refine (HLK.out _ hn1 hl1).mono ?_
  rintro e w2 ⟨rfl, rfl⟩
  cases o with
  | none =>
    have HE : Hid (R = (0, 60)) := Lib.hid HE0.out
    simp only [Option.getD_none, Option.isSome_none]
    go_wp2
    go_ret2
    exact ⟨by rw [HE.out]; rfl, hB⟩
  | some n =>
    have HE : Hid (R = kConst n) := Lib.hid HE0.out
    simp only [Option.getD_some, Option.isSome_some]
    go_wp2_with fail
    refine (refwithin_any n _).mono ?_
    rintro e w3 ⟨rfl, rfl⟩
    go_wp2
    go_ret2
    exact ⟨by rw [HE.out]; rfl, hB⟩

set_option maxHeartbeats 2000000 in
set_option maxRecDepth 3000000 in
theorem refeval_no (l : List NT) (hll : l.length ≤ 4000000) (a : Option Addr) (c : Nat) (op : Int) (nm : Bytes) (xn : Int) (wd : Int) (v : Nat) (xa : Option Addr) (n5 xc : Nat) (h1 : op ≠ 1) (h2 : op ≠ 2) (h5 : ¬ (op = 5 ∧ xn = 6)) (h6 : ¬ (op = 6 ∧ 14 ≤ xn)) (h7 : op ≠ 7) (n0 : Nat) (w : World) (hn0 : n0 ≤ w.heap.size) (hl : NRow n0 w l a) : Calls Tryz.prog 110 #[.agg #[.int .i64 op, .string (bs nm), .int .i64 xn, .int .i64 wd, .int .u64 (v : Int), .slice xa n5 xc], .slice a l.length c] w fun e w' => e = .returned (.tuple #[.int .i64 (((0 : Int), (61 : Int))).1, .int .i64 (((0 : Int), (61 : Int))).2]) ∧ Below w.heap.size w w' := by
  have hB : Below w.heap.size w (w.alloc (.cells #[.int .i64 op, .string (bs nm), .int .i64 xn, .int .i64 wd, .int .u64 (v : Int), .slice xa n5 xc] 25)) := (Below.refl _ _).alloc (Nat.le_refl _) _
  have BX := World.alloc_heap_new w (.cells #[.int .i64 op, .string (bs nm), .int .i64 xn, .int .i64 wd, .int .u64 (v : Int), .slice xa n5 xc] 25)
  have hl1 := hl.keep (Below.keptTo hB hn0)
  have hn1 := Nat.le_trans hn0 hB.size
  obtain ⟨R, hR⟩ : ∃ R, ((0 : Int), (61 : Int)) = R := ⟨_, rfl⟩
  have HR := Lib.hid hR
  rw [hR]
  clear hl hn0 hR
  have HE : Hid (R = (0, 61)) := Lib.hid HR.out.symm
  have d1 : (op == 1) = false := by simpa using h1
  have d2 : (op == 2) = false := by simpa using h2
  have d7 : (op == 7) = false := by simpa using h7
  clear HR
  go_enter Tryz.func110, Tryz.ntmps110
  go_upto_region 1 with (fail)
  generalize w.alloc (.cells #[.int .i64 op, .string (bs nm), .int .i64 xn, .int .i64 wd, .int .u64 (v : Int), .slice xa n5 xc] 25) = w1 at *
  obtain ⟨q0, q1, q2, q3, q4, q5⟩ := open6 BX
  by_cases g5 : op = 5
  · subst g5
    have d5 : (xn == 6) = false := by rw [beq_eq_false_iff_ne]; intro h; exact h5 ⟨rfl, h⟩
    clear h1 h2 h5 h6 h7
    go_wp2
    go_ret2
    exact ⟨by rw [HE.out]; rfl, hB⟩
  · have d5 : (op == 5) = false := by simpa using g5
    by_cases g6 : op = 6
    · subst g6
      have d6 : decide (14 ≤ xn) = false := by rw [decide_eq_false_iff_not]; intro h; exact h6 ⟨rfl, h⟩
      clear h1 h2 h5 h6 h7
      go_wp2
      go_ret2
      exact ⟨by rw [HE.out]; rfl, hB⟩
    · have d6 : (op == 6) = false := by simpa using g6
      clear h1 h2 h5 h6 h7
      go_wp2
      go_ret2
      exact ⟨by rw [HE.out]; rfl, hB⟩

theorem refeval_any (l : List NT) (hll : l.length ≤ 4000000) (a : Option Addr) (c : Nat) : ∀ x : XT, x.Wf → mayX x = true → ∀ (n0 : Nat) (w : World), n0 ≤ w.heap.size → x.In n0 w → NRow n0 w l a → Calls Tryz.prog 110 #[x.val, .slice a l.length c] w fun e w' => e = .returned (.tuple #[.int .i64 (evX l x).1, .int .i64 (evX l x).2]) ∧ Below w.heap.size w w' := by
  refine XT.ind ?_
  intro op nm xn wd v xa xc xl ih hwf hmay n0 w hn0 hin hl
  rw [XT.In_mk] at hin
  rw [XT.wf_mk] at hwf
  rw [evX_mk]
  obtain ⟨hp, _, _, hp4, hp5, _⟩ := mayX_parts hmay
  have IH := fun y (hy : y ∈ xl) => ih y hy (hwf.2 y hy) (hp y hy)
  by_cases h1 : op = 1
  · subst h1
    have e1 : kNode l 1 nm xn wd v (xl.map (evX l)) = if wd = 0 then kNum v else (0, 61) := by unfold kNode; rw [if_pos rfl]
    rw [e1]
    by_cases hw : wd = 0
    · subst hw
      rw [if_pos rfl]
      unfold kNum
      by_cases hv : v ≤ 2147483647
      · rw [if_pos hv]
        exact refeval_num3 l hll a c nm xn v xa xl.length xc hv n0 w hn0 hl
      · rw [if_neg hv]
        exact refeval_num2 l hll a c nm xn v xa xl.length xc (by omega) n0 w hn0 hl
    · rw [if_neg hw]
      exact refeval_num1 l hll a c nm xn wd v xa xl.length xc hw n0 w hn0 hl
  by_cases h2 : op = 2
  · subst h2
    have e2 : kNode l 2 nm xn wd v (xl.map (evX l)) = kNamed l nm := by unfold kNode; rw [if_neg (by decide), if_pos rfl]
    rw [e2]
    exact refeval_name l hll a c nm xn wd v xa xl.length xc n0 w hn0 hl
  by_cases h5 : op = 5 ∧ xn = 6
  · obtain ⟨rfl, rfl⟩ := h5
    obtain ⟨y, rfl, _⟩ := may5 hmay
    have e5 : kNode l 5 nm 6 wd v ([y].map (evX l)) = kNot (evX l y) := by unfold kNode; rw [if_neg (by decide), if_neg (by decide), if_pos rfl, if_pos rfl]; rfl
    rw [e5]
    exact refeval_not l a c nm wd v xa xc y (IH y (by simp)) n0 w hn0 hin hl
  by_cases h6 : op = 6 ∧ 14 ≤ xn
  · obtain ⟨rfl, h14⟩ := h6
    obtain ⟨y, z, rfl, _⟩ := may6 hmay
    have e6 : kNode l 6 nm xn wd v ([y, z].map (evX l)) = kPair xn (evX l y) (evX l z) := by unfold kNode; rw [if_neg (by decide), if_neg (by decide), if_neg (by decide), if_pos rfl]; rfl
    rw [e6]
    exact refeval_pair l a c nm xn wd v xa xc y z (IH y (by simp)) (IH z (by simp)) ⟨h14, hp5⟩ n0 w hn0 hin hl
  by_cases h7 : op = 7
  · subst h7
    obtain ⟨x, y, z, rfl, _⟩ := may7 hmay
    have e7 : kNode l 7 nm xn wd v ([x, y, z].map (evX l)) = kCond (evX l x) (evX l y) (evX l z) := by unfold kNode; rw [if_neg (by decide), if_neg (by decide), if_neg (by decide), if_neg (by decide), if_pos rfl]; rfl
    rw [e7]
    exact refeval_cond l a c nm xn wd v xa xc x y z (IH x (by simp)) (IH y (by simp)) (IH z (by simp)) n0 w hn0 hin hl
  have e9 : kNode l op nm xn wd v (xl.map (evX l)) = (0, 61) := by
    unfold kNode
    rw [if_neg h1, if_neg h2]
    by_cases g5 : op = 5
    · rw [if_pos g5, if_neg (fun h => h5 ⟨g5, h⟩)]
    · rw [if_neg g5]
      by_cases g6 : op = 6
      · rw [if_pos g6]
        unfold kPair
        rw [if_neg (fun h => h6 ⟨g6, h.1⟩)]
      · rw [if_neg g6, if_neg h7]
  rw [e9]
  exact refeval_no l hll a c op nm xn wd v xa xl.length xc h1 h2 h5 h6 h7 n0 w hn0 hl
set_option maxHeartbeats 4000000 in
set_option maxRecDepth 3000000 in
theorem refEval_any (x : XT) (hbk : x.bk ≤ 1500000) (hwf : x.Wf) (l : List NT) (hll : l.length ≤ 4000000) (a : Option Addr) (c n0 : Nat) (w : World) (hn0 : n0 ≤ w.heap.size) (hx : x.In n0 w) (hl : NRow n0 w l a) : Calls Tryz.prog 67 #[x.val, .slice a l.length c] w fun e w' => e = .returned (.tuple #[.int .i64 (evalK l x).1, .int .i64 (evalK l x).2]) ∧ Below w.heap.size w w' := by
  have HC := fun (w' : World) h1 h2 => refcheckX_any x hbk hwf n0 w' h1 h2
  have HI : Hid (evalK l x = if checkX x = 0 then evX l x else (0, 1)) := Lib.hid rfl
  have HV := fun (h : checkX x = 0) => refeval_any l hll a c x hwf (check_may h)
  generalize checkX x = C at *
  generalize evX l x = E at *
  generalize evalK l x = R at *
  obtain ⟨op, nm, xn, wd, v, xa, xc, xl⟩ := x
  simp only [XT.val, XT.cells] at HC HV ⊢
  have HV2 := Lib.hid HV
  have HC2 := Lib.hid HC
  have hB : Below w.heap.size w (w.alloc (.cells #[.int .i64 op, .string (bs nm), .int .i64 xn, .int .i64 wd, .int .u64 (v : Int), .slice xa xl.length xc] 25)) := (Below.refl _ _).alloc (Nat.le_refl _) _
  have BX := World.alloc_heap_new w (.cells #[.int .i64 op, .string (bs nm), .int .i64 xn, .int .i64 wd, .int .u64 (v : Int), .slice xa xl.length xc] 25)
  have hk9 := Below.keptTo hB hn0
  have hx1 := XT.In.keep hk9 _ hx
  have hl1 := hl.keep hk9
  have hn1 := Nat.le_trans hn0 hB.size
  clear HV HC hx hl hn0 hk9 hbk hwf
  go_enter Tryz.func67, Tryz.ntmps67
  go_upto_region 1 with (fail)
  generalize w.alloc (.cells #[.int .i64 op, .string (bs nm), .int .i64 xn, .int .i64 wd, .int .u64 (v : Int), .slice xa xl.length xc] 25) = w1 at *
  obtain ⟨q0, q1, q2, q3, q4, q5⟩ := open6 BX
  go_wp2_with fail
  refine (HC2.out _ hn1 hx1).mono ?_
  rintro e w2 ⟨rfl, hb⟩
  clear q0 q1 q2 q3 q4 q5
  have hk9 := Below.keptTo hb hn1
  replace BX := block_kept BX hb
  replace hx1 := XT.In.keep hk9 _ hx1
  replace hl1 := hl1.keep hk9
  replace hn1 := Nat.le_trans hn1 hb.size
  replace hB := hB.trans (hb.mono hB.size)
  clear hk9 hb HC2
  obtain ⟨q0, q1, q2, q3, q4, q5⟩ := open6 BX
  by_cases hC : C = 0
  · have HE : Hid (R = E) := Lib.hid (by rw [HI.out, if_pos hC])
    have HV3 := Lib.hid (HV2.out hC)
    subst hC
    clear HV2 HI
    go_wp2_with fail
    refine (HV3.out n0 _ hn1 hx1 hl1).mono ?_
    rintro e w3 ⟨rfl, hb⟩
    have hB3 := hB.trans (hb.mono hB.size)
    clear hb
    go_wp2
    go_ret2
    exact ⟨by rw [HE.out]; rfl, hB3⟩
  · have d1 : (C != 0) = true := by simpa using hC
    have HE : Hid (R = (0, 1)) := Lib.hid (by rw [HI.out, if_neg hC])
    clear HV2 HI
    go_wp2
    go_ret2
    exact ⟨by rw [HE.out]; rfl, hB⟩
end Go.Proofs.YtlbjmnakiflfpaaGreatDoor
namespace Go.Proofs.YtlbjmnakiflfpaaGreatDoor
open Go Go.RowKit
set_option linter.unusedVariables false
set_option linter.unusedSimpArgs false
open Go.Sort
set_option maxHeartbeats 4000000 in
set_option maxRecDepth 3000000 in
theorem refWidth_any (x : XT) (hbk : x.bk ≤ 1500000) (hwf : x.Wf) (l : List NT) (hlk : NT.bkL l ≤ 1500000) (a : Option Addr) (c n0 : Nat) (w : World) (hn0 : n0 ≤ w.heap.size) (he : EnvA w) (hx : x.In n0 w) (hl : NRow n0 w l a) : Calls Tryz.prog 26 #[x.val, .slice a l.length c] w fun e w' => e = .returned (.tuple #[.int .i64 (widthK l x).1, .int .i64 (widthK l x).2]) ∧ Below w.heap.size w w' := by

  have HI : Hid (widthK l x = if (evalK l x).2 = 0 then (if (decide ((evalK l x).1 < 1) || decide (64 < (evalK l x).1)) = true then (0, 83) else ((evalK l x).1, 0)) else (0, (evalK l x).2)) := Lib.hid rfl
  have hk0 : ∀ o, Below w.heap.size w (w.alloc o) := fun o => (Below.refl _ _).alloc (Nat.le_refl _) o
  have hv := fun (o : Obj) => refEval_any x hbk hwf l (Nat.le_trans (NT.bkL_len l) (by omega)) a c n0 (w.alloc o) (by simp; omega) (XT.In.keep (Below.keptTo (hk0 o) hn0) _ hx) (hl.keep (Below.keptTo (hk0 o) hn0))
  have hok := evalK_ok l x
  generalize widthK l x = R at *
  generalize evalK l x = E at *
  obtain ⟨E1, E2⟩ := E
  obtain ⟨op, nm, xn, wd, v, xa, xc, xl⟩ := x
  simp only [XT.val, XT.cells] at hv ⊢
  simp only at HI
  have hk := hk0 (.cells #[.int .i64 op, .string (bs nm), .int .i64 xn, .int .i64 wd, .int .u64 (v : Int), .slice xa xl.length xc] 25)
  clear hk0 he hx hl
  go_enter Tryz.func26, Tryz.ntmps26
  go_wp2_with fail
  refine (hv _).mono ?_
  rintro e w1 ⟨rfl, hb⟩
  have hB := hk.trans (hb.mono (by simp))
  clear hv
  by_cases h0 : E2 = 0
  · subst h0
    have o1 := hok.1
    have o2 := hok.2.1
    by_cases h1 : E1 < 1
    · have d1 : decide (E1 < 1) = true := by simpa using h1
      have HE : Hid (R = (0, 83)) := Lib.hid (by rw [HI.out, d1]; rfl)
      go_wp2
      go_ret2
      exact ⟨by rw [HE.out]; rfl, hB⟩
    · have d1 : decide (E1 < 1) = false := by simpa using h1
      by_cases h2 : 64 < E1
      · have d2 : decide (64 < E1) = true := by simpa using h2
        have HE : Hid (R = (0, 83)) := Lib.hid (by rw [HI.out, d1, d2]; rfl)
        go_wp2
        go_ret2
        exact ⟨by rw [HE.out]; rfl, hB⟩
      · have d2 : decide (64 < E1) = false := by simpa using h2
        have HE : Hid (R = (E1, 0)) := Lib.hid (by rw [HI.out, d1, d2]; rfl)
        go_wp2
        go_ret2
        exact ⟨by rw [HE.out]; rfl, hB⟩
  · have d1 : (E2 != 0) = true := by simpa using h0
    have HE : Hid (R = (0, E2)) := Lib.hid (by rw [HI.out, if_neg h0])
    go_wp2
    go_ret2
    exact ⟨by rw [HE.out]; rfl, hB⟩

set_option maxHeartbeats 4000000 in
set_option maxRecDepth 3000000 in
theorem refNumber_any (x : XT) (hbk : x.bk ≤ 1500000) (hwf : x.Wf) (l : List NT) (hlk : NT.bkL l ≤ 1500000) (a : Option Addr) (c n0 : Nat) (w : World) (hn0 : n0 ≤ w.heap.size) (he : EnvA w) (hx : x.In n0 w) (hl : NRow n0 w l a) : Calls Tryz.prog 28 #[x.val, .slice a l.length c] w fun e w' => e = .returned (.tuple #[.agg #[.int .i64 (numberK l x).1, .int .u64 ((numberK l x).2.1 : Int)], .int .i64 (numberK l x).2.2]) ∧ Below w.heap.size w w' := by

  have HI : Hid (numberK l x = if x.op = 1 ∧ checkX x = 0 then (x.wd, x.v, 0) else (0, (evalK l x).1.toNat, (evalK l x).2)) := Lib.hid rfl
  have hck := fun (w' : World) h1 (h2 : EnvA w') h3 => refcheckX_any x hbk hwf n0 w' h1 h3
  have hv := fun (w' : World) h1 (h2 : EnvA w') h3 h4 => refEval_any x hbk hwf l (Nat.le_trans (NT.bkL_len l) (by omega)) a c n0 w' h1 h3 h4
  have hok := evalK_ok l x
  have hvv : x.v < 18446744073709551616 := by cases x; exact (XT.wf_mk.1 hwf).1
  generalize numberK l x = R at *
  generalize evalK l x = E at *
  generalize checkX x = C at *
  obtain ⟨E1, E2⟩ := E
  obtain ⟨e1, hE1⟩ : ∃ e1 : Nat, E1 = (e1 : Int) := ⟨E1.toNat, by have := hok.1; simp only at this; omega⟩
  subst hE1
  have hob : (e1 : Int) ≤ 2147483647 := hok.2.1
  have hx0 := hx
  obtain ⟨op, nm, xn, wd, v, xa, xc, xl⟩ := x
  simp only [XT.val, XT.cells, XT.op, XT.wd, XT.v, Int.toNat_natCast] at hck hv HI hvv ⊢
  have HVV := Lib.hid hvv
  have Hck := Lib.hid hck
  have Hv := Lib.hid hv
  have HOK := Lib.hid hok
  clear hck hv hok hvv hx
  go_enter Tryz.func28, Tryz.ntmps28
  go_upto_region 1 with (fail)
  have BX := block_alloc (World.alloc_heap_new w (.cells #[.int .i64 op, .string (bs nm), .int .i64 xn, .int .i64 wd, .int .u64 (v : Int), .slice xa xl.length xc] 25)) (.cells #[.int .i64 0, .int .u64 0] 52)
  have B4 := World.alloc_heap_new (w.alloc (.cells #[.int .i64 op, .string (bs nm), .int .i64 xn, .int .i64 wd, .int .u64 (v : Int), .slice xa xl.length xc] 25)) (.cells #[.int .i64 0, .int .u64 0] 52)
  rw [World.size_alloc] at B4
  have hB2 : Below w.heap.size w ((w.alloc (.cells #[.int .i64 op, .string (bs nm), .int .i64 xn, .int .i64 wd, .int .u64 (v : Int), .slice xa xl.length xc] 25)).alloc (.cells #[.int .i64 0, .int .u64 0] 52)) := ((Below.refl _ _).alloc (Nat.le_refl _) _).alloc (by simp) _
  have hi2 := XT.In.keep (Below.keptTo hB2 hn0) _ hx0
  have hl2 := hl.keep (Below.keptTo hB2 hn0)
  have he2 := (he.alloc (.cells #[.int .i64 op, .string (bs nm), .int .i64 xn, .int .i64 wd, .int .u64 (v : Int), .slice xa xl.length xc] 25)).alloc (.cells #[.int .i64 0, .int .u64 0] 52)
  clear hx0 hl he
  generalize (w.alloc (.cells #[.int .i64 op, .string (bs nm), .int .i64 xn, .int .i64 wd, .int .u64 (v : Int), .slice xa xl.length xc] 25)).alloc (.cells #[.int .i64 0, .int .u64 0] 52) = w1 at *
  have hn1 : n0 ≤ w1.heap.size := by have := hB2.size; omega
  obtain ⟨z0, z1, z2, z3, z4, z5⟩ := open6 BX
  by_cases hop : op = 1
  · subst hop
    go_wp2_with fail
    refine (Hck.out _ hn1 he2 hi2).mono ?_
    rintro e w2 ⟨rfl, hb⟩
    clear z0 z1 z2 z3 z4 z5
    replace BX := block_kept BX hb
    replace B4 := block_kept B4 hb
    have hk9 := Below.keptTo hb hn1
    replace hi2 := XT.In.keep hk9 _ hi2
    replace hl2 := hl2.keep hk9
    replace he2 := he2.keep hb
    replace hn1 := Nat.le_trans hn1 hb.size
    replace hB2 := hB2.trans (hb.mono hB2.size)
    clear hb hk9
    obtain ⟨z0, z1, z2, z3, z4, z5⟩ := open6 BX
    obtain ⟨q0, q1, q2, q3⟩ := open2 B4
    by_cases h0 : C = 0
    · subst h0
      have HE : Hid (R = (wd, v, 0)) := Lib.hid (by rw [HI.out]; simp)
      go_wp2
      have hB5 := (hB2.setCell (p := ⟨w.heap.size + 1, 0, none⟩) (by show w.heap.size ≤ w.heap.size + 1; omega) (.int .i64 wd)).setCell (p := ⟨w.heap.size + 1, 1, none⟩) (by show w.heap.size ≤ w.heap.size + 1; omega) (.int .u64 (v : Int))
      obtain ⟨q4, q5⟩ := set2 B4 (.int .i64 wd) (.int .u64 (v : Int))
      rw [HE.out]
      exact bodyPost_ret (v := .tuple #[.agg #[.int .i64 wd, .int .u64 (v : Int)], .int .i64 0]) (by simp [results, Tryz.results28, go_sem, q4, q5]) rfl ⟨rfl, hB5⟩
    · have d1 : (C == 0) = false := by simpa using h0
      have HE : Hid (R = (0, e1, E2)) := Lib.hid (by rw [HI.out]; simp [h0])
      go_wp2_with fail
      refine (Hv.out _ hn1 he2 hi2 hl2).mono ?_
      rintro e w3 ⟨rfl, hb⟩
      replace B4 := block_kept B4 hb
      replace hB2 := hB2.trans (hb.mono hB2.size)
      clear q0 q1 q2 q3
      obtain ⟨q0, q1, q2, q3⟩ := open2 B4
      have hwr : IntKind.u64.wrap (e1 : Int) = e1 := by rw [IntKind.wrap_u64]; omega
      by_cases hE2 : E2 = 0
      · subst hE2
        go_wp2
        have hB5 := (hB2.setCell (p := ⟨w.heap.size + 1, 0, none⟩) (by show w.heap.size ≤ w.heap.size + 1; omega) (.int .i64 0)).setCell (p := ⟨w.heap.size + 1, 1, none⟩) (by show w.heap.size ≤ w.heap.size + 1; omega) (.int .u64 (e1 : Int))
        obtain ⟨q4, q5⟩ := set2 B4 (.int .i64 0) (.int .u64 (e1 : Int))
        rw [HE.out]
        exact bodyPost_ret (v := .tuple #[.agg #[.int .i64 0, .int .u64 (e1 : Int)], .int .i64 0]) (by simp [results, Tryz.results28, go_sem, q4, q5]) rfl ⟨rfl, hB5⟩
      · have d9 : (E2 != 0) = true := by simpa using hE2
        have h9 : (e1 : Int) = 0 := HOK.out.2.2.1 hE2
        have h8 : e1 = 0 := by omega
        subst h8
        go_wp2
        have hB5 := (hB2.setCell (p := ⟨w.heap.size + 1, 0, none⟩) (by show w.heap.size ≤ w.heap.size + 1; omega) (.int .i64 0)).setCell (p := ⟨w.heap.size + 1, 1, none⟩) (by show w.heap.size ≤ w.heap.size + 1; omega) (.int .u64 0)
        obtain ⟨q4, q5⟩ := set2 B4 (.int .i64 0) (.int .u64 0)
        rw [HE.out]
        exact bodyPost_ret (v := .tuple #[.agg #[.int .i64 0, .int .u64 0], .int .i64 E2]) (by simp [results, Tryz.results28, go_sem, q4, q5]) rfl ⟨rfl, hB5⟩
  · have d1 : (op == 1) = false := by simpa using hop
    have HE : Hid (R = (0, e1, E2)) := Lib.hid (by rw [HI.out]; simp [hop])
    go_wp2_with fail
    refine (Hv.out _ hn1 he2 hi2 hl2).mono ?_
    rintro e w3 ⟨rfl, hb⟩
    replace B4 := block_kept B4 hb
    replace hB2 := hB2.trans (hb.mono hB2.size)
    obtain ⟨q0, q1, q2, q3⟩ := open2 B4
    have hwr : IntKind.u64.wrap (e1 : Int) = e1 := by rw [IntKind.wrap_u64]; omega
    by_cases hE2 : E2 = 0
    · subst hE2
      go_wp2
      have hB5 := (hB2.setCell (p := ⟨w.heap.size + 1, 0, none⟩) (by show w.heap.size ≤ w.heap.size + 1; omega) (.int .i64 0)).setCell (p := ⟨w.heap.size + 1, 1, none⟩) (by show w.heap.size ≤ w.heap.size + 1; omega) (.int .u64 (e1 : Int))
      obtain ⟨q4, q5⟩ := set2 B4 (.int .i64 0) (.int .u64 (e1 : Int))
      rw [HE.out]
      exact bodyPost_ret (v := .tuple #[.agg #[.int .i64 0, .int .u64 (e1 : Int)], .int .i64 0]) (by simp [results, Tryz.results28, go_sem, q4, q5]) rfl ⟨rfl, hB5⟩
    · have d9 : (E2 != 0) = true := by simpa using hE2
      have h9 : (e1 : Int) = 0 := HOK.out.2.2.1 hE2
      have h8 : e1 = 0 := by omega
      subst h8
      go_wp2
      have hB5 := (hB2.setCell (p := ⟨w.heap.size + 1, 0, none⟩) (by show w.heap.size ≤ w.heap.size + 1; omega) (.int .i64 0)).setCell (p := ⟨w.heap.size + 1, 1, none⟩) (by show w.heap.size ≤ w.heap.size + 1; omega) (.int .u64 0)
      obtain ⟨q4, q5⟩ := set2 B4 (.int .i64 0) (.int .u64 0)
      rw [HE.out]
      exact bodyPost_ret (v := .tuple #[.agg #[.int .i64 0, .int .u64 0], .int .i64 E2]) (by simp [results, Tryz.results28, go_sem, q4, q5]) rfl ⟨rfl, hB5⟩
end Go.Proofs.YtlbjmnakiflfpaaGreatDoor
namespace Go.Proofs.YtlbjmnakiflfpaaGreatDoor
open Go Go.RowKit
set_option linter.unusedVariables false
set_option linter.unusedSimpArgs false
open Go.Sort
theorem XT.In.av {n g : Nat} {W : World} (hg : n ≤ g) : ∀ x : XT, x.In n W → x.Av g := XT.ind fun op nm m wd v a c l ih h => by
  rw [XT.In_mk] at h
  rw [XT.Av, XT.avL_iff]
  refine ⟨?_, fun x hx => ih x hx (h.all x hx)⟩
  cases l with
  | nil => exact .inl rfl
  | cons y r =>
    refine .inr fun p hp => ?_
    obtain ⟨⟨b, o, ha, hb, _⟩, _, _⟩ := h
    rw [ha] at hp
    have := Option.some.inj hp
    rw [← this]
    show b ≠ g
    omega
/-- An expression put into a sign. -/
def un (g : Nat) (t : XT) : XT := .mk 5 [] 1 0 0 (some ⟨g, 0, none⟩) 1 [t]

theorem wpList_append_row_at {w : World} {ops : Array Oper} {rest : List Oper} {op : Oper} {a : Act} {Q : Exit → Act → World → Prop} (hgd : op.guard = none) (s x : Operand)
    (ho : op.op = .call { callee := .builtin .append, args := #[s, x], argTypes := #[23, 23] })
    (base : Nat) (v : Value) (n : Nat) (xs : List Value) (hs : a.eval s = v) (hown : w.ownsRow base 25 6 v n xs)
    (ad : Addr) (y : XT) (c : Nat) (hx : a.eval x = .slice (some ad) 1 c) (hl : ∀ j u, y.cells[j]? = some u → w.cell? (ad.add j) = some u) (hn : n + 1 ≤ 1500000) (hbase : base ≤ w.heap.size)
    (h : ∀ v' w', w'.ownsRow base 25 6 v' (n + 1) (xs ++ y.cells) → w.grownBy w' v.ownBlock → (v'.ownBlock = v.ownBlock ∨ v'.ownBlock = some w.heap.size) → wpList Tryz.prog ops Q rest (a.put op.dst v') w') : wpList Tryz.prog ops Q (op :: rest) a w := by
  obtain ⟨i0, hi0, hz0, hz1, hz2⟩ := info_parts info_x
  have h6 : y.cells.length = 6 := by cases y; rfl
  have h1 : ∀ u ∈ y.cells, u.oneCell' = true := fun u hu => flat_ones [y] u (by simpa using hu)
  exact wpList_append_own_at w hgd s x 23 ho base 25 i0 _ 6 72 Tryz.underlying23 hi0 hz0 hz1 hz2 rfl (by decide) v n xs hs hown ad 1 c y.cells hx (by rw [h6]) hl h1 (by simp only [maxLen]; omega) (by omega) hbase (fun v' w' h1 h2 _ h4 => h v' w' h1 h2 h4)
theorem in_grown {w w' : World} {E : Obj} {v : Value} {z : XT} (hz : z.In w.heap.size w) (hav : ∀ g, v.ownBlock = some g → z.Av g) (hg : (w.alloc E).grownBy w' v.ownBlock) : z.In w'.heap.size w' := by
  have hs : w.heap.size ≤ w'.heap.size := by have := hg.size; rw [World.size_alloc] at this; omega
  refine XT.In.less hs _ ?_
  cases hv : v.ownBlock with
  | none =>
    rw [hv] at hg
    refine XT.In.keep (fun b o u hb hu => ?_) _ hz
    rw [World.cell?_of_block (w := w.alloc E) (hg.block b (by rw [World.size_alloc]; omega) (fun e => by cases e)), World.cell?_of_block (w := w) (Below.heap_alloc w E b hb)]
    exact hu
  | some g =>
    rw [hv] at hg
    refine XT.In.keepNe (g := g) (fun b o u hb hne hu => ?_) _ (hav g hv) hz
    rw [World.cell?_of_block (w := w.alloc E) (hg.block b (by rw [World.size_alloc]; omega) (fun e => hne (Option.some.inj e))), World.cell?_of_block (w := w) (Below.heap_alloc w E b hb)]
    exact hu
/-- What is told of an expression with its constants put in: its rows are new, or were below n0. -/
def SbR (l : List NT) (x : XT) (n0 : Nat) (W : World) (e : Ending) (W' : World) : Prop := ∃ y : XT, e = .returned y.val ∧ y.nrm = substX l x ∧ y.In W'.heap.size W' ∧ (∀ b, n0 ≤ b → b < W.heap.size → y.Av b) ∧ Below W.heap.size W W'
theorem own_block_lt {w : World} {B n : Nat} {v : Value} {xs : List Value} (h : w.ownsRow B 25 6 v n xs) : ∀ g, v.ownBlock = some g → B ≤ g ∧ g < w.heap.size := h.lt
theorem own_row_in {w : World} {B c : Nat} {a : Option Addr} {M : List XT} (h : w.ownsRow B 25 6 (.slice a M.length c) M.length (M.flatMap XT.cells)) {inn : XT → Prop} (hi : ∀ x ∈ M, inn x) : InRow 6 XT.cells inn w.heap.size w M a := by
  rcases h.2 with ⟨h1, h2⟩ | ⟨g, cap, cur, h1, hg, hh, h3, h4, h5, h6⟩
  · have : M = [] := List.eq_nil_of_length_eq_zero h2
    rw [this]; trivial
  · simp only [Value.slice.injEq] at h1
    obtain ⟨rfl, _, rfl⟩ := h1
    refine inrow_of_flat (Array.getElem?_eq_some_iff.1 hh).1 (fun j u hu => ?_) hi
    have hj : j < M.length * 6 := by
      have := (List.getElem?_eq_some_iff.1 hu).1
      rw [flat_len6] at this; exact this
    rw [← h6, List.getElem?_take_of_lt hj] at hu
    simp only [World.cell?, hh, Nat.zero_add]
    simpa using hu

set_option maxHeartbeats 4000000 in
set_option maxRecDepth 3000000 in
theorem refsubst_name (l : List NT) (hll : l.length ≤ 4000000) (a : Option Addr) (c : Nat) (nm : Bytes) (xn wd : Int) (v : Nat) (xa : Option Addr) (xc : Nat) (xl : List XT) (n0 : Nat) (W : World) (hn0 : n0 ≤ W.heap.size) (hx : (XT.mk 2 nm xn wd v xa xc xl).In n0 W) (hl : NRow n0 W l a) : Calls Tryz.prog 30 #[.agg #[.int .i64 2, .string (bs nm), .int .i64 xn, .int .i64 wd, .int .u64 (v : Int), .slice xa xl.length xc], .slice a l.length c] W (SbR l (XT.mk 2 nm xn wd v xa xc xl) n0 W) := by
  have HLK := Lib.hid (fun (W : World) h1 h2 => refLookup_any l hll nm a c n0 W h1 h2)
  obtain ⟨o, ho⟩ : ∃ o, findN l nm = o := ⟨_, rfl⟩
  rw [ho] at HLK
  have HAX : Hid (∀ b, n0 ≤ b → b < W.heap.size + 2 → XT.Av b (XT.mk 2 nm xn wd v xa xc xl)) := Lib.hid (fun b h1 _ => XT.In.av h1 _ hx)
  have HNO : Hid ((o = none ∨ ∃ k, o = some k ∧ kMay k = false) → XT.nrm (XT.mk 2 nm xn wd v xa xc xl) = substX l (XT.mk 2 nm xn wd v xa xc xl)) := Lib.hid (fun h => by rw [substX, if_pos rfl, ho, XT.nrm]; rcases h with rfl | ⟨k, rfl, hk⟩; rfl; simp [hk])
  have HYES : Hid (∀ kn : Nat, o = some (kn : Int) → kMay (kn : Int) = true → XT.nrm (XT.mk 1 [] 0 0 kn none 0 []) = substX l (XT.mk 2 nm xn wd v xa xc xl)) := Lib.hid (fun kn h1 h2 => by rw [substX, if_pos rfl, ho, h1]; simp [h2, XT.nrm, XT.nrmL])
  clear ho
  have BX := block_alloc (World.alloc_heap_new W (.cells #[.int .i64 2, .string (bs nm), .int .i64 xn, .int .i64 wd, .int .u64 (v : Int), .slice xa xl.length xc] 25)) (.cells #[.int .i64 0, .string ⟨#[]⟩, .int .i64 0, .int .i64 0, .int .u64 0, .slice none 0 0] 25)
  have BR := World.alloc_heap_new (W.alloc (.cells #[.int .i64 2, .string (bs nm), .int .i64 xn, .int .i64 wd, .int .u64 (v : Int), .slice xa xl.length xc] 25)) (.cells #[.int .i64 0, .string ⟨#[]⟩, .int .i64 0, .int .i64 0, .int .u64 0, .slice none 0 0] 25)
  rw [World.size_alloc] at BR
  have hB2 : Below W.heap.size W ((W.alloc (.cells #[.int .i64 2, .string (bs nm), .int .i64 xn, .int .i64 wd, .int .u64 (v : Int), .slice xa xl.length xc] 25)).alloc (.cells #[.int .i64 0, .string ⟨#[]⟩, .int .i64 0, .int .i64 0, .int .u64 0, .slice none 0 0] 25)) := ((Below.refl _ _).alloc (Nat.le_refl _) _).alloc (by simp) _
  have hz2 : W.heap.size + 2 = ((W.alloc (.cells #[.int .i64 2, .string (bs nm), .int .i64 xn, .int .i64 wd, .int .u64 (v : Int), .slice xa xl.length xc] 25)).alloc (.cells #[.int .i64 0, .string ⟨#[]⟩, .int .i64 0, .int .i64 0, .int .u64 0, .slice none 0 0] 25)).heap.size := by simp
  have hk9 := Below.keptTo hB2 hn0
  replace hl := hl.keep hk9
  replace hx := XT.In.keep hk9 _ hx
  clear hk9
  go_enter Tryz.func30, Tryz.ntmps30
  go_upto_region 1 with (fail)
  generalize ((W.alloc (.cells #[.int .i64 2, .string (bs nm), .int .i64 xn, .int .i64 wd, .int .u64 (v : Int), .slice xa xl.length xc] 25)).alloc (.cells #[.int .i64 0, .string ⟨#[]⟩, .int .i64 0, .int .i64 0, .int .u64 0, .slice none 0 0] 25)) = w1 at *
  obtain ⟨q0, q1, q2, q3, q4, q5⟩ := open6 BX
  obtain ⟨z0, z1, z2, z3, z4, z5⟩ := open6 BR
  have f0 : w1.frozen? ⟨W.heap.size + 1, 0, none⟩ = false := by simp [World.frozen?, BR]
  have f1 : w1.frozen? ⟨W.heap.size + 1, 1, none⟩ = false := by simp [World.frozen?, BR]
  have f2 : w1.frozen? ⟨W.heap.size + 1, 2, none⟩ = false := by simp [World.frozen?, BR]
  have f3 : w1.frozen? ⟨W.heap.size + 1, 3, none⟩ = false := by simp [World.frozen?, BR]
  have f4 : w1.frozen? ⟨W.heap.size + 1, 4, none⟩ = false := by simp [World.frozen?, BR]
  have f5 : w1.frozen? ⟨W.heap.size + 1, 5, none⟩ = false := by simp [World.frozen?, BR]
  go_wp2_with fail
  refine (HLK.out _ (Nat.le_trans hn0 hB2.size) hl).mono ?_
  rintro e w2 ⟨rfl, rfl⟩
  clear HLK hl
  cases o with
  | none =>
    replace HNO := Lib.hid (HNO.out (.inl rfl))
    clear HYES
    simp only [Option.getD_none, Option.isSome_none]
    have hB9 := hB2
    have BR9 := BR
    have hin9 : XT.In w1.heap.size w1 (XT.mk 2 nm xn wd v xa xc xl) := XT.In.less (by have := hB2.size; omega) _ hx
    have hp : put6 w1 (W.heap.size + 1) 0 (XT.mk 2 nm xn wd v xa xc xl) = ((((((w1.setCell ⟨W.heap.size + 1, 0, none⟩ (.int .i64 2)).setCell ⟨W.heap.size + 1, 1, none⟩ (.string (bs nm))).setCell ⟨W.heap.size + 1, 2, none⟩ (.int .i64 xn)).setCell ⟨W.heap.size + 1, 3, none⟩ (.int .i64 wd)).setCell ⟨W.heap.size + 1, 4, none⟩ (.int .u64 (v : Int))).setCell ⟨W.heap.size + 1, 5, none⟩ (.slice xa xl.length xc)) := by simp [put6, XT.cells, bs]
    have hi9 := put6_in (x := (XT.mk 2 nm xn wd v xa xc xl)) (o := 0) (HAX.out (W.heap.size + 1) (by omega) (by omega)) hin9
    have hb9 := hB9.trans (put6_below (n := W.heap.size) (g := W.heap.size + 1) w1 0 (XT.mk 2 nm xn wd v xa xc xl) (by omega))
    have hz9 := put6_size w1 (W.heap.size + 1) 0 (XT.mk 2 nm xn wd v xa xc xl)
    rw [hp] at hi9 hb9 hz9
    have hfull := set6full (v0 := .int .i64 2) (v1 := .string (bs nm)) (v2 := .int .i64 xn) (v3 := .int .i64 wd) (v4 := .int .u64 (v : Int)) (v5 := .slice xa xl.length xc) BR9
    obtain ⟨s0, s1, s2, s3, s4, s5⟩ := open6 hfull
    have HS := Lib.hid (And.intro s0 (And.intro s1 (And.intro s2 (And.intro s3 (And.intro s4 s5)))))
    have HE := Lib.hid (And.intro hi9 (And.intro hb9 hz9))
    have HNY := Lib.hid (HNO.out)
    have HAV := Lib.hid (show ∀ b, n0 ≤ b → b < W.heap.size → XT.Av b (XT.mk 2 nm xn wd v xa xc xl) from fun b h1 h2 => HAX.out b h1 (by omega))
    clear hp hi9 hb9 hz9 hfull s0 s1 s2 s3 s4 s5
    go_wp2
    obtain ⟨s0, s1, s2, s3, s4, s5⟩ := HS.out
    refine bodyPost_ret (v := .agg #[.int .i64 2, .string (bs nm), .int .i64 xn, .int .i64 wd, .int .u64 (v : Int), .slice xa xl.length xc]) (by simp [results, Tryz.results30, go_sem, s0, s1, s2, s3, s4, s5]) rfl ⟨(XT.mk 2 nm xn wd v xa xc xl), by first | rfl | (simp [XT.val, XT.cells, bs]; done), HNY.out, by have h := HE.out.1; rw [← HE.out.2.2] at h; exact h, HAV.out, HE.out.2.1⟩
  | some k =>
    simp only [Option.getD_some, Option.isSome_some]
    by_cases hk : kMay k = true
    · have hk2 : 0 ≤ k ∧ k ≤ 2147483647 := by { unfold kMay at hk; simpa using hk }
      obtain ⟨kn, rfl⟩ : ∃ kn : Nat, k = kn := ⟨k.toNat, by omega⟩
      have HY2 := Lib.hid (HYES.out kn rfl hk)
      have d1 : decide ((0 : Int) ≤ (kn : Int)) = true := by rw [decide_eq_true_eq]; omega
      have d2 : decide ((kn : Int) ≤ 2147483647) = true := by rw [decide_eq_true_eq]; omega
      have hwr : IntKind.u64.wrap (kn : Int) = kn := by rw [IntKind.wrap_u64]; omega
      have hin9 : XT.In w1.heap.size w1 (XT.mk 1 [] 0 0 kn none 0 []) := by rw [XT.In_mk]; trivial
      have hav9 : ∀ b, n0 ≤ b → b < W.heap.size + 2 → XT.Av b (XT.mk 1 [] 0 0 kn none 0 []) := fun b _ _ => by rw [XT.Av]; exact ⟨.inl rfl, trivial⟩
      clear hk HNO HYES
      have hB9 := hB2
      have BR9 := BR
      have hp : put6 w1 (W.heap.size + 1) 0 (XT.mk 1 [] 0 0 kn none 0 []) = ((((((w1.setCell ⟨W.heap.size + 1, 0, none⟩ (.int .i64 1)).setCell ⟨W.heap.size + 1, 1, none⟩ (.string ⟨#[]⟩)).setCell ⟨W.heap.size + 1, 2, none⟩ (.int .i64 0)).setCell ⟨W.heap.size + 1, 3, none⟩ (.int .i64 0)).setCell ⟨W.heap.size + 1, 4, none⟩ (.int .u64 (kn : Int))).setCell ⟨W.heap.size + 1, 5, none⟩ (.slice none 0 0)) := by simp [put6, XT.cells, bs]
      have hi9 := put6_in (x := (XT.mk 1 [] 0 0 kn none 0 [])) (o := 0) (hav9 (W.heap.size + 1) (by omega) (by omega)) hin9
      have hb9 := hB9.trans (put6_below (n := W.heap.size) (g := W.heap.size + 1) w1 0 (XT.mk 1 [] 0 0 kn none 0 []) (by omega))
      have hz9 := put6_size w1 (W.heap.size + 1) 0 (XT.mk 1 [] 0 0 kn none 0 [])
      rw [hp] at hi9 hb9 hz9
      have hfull := set6full (v0 := .int .i64 1) (v1 := .string ⟨#[]⟩) (v2 := .int .i64 0) (v3 := .int .i64 0) (v4 := .int .u64 (kn : Int)) (v5 := .slice none 0 0) BR9
      obtain ⟨s0, s1, s2, s3, s4, s5⟩ := open6 hfull
      have HS := Lib.hid (And.intro s0 (And.intro s1 (And.intro s2 (And.intro s3 (And.intro s4 s5)))))
      have HE := Lib.hid (And.intro hi9 (And.intro hb9 hz9))
      have HNY := Lib.hid (HY2.out)
      have HAV := Lib.hid (show ∀ b, n0 ≤ b → b < W.heap.size → XT.Av b (XT.mk 1 [] 0 0 kn none 0 []) from fun b h1 h2 => hav9 b h1 (by omega))
      clear hp hi9 hb9 hz9 hfull s0 s1 s2 s3 s4 s5
      go_wp2
      obtain ⟨s0, s1, s2, s3, s4, s5⟩ := HS.out
      refine bodyPost_ret (v := .agg #[.int .i64 1, .string ⟨#[]⟩, .int .i64 0, .int .i64 0, .int .u64 (kn : Int), .slice none 0 0]) (by simp [results, Tryz.results30, go_sem, s0, s1, s2, s3, s4, s5]) rfl ⟨(XT.mk 1 [] 0 0 kn none 0 []), by first | rfl | (simp [XT.val, XT.cells, bs]; done), HNY.out, by have h := HE.out.1; rw [← HE.out.2.2] at h; exact h, HAV.out, HE.out.2.1⟩
    · have hk3 : kMay k = false := by simpa using hk
      replace HNO := Lib.hid (HNO.out (.inr ⟨k, rfl, hk3⟩))
      clear HYES
      by_cases h0 : 0 ≤ k
      · have d1 : decide (0 ≤ k) = true := by simpa using h0
        have d2 : decide (k ≤ 2147483647) = false := by { rw [decide_eq_false_iff_not]; intro h; unfold kMay at hk3; simp [h0, h] at hk3 }
        clear hk hk3
        have hB9 := hB2
        have BR9 := BR
        have hin9 : XT.In w1.heap.size w1 (XT.mk 2 nm xn wd v xa xc xl) := XT.In.less (by have := hB2.size; omega) _ hx
        have hp : put6 w1 (W.heap.size + 1) 0 (XT.mk 2 nm xn wd v xa xc xl) = ((((((w1.setCell ⟨W.heap.size + 1, 0, none⟩ (.int .i64 2)).setCell ⟨W.heap.size + 1, 1, none⟩ (.string (bs nm))).setCell ⟨W.heap.size + 1, 2, none⟩ (.int .i64 xn)).setCell ⟨W.heap.size + 1, 3, none⟩ (.int .i64 wd)).setCell ⟨W.heap.size + 1, 4, none⟩ (.int .u64 (v : Int))).setCell ⟨W.heap.size + 1, 5, none⟩ (.slice xa xl.length xc)) := by simp [put6, XT.cells, bs]
        have hi9 := put6_in (x := (XT.mk 2 nm xn wd v xa xc xl)) (o := 0) (HAX.out (W.heap.size + 1) (by omega) (by omega)) hin9
        have hb9 := hB9.trans (put6_below (n := W.heap.size) (g := W.heap.size + 1) w1 0 (XT.mk 2 nm xn wd v xa xc xl) (by omega))
        have hz9 := put6_size w1 (W.heap.size + 1) 0 (XT.mk 2 nm xn wd v xa xc xl)
        rw [hp] at hi9 hb9 hz9
        have hfull := set6full (v0 := .int .i64 2) (v1 := .string (bs nm)) (v2 := .int .i64 xn) (v3 := .int .i64 wd) (v4 := .int .u64 (v : Int)) (v5 := .slice xa xl.length xc) BR9
        obtain ⟨s0, s1, s2, s3, s4, s5⟩ := open6 hfull
        have HS := Lib.hid (And.intro s0 (And.intro s1 (And.intro s2 (And.intro s3 (And.intro s4 s5)))))
        have HE := Lib.hid (And.intro hi9 (And.intro hb9 hz9))
        have HNY := Lib.hid (HNO.out)
        have HAV := Lib.hid (show ∀ b, n0 ≤ b → b < W.heap.size → XT.Av b (XT.mk 2 nm xn wd v xa xc xl) from fun b h1 h2 => HAX.out b h1 (by omega))
        clear hp hi9 hb9 hz9 hfull s0 s1 s2 s3 s4 s5
        go_wp2
        obtain ⟨s0, s1, s2, s3, s4, s5⟩ := HS.out
        refine bodyPost_ret (v := .agg #[.int .i64 2, .string (bs nm), .int .i64 xn, .int .i64 wd, .int .u64 (v : Int), .slice xa xl.length xc]) (by simp [results, Tryz.results30, go_sem, s0, s1, s2, s3, s4, s5]) rfl ⟨(XT.mk 2 nm xn wd v xa xc xl), by first | rfl | (simp [XT.val, XT.cells, bs]; done), HNY.out, by have h := HE.out.1; rw [← HE.out.2.2] at h; exact h, HAV.out, HE.out.2.1⟩
      · have d1 : decide (0 ≤ k) = false := by simpa using h0
        clear hk hk3
        have hB9 := hB2
        have BR9 := BR
        have hin9 : XT.In w1.heap.size w1 (XT.mk 2 nm xn wd v xa xc xl) := XT.In.less (by have := hB2.size; omega) _ hx
        have hp : put6 w1 (W.heap.size + 1) 0 (XT.mk 2 nm xn wd v xa xc xl) = ((((((w1.setCell ⟨W.heap.size + 1, 0, none⟩ (.int .i64 2)).setCell ⟨W.heap.size + 1, 1, none⟩ (.string (bs nm))).setCell ⟨W.heap.size + 1, 2, none⟩ (.int .i64 xn)).setCell ⟨W.heap.size + 1, 3, none⟩ (.int .i64 wd)).setCell ⟨W.heap.size + 1, 4, none⟩ (.int .u64 (v : Int))).setCell ⟨W.heap.size + 1, 5, none⟩ (.slice xa xl.length xc)) := by simp [put6, XT.cells, bs]
        have hi9 := put6_in (x := (XT.mk 2 nm xn wd v xa xc xl)) (o := 0) (HAX.out (W.heap.size + 1) (by omega) (by omega)) hin9
        have hb9 := hB9.trans (put6_below (n := W.heap.size) (g := W.heap.size + 1) w1 0 (XT.mk 2 nm xn wd v xa xc xl) (by omega))
        have hz9 := put6_size w1 (W.heap.size + 1) 0 (XT.mk 2 nm xn wd v xa xc xl)
        rw [hp] at hi9 hb9 hz9
        have hfull := set6full (v0 := .int .i64 2) (v1 := .string (bs nm)) (v2 := .int .i64 xn) (v3 := .int .i64 wd) (v4 := .int .u64 (v : Int)) (v5 := .slice xa xl.length xc) BR9
        obtain ⟨s0, s1, s2, s3, s4, s5⟩ := open6 hfull
        have HS := Lib.hid (And.intro s0 (And.intro s1 (And.intro s2 (And.intro s3 (And.intro s4 s5)))))
        have HE := Lib.hid (And.intro hi9 (And.intro hb9 hz9))
        have HNY := Lib.hid (HNO.out)
        have HAV := Lib.hid (show ∀ b, n0 ≤ b → b < W.heap.size → XT.Av b (XT.mk 2 nm xn wd v xa xc xl) from fun b h1 h2 => HAX.out b h1 (by omega))
        clear hp hi9 hb9 hz9 hfull s0 s1 s2 s3 s4 s5
        go_wp2
        obtain ⟨s0, s1, s2, s3, s4, s5⟩ := HS.out
        refine bodyPost_ret (v := .agg #[.int .i64 2, .string (bs nm), .int .i64 xn, .int .i64 wd, .int .u64 (v : Int), .slice xa xl.length xc]) (by simp [results, Tryz.results30, go_sem, s0, s1, s2, s3, s4, s5]) rfl ⟨(XT.mk 2 nm xn wd v xa xc xl), by first | rfl | (simp [XT.val, XT.cells, bs]; done), HNY.out, by have h := HE.out.1; rw [← HE.out.2.2] at h; exact h, HAV.out, HE.out.2.1⟩

set_option maxHeartbeats 8000000 in
set_option maxRecDepth 3000000 in
theorem refsubst_node (l : List NT) (a : Option Addr) (c : Nat) (op : Int) (hop : op ≠ 2) (nm : Bytes) (xn wd : Int) (v : Nat) (xa : Option Addr) (xc : Nat) (xl : List XT) (hbk : (XT.mk op nm xn wd v xa xc xl).bk ≤ 1400000) (ih : ∀ x ∈ xl, x.bk ≤ 1400000 → ∀ (n0 : Nat) (W : World), n0 ≤ W.heap.size → x.In n0 W → NRow n0 W l a → Calls Tryz.prog 30 #[x.val, .slice a l.length c] W (SbR l x n0 W)) (n0 : Nat) (W : World) (hn0 : n0 ≤ W.heap.size) (hx : (XT.mk op nm xn wd v xa xc xl).In n0 W) (hl : NRow n0 W l a) : Calls Tryz.prog 30 #[.agg #[.int .i64 op, .string (bs nm), .int .i64 xn, .int .i64 wd, .int .u64 (v : Int), .slice xa xl.length xc], .slice a l.length c] W (SbR l (XT.mk op nm xn wd v xa xc xl) n0 W) := by
  have BX := block_alloc (block_alloc (World.alloc_heap_new W (.cells #[.int .i64 op, .string (bs nm), .int .i64 xn, .int .i64 wd, .int .u64 (v : Int), .slice xa xl.length xc] 25)) (.cells #[.int .i64 0, .string ⟨#[]⟩, .int .i64 0, .int .i64 0, .int .u64 0, .slice none 0 0] 25)) (.cells #[.int .i64 op, .string (bs nm), .int .i64 xn, .int .i64 wd, .int .u64 (v : Int), .slice xa xl.length xc] 25)
  have BR := block_alloc (World.alloc_heap_new (W.alloc (.cells #[.int .i64 op, .string (bs nm), .int .i64 xn, .int .i64 wd, .int .u64 (v : Int), .slice xa xl.length xc] 25)) (.cells #[.int .i64 0, .string ⟨#[]⟩, .int .i64 0, .int .i64 0, .int .u64 0, .slice none 0 0] 25)) (.cells #[.int .i64 op, .string (bs nm), .int .i64 xn, .int .i64 wd, .int .u64 (v : Int), .slice xa xl.length xc] 25)
  have BO := World.alloc_heap_new ((W.alloc (.cells #[.int .i64 op, .string (bs nm), .int .i64 xn, .int .i64 wd, .int .u64 (v : Int), .slice xa xl.length xc] 25)).alloc (.cells #[.int .i64 0, .string ⟨#[]⟩, .int .i64 0, .int .i64 0, .int .u64 0, .slice none 0 0] 25)) (.cells #[.int .i64 op, .string (bs nm), .int .i64 xn, .int .i64 wd, .int .u64 (v : Int), .slice xa xl.length xc] 25)
  simp only [World.size_alloc] at BR BO
  have hB2 : Below W.heap.size W (((W.alloc (.cells #[.int .i64 op, .string (bs nm), .int .i64 xn, .int .i64 wd, .int .u64 (v : Int), .slice xa xl.length xc] 25)).alloc (.cells #[.int .i64 0, .string ⟨#[]⟩, .int .i64 0, .int .i64 0, .int .u64 0, .slice none 0 0] 25)).alloc (.cells #[.int .i64 op, .string (bs nm), .int .i64 xn, .int .i64 wd, .int .u64 (v : Int), .slice xa xl.length xc] 25)) := (((Below.refl _ _).alloc (Nat.le_refl _) _).alloc (by simp) _).alloc (by simp; omega) _
  have hz2 : W.heap.size + 3 = (((W.alloc (.cells #[.int .i64 op, .string (bs nm), .int .i64 xn, .int .i64 wd, .int .u64 (v : Int), .slice xa xl.length xc] 25)).alloc (.cells #[.int .i64 0, .string ⟨#[]⟩, .int .i64 0, .int .i64 0, .int .u64 0, .slice none 0 0] 25)).alloc (.cells #[.int .i64 op, .string (bs nm), .int .i64 xn, .int .i64 wd, .int .u64 (v : Int), .slice xa xl.length xc] 25)).heap.size := by simp
  have hk9 := Below.keptTo hB2 hn0
  replace hl := hl.keep hk9
  rw [XT.In_mk] at hx
  replace hx := hx.keep hk9 (fun x _ => XT.In.keep hk9 x)
  clear hk9
  have d2 : (op == 2) = false := by simpa using hop
  have HIH := Lib.hid ih
  have HSB : Hid (∀ M aM cM, M.map XT.nrm = xl.map (substX l) → XT.nrm (.mk op nm xn wd v aM cM M) = substX l (XT.mk op nm xn wd v xa xc xl)) := Lib.hid (fun M aM cM h => by rw [XT.nrm, substX, if_neg hop, XT.nrmL_map, substL_map, h])
  have hll2 := XT.bkL_len xl
  have hbk2 : XT.bkL xl ≤ 1400000 := by simp only [XT.bk] at hbk; omega
  clear ih hbk hop
  go_enter Tryz.func30, Tryz.ntmps30
  go_upto_region 1 with (fail)
  have BX1 := block_alloc (World.alloc_heap_new W (.cells #[.int .i64 op, .string (bs nm), .int .i64 xn, .int .i64 wd, .int .u64 (v : Int), .slice xa xl.length xc] 25)) (.cells #[.int .i64 0, .string ⟨#[]⟩, .int .i64 0, .int .i64 0, .int .u64 0, .slice none 0 0] 25)
  obtain ⟨q0, q1, q2, q3, q4, q5⟩ := open6 BX1
  go_upto_region 7 with (fail)
  clear q0 q1 q2 q3 q4 q5 BX1
  generalize (((W.alloc (.cells #[.int .i64 op, .string (bs nm), .int .i64 xn, .int .i64 wd, .int .u64 (v : Int), .slice xa xl.length xc] 25)).alloc (.cells #[.int .i64 0, .string ⟨#[]⟩, .int .i64 0, .int .i64 0, .int .u64 0, .slice none 0 0] 25)).alloc (.cells #[.int .i64 op, .string (bs nm), .int .i64 xn, .int .i64 wd, .int .u64 (v : Int), .slice xa xl.length xc] 25)) = w3 at *
  obtain ⟨g0, hg0⟩ : ∃ g0, W.heap.size = g0 := ⟨_, rfl⟩
  rw [hg0] at BX BR BO hz2 hn0 hB2 ⊢
  have HP := Lib.hid (And.intro hx (And.intro hl (And.intro BX (And.intro BR (And.intro BO (And.intro hz2 (And.intro hn0 (And.intro hB2 hg0))))))))
  clear hx hl BX BR BO hz2 hn0 hB2 hg0
  go_wp2
  go_loopg [8, 9] xl.length (fun g u8 u wr => ∃ (k : Nat) (M : List XT), u = .int .i64 k ∧ k + g = xl.length ∧ Hid (M.map XT.nrm = (xl.take k).map (substX l)) ∧ M.length = k ∧ wr.ownsRow w3.heap.size 25 6 u8 M.length (M.flatMap XT.cells) ∧ Hid (∀ y ∈ M, y.In wr.heap.size wr ∧ (∀ b, n0 ≤ b → b < w3.heap.size → y.Av b) ∧ ∀ g, u8.ownBlock = some g → y.Av g) ∧ Below w3.heap.size w3 wr)
  case atStart => exact ⟨0, [], rfl, by omega, Lib.hid (by simp), rfl, ⟨rfl, .inl ⟨rfl, rfl⟩⟩, Lib.hid (fun y hy => by cases hy), Below.refl _ _⟩
  case round =>
    obtain ⟨k, M, rfl, hk, HN, hMk, ownM, HMI, hb5⟩ := hrel
    have HMk := Lib.hid hMk
    clear hMk
    obtain ⟨aM, cM, rfl, hcM⟩ : ∃ aM cM, u8 = .slice aM M.length cM ∧ (aM = none → cM = 0) := by { rcases ownM.2 with ⟨h1, h2⟩ | ⟨g, cap, cur, h1, _⟩; exact ⟨none, 0, by rw [h1, h2], fun _ => rfl⟩; exact ⟨_, _, h1, fun h => by cases h⟩ }
    by_cases hlt : k < xl.length
    · have d1 : decide (k < xl.length) = true := by simpa using hlt
      have d3 : decide ((k : Int) < (xl.length : Int)) = true := by rw [decide_eq_true_eq]; omega
      have x1 : (k : Int) < (xl.length : Int) := by omega
      obtain ⟨hx, hl, BX, BR, BO, hz2, hn0, hB2, hg0⟩ := HP.out
      have hn3 : n0 ≤ w3.heap.size := by omega
      have hkr := Below.keptTo hb5 hn3
      obtain ⟨b, o, rfl, hb, hr, hxk⟩ := hx.kept hkr hlt
      have hx2 := XT.In.keep hkr _ hxk
      have hl2 := hl.keep hkr
      have BXr := (hb5.block _ (by omega)).trans BX
      have hcall := HIH.out xl[k] (List.getElem_mem hlt) (by have := XT.bkL_mem (List.getElem_mem hlt); omega) n0 wr (Nat.le_trans hn3 hb5.size) hx2 hl2
      have hT : (xl.take (k + 1)).map (substX l) = (xl.take k).map (substX l) ++ [substX l xl[k]] := by rw [List.take_succ_eq_append_getElem hlt, List.map_append]; rfl
      obtain ⟨yy, hyy⟩ : ∃ yy, xl[k] = yy := ⟨_, rfl⟩
      rw [hyy] at hr hT hcall
      have HT := Lib.hid hT
      clear hT hxk hx2 hl2 hyy hx hl BX BR BO hkr
      have hzr := hb5.size
      obtain ⟨z0, z1, z2, z3, z4, z5⟩ := open6 BXr
      obtain ⟨op2, nm2, xn2, wd2, v2, xa2, xc2, xl2⟩ := yy
      have r0 : wr.cell? ⟨b, o + k * 6, none⟩ = some (.int .i64 op2) := hr 0 _ rfl
      have r1 : wr.cell? ⟨b, o + k * 6 + 1, none⟩ = some (.string (bs nm2)) := hr 1 _ rfl
      have r2 : wr.cell? ⟨b, o + k * 6 + 2, none⟩ = some (.int .i64 xn2) := hr 2 _ rfl
      have r3 : wr.cell? ⟨b, o + k * 6 + 3, none⟩ = some (.int .i64 wd2) := hr 3 _ rfl
      have r4 : wr.cell? ⟨b, o + k * 6 + 4, none⟩ = some (.int .u64 (v2 : Int)) := hr 4 _ rfl
      have r5 : wr.cell? ⟨b, o + k * 6 + 5, none⟩ = some (.slice xa2 xl2.length xc2) := hr 5 _ rfl
      simp only [XT.val, XT.cells] at hcall
      clear hr
      go_wp2_with fail
      refine hcall.mono ?_
      clear hcall
      rintro e w5 ⟨y, rfl, hyn, hyi, hya, hb⟩
      have HYN := Lib.hid hyn
      clear hyn
      have own5 := below_own_row ownM hb
      have hb55 := hb5.trans (hb.mono hb5.size)
      have HMI5 : Hid (∀ z ∈ M, z.In w5.heap.size w5) := Lib.hid (fun z hz => XT.In.less hb.size _ (XT.In.keep (Below.keptTo hb (Nat.le_refl _)) _ (HMI.out z hz).1))
      have HYI := Lib.hid hyi
      have HYA : Hid (∀ b, n0 ≤ b → b < wr.heap.size → y.Av b) := Lib.hid hya
      have hlt5 := own_block_lt ownM
      clear hyi hya z0 z1 z2 z3 z4 z5 r0 r1 r2 r3 r4 r5 BXr
      obtain ⟨op3, nm3, xn3, wd3, v3, xa3, xc3, xl3⟩ := y
      simp only [XT.val, XT.cells]
      have hz5 := hb55.size
      have hrow : ∀ j u, (XT.mk op3 nm3 xn3 wd3 v3 xa3 xc3 xl3).cells[j]? = some u → (w5.alloc (.cells #[.int .i64 op3, .string (bs nm3), .int .i64 xn3, .int .i64 wd3, .int .u64 (v3 : Int), .slice xa3 xl3.length xc3] 25)).cell? ((⟨w5.heap.size, 0, none⟩ : Addr).add j) = some u := fun j u hu => by { have hh := World.alloc_heap_new w5 (.cells #[.int .i64 op3, .string (bs nm3), .int .i64 xn3, .int .i64 wd3, .int .u64 (v3 : Int), .slice xa3 xl3.length xc3] 25); rw [Addr.add_mid]; simp only [World.cell?, hh, Nat.zero_add]; simpa [XT.cells] using hu }
      go_upto_region 10 with (at_builtin; refine wpList_append_row_at rfl (.tmp 41) (.tmp 49) rfl w3.heap.size (.slice aM M.length cM) M.length (M.flatMap XT.cells) rfl (own5.alloc _) ⟨w5.heap.size, 0, none⟩ (XT.mk op3 nm3 xn3 wd3 v3 xa3 xc3 xl3) 1 rfl hrow (by have := HMk.out; omega) (by rw [World.size_alloc]; omega) ?_; intro v7 w7 own7 hg7 hat7)
      have hb7 : Below w3.heap.size w3 w7 := hb55.trans (((Below.refl _ _).alloc (by omega) _).grown hg7 (by rw [World.size_alloc]; omega) (fun k e => (own5.lt k e).1))
      have own8 : w7.ownsRow w3.heap.size 25 6 v7 (M ++ [XT.mk op3 nm3 xn3 wd3 v3 xa3 xc3 xl3]).length ((M ++ [XT.mk op3 nm3 xn3 wd3 v3 xa3 xc3 xl3]).flatMap XT.cells) := by { rw [List.flatMap_append, List.length_append]; simpa using own7 }
      have HMI7 : Hid (∀ z ∈ M ++ [XT.mk op3 nm3 xn3 wd3 v3 xa3 xc3 xl3], z.In w7.heap.size w7 ∧ (∀ b, n0 ≤ b → b < w3.heap.size → z.Av b) ∧ ∀ g, v7.ownBlock = some g → z.Av g) := Lib.hid (by {
        intro z hz
        have hin : z.In w5.heap.size w5 := by { rcases List.mem_append.1 hz with h | h; exact HMI5.out z h; rw [List.mem_singleton.1 h]; exact HYI.out }
        have ho : ∀ g, (Value.slice aM M.length cM).ownBlock = some g → z.Av g := by { intro g hg; rcases List.mem_append.1 hz with h | h; exact (HMI.out z h).2.2 g hg; rw [List.mem_singleton.1 h]; exact HYA.out g (by have := (hlt5 g hg).1; omega) (hlt5 g hg).2 }
        refine ⟨in_grown hin ho hg7, ?_, ?_⟩
        · intro b h1 h2; rcases List.mem_append.1 hz with h | h; exact (HMI.out z h).2.1 b h1 h2; rw [List.mem_singleton.1 h]; exact HYA.out b h1 (by omega)
        · intro g hg; rcases hat7 with h | h; rw [h] at hg; exact ho g hg; rw [h, World.size_alloc] at hg; exact XT.In.av (by have := Option.some.inj hg; omega) _ hin })
      clear own7 hg7 hat7 own5 ownM
      go_wp2
      cases gk with
      | zero => omega
      | succ gg =>
        go_roundg gg
        case rel => exact ⟨k + 1, _, by simp; first | done | rfl | omega, by omega, Lib.hid (by rw [HT.out, List.map_append, HN.out, ← HYN.out]; rfl), by rw [List.length_append, HMk.out]; rfl, own8, HMI7, hb7⟩
        case measure => omega
    · have d1 : decide (k < xl.length) = false := by simpa using hlt
      have d3 : decide ((k : Int) < (xl.length : Int)) = false := by rw [decide_eq_false_iff_not]; omega
      have hkl : k = xl.length := by omega
      obtain ⟨hx, hl, BX, BR, BO, hz2, hn0, hB2, hg0⟩ := HP.out
      clear HP hx hl HIH
      have HNM := Lib.hid (HSB.out M aM cM (by rw [HN.out, hkl, List.take_length]))
      clear HSB HN hkl
      have BRr := (hb5.block _ (by omega)).trans BR
      have BOr := (hb5.block _ (by omega)).trans BO
      have BXr := (hb5.block _ (by omega)).trans BX
      have hzr := hb5.size
      have hBr := hB2.trans (hb5.mono (by omega))
      subst hg0
      obtain ⟨w9, hw9⟩ : ∃ w9, wr.setCell ⟨W.heap.size + 1 + 1, 5, none⟩ (.slice aM M.length cM) = w9 := ⟨_, rfl⟩
      have BR9 : w9.heap[W.heap.size + 1]? = some (.cells #[.int .i64 0, .string ⟨#[]⟩, .int .i64 0, .int .i64 0, .int .u64 0, .slice none 0 0] 25) := by rw [← hw9]; exact (Below.heap_setCell wr ⟨W.heap.size + 1 + 1, 5, none⟩ _ (W.heap.size + 1) (by show W.heap.size + 1 ≠ W.heap.size + 1 + 1; omega)).trans BRr
      have BO9 : w9.heap[W.heap.size + 1 + 1]? = some (.cells #[.int .i64 op, .string (bs nm), .int .i64 xn, .int .i64 wd, .int .u64 (v : Int), .slice aM M.length cM] 25 (0, 0)) := by rw [← hw9]; simp only [World.setCell, Array.getElem?_modify, ↓reduceIte]; rw [BOr]; rfl
      have hB9 : Below W.heap.size W w9 := by rw [← hw9]; exact hBr.setCell (p := ⟨W.heap.size + 1 + 1, 5, none⟩) (by show W.heap.size ≤ W.heap.size + 1 + 1; omega) _
      have hz99 : w9.heap.size = wr.heap.size := by rw [← hw9]; simp
      have own9 : w9.ownsRow w3.heap.size 25 6 (.slice aM M.length cM) M.length (M.flatMap XT.cells) := by rw [← hw9]; exact ownsRow_setCell_below ownM (a := ⟨W.heap.size + 1 + 1, 5, none⟩) (by show W.heap.size + 1 + 1 < w3.heap.size; omega) _
      have hMI9 : ∀ y ∈ M, y.In w9.heap.size w9 := fun y hy => by rw [hz99, ← hw9]; exact XT.In.setC ((HMI.out y hy).2.1 _ (by omega) (by omega)) (HMI.out y hy).1 _
      have hin9 : XT.In w9.heap.size w9 (XT.mk op nm xn wd v aM cM M) := by rw [XT.In_mk]; exact own_row_in own9 hMI9
      have hav9 : ∀ b, n0 ≤ b → b < W.heap.size + 2 → XT.Av b (XT.mk op nm xn wd v aM cM M) := fun b h1 h2 => by { rw [XT.Av, XT.avL_iff]; refine ⟨?_, fun y hy => (HMI.out y hy).2.1 b h1 (by omega)⟩; cases haM : aM with | none => exact .inr (fun p e => by cases e) | some ad => refine .inr (fun p e => ?_); have h9 := own_block_lt ownM ad.block (by rw [haM]; rfl); cases e; omega }
      have HW9 := Lib.hid hw9
      obtain ⟨z0, z1, z2, z3, z4, z5⟩ := open6 BRr
      obtain ⟨q0, q1, q2, q3, q4, q5⟩ := open6 BOr
      obtain ⟨y0, y1, y2, y3, y4, y5⟩ := open6 BXr
      have f5 : wr.frozen? ⟨W.heap.size + 1 + 1, 5, none⟩ = false := by simp [World.frozen?, BOr]
      go_upto_region 13 with (fail)
      try rw [HW9.out]
      clear HW9 hw9 y0 y1 y2 y3 y4 y5 z0 z1 z2 z3 z4 z5 q0 q1 q2 q3 q4 q5 f5
      obtain ⟨q0, q1, q2, q3, q4, q5⟩ := open6 BO9
      obtain ⟨z0, z1, z2, z3, z4, z5⟩ := open6 BR9
      have f0 : w9.frozen? ⟨W.heap.size + 1, 0, none⟩ = false := by simp [World.frozen?, BR9]
      have f1 : w9.frozen? ⟨W.heap.size + 1, 1, none⟩ = false := by simp [World.frozen?, BR9]
      have f2 : w9.frozen? ⟨W.heap.size + 1, 2, none⟩ = false := by simp [World.frozen?, BR9]
      have f3 : w9.frozen? ⟨W.heap.size + 1, 3, none⟩ = false := by simp [World.frozen?, BR9]
      have f4 : w9.frozen? ⟨W.heap.size + 1, 4, none⟩ = false := by simp [World.frozen?, BR9]
      have f5 : w9.frozen? ⟨W.heap.size + 1, 5, none⟩ = false := by simp [World.frozen?, BR9]
      have hp : put6 w9 (W.heap.size + 1) 0 (XT.mk op nm xn wd v aM cM M) = ((((((w9.setCell ⟨W.heap.size + 1, 0, none⟩ (.int .i64 op)).setCell ⟨W.heap.size + 1, 1, none⟩ (.string (bs nm))).setCell ⟨W.heap.size + 1, 2, none⟩ (.int .i64 xn)).setCell ⟨W.heap.size + 1, 3, none⟩ (.int .i64 wd)).setCell ⟨W.heap.size + 1, 4, none⟩ (.int .u64 (v : Int))).setCell ⟨W.heap.size + 1, 5, none⟩ (.slice aM M.length cM)) := by simp [put6, XT.cells, bs]
      have hi9 := put6_in (x := (XT.mk op nm xn wd v aM cM M)) (o := 0) (hav9 (W.heap.size + 1) (by omega) (by omega)) hin9
      have hb9 := hB9.trans (put6_below (n := W.heap.size) (g := W.heap.size + 1) w9 0 (XT.mk op nm xn wd v aM cM M) (by omega))
      have hz9 := put6_size w9 (W.heap.size + 1) 0 (XT.mk op nm xn wd v aM cM M)
      rw [hp] at hi9 hb9 hz9
      have hfull := set6full (v0 := .int .i64 op) (v1 := .string (bs nm)) (v2 := .int .i64 xn) (v3 := .int .i64 wd) (v4 := .int .u64 (v : Int)) (v5 := .slice aM M.length cM) BR9
      obtain ⟨s0, s1, s2, s3, s4, s5⟩ := open6 hfull
      have HS := Lib.hid (And.intro s0 (And.intro s1 (And.intro s2 (And.intro s3 (And.intro s4 s5)))))
      have HE := Lib.hid (And.intro hi9 (And.intro hb9 hz9))
      have HNY := Lib.hid (HNM.out)
      have HAV := Lib.hid (show ∀ b, n0 ≤ b → b < W.heap.size → XT.Av b (XT.mk op nm xn wd v aM cM M) from fun b h1 h2 => hav9 b h1 (by omega))
      clear hp hi9 hb9 hz9 hfull s0 s1 s2 s3 s4 s5
      go_wp2
      obtain ⟨s0, s1, s2, s3, s4, s5⟩ := HS.out
      refine bodyPost_ret (v := .agg #[.int .i64 op, .string (bs nm), .int .i64 xn, .int .i64 wd, .int .u64 (v : Int), .slice aM M.length cM]) (by simp [results, Tryz.results30, go_sem, s0, s1, s2, s3, s4, s5]) rfl ⟨(XT.mk op nm xn wd v aM cM M), by first | rfl | (simp [XT.val, XT.cells, bs]; done), HNY.out, by have h := HE.out.1; rw [← HE.out.2.2] at h; exact h, HAV.out, HE.out.2.1⟩
theorem refsubst_any (l : List NT) (hll : l.length ≤ 4000000) (a : Option Addr) (c : Nat) : ∀ x : XT, x.bk ≤ 1400000 → ∀ (n0 : Nat) (W : World), n0 ≤ W.heap.size → x.In n0 W → NRow n0 W l a → Calls Tryz.prog 30 #[x.val, .slice a l.length c] W (SbR l x n0 W) := by
  refine XT.ind ?_
  intro op nm xn wd v xa xc xl ih hbk n0 W hn0 hx hl
  by_cases hop : op = 2
  · subst hop
    exact refsubst_name l hll a c nm xn wd v xa xc xl n0 W hn0 hx hl
  · exact refsubst_node l a c op hop nm xn wd v xa xc xl hbk ih n0 W hn0 hx hl
end Go.Proofs.YtlbjmnakiflfpaaGreatDoor
