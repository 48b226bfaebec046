/-
  The reference: names, and what asks of numbers alone.
-/
import Derived.Test.YtlbjmnakiflfpaaDoorAsNm
namespace Go.Proofs.YtlbjmnakiflfpaaDoor
open Go Go.RowKit
set_option linter.unusedVariables false
set_option linter.unusedSimpArgs false
open Go.Sort

def namB (op : Int) : Bool := (op == 2) || ((op == 3) || (op == 4))
def partsB (op n : Int) : Bool := if op = 1 ∨ op = 2 then n == 0 else if op = 4 ∨ op = 5 then n == 1 else if op = 3 ∨ op = 6 ∨ op = 9 ∨ op = 10 then n == 2 else if op = 7 then n == 3 else if op = 8 then decide (1 ≤ n) else false
def numerB (op n : Int) : Bool := if op = 5 then decide (1 ≤ n) && decide (n ≤ 6) else if op = 6 then decide (11 ≤ n) && decide (n ≤ 26) else if op = 10 then decide (31 ≤ n) && decide (n ≤ 33) else n == 0
def valB (op wd : Int) (v : Nat) : Bool := if op = 1 then decide (0 ≤ wd) && (decide (wd ≤ 64) && ((wd == 0) || ((wd == 64) || decide (v < 2 ^ wd.toNat)))) else (wd == 0) && ((v : Int) == 0)
def wordsR : List Bytes := [[109, 111, 100, 117, 108, 101], [105, 110], [111, 117, 116], [119, 105, 114, 101], [114, 101, 103], [99, 111, 110, 115, 116], [97, 115, 115, 105, 103, 110], [99, 111, 109, 98], [111, 110], [116, 105, 99, 107], [105, 110, 115, 116], [105, 102], [101, 108, 115, 101], [102, 111, 114], [99, 104, 101, 99, 107], [99, 97, 115, 101], [122, 101, 120, 116], [115, 101, 120, 116], [116, 114, 117, 110, 99]]
def okC (i : Nat) (c : UInt8) : Bool := letter c || (!(i == 0) && digit c)
def okN (i : Nat) : Bytes → Bool
  | [] => true
  | c :: r => okC i c && okN (i + 1) r
theorem okN_pos : ∀ (l : Bytes) (i : Nat), 0 < i → okN i l = l.all inName
  | [], i, h => rfl
  | c :: r, i, h => by
    rw [okN, okN_pos r (i + 1) (by omega), List.all_cons]
    have : (i == 0) = false := by rw [beq_eq_false_iff_ne]; omega
    unfold okC inName
    rw [this]; rfl
theorem isWord_ref (s : Bytes) : isWord s = wordsR.contains s := by
  unfold isWord
  rw [Bool.eq_iff_iff, List.contains_iff_mem, List.contains_iff_mem]
  have h1 : ∀ x ∈ wordList, x ∈ wordsR := by decide
  have h2 : ∀ x ∈ wordsR, x ∈ wordList := by decide
  exact ⟨h1 s, h2 s⟩
theorem isName_ref (s : Bytes) : isNameB s = (!wordsR.contains s && (okN 0 s && (decide (1 ≤ s.length) && decide (s.length ≤ 64)))) := by
  rw [← isWord_ref]
  cases s with
  | nil => simp [isNameB]
  | cons c r =>
    have e : okN 0 (c :: r) = (letter c && r.all inName) := by
      rw [okN, okN_pos r 1 (by omega)]
      simp [okC]
    rw [e]
    have e2 : isNameB (c :: r) = (letter c && (decide ((c :: r).length ≤ 64) && ((c :: r).all inName && !isWord (c :: r)))) := rfl
    rw [e2, List.all_cons]
    have e3 : decide (1 ≤ (c :: r).length) = true := by simp
    rw [e3]
    cases h : letter c
    · simp
    · have e4 : inName c = true := by unfold inName; rw [h]; rfl
      rw [e4]
      cases isWord (c :: r) <;> cases r.all inName <;> cases decide ((c :: r).length ≤ 64) <;> rfl
theorem okN_drop (l : Bytes) (i : Nat) (h : i < l.length) : okN i (l.drop i) = (okC i l[i] && okN (i + 1) (l.drop (i + 1))) := by
  rw [← List.getElem_cons_drop h, okN]

theorem refnamed_any (op : Int) (w : World) : Calls Tryd.prog 73 #[.int .i64 op] w fun e w' => e = .returned (.bool (namB op)) ∧ w = w' := by
  have HI : Hid (namB op = ((op == 2) || ((op == 3) || (op == 4)))) := Lib.hid rfl
  generalize namB op = R at *
  obtain ⟨a, ha⟩ : ∃ b, (op == 2) = b := ⟨_, rfl⟩
  obtain ⟨b, hb⟩ : ∃ b, (op == 3) = b := ⟨_, rfl⟩
  obtain ⟨c, hc⟩ : ∃ b, (op == 4) = b := ⟨_, rfl⟩
  have HE : Hid (R = (a || (b || c))) := Lib.hid (by rw [HI.out, ha, hb, hc])
  cases a <;> cases b
  all_goals
    go_enter Tryd.func73, Tryd.ntmps73
    go_wp2
    go_ret
    exact ⟨ret_b (by rw [HE.out]; rfl), rfl⟩
set_option maxHeartbeats 2000000 in
theorem refparts_any (op n : Int) (w : World) : Calls Tryd.prog 75 #[.int .i64 op, .int .i64 n] w fun e w' => e = .returned (.bool (partsB op n)) ∧ w = w' := by
  by_cases h1 : op = 1
  · subst h1
    have HE : Hid ((partsB 1 n) = (n == 0)) := Lib.hid rfl
    generalize (partsB 1 n) = R at *
    go_enter Tryd.func75, Tryd.ntmps75
    go_wp2
    go_ret
    exact ⟨ret_b HE.out.symm, rfl⟩
  · have e1 : (op == 1) = false := by rw [beq_eq_false_iff_ne]; exact h1
    by_cases h2 : op = 2
    · subst h2
      have HE : Hid ((partsB 2 n) = (n == 0)) := Lib.hid rfl
      generalize (partsB 2 n) = R at *
      go_enter Tryd.func75, Tryd.ntmps75
      go_wp2
      go_ret
      exact ⟨ret_b HE.out.symm, rfl⟩
    · have e2 : (op == 2) = false := by rw [beq_eq_false_iff_ne]; exact h2
      by_cases h4 : op = 4
      · subst h4
        have HE : Hid ((partsB 4 n) = (n == 1)) := Lib.hid rfl
        generalize (partsB 4 n) = R at *
        go_enter Tryd.func75, Tryd.ntmps75
        go_wp2
        go_ret
        exact ⟨ret_b HE.out.symm, rfl⟩
      · have e4 : (op == 4) = false := by rw [beq_eq_false_iff_ne]; exact h4
        by_cases h5 : op = 5
        · subst h5
          have HE : Hid ((partsB 5 n) = (n == 1)) := Lib.hid rfl
          generalize (partsB 5 n) = R at *
          go_enter Tryd.func75, Tryd.ntmps75
          go_wp2
          go_ret
          exact ⟨ret_b HE.out.symm, rfl⟩
        · have e5 : (op == 5) = false := by rw [beq_eq_false_iff_ne]; exact h5
          by_cases h3 : op = 3
          · subst h3
            have HE : Hid ((partsB 3 n) = (n == 2)) := Lib.hid rfl
            generalize (partsB 3 n) = R at *
            go_enter Tryd.func75, Tryd.ntmps75
            go_wp2
            go_ret
            exact ⟨ret_b HE.out.symm, rfl⟩
          · have e3 : (op == 3) = false := by rw [beq_eq_false_iff_ne]; exact h3
            by_cases h6 : op = 6
            · subst h6
              have HE : Hid ((partsB 6 n) = (n == 2)) := Lib.hid rfl
              generalize (partsB 6 n) = R at *
              go_enter Tryd.func75, Tryd.ntmps75
              go_wp2
              go_ret
              exact ⟨ret_b HE.out.symm, rfl⟩
            · have e6 : (op == 6) = false := by rw [beq_eq_false_iff_ne]; exact h6
              by_cases h9 : op = 9
              · subst h9
                have HE : Hid ((partsB 9 n) = (n == 2)) := Lib.hid rfl
                generalize (partsB 9 n) = R at *
                go_enter Tryd.func75, Tryd.ntmps75
                go_wp2
                go_ret
                exact ⟨ret_b HE.out.symm, rfl⟩
              · have e9 : (op == 9) = false := by rw [beq_eq_false_iff_ne]; exact h9
                by_cases h10 : op = 10
                · subst h10
                  have HE : Hid ((partsB 10 n) = (n == 2)) := Lib.hid rfl
                  generalize (partsB 10 n) = R at *
                  go_enter Tryd.func75, Tryd.ntmps75
                  go_wp2
                  go_ret
                  exact ⟨ret_b HE.out.symm, rfl⟩
                · have e10 : (op == 10) = false := by rw [beq_eq_false_iff_ne]; exact h10
                  by_cases h7 : op = 7
                  · subst h7
                    have HE : Hid ((partsB 7 n) = (n == 3)) := Lib.hid rfl
                    generalize (partsB 7 n) = R at *
                    go_enter Tryd.func75, Tryd.ntmps75
                    go_wp2
                    go_ret
                    exact ⟨ret_b HE.out.symm, rfl⟩
                  · have e7 : (op == 7) = false := by rw [beq_eq_false_iff_ne]; exact h7
                    by_cases h8 : op = 8
                    · subst h8
                      have HE : Hid ((partsB 8 n) = (decide (1 ≤ n))) := Lib.hid rfl
                      generalize (partsB 8 n) = R at *
                      go_enter Tryd.func75, Tryd.ntmps75
                      go_wp2
                      go_ret
                      exact ⟨ret_b HE.out.symm, rfl⟩
                    · have e8 : (op == 8) = false := by rw [beq_eq_false_iff_ne]; exact h8
                      have HE : Hid ((partsB op n) = (false)) := Lib.hid (by unfold partsB; simp [*])
                      generalize (partsB op n) = R at *
                      go_enter Tryd.func75, Tryd.ntmps75
                      go_wp2
                      go_ret
                      exact ⟨ret_b HE.out.symm, rfl⟩
set_option maxHeartbeats 2000000 in
theorem refnumber_any (op n : Int) (w : World) : Calls Tryd.prog 76 #[.int .i64 op, .int .i64 n] w fun e w' => e = .returned (.bool (numerB op n)) ∧ w = w' := by
  by_cases h5 : op = 5
  · subst h5
    have HE : Hid ((numerB 5 n) = (decide (1 ≤ n) && decide (n ≤ 6))) := Lib.hid rfl
    generalize (numerB 5 n) = R at *
    go_enter Tryd.func76, Tryd.ntmps76
    obtain ⟨b1, hb1⟩ : ∃ b, decide (1 ≤ n) = b := ⟨_, rfl⟩
    obtain ⟨b2, hb2⟩ : ∃ b, decide (n ≤ 6) = b := ⟨_, rfl⟩
    rw [hb1, hb2] at HE
    cases b1
    all_goals
      go_wp2
      go_ret
      exact ⟨ret_b (by rw [HE.out]; rfl), rfl⟩
  · have e5 : (op == 5) = false := by rw [beq_eq_false_iff_ne]; exact h5
    by_cases h6 : op = 6
    · subst h6
      have HE : Hid ((numerB 6 n) = (decide (11 ≤ n) && decide (n ≤ 26))) := Lib.hid rfl
      generalize (numerB 6 n) = R at *
      go_enter Tryd.func76, Tryd.ntmps76
      obtain ⟨b1, hb1⟩ : ∃ b, decide (11 ≤ n) = b := ⟨_, rfl⟩
      obtain ⟨b2, hb2⟩ : ∃ b, decide (n ≤ 26) = b := ⟨_, rfl⟩
      rw [hb1, hb2] at HE
      cases b1
      all_goals
        go_wp2
        go_ret
        exact ⟨ret_b (by rw [HE.out]; rfl), rfl⟩
    · have e6 : (op == 6) = false := by rw [beq_eq_false_iff_ne]; exact h6
      by_cases h10 : op = 10
      · subst h10
        have HE : Hid ((numerB 10 n) = (decide (31 ≤ n) && decide (n ≤ 33))) := Lib.hid rfl
        generalize (numerB 10 n) = R at *
        go_enter Tryd.func76, Tryd.ntmps76
        obtain ⟨b1, hb1⟩ : ∃ b, decide (31 ≤ n) = b := ⟨_, rfl⟩
        obtain ⟨b2, hb2⟩ : ∃ b, decide (n ≤ 33) = b := ⟨_, rfl⟩
        rw [hb1, hb2] at HE
        cases b1
        all_goals
          go_wp2
          go_ret
          exact ⟨ret_b (by rw [HE.out]; rfl), rfl⟩
      · have e10 : (op == 10) = false := by rw [beq_eq_false_iff_ne]; exact h10
        have HE : Hid ((numerB op n) = (n == 0)) := Lib.hid (by unfold numerB; simp [*])
        generalize (numerB op n) = R at *
        go_enter Tryd.func76, Tryd.ntmps76
        go_wp2
        go_ret
        exact ⟨ret_b HE.out.symm, rfl⟩

set_option maxHeartbeats 2000000 in
theorem refwords_any (w : World) : Calls Tryd.prog 85 #[] w fun e w' => ∃ a, e = .returned (.slice a 19 19) ∧ LiesS w' a wordsR ∧ Below w.heap.size w w' := by
  go_enter Tryd.func85, Tryd.ntmps85
  go_wp2
  go_ret
  refine ⟨_, rfl, .inr ⟨_, _, rfl, fun i hi => ?_⟩, (Below.refl _ _).alloc (Nat.le_refl _) _⟩
  have hi2 : i < 19 := hi
  simp only [World.cell?_alloc_new, Nat.zero_add]
  rcases i with _ | _ | _ | _ | _ | _ | _ | _ | _ | _ | _ | _ | _ | _ | _ | _ | _ | _ | _ | i
  all_goals first | rfl | (simp; done) | (exfalso; omega)

set_option maxHeartbeats 8000000 in
set_option maxRecDepth 100000 in
theorem refname_any (s : Bytes) (hs : s.length ≤ 3000000) (w : World) : Calls Tryd.prog 74 #[.string (bs s)] w fun e w' => e = .returned (.bool (isNameB s)) ∧ Below w.heap.size w w' := by
  have HI : Hid (isNameB s = (!wordsR.contains s && (okN 0 s && (decide (1 ≤ s.length) && decide (s.length ≤ 64))))) := Lib.hid (isName_ref s)
  generalize isNameB s = R at *
  go_enter Tryd.func74, Tryd.ntmps74
  go_wp2_with fail
  refine (refwords_any _).mono ?_
  rintro e w1 ⟨a, rfl, hl, hB⟩
  have HL := Lib.hid hl
  clear hl
  have hwl : wordsR.length = 19 := rfl
  obtain ⟨WL, hWL⟩ : ∃ WL, wordsR = WL := ⟨_, rfl⟩
  rw [hWL] at HL HI hwl
  clear hWL
  obtain ⟨q1, hq1⟩ : ∃ b, decide ((1 : Int) ≤ s.length) = b := ⟨_, rfl⟩
  obtain ⟨q2, hq2⟩ : ∃ b, decide ((s.length : Int) ≤ 64) = b := ⟨_, rfl⟩
  have f1 : decide (1 ≤ s.length) = q1 := by rw [← hq1]; exact decide_eq_decide.2 (by omega)
  have f2 : decide (s.length ≤ 64) = q2 := by rw [← hq2]; exact decide_eq_decide.2 (by omega)
  rw [f1, f2] at HI
  have HQ := Lib.hid (And.intro f1 f2)
  clear f1 f2
  go_wp2
  go_loopg [4] WL.length (fun g u wr => ∃ i : Nat, u = .int .i64 i ∧ i + g = WL.length ∧ (WL.drop i).contains s = WL.contains s ∧ wr = w1)
  case atStart => exact ⟨0, rfl, by omega, by rw [List.drop_zero], rfl⟩
  case round =>
    obtain ⟨i, rfl, hi, hdr, rfl⟩ := hrel
    have HD := Lib.hid hdr
    clear hdr
    by_cases hlt : i < WL.length
    · have d1 : decide (i < 19) = true := by rw [decide_eq_true_eq]; omega
      have d2 : decide ((i : Int) < 19) = true := by rw [decide_eq_true_eq]; omega
      have d3 : (i : Int) < 19 := by omega
      have HX : Hid ((s == WL[i] || (WL.drop (i + 1)).contains s) = WL.contains s) := Lib.hid (by rw [← HD.out, ← List.getElem_cons_drop hlt, List.contains_cons])
      obtain ⟨b1, o1, rfl, hL1⟩ := (HL.out).resolve_left (by intro h; rw [h] at hlt; simp at hlt)
      replace hL1 := hL1 i hlt
      generalize WL[i] = t at *
      by_cases heq : (s == t) = true
      · have HE : Hid (R = false) := Lib.hid (by rw [HI.out, ← HX.out, heq]; rfl)
        clear HX HD HL HI
        go_wp2
        go_ret
        exact ⟨ret_bool HE.out.symm, hB⟩
      · have heq2 : (s == t) = false := by simpa using heq
        have HX2 : Hid ((WL.drop (i + 1)).contains s = WL.contains s) := Lib.hid (by rw [← HX.out, heq2]; rfl)
        clear HX HD heq
        go_wp2
        cases gk with
        | zero => omega
        | succ gg =>
          go_roundg gg
          case rel => exact ⟨i + 1, rfl, by omega, HX2.out, rfl⟩
          case measure => omega
    · have d1 : decide (i < 19) = false := by rw [decide_eq_false_iff_not]; omega
      have d2 : decide ((i : Int) < 19) = false := by rw [decide_eq_false_iff_not]; omega
      have HI2 : Hid (WL.contains s = false) := Lib.hid (by rw [← HD.out, List.drop_eq_nil_of_le (by omega)]; rfl)
      obtain ⟨R2, hR2⟩ : ∃ R2, okN 0 s = R2 := ⟨_, rfl⟩
      have HI3 : Hid (R = (R2 && (q1 && q2))) := Lib.hid (by rw [HI.out, HI2.out, hR2]; rfl)
      have HR2 := Lib.hid hR2
      clear HI HI2 HD HL hR2
      go_wp2
      go_loopg [5] s.length (fun g u wr' => ∃ i : Nat, u = .int .i64 i ∧ i + g = s.length ∧ okN i (s.drop i) = R2 ∧ wr' = wr)
      case atStart => exact ⟨0, rfl, by omega, by rw [List.drop_zero]; exact HR2.out, rfl⟩
      case round =>
        obtain ⟨i, rfl, hi, hdr, rfl⟩ := hrel
        have HD := Lib.hid hdr
        clear hdr
        by_cases hlt : i < s.length
        · have d1 : decide (i < s.length) = true := by simpa using hlt
          have d2 : decide ((i : Int) < (s.length : Int)) = true := by rw [decide_eq_true_eq]; omega
          have d3 : (i : Int) < (s.length : Int) := by omega
          have HX : Hid ((okC i s[i] && okN (i + 1) (s.drop (i + 1))) = R2) := Lib.hid (by rw [← HD.out, okN_drop s i hlt])
          obtain ⟨t0, ht0⟩ : ∃ b, decide ((97 : Int) ≤ (s[i].toNat : Int)) = b := ⟨_, rfl⟩
          obtain ⟨t1, ht1⟩ : ∃ b, decide ((s[i].toNat : Int) ≤ 122) = b := ⟨_, rfl⟩
          obtain ⟨t2, ht2⟩ : ∃ b, decide ((65 : Int) ≤ (s[i].toNat : Int)) = b := ⟨_, rfl⟩
          obtain ⟨t3, ht3⟩ : ∃ b, decide ((s[i].toNat : Int) ≤ 90) = b := ⟨_, rfl⟩
          obtain ⟨t4, ht4⟩ : ∃ b, ((s[i].toNat : Int) == 95) = b := ⟨_, rfl⟩
          obtain ⟨t5, ht5⟩ : ∃ b, decide ((s[i].toNat : Int) < 48) = b := ⟨_, rfl⟩
          obtain ⟨t6, ht6⟩ : ∃ b, decide ((57 : Int) < (s[i].toNat : Int)) = b := ⟨_, rfl⟩
          obtain ⟨t7, ht7⟩ : ∃ b, ((i : Int) == 0) = b := ⟨_, rfl⟩
          have HV : Hid (okC i s[i] = (((t0 && t1) || (t2 && t3) || t4) || (!t7 && (!t5 && !t6)))) := Lib.hid (by
            rw [← ht0, ← ht1, ← ht2, ← ht3, ← ht4, ← ht5, ← ht6, ← ht7]
            have e1 : ((i : Int) == 0) = (i == 0) := by rw [Bool.eq_iff_iff, beq_iff_eq, beq_iff_eq]; omega
            have e2 : digit s[i] = (!decide ((s[i].toNat : Int) < 48) && !decide ((57 : Int) < (s[i].toNat : Int))) := by
              show (decide ((48 : Int) ≤ (s[i].toNat : Int)) && decide ((s[i].toNat : Int) ≤ 57)) = _
              congr 1
              · rw [Bool.eq_iff_iff]; simp
              · rw [Bool.eq_iff_iff]; simp
            unfold okC
            rw [e1, e2]; rfl)
          generalize okC i s[i] = V at *
          cases t0 with
          | false =>
            cases t2 with
            | false =>
              cases t4 with
              | true =>
                go_wp2
                cases gk with
                | zero => omega
                | succ gg =>
                  go_roundg gg
                  case rel => exact ⟨i + 1, by simp; first | done | rfl | omega, by omega, by rw [← HX.out, HV.out]; rfl, rfl⟩
                  case measure => omega
              | false =>
                cases t7 with
                | true =>
                  have HE : Hid (R = false) := Lib.hid (by rw [HI3.out, ← HX.out, HV.out]; rfl)
                  go_wp2
                  go_ret
                  exact ⟨ret_bool HE.out.symm, hB⟩
                | false =>
                  cases t5 with
                  | true =>
                    have HE : Hid (R = false) := Lib.hid (by rw [HI3.out, ← HX.out, HV.out]; rfl)
                    go_wp2
                    go_ret
                    exact ⟨ret_bool HE.out.symm, hB⟩
                  | false =>
                    cases t6 with
                    | true =>
                      have HE : Hid (R = false) := Lib.hid (by rw [HI3.out, ← HX.out, HV.out]; rfl)
                      go_wp2
                      go_ret
                      exact ⟨ret_bool HE.out.symm, hB⟩
                    | false =>
                      go_wp2
                      cases gk with
                      | zero => omega
                      | succ gg =>
                        go_roundg gg
                        case rel => exact ⟨i + 1, by simp; first | done | rfl | omega, by omega, by rw [← HX.out, HV.out]; rfl, rfl⟩
                        case measure => omega
            | true =>
              cases t3 with
              | true =>
                go_wp2
                cases gk with
                | zero => omega
                | succ gg =>
                  go_roundg gg
                  case rel => exact ⟨i + 1, by simp; first | done | rfl | omega, by omega, by rw [← HX.out, HV.out]; rfl, rfl⟩
                  case measure => omega
              | false =>
                cases t4 with
                | true =>
                  go_wp2
                  cases gk with
                  | zero => omega
                  | succ gg =>
                    go_roundg gg
                    case rel => exact ⟨i + 1, by simp; first | done | rfl | omega, by omega, by rw [← HX.out, HV.out]; rfl, rfl⟩
                    case measure => omega
                | false =>
                  cases t7 with
                  | true =>
                    have HE : Hid (R = false) := Lib.hid (by rw [HI3.out, ← HX.out, HV.out]; rfl)
                    go_wp2
                    go_ret
                    exact ⟨ret_bool HE.out.symm, hB⟩
                  | false =>
                    cases t5 with
                    | true =>
                      have HE : Hid (R = false) := Lib.hid (by rw [HI3.out, ← HX.out, HV.out]; rfl)
                      go_wp2
                      go_ret
                      exact ⟨ret_bool HE.out.symm, hB⟩
                    | false =>
                      cases t6 with
                      | true =>
                        have HE : Hid (R = false) := Lib.hid (by rw [HI3.out, ← HX.out, HV.out]; rfl)
                        go_wp2
                        go_ret
                        exact ⟨ret_bool HE.out.symm, hB⟩
                      | false =>
                        go_wp2
                        cases gk with
                        | zero => omega
                        | succ gg =>
                          go_roundg gg
                          case rel => exact ⟨i + 1, by simp; first | done | rfl | omega, by omega, by rw [← HX.out, HV.out]; rfl, rfl⟩
                          case measure => omega
          | true =>
            cases t1 with
            | true =>
              go_wp2
              cases gk with
              | zero => omega
              | succ gg =>
                go_roundg gg
                case rel => exact ⟨i + 1, by simp; first | done | rfl | omega, by omega, by rw [← HX.out, HV.out]; rfl, rfl⟩
                case measure => omega
            | false =>
              cases t2 with
              | false =>
                cases t4 with
                | true =>
                  go_wp2
                  cases gk with
                  | zero => omega
                  | succ gg =>
                    go_roundg gg
                    case rel => exact ⟨i + 1, by simp; first | done | rfl | omega, by omega, by rw [← HX.out, HV.out]; rfl, rfl⟩
                    case measure => omega
                | false =>
                  cases t7 with
                  | true =>
                    have HE : Hid (R = false) := Lib.hid (by rw [HI3.out, ← HX.out, HV.out]; rfl)
                    go_wp2
                    go_ret
                    exact ⟨ret_bool HE.out.symm, hB⟩
                  | false =>
                    cases t5 with
                    | true =>
                      have HE : Hid (R = false) := Lib.hid (by rw [HI3.out, ← HX.out, HV.out]; rfl)
                      go_wp2
                      go_ret
                      exact ⟨ret_bool HE.out.symm, hB⟩
                    | false =>
                      cases t6 with
                      | true =>
                        have HE : Hid (R = false) := Lib.hid (by rw [HI3.out, ← HX.out, HV.out]; rfl)
                        go_wp2
                        go_ret
                        exact ⟨ret_bool HE.out.symm, hB⟩
                      | false =>
                        go_wp2
                        cases gk with
                        | zero => omega
                        | succ gg =>
                          go_roundg gg
                          case rel => exact ⟨i + 1, by simp; first | done | rfl | omega, by omega, by rw [← HX.out, HV.out]; rfl, rfl⟩
                          case measure => omega
              | true =>
                cases t3 with
                | true =>
                  go_wp2
                  cases gk with
                  | zero => omega
                  | succ gg =>
                    go_roundg gg
                    case rel => exact ⟨i + 1, by simp; first | done | rfl | omega, by omega, by rw [← HX.out, HV.out]; rfl, rfl⟩
                    case measure => omega
                | false =>
                  cases t4 with
                  | true =>
                    go_wp2
                    cases gk with
                    | zero => omega
                    | succ gg =>
                      go_roundg gg
                      case rel => exact ⟨i + 1, by simp; first | done | rfl | omega, by omega, by rw [← HX.out, HV.out]; rfl, rfl⟩
                      case measure => omega
                  | false =>
                    cases t7 with
                    | true =>
                      have HE : Hid (R = false) := Lib.hid (by rw [HI3.out, ← HX.out, HV.out]; rfl)
                      go_wp2
                      go_ret
                      exact ⟨ret_bool HE.out.symm, hB⟩
                    | false =>
                      cases t5 with
                      | true =>
                        have HE : Hid (R = false) := Lib.hid (by rw [HI3.out, ← HX.out, HV.out]; rfl)
                        go_wp2
                        go_ret
                        exact ⟨ret_bool HE.out.symm, hB⟩
                      | false =>
                        cases t6 with
                        | true =>
                          have HE : Hid (R = false) := Lib.hid (by rw [HI3.out, ← HX.out, HV.out]; rfl)
                          go_wp2
                          go_ret
                          exact ⟨ret_bool HE.out.symm, hB⟩
                        | false =>
                          go_wp2
                          cases gk with
                          | zero => omega
                          | succ gg =>
                            go_roundg gg
                            case rel => exact ⟨i + 1, by simp; first | done | rfl | omega, by omega, by rw [← HX.out, HV.out]; rfl, rfl⟩
                            case measure => omega
        · have d1 : decide (i < s.length) = false := by simpa using hlt
          have d2 : decide ((i : Int) < (s.length : Int)) = false := by rw [decide_eq_false_iff_not]; omega
          have HE : Hid (R2 = true) := Lib.hid (by rw [← HD.out, List.drop_eq_nil_of_le (by omega)]; rfl)
          have HF : Hid (R = (q1 && q2)) := Lib.hid (by rw [HI3.out, HE.out]; rfl)
          cases q1
          all_goals
            go_wp2
            go_ret
            exact ⟨ret_bool (by rw [HF.out]; rfl), hB⟩
end Go.Proofs.YtlbjmnakiflfpaaDoor
