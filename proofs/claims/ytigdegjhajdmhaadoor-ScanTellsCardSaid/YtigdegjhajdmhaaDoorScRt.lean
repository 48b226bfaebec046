/-
  The reference: runs from a place on, comments, bases, numbers.
-/
import Derived.Test.YtigdegjhajdmhaaDoorScMt
import Derived.Deep.LoopGhost
import Derived.BigQuiet
namespace Go.Proofs.YtigdegjhajdmhaaDoor
open Go Go.RowKit
set_option linter.unusedVariables false
set_option linter.unusedSimpArgs false
open Go.Sort

theorem drop_get (l : Bytes) (i k : Nat) (h : i + k < l.length) : (l.drop i)[k]'(by rw [List.length_drop]; omega) = l[i + k] := by rw [List.getElem_drop]
set_option maxHeartbeats 1000000 in
theorem refdigits_any (l : Bytes) (hl : l.length ≤ 100000) (i : Nat) (hi : i ≤ l.length) (w : World) : Calls Tryd.prog 48 #[.string (bs l), .int .i64 (i : Int)] w fun e w' => e = .returned (.int .i64 (run digit (l.drop i) : Int)) ∧ w' = w := by
  go_enter Tryd.func48, Tryd.ntmps48
  go_wp2
  go_loopg [5] (l.length + 1) (fun g u wr => ∃ k : Nat, u = .int .i64 k ∧ i + k ≤ l.length ∧ l.length - i - k < g ∧ ((l.drop i).take k).all digit = true ∧ wr = w)
  case atStart => exact ⟨0, rfl, by omega, by omega, rfl, rfl⟩
  case round =>
    obtain ⟨k, rfl, hk, hg, ha, rfl⟩ := hrel
    have HA := Lib.hid ha
    clear ha
    have hadd : IntKind.i64.wrap ((i : Int) + (k : Int)) = ((i + k : Nat) : Int) := by rw [show (i : Int) + (k : Int) = ((i + k : Nat) : Int) by omega]; exact IntWalk.i64_in _ (by omega)
    cases gk with
    | zero => omega
    | succ gg =>
      by_cases hlt : i + k < l.length
      · have d1 : decide (i + k < l.length) = true := by simpa using hlt
        have d2 : decide (((i + k : Nat) : Int) < (l.length : Int)) = true := by rw [decide_eq_true_eq]; omega
        have hkd : k < (l.drop i).length := by rw [List.length_drop]; omega
        have HS := Lib.hid (all_take_succ digit (l.drop i) k hkd)
        have hD := fun w => refdigit_any (l[i + k]) w
        have HG := Lib.hid (drop_get l i k hlt)
        have HAT := fun h2 => run_at digit (l.drop i) k hkd HA.out h2
        have HB : Hid (digit (l.drop i)[k] = digit l[i + k]) := Lib.hid (by rw [HG.out])
        generalize digit l[i + k] = bd at *
        cases bd with
        | true =>
          have HI : Hid (((l.drop i).take (k + 1)).all digit = true) := Lib.hid (by rw [HS.out, HA.out, HB.out]; rfl)
          clear HAT HS HG HB
          go_wp2_with fail
          refine (hD _).mono ?_
          rintro e1 w1 ⟨rfl, rfl⟩
          go_wp2
          go_roundg gg
          case rel => exact ⟨k + 1, rfl, by omega, by omega, HI.out, rfl⟩
          case measure => omega
        | false =>
          have HE : Hid ((run digit (l.drop i) : Int) = (k : Int)) := Lib.hid (by rw [HAT HB.out])
          clear HAT HS HG HB
          go_wp2_with fail
          refine (hD _).mono ?_
          rintro e1 w1 ⟨rfl, rfl⟩
          go_wp2
          go_ret
          exact ⟨ret_n HE.out.symm, rfl⟩
      · have d1 : decide (i + k < l.length) = false := by simpa using hlt
        have d2 : decide (((i + k : Nat) : Int) < (l.length : Int)) = false := by rw [decide_eq_false_iff_not]; omega
        have hkl : k = (l.drop i).length := by rw [List.length_drop]; omega
        have HE : Hid ((run digit (l.drop i) : Int) = (k : Int)) := Lib.hid (by rw [run_all digit (l.drop i) (by have := HA.out; rw [hkl, List.take_length] at this; exact this), ← hkl])
        clear hkl
        go_wp2
        go_ret
        exact ⟨ret_n HE.out.symm, rfl⟩
set_option maxHeartbeats 1000000 in
theorem refrunat_any (l : Bytes) (hl : l.length ≤ 100000) (i : Nat) (hi : i ≤ l.length) (w : World) : Calls Tryd.prog 32 #[.string (bs l), .int .i64 (i : Int)] w fun e w' => e = .returned (.int .i64 (run inName (l.drop i) : Int)) ∧ w' = w := by
  go_enter Tryd.func32, Tryd.ntmps32
  go_wp2
  go_loopg [5] (l.length + 1) (fun g u wr => ∃ k : Nat, u = .int .i64 k ∧ i + k ≤ l.length ∧ l.length - i - k < g ∧ ((l.drop i).take k).all inName = true ∧ wr = w)
  case atStart => exact ⟨0, rfl, by omega, by omega, rfl, rfl⟩
  case round =>
    obtain ⟨k, rfl, hk, hg, ha, rfl⟩ := hrel
    have HA := Lib.hid ha
    clear ha
    have hadd : IntKind.i64.wrap ((i : Int) + (k : Int)) = ((i + k : Nat) : Int) := by rw [show (i : Int) + (k : Int) = ((i + k : Nat) : Int) by omega]; exact IntWalk.i64_in _ (by omega)
    cases gk with
    | zero => omega
    | succ gg =>
      by_cases hlt : i + k < l.length
      · have d1 : decide (i + k < l.length) = true := by simpa using hlt
        have d2 : decide (((i + k : Nat) : Int) < (l.length : Int)) = true := by rw [decide_eq_true_eq]; omega
        have hkd : k < (l.drop i).length := by rw [List.length_drop]; omega
        have HS := Lib.hid (all_take_succ inName (l.drop i) k hkd)
        have hL := fun w => refletter_any (l[i + k]) w
        have hD := fun w => refdigit_any (l[i + k]) w
        have HG := Lib.hid (drop_get l i k hlt)
        have HAT := fun h2 => run_at inName (l.drop i) k hkd HA.out h2
        have HB : Hid (inName (l.drop i)[k] = (letter l[i + k] || digit l[i + k])) := Lib.hid (by rw [HG.out]; rfl)
        generalize letter l[i + k] = bl at *
        generalize digit l[i + k] = bd at *
        cases bl with
        | true =>
          have HI : Hid (((l.drop i).take (k + 1)).all inName = true) := Lib.hid (by rw [HS.out, HA.out, HB.out]; rfl)
          clear HAT HS HG HB
          go_wp2_with fail
          refine (hL _).mono ?_
          rintro e1 w1 ⟨rfl, rfl⟩
          go_wp2
          go_roundg gg
          case rel => exact ⟨k + 1, rfl, by omega, by omega, HI.out, rfl⟩
          case measure => omega
        | false =>
          cases bd with
          | true =>
            have HI : Hid (((l.drop i).take (k + 1)).all inName = true) := Lib.hid (by rw [HS.out, HA.out, HB.out]; rfl)
            clear HAT HS HG HB
            go_wp2_with fail
            refine (hL _).mono ?_
            rintro e1 w1 ⟨rfl, rfl⟩
            go_wp2_with fail
            refine (hD _).mono ?_
            rintro e1 w1 ⟨rfl, rfl⟩
            go_wp2
            go_roundg gg
            case rel => exact ⟨k + 1, rfl, by omega, by omega, HI.out, rfl⟩
            case measure => omega
          | false =>
            have HE : Hid ((run inName (l.drop i) : Int) = (k : Int)) := Lib.hid (by rw [HAT (by rw [HB.out]; rfl)])
            clear HAT HS HG HB
            go_wp2_with fail
            refine (hL _).mono ?_
            rintro e1 w1 ⟨rfl, rfl⟩
            go_wp2_with fail
            refine (hD _).mono ?_
            rintro e1 w1 ⟨rfl, rfl⟩
            go_wp2
            go_ret
            exact ⟨ret_n HE.out.symm, rfl⟩
      · have d1 : decide (i + k < l.length) = false := by simpa using hlt
        have d2 : decide (((i + k : Nat) : Int) < (l.length : Int)) = false := by rw [decide_eq_false_iff_not]; omega
        have hkl : k = (l.drop i).length := by rw [List.length_drop]; omega
        have HE : Hid ((run inName (l.drop i) : Int) = (k : Int)) := Lib.hid (by rw [run_all inName (l.drop i) (by have := HA.out; rw [hkl, List.take_length] at this; exact this), ← hkl])
        clear hkl
        go_wp2
        go_ret
        exact ⟨ret_n HE.out.symm, rfl⟩

/-- How many bytes a comment has. -/
def comS (m : Bytes) : Nat := if ([47, 47] : Bytes).isPrefixOf m = true then run inLine m else 0
theorem i_neq (c : UInt8) (n : Nat) (hn : n < 256) : ((c.toNat : Int) != (n : Int)) = !(c == UInt8.ofNat n) := by
  cases h : c == UInt8.ofNat n with
  | true =>
    have : c = UInt8.ofNat n := by simpa using h
    subst this
    rw [UInt8.toNat_ofNat_of_lt' (by simpa using hn)]; simp
  | false =>
    have h1 : c ≠ UInt8.ofNat n := by simpa using h
    have : ((c.toNat : Int) != (n : Int)) = true := by
      rw [bne_iff_ne]
      intro e
      apply h1
      apply UInt8.toNat_inj.1
      rw [UInt8.toNat_ofNat_of_lt' (by simpa using hn)]
      omega
    rw [this]; rfl
set_option maxHeartbeats 2000000 in
theorem refcomment_any (l : Bytes) (hl : l.length ≤ 100000) (i : Nat) (hi : i < l.length) (w : World) : Calls Tryd.prog 14 #[.string (bs l), .int .i64 (i : Int)] w fun e w' => e = .returned (.int .i64 (comS (l.drop i) : Int)) ∧ ∃ n, w' = w.drewN n := by
  have hadd1 : IntKind.i64.wrap ((i : Int) + 1) = ((i + 1 : Nat) : Int) := by rw [show (i : Int) + 1 = ((i + 1 : Nat) : Int) by omega]; exact IntWalk.i64_in _ (by omega)
  have x1 : (i : Int) < (l.length : Int) := by omega
  by_cases h2 : i + 1 < l.length
  · have dg1 : decide ((l.length : Int) ≤ ((i + 1 : Nat) : Int)) = false := by rw [decide_eq_false_iff_not]; omega
    have dg2 : decide (l.length ≤ i + 1) = false := by rw [decide_eq_false_iff_not]; omega
    have x2 : ((i + 1 : Nat) : Int) < (l.length : Int) := by omega
    have hm : l.drop i = l[i] :: l[i + 1] :: l.drop (i + 2) := by rw [← List.getElem_cons_drop hi, ← List.getElem_cons_drop h2]
    have hc : comS (l.drop i) = if (l[i] == 47) && (l[i + 1] == 47) then run inLine (l.drop i) else 0 := by
      unfold comS
      have : ([47, 47] : Bytes).isPrefixOf (l.drop i) = ((l[i] == 47) && (l[i + 1] == 47)) := by
        rw [hm]
        simp only [List.isPrefixOf, Bool.and_true]
        rw [show ((47 : UInt8) == l[i]) = (l[i] == 47) from Bool.beq_comm, show ((47 : UInt8) == l[i + 1]) = (l[i + 1] == 47) from Bool.beq_comm]
      rw [this]
    have n1 : ((l[i].toNat : Int) != 47) = !(l[i] == 47) := i_neq l[i] 47 (by omega)
    have n2 : ((l[i + 1].toNat : Int) != 47) = !(l[i + 1] == 47) := i_neq l[i + 1] 47 (by omega)
    have HM := Lib.hid hm
    have HC := Lib.hid hc
    have a1 : Hid ((l[i] == 47) = true → (l[i + 1] == 47) = true → ((l.drop i).take 2).all inLine = true) := Lib.hid (fun h h' => by
      have e1 : l[i] = 47 := by simpa using h
      have e2 : l[i + 1] = 47 := by simpa using h'
      rw [hm, e1, e2]; rfl)
    clear hm hc
    generalize (l[i] == (47 : UInt8)) = b1 at *
    generalize (l[i + 1] == (47 : UInt8)) = b2 at *
    cases b1 with
    | false =>
      have HE : Hid ((comS (l.drop i) : Int) = 0) := Lib.hid (by rw [HC.out]; rfl)
      simp only [Bool.not_false] at n1
      go_enter Tryd.func14, Tryd.ntmps14
      go_wp2
      go_ret
      exact ⟨ret_n HE.out.symm, 0, rfl⟩
    | true =>
      simp only [Bool.not_true] at n1
      cases b2 with
      | false =>
        have HE : Hid ((comS (l.drop i) : Int) = 0) := Lib.hid (by rw [HC.out]; rfl)
        simp only [Bool.not_false] at n2
        go_enter Tryd.func14, Tryd.ntmps14
        go_wp2
        go_ret
        exact ⟨ret_n HE.out.symm, 0, rfl⟩
      | true =>
        simp only [Bool.not_true] at n2
        have A1 := Lib.hid (a1.out rfl rfl)
        have HE0 : Hid (comS (l.drop i) = run inLine (l.drop i)) := Lib.hid (by rw [HC.out]; rfl)
        clear a1
        go_enter Tryd.func14, Tryd.ntmps14
        go_wp2
        go_loopg [5] (l.length + 1) (fun g u wr => ∃ k : Nat, u = .int .i64 k ∧ i + k ≤ l.length ∧ l.length - i - k < g ∧ ((l.drop i).take k).all inLine = true ∧ wr = w)
        case atStart => exact ⟨2, rfl, by omega, by omega, A1.out, rfl⟩
        case round =>
          obtain ⟨k, rfl, hk, hg, ha, rfl⟩ := hrel
          have HA := Lib.hid ha
          clear ha
          have hadd : IntKind.i64.wrap ((i : Int) + (k : Int)) = ((i + k : Nat) : Int) := by rw [show (i : Int) + (k : Int) = ((i + k : Nat) : Int) by omega]; exact IntWalk.i64_in _ (by omega)
          cases gk with
          | zero => omega
          | succ gg =>
            by_cases hlt : i + k < l.length
            · have d1 : decide (i + k < l.length) = true := by simpa using hlt
              have d2 : decide (((i + k : Nat) : Int) < (l.length : Int)) = true := by rw [decide_eq_true_eq]; omega
              have x3 : ((i + k : Nat) : Int) < (l.length : Int) := by omega
              have hkd : k < (l.drop i).length := by rw [List.length_drop]; omega
              have HS := Lib.hid (all_take_succ inLine (l.drop i) k hkd)
              have HG := Lib.hid (drop_get l i k hlt)
              have HAT := fun h2 => run_at inLine (l.drop i) k hkd HA.out h2
              have HB : Hid (inLine (l.drop i)[k] = ((l[i + k].toNat : Int) != 10)) := Lib.hid (by rw [HG.out]; rfl)
              generalize hbb : ((l[i + k].toNat : Int) != 10) = bd at *
              cases bd with
              | true =>
                have HI : Hid (((l.drop i).take (k + 1)).all inLine = true) := Lib.hid (by rw [HS.out, HA.out, HB.out]; rfl)
                clear HAT HS HG HB
                go_wp2
                go_roundg gg
                case rel => exact ⟨k + 1, rfl, by omega, by omega, HI.out, rfl⟩
                case measure => omega
              | false =>
                have HE : Hid ((comS (l.drop i) : Int) = (k : Int)) := Lib.hid (by rw [HE0.out, HAT HB.out])
                clear HAT HS HG HB
                go_wp2
                go_ret
                exact ⟨ret_n HE.out.symm, 0, rfl⟩
            · have d1 : decide (i + k < l.length) = false := by simpa using hlt
              have d2 : decide (((i + k : Nat) : Int) < (l.length : Int)) = false := by rw [decide_eq_false_iff_not]; omega
              have hkl : k = (l.drop i).length := by rw [List.length_drop]; omega
              have HE : Hid ((comS (l.drop i) : Int) = (k : Int)) := Lib.hid (by rw [HE0.out, run_all inLine (l.drop i) (by have := HA.out; rw [hkl, List.take_length] at this; exact this), ← hkl])
              clear hkl
              go_wp2
              go_ret
              exact ⟨ret_n HE.out.symm, 0, rfl⟩
  · have dg1 : decide ((l.length : Int) ≤ ((i + 1 : Nat) : Int)) = true := by rw [decide_eq_true_eq]; omega
    have dg2 : decide (l.length ≤ i + 1) = true := by rw [decide_eq_true_eq]; omega
    have HE : Hid ((comS (l.drop i) : Int) = 0) := Lib.hid (by
      have hlen : (l.drop i).length = 1 := by rw [List.length_drop]; omega
      unfold comS
      rw [if_neg]
      · rfl
      · intro h
        have := isPrefix_len h
        rw [hlen] at this
        simp at this)
    go_enter Tryd.func14, Tryd.ntmps14
    go_wp2
    go_ret
    exact ⟨ret_n HE.out.symm, 0, rfl⟩

theorem refbase_any (c : UInt8) (r : Bytes) (w : World) : Calls Tryd.prog 58 #[.int .u8 (c.toNat : Int)] w fun e w' => e = .returned (.int .u64 ((rbS (c :: r)).1 : Int)) ∧ w' = w := by
  by_cases h1 : ((c.toNat : Int) == 104) = true
  · have HE : Hid ((rbS (c :: r)).1 = 16) := Lib.hid (by unfold rbS; simp only; rw [if_pos h1])
    have g1 : (c.toNat == 104) = true := by rw [beq_iff_eq] at h1 ⊢; omega
    go_enter Tryd.func58, Tryd.ntmps58
    go_wp2
    go_ret
    exact ⟨by rw [HE.out]; rfl, rfl⟩
  · have h1' : ((c.toNat : Int) == 104) = false := by simpa using h1
    have g1 : (c.toNat == 104) = false := by rw [beq_eq_false_iff_ne] at h1' ⊢; omega
    by_cases h2 : ((c.toNat : Int) == 100) = true
    · have HE : Hid ((rbS (c :: r)).1 = 10) := Lib.hid (by unfold rbS; simp only; rw [if_neg h1, if_pos h2])
      have g2 : (c.toNat == 100) = true := by rw [beq_iff_eq] at h2 ⊢; omega
      clear h1
      go_enter Tryd.func58, Tryd.ntmps58
      go_wp2
      go_ret
      exact ⟨by rw [HE.out]; rfl, rfl⟩
    · have h2' : ((c.toNat : Int) == 100) = false := by simpa using h2
      have g2 : (c.toNat == 100) = false := by rw [beq_eq_false_iff_ne] at h2' ⊢; omega
      by_cases h3 : ((c.toNat : Int) == 98) = true
      · have HE : Hid ((rbS (c :: r)).1 = 2) := Lib.hid (by unfold rbS; simp only; rw [if_neg h1, if_neg h2, if_pos h3])
        have g3 : (c.toNat == 98) = true := by rw [beq_iff_eq] at h3 ⊢; omega
        clear h1 h2
        go_enter Tryd.func58, Tryd.ntmps58
        go_wp2
        go_ret
        exact ⟨by rw [HE.out]; rfl, rfl⟩
      · have h3' : ((c.toNat : Int) == 98) = false := by simpa using h3
        have g3 : (c.toNat == 98) = false := by rw [beq_eq_false_iff_ne] at h3' ⊢; omega
        have HE : Hid ((rbS (c :: r)).1 = 0) := Lib.hid (by unfold rbS; simp only; rw [if_neg h1, if_neg h2, if_neg h3])
        clear h1 h2 h3
        go_enter Tryd.func58, Tryd.ntmps58
        go_wp2
        go_ret
        exact ⟨by rw [HE.out]; rfl, rfl⟩
end Go.Proofs.YtigdegjhajdmhaaDoor
