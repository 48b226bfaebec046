/-
  The reference: run.
-/
import Derived.Test.YtoogncfpoecckaaDoorScMb
import Derived.Deep.LoopGhost
namespace Go.Proofs.YtoogncfpoecckaaDoor
open Go Go.RowKit
set_option linter.unusedVariables false
set_option linter.unusedSimpArgs false
open Go.Sort

set_option maxHeartbeats 1000000 in
theorem refrun_any (l : Bytes) (hl : l.length ≤ 100000) (w : World) : Calls Tryd.prog 52 #[.string (bs l), .int .i64 0] w fun e w' => e = .returned (.int .i64 (run inName l : Int)) ∧ ∃ n, w' = w.drewN n := by
  go_enter Tryd.func52, Tryd.ntmps52
  go_wp2
  go_loopg [5] (l.length + 1) (fun g u wr => ∃ k : Nat, u = .int .i64 k ∧ k ≤ l.length ∧ l.length - k < g ∧ (l.take k).all inName = true ∧ ∃ n, wr = w.drewN n)
  case atStart => exact ⟨0, rfl, Nat.zero_le _, by omega, rfl, 0, rfl⟩
  case round =>
    obtain ⟨k, rfl, hk, hg, ha, nd, rfl⟩ := hrel
    have HA := Lib.hid ha
    clear ha
    cases gk with
    | zero => omega
    | succ gg =>
      by_cases hlt : k < l.length
      · have d1 : decide (k < l.length) = true := by simpa using hlt
        have d2 : decide ((k : Int) < (l.length : Int)) = true := by rw [decide_eq_true_eq]; omega
        have HS := Lib.hid (all_take_succ inName l k hlt)
        have hL := fun w => refletter_any l[k] w
        have hD := fun w => refdigit_any l[k] w
        have hN : Hid (inName l[k] = (letter l[k] || digit l[k])) := Lib.hid rfl
        have HAT := fun h2 => run_at inName l k hlt HA.out h2
        generalize letter l[k] = bl at *
        generalize digit l[k] = bd at *
        cases bl with
        | true =>
          have HI : Hid ((l.take (k + 1)).all inName = true) := Lib.hid (by rw [HS.out, HA.out, hN.out]; rfl)
          clear HAT HS hN
          go_wp2_with fail
          refine (hL _).mono ?_
          rintro e1 w1 ⟨rfl, rfl⟩
          go_wp2
          go_roundg gg
          case rel => exact ⟨k + 1, rfl, by omega, by omega, HI.out, nd, rfl⟩
          case measure => omega
        | false =>
          cases bd with
          | true =>
            have HI : Hid ((l.take (k + 1)).all inName = true) := Lib.hid (by rw [HS.out, HA.out, hN.out]; rfl)
            clear HAT HS hN
            go_wp2_with fail
            refine (hL _).mono ?_
            rintro e1 w1 ⟨rfl, rfl⟩
            go_wp2_with fail
            refine (hD _).mono ?_
            rintro e1 w1 ⟨rfl, rfl⟩
            go_wp2
            go_roundg gg
            case rel => exact ⟨k + 1, rfl, by omega, by omega, HI.out, nd, rfl⟩
            case measure => omega
          | false =>
            have HE : Hid ((run inName l : Int) = (k : Int)) := Lib.hid (by rw [HAT (by rw [hN.out]; rfl)])
            clear HAT HS hN
            go_wp2_with fail
            refine (hL _).mono ?_
            rintro e1 w1 ⟨rfl, rfl⟩
            go_wp2_with fail
            refine (hD _).mono ?_
            rintro e1 w1 ⟨rfl, rfl⟩
            go_wp2
            go_ret
            exact ⟨ret_n HE.out.symm, nd, rfl⟩
      · have d1 : decide (k < l.length) = false := by simpa using hlt
        have d2 : decide ((k : Int) < (l.length : Int)) = false := by rw [decide_eq_false_iff_not]; omega
        have hkl : k = l.length := by omega
        have HE : Hid ((run inName l : Int) = (k : Int)) := Lib.hid (by rw [run_all inName l (by have := HA.out; rw [hkl, List.take_length] at this; exact this), hkl])
        clear hkl
        go_wp2
        go_ret
        exact ⟨ret_n HE.out.symm, nd, rfl⟩
end Go.Proofs.YtoogncfpoecckaaDoor
