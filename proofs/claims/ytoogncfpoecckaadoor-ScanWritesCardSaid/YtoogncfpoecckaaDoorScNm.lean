/-
  The reference: Name.
-/
import Derived.Test.YtoogncfpoecckaaDoorScRn
import Derived.Test.YtoogncfpoecckaaDoorScAm
namespace Go.Proofs.YtoogncfpoecckaaDoor
open Go Go.RowKit
set_option linter.unusedVariables false
set_option linter.unusedSimpArgs false
open Go.Sort

set_option maxHeartbeats 2000000 in
theorem refName_any (l : Bytes) (hl : l.length ≤ 70000) (w : World) : Calls Tryd.prog 32 #[.string (bs l)] w fun e w' => e = .returned (.bool (isNameB l)) ∧ ∃ n, w' = w.drewN n := by
  cases l with
  | nil =>
    go_enter Tryd.func32, Tryd.ntmps32
    go_wp2
    go_ret
    exact ⟨rfl, 0, rfl⟩
  | cons c t =>
    have hle := refletter_any c
    obtain ⟨l, hl0⟩ : ∃ l, c :: t = l := ⟨_, rfl⟩
    have HI : Hid (isNameB l = (letter c && (decide (l.length ≤ 64) && (l.all inName && !isWord l)))) := Lib.hid (by rw [← hl0]; rfl)
    have hz : 0 < l.length := by rw [← hl0]; simp
    have hc0 : ∀ h : 0 < l.length, l[0] = c := by subst hl0; intro h; rfl
    have hc1 := hc0 hz
    have dz : decide (0 < l.length) = true := by simpa using hz
    have dz2 : decide ((0 : Int) < (l.length : Int)) = true := by rw [decide_eq_true_eq]; omega
    have hru := refrun_any l (by rw [← hl0]; omega)
    have hfu := run_full inName l
    have hwo := refWord_any l (by rw [← hl0]; omega)
    rw [hl0] at hl ⊢
    clear hl0 hc0
    generalize run inName l = n at *
    by_cases h64 : l.length ≤ 64
    · have d1 : decide (l.length ≤ 64) = true := by simpa using h64
      have d2 : decide ((l.length : Int) ≤ 64) = true := by rw [decide_eq_true_eq]; omega
      cases ha : letter c with
      | false =>
        rw [ha] at hle HI
        have HE : Hid (isNameB l = false) := Lib.hid (by rw [HI.out]; rfl)
        clear ha hfu
        go_enter Tryd.func32, Tryd.ntmps32
        go_wp2_with fail
        refine (hle _).mono ?_
        rintro e1 w1 ⟨rfl, rfl⟩
        go_wp2
        go_ret
        exact ⟨ret_b HE.out.symm, 0, rfl⟩
      | true =>
        rw [ha] at hle HI
        clear ha
        cases hall : l.all inName with
        | false =>
          rw [hall] at hfu
          have HE : Hid (isNameB l = false) := Lib.hid (by rw [HI.out, d1, hall]; rfl)
          clear hall
          go_enter Tryd.func32, Tryd.ntmps32
          go_wp2_with fail
          refine (hle _).mono ?_
          rintro e1 w1 ⟨rfl, rfl⟩
          go_wp2_with fail
          refine (hru _).mono ?_
          rintro e2 w2 ⟨rfl, n2, rfl⟩
          go_wp2
          go_ret
          exact ⟨ret_b HE.out.symm, _, rfl⟩
        | true =>
          rw [hall] at hfu
          cases hw : isWord l with
          | false =>
            rw [hw] at hwo
            have HE : Hid (isNameB l = true) := Lib.hid (by rw [HI.out, d1, hall, hw]; rfl)
            clear hall hw
            go_enter Tryd.func32, Tryd.ntmps32
            go_wp2_with fail
            refine (hle _).mono ?_
            rintro e1 w1 ⟨rfl, rfl⟩
            go_wp2_with fail
            refine (hru _).mono ?_
            rintro e2 w2 ⟨rfl, n2, rfl⟩
            go_wp2_with fail
            refine (hwo _).mono ?_
            rintro e3 w3 ⟨rfl, n3, rfl⟩
            go_wp2
            go_ret
            exact ⟨ret_b HE.out.symm, n2 + n3, by simp [World.drewN_drewN]⟩
          | true =>
            rw [hw] at hwo
            have HE : Hid (isNameB l = false) := Lib.hid (by rw [HI.out, d1, hall, hw]; rfl)
            clear hall hw
            go_enter Tryd.func32, Tryd.ntmps32
            go_wp2_with fail
            refine (hle _).mono ?_
            rintro e1 w1 ⟨rfl, rfl⟩
            go_wp2_with fail
            refine (hru _).mono ?_
            rintro e2 w2 ⟨rfl, n2, rfl⟩
            go_wp2_with fail
            refine (hwo _).mono ?_
            rintro e3 w3 ⟨rfl, n3, rfl⟩
            go_wp2
            go_ret
            exact ⟨ret_b HE.out.symm, n2 + n3, by simp [World.drewN_drewN]⟩
    · have d1 : decide (l.length ≤ 64) = false := by simpa using h64
      have d2 : decide ((l.length : Int) ≤ 64) = false := by rw [decide_eq_false_iff_not]; omega
      have HE : Hid (isNameB l = false) := Lib.hid (by rw [HI.out, d1]; simp)
      clear hfu
      go_enter Tryd.func32, Tryd.ntmps32
      go_wp2
      go_ret
      exact ⟨ret_b HE.out.symm, 0, rfl⟩
end Go.Proofs.YtoogncfpoecckaaDoor
