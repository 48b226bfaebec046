/-
  The reference: Check.
-/
import Derived.Test.YtoogncfpoecckaaDoorScNm
import Derived.Test.YtoogncfpoecckaaDoorScSg
import Derived.Test.YtoogncfpoecckaaDoorScFt
namespace Go.Proofs.YtoogncfpoecckaaDoor
open Go Go.RowKit
set_option linter.unusedVariables false
set_option linter.unusedSimpArgs false
open Go.Sort

set_option maxHeartbeats 8000000 in
theorem refCheck_any (k : Int) (s : Bytes) (W : Int) (V : Nat) (at0 : Int) (hs : s.length ≤ 70000) (hV : V < 18446744073709551616) (w : World) : Calls Tryd.prog 18 #[.agg #[.int .i64 k, .string (bs s), .int .i64 W, .int .u64 (V : Int), .int .i64 at0]] w fun e w' => e = .returned (.int .i64 (checkS k s W V at0)) ∧ Below w.heap.size w w' := by
  have hho := fits_any W V hV
  have HV := Lib.hid hV
  clear hV
  have hna := refName_any s hs
  have hwo := refWord_any s (by omega)
  have hsi := refSign_any s (by omega)
  rw [among_signs] at hsi
  have HI : Hid (checkS k s W V at0 = if decide (at0 < 0) || !(if k = 1 then ((W == 0) && ((V : Int) == 0)) && isNameB s else if k = 2 then ((W == 0) && ((V : Int) == 0)) && isWord s else if k = 4 then ((W == 0) && ((V : Int) == 0)) && isSignB s else if k = 3 then s.isEmpty && ((W == 0) || holdsI W V) else false) then 1 else 0) := Lib.hid rfl
  generalize isNameB s = bn at *
  generalize isWord s = bw at *
  generalize isSignB s = bg at *
  generalize holdsI W V = bh at *
  generalize checkS k s W V at0 = R at *
  by_cases h0 : at0 < 0
  · have d0 : decide (at0 < 0) = true := by simpa using h0
    have d1 : decide (0 ≤ at0) = false := by rw [decide_eq_false_iff_not]; omega
    by_cases k1 : k = 1
    · skip
      subst k1
      cases cW : (W == 0) with
      | true =>
        cases cV : ((V : Int) == 0) with
        | true =>
          cases bn with
          | true =>
            have HE : Hid (R = 1) := Lib.hid (by rw [HI.out]; simp [*])
            go_enter Tryd.func18, Tryd.ntmps18
            go_wp2_with fail
            refine (hna _).mono ?_
            rintro e1 w1 ⟨rfl, n, rfl⟩
            go_wp2
            go_ret
            exact ⟨ret_n HE.out.symm, below_drewN ((Below.refl _ _).alloc (Nat.le_refl _) _) _⟩
          | false =>
            have HE : Hid (R = 1) := Lib.hid (by rw [HI.out]; simp [*])
            go_enter Tryd.func18, Tryd.ntmps18
            go_wp2_with fail
            refine (hna _).mono ?_
            rintro e1 w1 ⟨rfl, n, rfl⟩
            go_wp2
            go_ret
            exact ⟨ret_n HE.out.symm, below_drewN ((Below.refl _ _).alloc (Nat.le_refl _) _) _⟩
        | false =>
          have HE : Hid (R = 1) := Lib.hid (by rw [HI.out]; simp [*])
          go_enter Tryd.func18, Tryd.ntmps18
          go_wp2
          go_ret
          exact ⟨ret_n HE.out.symm, ((Below.refl _ _).alloc (Nat.le_refl _) _)⟩
      | false =>
        have HE : Hid (R = 1) := Lib.hid (by rw [HI.out]; simp [*])
        go_enter Tryd.func18, Tryd.ntmps18
        go_wp2
        go_ret
        exact ⟨ret_n HE.out.symm, ((Below.refl _ _).alloc (Nat.le_refl _) _)⟩
    · skip
      have n1 : (k == 1) = false := by rw [beq_eq_false_iff_ne]; exact k1
      by_cases k2 : k = 2
      · skip
        subst k2
        cases cW : (W == 0) with
        | true =>
          cases cV : ((V : Int) == 0) with
          | true =>
            cases bw with
            | true =>
              have HE : Hid (R = 1) := Lib.hid (by rw [HI.out]; simp [*])
              go_enter Tryd.func18, Tryd.ntmps18
              go_wp2_with fail
              refine (hwo _).mono ?_
              rintro e1 w1 ⟨rfl, n, rfl⟩
              go_wp2
              go_ret
              exact ⟨ret_n HE.out.symm, below_drewN ((Below.refl _ _).alloc (Nat.le_refl _) _) _⟩
            | false =>
              have HE : Hid (R = 1) := Lib.hid (by rw [HI.out]; simp [*])
              go_enter Tryd.func18, Tryd.ntmps18
              go_wp2_with fail
              refine (hwo _).mono ?_
              rintro e1 w1 ⟨rfl, n, rfl⟩
              go_wp2
              go_ret
              exact ⟨ret_n HE.out.symm, below_drewN ((Below.refl _ _).alloc (Nat.le_refl _) _) _⟩
          | false =>
            have HE : Hid (R = 1) := Lib.hid (by rw [HI.out]; simp [*])
            go_enter Tryd.func18, Tryd.ntmps18
            go_wp2
            go_ret
            exact ⟨ret_n HE.out.symm, ((Below.refl _ _).alloc (Nat.le_refl _) _)⟩
        | false =>
          have HE : Hid (R = 1) := Lib.hid (by rw [HI.out]; simp [*])
          go_enter Tryd.func18, Tryd.ntmps18
          go_wp2
          go_ret
          exact ⟨ret_n HE.out.symm, ((Below.refl _ _).alloc (Nat.le_refl _) _)⟩
      · skip
        have n2 : (k == 2) = false := by rw [beq_eq_false_iff_ne]; exact k2
        by_cases k4 : k = 4
        · skip
          subst k4
          cases cW : (W == 0) with
          | true =>
            cases cV : ((V : Int) == 0) with
            | true =>
              cases bg with
              | true =>
                have HE : Hid (R = 1) := Lib.hid (by rw [HI.out]; simp [*])
                go_enter Tryd.func18, Tryd.ntmps18
                go_wp2_with fail
                refine (hsi _).mono ?_
                rintro e1 w1 ⟨rfl, n, rfl⟩
                go_wp2
                go_ret
                exact ⟨ret_n HE.out.symm, below_drewN ((Below.refl _ _).alloc (Nat.le_refl _) _) _⟩
              | false =>
                have HE : Hid (R = 1) := Lib.hid (by rw [HI.out]; simp [*])
                go_enter Tryd.func18, Tryd.ntmps18
                go_wp2_with fail
                refine (hsi _).mono ?_
                rintro e1 w1 ⟨rfl, n, rfl⟩
                go_wp2
                go_ret
                exact ⟨ret_n HE.out.symm, below_drewN ((Below.refl _ _).alloc (Nat.le_refl _) _) _⟩
            | false =>
              have HE : Hid (R = 1) := Lib.hid (by rw [HI.out]; simp [*])
              go_enter Tryd.func18, Tryd.ntmps18
              go_wp2
              go_ret
              exact ⟨ret_n HE.out.symm, ((Below.refl _ _).alloc (Nat.le_refl _) _)⟩
          | false =>
            have HE : Hid (R = 1) := Lib.hid (by rw [HI.out]; simp [*])
            go_enter Tryd.func18, Tryd.ntmps18
            go_wp2
            go_ret
            exact ⟨ret_n HE.out.symm, ((Below.refl _ _).alloc (Nat.le_refl _) _)⟩
        · skip
          have n4 : (k == 4) = false := by rw [beq_eq_false_iff_ne]; exact k4
          by_cases k3 : k = 3
          · skip
            subst k3
            cases cS : s.isEmpty with
            | true =>
              have eS : s = [] := by simpa using cS
              subst eS
              cases cW : (W == 0) with
              | true =>
                cases cV : ((V : Int) == 0) with
                | true =>
                  have HE : Hid (R = 1) := Lib.hid (by rw [HI.out]; simp [*])
                  go_enter Tryd.func18, Tryd.ntmps18
                  go_wp2
                  go_ret
                  exact ⟨ret_n HE.out.symm, ((Below.refl _ _).alloc (Nat.le_refl _) _)⟩
                | false =>
                  have HE : Hid (R = 1) := Lib.hid (by rw [HI.out]; simp [*])
                  go_enter Tryd.func18, Tryd.ntmps18
                  go_wp2
                  go_ret
                  exact ⟨ret_n HE.out.symm, ((Below.refl _ _).alloc (Nat.le_refl _) _)⟩
              | false =>
                cases bh with
                | true =>
                  have HE : Hid (R = 1) := Lib.hid (by rw [HI.out]; simp [*])
                  go_enter Tryd.func18, Tryd.ntmps18
                  go_wp2_with fail
                  refine (hho _).mono ?_
                  rintro e1 w1 ⟨rfl, rfl⟩
                  go_wp2
                  go_ret
                  exact ⟨ret_n HE.out.symm, ((Below.refl _ _).alloc (Nat.le_refl _) _)⟩
                | false =>
                  have HE : Hid (R = 1) := Lib.hid (by rw [HI.out]; simp [*])
                  go_enter Tryd.func18, Tryd.ntmps18
                  go_wp2_with fail
                  refine (hho _).mono ?_
                  rintro e1 w1 ⟨rfl, rfl⟩
                  go_wp2
                  go_ret
                  exact ⟨ret_n HE.out.symm, ((Below.refl _ _).alloc (Nat.le_refl _) _)⟩
            | false =>
              have eS : (s == []) = false := by cases s <;> simp_all
              cases cW : (W == 0) with
              | true =>
                cases cV : ((V : Int) == 0) with
                | true =>
                  have HE : Hid (R = 1) := Lib.hid (by rw [HI.out]; simp [*])
                  go_enter Tryd.func18, Tryd.ntmps18
                  go_wp2
                  go_ret
                  exact ⟨ret_n HE.out.symm, ((Below.refl _ _).alloc (Nat.le_refl _) _)⟩
                | false =>
                  have HE : Hid (R = 1) := Lib.hid (by rw [HI.out]; simp [*])
                  go_enter Tryd.func18, Tryd.ntmps18
                  go_wp2
                  go_ret
                  exact ⟨ret_n HE.out.symm, ((Below.refl _ _).alloc (Nat.le_refl _) _)⟩
              | false =>
                have HE : Hid (R = 1) := Lib.hid (by rw [HI.out]; simp [*])
                go_enter Tryd.func18, Tryd.ntmps18
                go_wp2
                go_ret
                exact ⟨ret_n HE.out.symm, ((Below.refl _ _).alloc (Nat.le_refl _) _)⟩
          · skip
            have n3 : (k == 3) = false := by rw [beq_eq_false_iff_ne]; exact k3
            cases cW : (W == 0) with
            | true =>
              cases cV : ((V : Int) == 0) with
              | true =>
                have HE : Hid (R = 1) := Lib.hid (by rw [HI.out]; simp [*])
                go_enter Tryd.func18, Tryd.ntmps18
                go_wp2
                go_ret
                exact ⟨ret_n HE.out.symm, ((Below.refl _ _).alloc (Nat.le_refl _) _)⟩
              | false =>
                have HE : Hid (R = 1) := Lib.hid (by rw [HI.out]; simp [*])
                go_enter Tryd.func18, Tryd.ntmps18
                go_wp2
                go_ret
                exact ⟨ret_n HE.out.symm, ((Below.refl _ _).alloc (Nat.le_refl _) _)⟩
            | false =>
              have HE : Hid (R = 1) := Lib.hid (by rw [HI.out]; simp [*])
              go_enter Tryd.func18, Tryd.ntmps18
              go_wp2
              go_ret
              exact ⟨ret_n HE.out.symm, ((Below.refl _ _).alloc (Nat.le_refl _) _)⟩
  · have d0 : decide (at0 < 0) = false := by simpa using h0
    have d1 : decide (0 ≤ at0) = true := by rw [decide_eq_true_eq]; omega
    by_cases k1 : k = 1
    · skip
      subst k1
      cases cW : (W == 0) with
      | true =>
        cases cV : ((V : Int) == 0) with
        | true =>
          cases bn with
          | true =>
            have HE : Hid (R = 0) := Lib.hid (by rw [HI.out]; simp [*])
            go_enter Tryd.func18, Tryd.ntmps18
            go_wp2_with fail
            refine (hna _).mono ?_
            rintro e1 w1 ⟨rfl, n, rfl⟩
            go_wp2
            go_ret
            exact ⟨ret_n HE.out.symm, below_drewN ((Below.refl _ _).alloc (Nat.le_refl _) _) _⟩
          | false =>
            have HE : Hid (R = 1) := Lib.hid (by rw [HI.out]; simp [*])
            go_enter Tryd.func18, Tryd.ntmps18
            go_wp2_with fail
            refine (hna _).mono ?_
            rintro e1 w1 ⟨rfl, n, rfl⟩
            go_wp2
            go_ret
            exact ⟨ret_n HE.out.symm, below_drewN ((Below.refl _ _).alloc (Nat.le_refl _) _) _⟩
        | false =>
          have HE : Hid (R = 1) := Lib.hid (by rw [HI.out]; simp [*])
          go_enter Tryd.func18, Tryd.ntmps18
          go_wp2
          go_ret
          exact ⟨ret_n HE.out.symm, ((Below.refl _ _).alloc (Nat.le_refl _) _)⟩
      | false =>
        have HE : Hid (R = 1) := Lib.hid (by rw [HI.out]; simp [*])
        go_enter Tryd.func18, Tryd.ntmps18
        go_wp2
        go_ret
        exact ⟨ret_n HE.out.symm, ((Below.refl _ _).alloc (Nat.le_refl _) _)⟩
    · skip
      have n1 : (k == 1) = false := by rw [beq_eq_false_iff_ne]; exact k1
      by_cases k2 : k = 2
      · skip
        subst k2
        cases cW : (W == 0) with
        | true =>
          cases cV : ((V : Int) == 0) with
          | true =>
            cases bw with
            | true =>
              have HE : Hid (R = 0) := Lib.hid (by rw [HI.out]; simp [*])
              go_enter Tryd.func18, Tryd.ntmps18
              go_wp2_with fail
              refine (hwo _).mono ?_
              rintro e1 w1 ⟨rfl, n, rfl⟩
              go_wp2
              go_ret
              exact ⟨ret_n HE.out.symm, below_drewN ((Below.refl _ _).alloc (Nat.le_refl _) _) _⟩
            | false =>
              have HE : Hid (R = 1) := Lib.hid (by rw [HI.out]; simp [*])
              go_enter Tryd.func18, Tryd.ntmps18
              go_wp2_with fail
              refine (hwo _).mono ?_
              rintro e1 w1 ⟨rfl, n, rfl⟩
              go_wp2
              go_ret
              exact ⟨ret_n HE.out.symm, below_drewN ((Below.refl _ _).alloc (Nat.le_refl _) _) _⟩
          | false =>
            have HE : Hid (R = 1) := Lib.hid (by rw [HI.out]; simp [*])
            go_enter Tryd.func18, Tryd.ntmps18
            go_wp2
            go_ret
            exact ⟨ret_n HE.out.symm, ((Below.refl _ _).alloc (Nat.le_refl _) _)⟩
        | false =>
          have HE : Hid (R = 1) := Lib.hid (by rw [HI.out]; simp [*])
          go_enter Tryd.func18, Tryd.ntmps18
          go_wp2
          go_ret
          exact ⟨ret_n HE.out.symm, ((Below.refl _ _).alloc (Nat.le_refl _) _)⟩
      · skip
        have n2 : (k == 2) = false := by rw [beq_eq_false_iff_ne]; exact k2
        by_cases k4 : k = 4
        · skip
          subst k4
          cases cW : (W == 0) with
          | true =>
            cases cV : ((V : Int) == 0) with
            | true =>
              cases bg with
              | true =>
                have HE : Hid (R = 0) := Lib.hid (by rw [HI.out]; simp [*])
                go_enter Tryd.func18, Tryd.ntmps18
                go_wp2_with fail
                refine (hsi _).mono ?_
                rintro e1 w1 ⟨rfl, n, rfl⟩
                go_wp2
                go_ret
                exact ⟨ret_n HE.out.symm, below_drewN ((Below.refl _ _).alloc (Nat.le_refl _) _) _⟩
              | false =>
                have HE : Hid (R = 1) := Lib.hid (by rw [HI.out]; simp [*])
                go_enter Tryd.func18, Tryd.ntmps18
                go_wp2_with fail
                refine (hsi _).mono ?_
                rintro e1 w1 ⟨rfl, n, rfl⟩
                go_wp2
                go_ret
                exact ⟨ret_n HE.out.symm, below_drewN ((Below.refl _ _).alloc (Nat.le_refl _) _) _⟩
            | false =>
              have HE : Hid (R = 1) := Lib.hid (by rw [HI.out]; simp [*])
              go_enter Tryd.func18, Tryd.ntmps18
              go_wp2
              go_ret
              exact ⟨ret_n HE.out.symm, ((Below.refl _ _).alloc (Nat.le_refl _) _)⟩
          | false =>
            have HE : Hid (R = 1) := Lib.hid (by rw [HI.out]; simp [*])
            go_enter Tryd.func18, Tryd.ntmps18
            go_wp2
            go_ret
            exact ⟨ret_n HE.out.symm, ((Below.refl _ _).alloc (Nat.le_refl _) _)⟩
        · skip
          have n4 : (k == 4) = false := by rw [beq_eq_false_iff_ne]; exact k4
          by_cases k3 : k = 3
          · skip
            subst k3
            cases cS : s.isEmpty with
            | true =>
              have eS : s = [] := by simpa using cS
              subst eS
              cases cW : (W == 0) with
              | true =>
                cases cV : ((V : Int) == 0) with
                | true =>
                  have HE : Hid (R = 0) := Lib.hid (by rw [HI.out]; simp [*])
                  go_enter Tryd.func18, Tryd.ntmps18
                  go_wp2
                  go_ret
                  exact ⟨ret_n HE.out.symm, ((Below.refl _ _).alloc (Nat.le_refl _) _)⟩
                | false =>
                  have HE : Hid (R = 0) := Lib.hid (by rw [HI.out]; simp [*])
                  go_enter Tryd.func18, Tryd.ntmps18
                  go_wp2
                  go_ret
                  exact ⟨ret_n HE.out.symm, ((Below.refl _ _).alloc (Nat.le_refl _) _)⟩
              | false =>
                cases bh with
                | true =>
                  have HE : Hid (R = 0) := Lib.hid (by rw [HI.out]; simp [*])
                  go_enter Tryd.func18, Tryd.ntmps18
                  go_wp2_with fail
                  refine (hho _).mono ?_
                  rintro e1 w1 ⟨rfl, rfl⟩
                  go_wp2
                  go_ret
                  exact ⟨ret_n HE.out.symm, ((Below.refl _ _).alloc (Nat.le_refl _) _)⟩
                | false =>
                  have HE : Hid (R = 1) := Lib.hid (by rw [HI.out]; simp [*])
                  go_enter Tryd.func18, Tryd.ntmps18
                  go_wp2_with fail
                  refine (hho _).mono ?_
                  rintro e1 w1 ⟨rfl, rfl⟩
                  go_wp2
                  go_ret
                  exact ⟨ret_n HE.out.symm, ((Below.refl _ _).alloc (Nat.le_refl _) _)⟩
            | false =>
              have eS : (s == []) = false := by cases s <;> simp_all
              cases cW : (W == 0) with
              | true =>
                cases cV : ((V : Int) == 0) with
                | true =>
                  have HE : Hid (R = 1) := Lib.hid (by rw [HI.out]; simp [*])
                  go_enter Tryd.func18, Tryd.ntmps18
                  go_wp2
                  go_ret
                  exact ⟨ret_n HE.out.symm, ((Below.refl _ _).alloc (Nat.le_refl _) _)⟩
                | false =>
                  have HE : Hid (R = 1) := Lib.hid (by rw [HI.out]; simp [*])
                  go_enter Tryd.func18, Tryd.ntmps18
                  go_wp2
                  go_ret
                  exact ⟨ret_n HE.out.symm, ((Below.refl _ _).alloc (Nat.le_refl _) _)⟩
              | false =>
                have HE : Hid (R = 1) := Lib.hid (by rw [HI.out]; simp [*])
                go_enter Tryd.func18, Tryd.ntmps18
                go_wp2
                go_ret
                exact ⟨ret_n HE.out.symm, ((Below.refl _ _).alloc (Nat.le_refl _) _)⟩
          · skip
            have n3 : (k == 3) = false := by rw [beq_eq_false_iff_ne]; exact k3
            cases cW : (W == 0) with
            | true =>
              cases cV : ((V : Int) == 0) with
              | true =>
                have HE : Hid (R = 1) := Lib.hid (by rw [HI.out]; simp [*])
                go_enter Tryd.func18, Tryd.ntmps18
                go_wp2
                go_ret
                exact ⟨ret_n HE.out.symm, ((Below.refl _ _).alloc (Nat.le_refl _) _)⟩
              | false =>
                have HE : Hid (R = 1) := Lib.hid (by rw [HI.out]; simp [*])
                go_enter Tryd.func18, Tryd.ntmps18
                go_wp2
                go_ret
                exact ⟨ret_n HE.out.symm, ((Below.refl _ _).alloc (Nat.le_refl _) _)⟩
            | false =>
              have HE : Hid (R = 1) := Lib.hid (by rw [HI.out]; simp [*])
              go_enter Tryd.func18, Tryd.ntmps18
              go_wp2
              go_ret
              exact ⟨ret_n HE.out.symm, ((Below.refl _ _).alloc (Nat.le_refl _) _)⟩
end Go.Proofs.YtoogncfpoecckaaDoor
