/-
  Contracts: mayBe, Check.
-/
import Derived.Test.YtiipjbafdhijlaaGreatDoorScCk
namespace Go.Proofs.YtiipjbafdhijlaaGreatDoor
open Go Go.RowKit
set_option linter.unusedVariables false
open Go.Sort

/-- May a token be, wherever it stands? -/
def mayB (k : Int) (s : Bytes) (W : Int) (V : Nat) : Bool :=
  if k = 1 then ((W == 0) && ((V : Int) == 0)) && isNameB s
  else if k = 2 then ((W == 0) && ((V : Int) == 0)) && isWord s
  else if k = 4 then ((W == 0) && ((V : Int) == 0)) && isSignB s
  else if k = 3 then s.isEmpty && ((W == 0) || holdsI W V)
  else false

set_option maxHeartbeats 8000000 in
theorem mayBe_any (k : Int) (s : Bytes) (W : Int) (V : Nat) (at0 : Int) (hs : s.length ≤ 6000000) (hV : V < 18446744073709551616) (w : World) (he : Env w) : Calls Tryz.prog 155 #[.agg #[.int .i64 k, .string (bs s), .int .i64 W, .int .u64 (V : Int), .int .i64 at0]] w fun e w' => e = .returned (.bool (mayB k s W V)) ∧ Below w.heap.size w w' := by
  have hho := holds_any W V hV
  have HV := Lib.hid hV
  clear hV
  have hea := he.alloc (.cells #[.int .i64 k, .string (bs s), .int .i64 W, .int .u64 (V : Int), .int .i64 at0] 168)
  obtain ⟨m, hm⟩ := hea.most
  have hg := hea.signs
  have hna := fun (w : World) hm => isName_any s hs m w hm
  have hwo := fun (w : World) hm => word_any s hs m w hm
  have hsi := fun (w : World) hg => isSign_any s hs w hg
  have HM := Lib.hid hm
  have HG := Lib.hid hg
  have HI : Hid (mayB k s W V = if k = 1 then ((W == 0) && ((V : Int) == 0)) && isNameB s else if k = 2 then ((W == 0) && ((V : Int) == 0)) && isWord s else if k = 4 then ((W == 0) && ((V : Int) == 0)) && isSignB s else if k = 3 then s.isEmpty && ((W == 0) || holdsI W V) else false) := Lib.hid rfl
  generalize isNameB s = bn at *
  generalize isWord s = bw at *
  generalize isSignB s = bg at *
  generalize holdsI W V = bh at *
  generalize mayB k s W V = R at *
  clear hm hg hea he
  by_cases k1 : k = 1
  · skip
    subst k1
    cases cW : (W == 0) with
    | true =>
      cases cV : ((V : Int) == 0) with
      | true =>
        have HE : Hid (R = bn) := Lib.hid (by rw [HI.out]; simp [*])
        clear hho
        go_enter Tryz.func155, Tryz.ntmps155
        go_wp2_with fail
        refine (hna _ HM.out).mono ?_
        rintro e1 w1 ⟨rfl, rfl⟩
        go_wp2
        go_ret
        exact ⟨ret_b HE.out.symm, (Below.refl _ _).alloc (Nat.le_refl _) _⟩
      | false =>
        have HE : Hid (R = false) := Lib.hid (by rw [HI.out]; simp [*])
        clear hho
        go_enter Tryz.func155, Tryz.ntmps155
        go_wp2
        go_ret
        exact ⟨ret_b HE.out.symm, (Below.refl _ _).alloc (Nat.le_refl _) _⟩
    | false =>
      have HE : Hid (R = false) := Lib.hid (by rw [HI.out]; simp [*])
      clear hho
      go_enter Tryz.func155, Tryz.ntmps155
      go_wp2
      go_ret
      exact ⟨ret_b HE.out.symm, (Below.refl _ _).alloc (Nat.le_refl _) _⟩
  · skip
    have n1 : (k == 1) = false := by rw [beq_eq_false_iff_ne]; exact k1
    by_cases k2 : k = 2
    · skip
      subst k2
      cases cW : (W == 0) with
      | true =>
        cases cV : ((V : Int) == 0) with
        | true =>
          have HE : Hid (R = bw) := Lib.hid (by rw [HI.out]; simp [*])
          clear hho
          go_enter Tryz.func155, Tryz.ntmps155
          go_wp2_with fail
          refine (hwo _ HM.out).mono ?_
          rintro e1 w1 ⟨rfl, rfl⟩
          go_wp2
          go_ret
          exact ⟨ret_b HE.out.symm, (Below.refl _ _).alloc (Nat.le_refl _) _⟩
        | false =>
          have HE : Hid (R = false) := Lib.hid (by rw [HI.out]; simp [*])
          clear hho
          go_enter Tryz.func155, Tryz.ntmps155
          go_wp2
          go_ret
          exact ⟨ret_b HE.out.symm, (Below.refl _ _).alloc (Nat.le_refl _) _⟩
      | false =>
        have HE : Hid (R = false) := Lib.hid (by rw [HI.out]; simp [*])
        clear hho
        go_enter Tryz.func155, Tryz.ntmps155
        go_wp2
        go_ret
        exact ⟨ret_b HE.out.symm, (Below.refl _ _).alloc (Nat.le_refl _) _⟩
    · skip
      have n2 : (k == 2) = false := by rw [beq_eq_false_iff_ne]; exact k2
      by_cases k4 : k = 4
      · skip
        subst k4
        cases cW : (W == 0) with
        | true =>
          cases cV : ((V : Int) == 0) with
          | true =>
            have HE : Hid (R = bg) := Lib.hid (by rw [HI.out]; simp [*])
            clear hho
            go_enter Tryz.func155, Tryz.ntmps155
            go_wp2_with fail
            refine (hsi _ HG.out).mono ?_
            rintro e1 w1 ⟨rfl, n, rfl⟩
            go_wp2
            go_ret
            exact ⟨ret_b HE.out.symm, below_drewN ((Below.refl _ _).alloc (Nat.le_refl _) _) _⟩
          | false =>
            have HE : Hid (R = false) := Lib.hid (by rw [HI.out]; simp [*])
            clear hho
            go_enter Tryz.func155, Tryz.ntmps155
            go_wp2
            go_ret
            exact ⟨ret_b HE.out.symm, (Below.refl _ _).alloc (Nat.le_refl _) _⟩
        | false =>
          have HE : Hid (R = false) := Lib.hid (by rw [HI.out]; simp [*])
          clear hho
          go_enter Tryz.func155, Tryz.ntmps155
          go_wp2
          go_ret
          exact ⟨ret_b HE.out.symm, (Below.refl _ _).alloc (Nat.le_refl _) _⟩
      · skip
        have n4 : (k == 4) = false := by rw [beq_eq_false_iff_ne]; exact k4
        by_cases k3 : k = 3
        · skip
          subst k3
          cases cS : s.isEmpty with
          | true =>
            have eS : s = [] := by simpa using cS
            subst eS
            cases cW : (W == 0) with
            | true =>
              cases cV : ((V : Int) == 0) with
              | true =>
                have HE : Hid (R = true) := Lib.hid (by rw [HI.out]; simp [*])
                clear hho
                go_enter Tryz.func155, Tryz.ntmps155
                go_wp2
                go_ret
                exact ⟨ret_b HE.out.symm, (Below.refl _ _).alloc (Nat.le_refl _) _⟩
              | false =>
                have HE : Hid (R = true) := Lib.hid (by rw [HI.out]; simp [*])
                clear hho
                go_enter Tryz.func155, Tryz.ntmps155
                go_wp2
                go_ret
                exact ⟨ret_b HE.out.symm, (Below.refl _ _).alloc (Nat.le_refl _) _⟩
            | false =>
              have HE : Hid (R = bh) := Lib.hid (by rw [HI.out]; simp [*])
              skip
              go_enter Tryz.func155, Tryz.ntmps155
              go_wp2_with fail
              refine (hho _).mono ?_
              rintro e1 w1 ⟨rfl, rfl⟩
              go_wp2
              go_ret
              exact ⟨ret_b HE.out.symm, (Below.refl _ _).alloc (Nat.le_refl _) _⟩
          | false =>
            have eS : (s == []) = false := by cases s <;> simp_all
            cases cW : (W == 0) with
            | true =>
              cases cV : ((V : Int) == 0) with
              | true =>
                have HE : Hid (R = false) := Lib.hid (by rw [HI.out]; simp [*])
                clear hho
                go_enter Tryz.func155, Tryz.ntmps155
                go_wp2
                go_ret
                exact ⟨ret_b HE.out.symm, (Below.refl _ _).alloc (Nat.le_refl _) _⟩
              | false =>
                have HE : Hid (R = false) := Lib.hid (by rw [HI.out]; simp [*])
                clear hho
                go_enter Tryz.func155, Tryz.ntmps155
                go_wp2
                go_ret
                exact ⟨ret_b HE.out.symm, (Below.refl _ _).alloc (Nat.le_refl _) _⟩
            | false =>
              have HE : Hid (R = false) := Lib.hid (by rw [HI.out]; simp [*])
              clear hho
              go_enter Tryz.func155, Tryz.ntmps155
              go_wp2
              go_ret
              exact ⟨ret_b HE.out.symm, (Below.refl _ _).alloc (Nat.le_refl _) _⟩
        · skip
          have n3 : (k == 3) = false := by rw [beq_eq_false_iff_ne]; exact k3
          cases cW : (W == 0) with
          | true =>
            cases cV : ((V : Int) == 0) with
            | true =>
              have HE : Hid (R = false) := Lib.hid (by rw [HI.out]; simp [*])
              clear hho
              go_enter Tryz.func155, Tryz.ntmps155
              go_wp2
              go_ret
              exact ⟨ret_b HE.out.symm, (Below.refl _ _).alloc (Nat.le_refl _) _⟩
            | false =>
              have HE : Hid (R = false) := Lib.hid (by rw [HI.out]; simp [*])
              clear hho
              go_enter Tryz.func155, Tryz.ntmps155
              go_wp2
              go_ret
              exact ⟨ret_b HE.out.symm, (Below.refl _ _).alloc (Nat.le_refl _) _⟩
          | false =>
            have HE : Hid (R = false) := Lib.hid (by rw [HI.out]; simp [*])
            clear hho
            go_enter Tryz.func155, Tryz.ntmps155
            go_wp2
            go_ret
            exact ⟨ret_b HE.out.symm, (Below.refl _ _).alloc (Nat.le_refl _) _⟩

/-- Whether a token may be: an error's number. -/
def checkS (k : Int) (s : Bytes) (W : Int) (V : Nat) (at0 : Int) : Int := if decide (at0 < 0) || !mayB k s W V then 1 else 0
set_option maxHeartbeats 2000000 in
theorem check_any (k : Int) (s : Bytes) (W : Int) (V : Nat) (at0 : Int) (hs : s.length ≤ 6000000) (hV : V < 18446744073709551616) (w : World) (he : Env w) : Calls Tryz.prog 135 #[.agg #[.int .i64 k, .string (bs s), .int .i64 W, .int .u64 (V : Int), .int .i64 at0]] w fun e w' => e = .returned (.int .i64 (checkS k s W V at0)) ∧ Below w.heap.size w w' := by
  have hmb := mayBe_any k s W V at0 hs hV _ (he.alloc (.cells #[.int .i64 k, .string (bs s), .int .i64 W, .int .u64 (V : Int), .int .i64 at0] 168))
  have HI : Hid (checkS k s W V at0 = if decide (at0 < 0) || !mayB k s W V then 1 else 0) := Lib.hid rfl
  have HV := Lib.hid hV
  clear hV he
  generalize mayB k s W V = b at *
  generalize checkS k s W V at0 = R at *
  by_cases h0 : at0 < 0
  · have d0 : decide (at0 < 0) = true := by simpa using h0
    have HE : Hid (R = 1) := Lib.hid (by rw [HI.out, d0]; rfl)
    clear hmb
    go_enter Tryz.func135, Tryz.ntmps135
    go_wp2
    go_ret
    exact ⟨ret_n HE.out.symm, (Below.refl _ _).alloc (Nat.le_refl _) _⟩
  · have d0 : decide (at0 < 0) = false := by simpa using h0
    cases b with
    | true =>
      have HE : Hid (R = 0) := Lib.hid (by rw [HI.out, d0]; rfl)
      go_enter Tryz.func135, Tryz.ntmps135
      go_wp2_with fail
      refine hmb.mono ?_
      rintro e1 w1 ⟨rfl, hb⟩
      go_wp2
      go_ret
      exact ⟨ret_n HE.out.symm, ((Below.refl _ _).alloc (Nat.le_refl _) _).trans (hb.mono (by simp))⟩
    | false =>
      have HE : Hid (R = 1) := Lib.hid (by rw [HI.out, d0]; rfl)
      go_enter Tryz.func135, Tryz.ntmps135
      go_wp2_with fail
      refine hmb.mono ?_
      rintro e1 w1 ⟨rfl, hb⟩
      go_wp2
      go_ret
      exact ⟨ret_n HE.out.symm, ((Below.refl _ _).alloc (Nat.le_refl _) _).trans (hb.mono (by simp))⟩
end Go.Proofs.YtiipjbafdhijlaaGreatDoor
