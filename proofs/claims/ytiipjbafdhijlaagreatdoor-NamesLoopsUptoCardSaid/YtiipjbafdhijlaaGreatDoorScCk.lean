/-
  Contracts: Check, and what it is made of.
-/
import Derived.Test.YtiipjbafdhijlaaGreatDoorScU
namespace Go.Proofs.YtiipjbafdhijlaaGreatDoor
open Go Go.RowKit
set_option linter.unusedVariables false
open Go.Sort

def isNameB (l : Bytes) : Bool :=
  match l with
  | [] => false
  | c :: _ => letter c && (decide (l.length ≤ 64) && (l.all inName && !isWord l))
def isSignB (l : Bytes) : Bool := !l.isEmpty && (signS l == l)

set_option maxHeartbeats 2000000 in
theorem isName_any (l : Bytes) (hl : l.length ≤ 6000000) (m : Int) (w : World) (hm : w.cell? ⟨4, 0, none⟩ = some (.int .i64 m)) : Calls Tryz.prog 163 #[.string (bs l)] w fun e w' => e = .returned (.bool (isNameB l)) ∧ w = w' := by
  cases l with
  | nil =>
    go_enter Tryz.func163, Tryz.ntmps163
    go_wp2
    go_ret
    exact ⟨rfl, rfl⟩
  | cons c t =>
    have hbg := begins_any c
    obtain ⟨l, hl0⟩ : ∃ l, c :: t = l := ⟨_, rfl⟩
    have HI : Hid (isNameB l = (letter c && (decide (l.length ≤ 64) && (l.all inName && !isWord l)))) := Lib.hid (by rw [← hl0]; rfl)
    have hz : 0 < l.length := by rw [← hl0]; simp
    have hc0 : ∀ h : 0 < l.length, l[0] = c := by subst hl0; intro h; rfl
    have hc1 := hc0 hz
    have ne1 : l.isEmpty = false := by rw [← hl0]; rfl
    have ne2 : (l == []) = false := by rw [← hl0]; rfl
    have ne3 : (l != []) = true := by rw [← hl0]; rfl
    have hru := run_name l (by rw [← hl0]; omega)
    have hfu := run_full inName l
    have hwo := word_any l (by rw [← hl0]; omega) m w hm
    rw [hl0] at hl ⊢
    clear hl0 hc0 hm
    generalize run inName l = n at *
    cases ha : letter c with
    | false =>
      rw [ha] at hbg HI
      have HE : Hid (isNameB l = false) := Lib.hid (by rw [HI.out]; rfl)
      clear ha hfu
      go_enter Tryz.func163, Tryz.ntmps163
      go_wp2_with fail
      refine (hbg _).mono ?_
      rintro e1 w1 ⟨rfl, rfl⟩
      go_wp2
      go_ret
      exact ⟨ret_b HE.out.symm, rfl⟩
    | true =>
      rw [ha] at hbg HI
      clear ha
      by_cases h64 : l.length ≤ 64
      · have d1 : decide (l.length ≤ 64) = true := by simpa using h64
        have d2 : decide ((l.length : Int) ≤ 64) = true := by rw [decide_eq_true_eq]; omega
        cases hall : l.all inName with
        | false =>
          rw [hall] at hfu
          have HE : Hid (isNameB l = false) := Lib.hid (by rw [HI.out, d1, hall]; rfl)
          clear hall
          go_enter Tryz.func163, Tryz.ntmps163
          go_wp2_with fail
          refine (hbg _).mono ?_
          rintro e1 w1 ⟨rfl, rfl⟩
          go_wp2_with fail
          refine (hru _).mono ?_
          rintro e2 w2 ⟨rfl, rfl⟩
          go_wp2
          go_ret
          exact ⟨ret_b HE.out.symm, rfl⟩
        | true =>
          rw [hall] at hfu
          cases hw : isWord l with
          | false =>
            rw [hw] at hwo
            have HE : Hid (isNameB l = true) := Lib.hid (by rw [HI.out, d1, hall, hw]; rfl)
            clear hall hw
            go_enter Tryz.func163, Tryz.ntmps163
            go_wp2_with fail
            refine (hbg _).mono ?_
            rintro e1 w1 ⟨rfl, rfl⟩
            go_wp2_with fail
            refine (hru _).mono ?_
            rintro e2 w2 ⟨rfl, rfl⟩
            go_wp2_with fail
            refine hwo.mono ?_
            rintro e3 w3 ⟨rfl, rfl⟩
            go_wp2
            go_ret
            exact ⟨ret_b HE.out.symm, rfl⟩
          | true =>
            rw [hw] at hwo
            have HE : Hid (isNameB l = false) := Lib.hid (by rw [HI.out, d1, hall, hw]; rfl)
            clear hall hw
            go_enter Tryz.func163, Tryz.ntmps163
            go_wp2_with fail
            refine (hbg _).mono ?_
            rintro e1 w1 ⟨rfl, rfl⟩
            go_wp2_with fail
            refine (hru _).mono ?_
            rintro e2 w2 ⟨rfl, rfl⟩
            go_wp2_with fail
            refine hwo.mono ?_
            rintro e3 w3 ⟨rfl, rfl⟩
            go_wp2
            go_ret
            exact ⟨ret_b HE.out.symm, rfl⟩
      · have d1 : decide (l.length ≤ 64) = false := by simpa using h64
        have d2 : decide ((l.length : Int) ≤ 64) = false := by rw [decide_eq_false_iff_not]; omega
        have HE : Hid (isNameB l = false) := Lib.hid (by rw [HI.out, d1]; rfl)
        clear hfu
        go_enter Tryz.func163, Tryz.ntmps163
        go_wp2_with fail
        refine (hbg _).mono ?_
        rintro e1 w1 ⟨rfl, rfl⟩
        go_wp2
        go_ret
        exact ⟨ret_b HE.out.symm, rfl⟩

set_option maxHeartbeats 1000000 in
theorem isSign_any (l : Bytes) (hl : l.length ≤ 6000000) (w : World) (hg : w.rangeAt 3 0 signCells) : Calls Tryz.prog 165 #[.string (bs l)] w fun e w' => e = .returned (.bool (isSignB l)) ∧ ∃ n, w' = w.drewN n := by
  cases l with
  | nil =>
    go_enter Tryz.func165, Tryz.ntmps165
    go_wp2
    go_ret
    exact ⟨rfl, 0, rfl⟩
  | cons c t =>
    have hsg := sign_any (c :: t) hl w hg
    obtain ⟨l, hl0⟩ : ∃ l, c :: t = l := ⟨_, rfl⟩
    have ne1 : l.isEmpty = false := by rw [← hl0]; rfl
    have ne2 : (l == []) = false := by rw [← hl0]; rfl
    have ne3 : (l != []) = true := by rw [← hl0]; rfl
    have HI : Hid (isSignB l = (signS l == l)) := Lib.hid (by unfold isSignB; rw [ne1]; rfl)
    rw [hl0] at hl hsg ⊢
    clear hl0 hg
    generalize signS l = g at *
    go_enter Tryz.func165, Tryz.ntmps165
    go_wp2_with fail
    refine hsg.mono ?_
    rintro e1 w1 ⟨rfl, n, rfl⟩
    go_wp2
    go_ret
    exact ⟨ret_b HI.out.symm, n, rfl⟩
end Go.Proofs.YtiipjbafdhijlaaGreatDoor
