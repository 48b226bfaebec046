/-
  NuJ, in one text.
-/
import Derived.Test.YtiipjbafdhijlaaGreatDoorZRf
namespace Go.Proofs.YtiipjbafdhijlaaGreatDoor
open Go Go.RowKit
set_option linter.unusedVariables false
set_option linter.unusedSimpArgs false
open Go.Sort
theorem BT.bkL_len9 : ∀ l : List BT, l.length ≤ BT.bkL l
 | [] => Nat.le_refl _
 | x :: r => by have h := BT.bkL_len9 r; rw [BT.bkL, BT.bk, List.length_cons]; omega
def onN (op : Int) : Bool := !(op == 4) && (!(op == 5) && (!(op == 6) && !(op == 8)))
def onO (op : Int) : Bool := (op == 7) || (op == 9)
def onS (op : Int) (n : Nat) : Bool := (n == 0) || ((op == 5) || (op == 6))
def onL (op : Int) (n : Nat) : Bool := (n == 0) || ((op == 8) || (op == 9))
def onE (op : Int) (n : Nat) : Bool := (n == 0) || (op == 8)
def onB (op : Int) (n : Nat) : Bool := (n == 0) || (op == 7)
def onlyR (N O S L E B ne nf k1 k2 : Bool) : Bool := (N == ne) && ((O == nf) && (S && (L && (E && (B && ((!N || k1) && (!O || k2)))))))
def onlyB : IT → Bool
 | .mk op nm nf _ _ _ _ _ sl _ _ ll _ _ el _ _ pl _ _ bl => onlyR (onN op) (onO op) (onS op sl.length) (onL op ll.length) (onE op el.length) (onB op (pl.length + bl.length)) (!nm.isEmpty) (!nf.isEmpty) (isNameB nm) (isNameB nf)
set_option maxHeartbeats 16000000 in
set_option maxRecDepth 100000 in
theorem refonly_any (x : IT) (hbk : x.bk ≤ 4500000) (w : World) : Calls Tryz.prog 148 #[.agg x.cells.toArray] w fun e w' => e = .returned (.bool (onlyB x)) ∧ Below w.heap.size w w' := by
 obtain ⟨op2, nm2, nf2, xa2, xc2, xl2, sa2, sc2, sl2, la2, lc2, ll2, ea2, ec2, el2, pa2, pc2, pl2, ba2, bc2, bl2⟩ := x
 rw [IT.bk] at hbk
 have hpl := BT.bkL_len9 pl2
 have hbl := BT.bkL_len9 bl2
 have hnl : nm2.length ≤ 4500000 := by omega
 have hfl : nf2.length ≤ 4500000 := by omega
 have hpl2 : pl2.length ≤ 4500000 := by omega
 have hbl2 : bl2.length ≤ 4500000 := by omega
 show Calls _ _ _ _ fun e w' => e = .returned (.bool (onlyR (onN op2) (onO op2) (onS op2 sl2.length) (onL op2 ll2.length) (onE op2 el2.length) (onB op2 (pl2.length + bl2.length)) (!nm2.isEmpty) (!nf2.isEmpty) (isNameB nm2) (isNameB nf2))) ∧ Below w.heap.size w w'
 clear hbk hpl hbl
 obtain ⟨R, hR⟩ : ∃ R, onlyR (onN op2) (onO op2) (onS op2 sl2.length) (onL op2 ll2.length) (onE op2 el2.length) (onB op2 (pl2.length + bl2.length)) (!nm2.isEmpty) (!nf2.isEmpty) (isNameB nm2) (isNameB nf2) = R := ⟨_, rfl⟩
 rw [hR]
 have HR := Lib.hid hR
 clear hR
 simp only [IT.cells]
 obtain ⟨gx, hgx⟩ : ∃ gx, w.heap.size = gx := ⟨_, rfl⟩
 obtain ⟨w1, hw1⟩ : ∃ w1, w.alloc (.cells #[.int .i64 op2, .string (bs nm2), .string (bs nf2), .slice xa2 xl2.length xc2, .slice sa2 sl2.length sc2, .slice la2 ll2.length lc2, .slice ea2 el2.length ec2, .slice pa2 pl2.length pc2, .slice ba2 bl2.length bc2] 48) = w1 := ⟨_, rfl⟩
 have hb0 : Below w.heap.size w w1 := by rw [← hw1]; exact (Below.refl _ _).alloc (Nat.le_refl _) _
 have BX : w1.heap[gx]? = some (.cells #[.int .i64 op2, .string (bs nm2), .string (bs nf2), .slice xa2 xl2.length xc2, .slice sa2 sl2.length sc2, .slice la2 ll2.length lc2, .slice ea2 el2.length ec2, .slice pa2 pl2.length pc2, .slice ba2 bl2.length bc2] 48 (0, 0)) := by rw [← hw1, ← hgx]; exact World.alloc_heap_new w _
 have z0 : w1.cell? ⟨gx, 0, none⟩ = some (.int .i64 op2) := by simp [World.cell?, BX]
 have z1 : w1.cell? ⟨gx, 1, none⟩ = some (.string (bs nm2)) := by simp [World.cell?, BX]
 have z2 : w1.cell? ⟨gx, 2, none⟩ = some (.string (bs nf2)) := by simp [World.cell?, BX]
 have z3 : w1.cell? ⟨gx, 3, none⟩ = some (.slice xa2 xl2.length xc2) := by simp [World.cell?, BX]
 have z4 : w1.cell? ⟨gx, 4, none⟩ = some (.slice sa2 sl2.length sc2) := by simp [World.cell?, BX]
 have z5 : w1.cell? ⟨gx, 5, none⟩ = some (.slice la2 ll2.length lc2) := by simp [World.cell?, BX]
 have z6 : w1.cell? ⟨gx, 6, none⟩ = some (.slice ea2 el2.length ec2) := by simp [World.cell?, BX]
 have z7 : w1.cell? ⟨gx, 7, none⟩ = some (.slice pa2 pl2.length pc2) := by simp [World.cell?, BX]
 have z8 : w1.cell? ⟨gx, 8, none⟩ = some (.slice ba2 bl2.length bc2) := by simp [World.cell?, BX]
 have HB := Lib.hid hb0
 clear hb0 BX
 go_enter Tryz.func148, Tryz.ntmps148
 go_upto_region 1 with (fail)
 (try rw [hw1])
 clear hw1
 go_cut [3] from 9 to 26 (fun p wx => p = .bool (onN op2) ∧ wx = w1)
 case first =>
  by_cases h4 : op2 = 4
  ·subst h4
   go_wp2
   go_meet
   exact ⟨by simp [onN, onO, onS, onL, onE, onB, *], rfl⟩
  have e4 : (op2 == 4) = false := by simpa using h4
  have n4 : (op2 != 4) = true := by simpa using h4
  by_cases h5 : op2 = 5
  ·subst h5
   go_wp2
   go_meet
   exact ⟨by simp [onN, onO, onS, onL, onE, onB, *], rfl⟩
  have e5 : (op2 == 5) = false := by simpa using h5
  have n5 : (op2 != 5) = true := by simpa using h5
  by_cases h6 : op2 = 6
  ·subst h6
   go_wp2
   go_meet
   exact ⟨by simp [onN, onO, onS, onL, onE, onB, *], rfl⟩
  have e6 : (op2 == 6) = false := by simpa using h6
  have n6 : (op2 != 6) = true := by simpa using h6
  by_cases h8 : op2 = 8
  ·subst h8
   go_wp2
   go_meet
   exact ⟨by simp [onN, onO, onS, onL, onE, onB, *], rfl⟩
  have e8 : (op2 == 8) = false := by simpa using h8
  have n8 : (op2 != 8) = true := by simpa using h8
  go_wp2
  go_meet
  exact ⟨by simp [onN, onO, onS, onL, onE, onB, *], rfl⟩
 case rest =>
  obtain ⟨rfl, rfl⟩ := hcut
  go_upto_region 2 with (fail)
  go_cut [4] from 27 to 34 (fun p wx => p = .bool (onO op2) ∧ wx = wc)
  case first =>
   by_cases h7 : op2 = 7
   ·subst h7
    go_wp2
    go_meet
    exact ⟨by simp [onN, onO, onS, onL, onE, onB, *], rfl⟩
   have e7 : (op2 == 7) = false := by simpa using h7
   have n7 : (op2 != 7) = true := by simpa using h7
   by_cases h9 : op2 = 9
   ·subst h9
    go_wp2
    go_meet
    exact ⟨by simp [onN, onO, onS, onL, onE, onB, *], rfl⟩
   have e9 : (op2 == 9) = false := by simpa using h9
   have n9 : (op2 != 9) = true := by simpa using h9
   go_wp2
   go_meet
   exact ⟨by simp [onN, onO, onS, onL, onE, onB, *], rfl⟩
  case rest =>
   obtain ⟨rfl, rfl⟩ := hcut
   go_upto_region 3 with (fail)
   go_cut [5] from 35 to 48 (fun p wx => p = .bool (onS op2 sl2.length) ∧ wx = wc)
   case first =>
    by_cases hz : sl2.length = 0
    ·have z1 : (sl2.length == 0) = true := by simpa using hz
     have z2 : ((sl2.length : Int) == 0) = true := by simp [hz]
     go_wp2
     go_meet
     exact ⟨by simp [onN, onO, onS, onL, onE, onB, *], rfl⟩
    have z1 : (sl2.length == 0) = false := by simpa using hz
    have z2 : ((sl2.length : Int) == 0) = false := by
     cases e : ((sl2.length : Int) == 0) with
     | false => rfl
     | true => exact absurd (by have := beq_iff_eq.1 e; omega) hz
    by_cases h5 : op2 = 5
    ·subst h5
     go_wp2
     go_meet
     exact ⟨by simp [onN, onO, onS, onL, onE, onB, *], rfl⟩
    have e5 : (op2 == 5) = false := by simpa using h5
    have n5 : (op2 != 5) = true := by simpa using h5
    by_cases h6 : op2 = 6
    ·subst h6
     go_wp2
     go_meet
     exact ⟨by simp [onN, onO, onS, onL, onE, onB, *], rfl⟩
    have e6 : (op2 == 6) = false := by simpa using h6
    have n6 : (op2 != 6) = true := by simpa using h6
    go_wp2
    go_meet
    exact ⟨by simp [onN, onO, onS, onL, onE, onB, *], rfl⟩
   case rest =>
    obtain ⟨rfl, rfl⟩ := hcut
    go_upto_region 4 with (fail)
    go_cut [6] from 49 to 62 (fun p wx => p = .bool (onL op2 ll2.length) ∧ wx = wc)
    case first =>
     by_cases hz : ll2.length = 0
     ·have z1 : (ll2.length == 0) = true := by simpa using hz
      have z2 : ((ll2.length : Int) == 0) = true := by simp [hz]
      go_wp2
      go_meet
      exact ⟨by simp [onN, onO, onS, onL, onE, onB, *], rfl⟩
     have z1 : (ll2.length == 0) = false := by simpa using hz
     have z2 : ((ll2.length : Int) == 0) = false := by
      cases e : ((ll2.length : Int) == 0) with
      | false => rfl
      | true => exact absurd (by have := beq_iff_eq.1 e; omega) hz
     by_cases h8 : op2 = 8
     ·subst h8
      go_wp2
      go_meet
      exact ⟨by simp [onN, onO, onS, onL, onE, onB, *], rfl⟩
     have e8 : (op2 == 8) = false := by simpa using h8
     have n8 : (op2 != 8) = true := by simpa using h8
     by_cases h9 : op2 = 9
     ·subst h9
      go_wp2
      go_meet
      exact ⟨by simp [onN, onO, onS, onL, onE, onB, *], rfl⟩
     have e9 : (op2 == 9) = false := by simpa using h9
     have n9 : (op2 != 9) = true := by simpa using h9
     go_wp2
     go_meet
     exact ⟨by simp [onN, onO, onS, onL, onE, onB, *], rfl⟩
    case rest =>
     obtain ⟨rfl, rfl⟩ := hcut
     go_upto_region 5 with (fail)
     go_cut [7] from 63 to 71 (fun p wx => p = .bool (onE op2 el2.length) ∧ wx = wc)
     case first =>
      by_cases hz : el2.length = 0
      ·have z1 : (el2.length == 0) = true := by simpa using hz
       have z2 : ((el2.length : Int) == 0) = true := by simp [hz]
       go_wp2
       go_meet
       exact ⟨by simp [onN, onO, onS, onL, onE, onB, *], rfl⟩
      have z1 : (el2.length == 0) = false := by simpa using hz
      have z2 : ((el2.length : Int) == 0) = false := by
       cases e : ((el2.length : Int) == 0) with
       | false => rfl
       | true => exact absurd (by have := beq_iff_eq.1 e; omega) hz
      by_cases h8 : op2 = 8
      ·subst h8
       go_wp2
       go_meet
       exact ⟨by simp [onN, onO, onS, onL, onE, onB, *], rfl⟩
      have e8 : (op2 == 8) = false := by simpa using h8
      have n8 : (op2 != 8) = true := by simpa using h8
      go_wp2
      go_meet
      exact ⟨by simp [onN, onO, onS, onL, onE, onB, *], rfl⟩
     case rest =>
      obtain ⟨rfl, rfl⟩ := hcut
      go_upto_region 6 with (fail)
      go_cut [8] from 72 to 84 (fun p wx => p = .bool (onB op2 (pl2.length + bl2.length)) ∧ wx = wc)
      case first =>
       by_cases hz : pl2.length + bl2.length = 0
       ·have z1 : (pl2.length + bl2.length == 0) = true := by simpa using hz
        have z2 : (((pl2.length : Int) + (bl2.length : Int)) == 0) = true := by rw [beq_iff_eq]; omega
        go_wp2
        go_meet
        exact ⟨by simp [onB, *], rfl⟩
       have z1 : (pl2.length + bl2.length == 0) = false := by simpa using hz
       have z2 : (((pl2.length : Int) + (bl2.length : Int)) == 0) = false := by
        cases e : (((pl2.length : Int) + (bl2.length : Int)) == 0) with
        | false => rfl
        | true => exact absurd (by have := beq_iff_eq.1 e; omega) hz
       by_cases h7 : op2 = 7
       ·subst h7
        go_wp2
        go_meet
        exact ⟨by simp [onN, onO, onS, onL, onE, onB, *], rfl⟩
       have e7 : (op2 == 7) = false := by simpa using h7
       have n7 : (op2 != 7) = true := by simpa using h7
       go_wp2
       go_meet
       exact ⟨by simp [onN, onO, onS, onL, onE, onB, *], rfl⟩
      case rest =>
       obtain ⟨rfl, rfl⟩ := hcut
       generalize wc = wd at *
       have qn := refname_any nm2 (by omega) wd
       have qf := fun (V : World) => refname_any nf2 (by omega) V
       generalize isNameB nm2 = k1 at *
       generalize isNameB nf2 = k2 at *
       generalize onN op2 = N at *
       generalize onO op2 = O at *
       generalize onS op2 sl2.length = S at *
       generalize onL op2 ll2.length = L at *
       generalize onE op2 el2.length = E at *
       generalize onB op2 (pl2.length + bl2.length) = B at *
       have HN1 : ∃ e, nm2.isEmpty = e := ⟨_, rfl⟩
       obtain ⟨e1, he1⟩ := HN1
       have HN2 : ∃ e, nf2.isEmpty = e := ⟨_, rfl⟩
       obtain ⟨e2, he2⟩ := HN2
       have p1 : (nm2 == []) = e1 := by rw [← he1]; cases nm2 <;> rfl
       have p2 : (nm2 != []) = !e1 := by rw [← he1]; cases nm2 <;> rfl
       have p3 : (nf2 == []) = e2 := by rw [← he2]; cases nf2 <;> rfl
       have p4 : (nf2 != []) = !e2 := by rw [← he2]; cases nf2 <;> rfl
       go_upto_region 7 with (fail)
       have HQF := Lib.hid qf
       have HQN := Lib.hid qn
       clear qf qn
       cases N with
       | false =>
        cases e1 with
        | false =>
         go_wp2_with fail
         go_ret
         exact ⟨by rw [← HR.out]; simp [onlyR, he1, he2], by (first | exact HB.out | (have h9 := HB.out; rw [hgx] at h9; exact h9))⟩
        | true =>
         cases O with
         | false =>
          cases e2 with
          | false =>
           go_wp2_with fail
           go_ret
           exact ⟨by rw [← HR.out]; simp [onlyR, he1, he2], by (first | exact HB.out | (have h9 := HB.out; rw [hgx] at h9; exact h9))⟩
          | true =>
           cases S with
           | false =>
            go_wp2_with fail
            go_ret
            exact ⟨by rw [← HR.out]; simp [onlyR, he1, he2], by (first | exact HB.out | (have h9 := HB.out; rw [hgx] at h9; exact h9))⟩
           | true =>
            cases L with
            | false =>
             go_wp2_with fail
             go_ret
             exact ⟨by rw [← HR.out]; simp [onlyR, he1, he2], by (first | exact HB.out | (have h9 := HB.out; rw [hgx] at h9; exact h9))⟩
            | true =>
             cases E with
             | false =>
              go_wp2_with fail
              go_ret
              exact ⟨by rw [← HR.out]; simp [onlyR, he1, he2], by (first | exact HB.out | (have h9 := HB.out; rw [hgx] at h9; exact h9))⟩
             | true =>
              cases B with
              | false =>
               go_wp2_with fail
               go_ret
               exact ⟨by rw [← HR.out]; simp [onlyR, he1, he2], by (first | exact HB.out | (have h9 := HB.out; rw [hgx] at h9; exact h9))⟩
              | true =>
               go_wp2_with fail
               go_ret
               exact ⟨by rw [← HR.out]; simp [onlyR, he1, he2], by (first | exact HB.out | (have h9 := HB.out; rw [hgx] at h9; exact h9))⟩
         | true =>
          cases e2 with
          | false =>
           cases S with
           | false =>
            go_wp2_with fail
            go_ret
            exact ⟨by rw [← HR.out]; simp [onlyR, he1, he2], by (first | exact HB.out | (have h9 := HB.out; rw [hgx] at h9; exact h9))⟩
           | true =>
            cases L with
            | false =>
             go_wp2_with fail
             go_ret
             exact ⟨by rw [← HR.out]; simp [onlyR, he1, he2], by (first | exact HB.out | (have h9 := HB.out; rw [hgx] at h9; exact h9))⟩
            | true =>
             cases E with
             | false =>
              go_wp2_with fail
              go_ret
              exact ⟨by rw [← HR.out]; simp [onlyR, he1, he2], by (first | exact HB.out | (have h9 := HB.out; rw [hgx] at h9; exact h9))⟩
             | true =>
              cases B with
              | false =>
               go_wp2_with fail
               go_ret
               exact ⟨by rw [← HR.out]; simp [onlyR, he1, he2], by (first | exact HB.out | (have h9 := HB.out; rw [hgx] at h9; exact h9))⟩
              | true =>
               go_wp2_with fail
               refine (HQF.out _).mono ?_
               rintro e w6 ⟨rfl, hb6⟩
               replace HB := Lib.hid (HB.out.trans (hb6.mono HB.out.size))
               clear hb6
               cases k2 with
               | false =>
                go_wp2_with fail
                go_ret
                exact ⟨by rw [← HR.out]; simp [onlyR, he1, he2], by (first | exact HB.out | (have h9 := HB.out; rw [hgx] at h9; exact h9))⟩
               | true =>
                go_wp2_with fail
                go_ret
                exact ⟨by rw [← HR.out]; simp [onlyR, he1, he2], by (first | exact HB.out | (have h9 := HB.out; rw [hgx] at h9; exact h9))⟩
          | true =>
           go_wp2_with fail
           go_ret
           exact ⟨by rw [← HR.out]; simp [onlyR, he1, he2], by (first | exact HB.out | (have h9 := HB.out; rw [hgx] at h9; exact h9))⟩
       | true =>
        cases e1 with
        | false =>
         cases O with
         | false =>
          cases e2 with
          | false =>
           go_wp2_with fail
           go_ret
           exact ⟨by rw [← HR.out]; simp [onlyR, he1, he2], by (first | exact HB.out | (have h9 := HB.out; rw [hgx] at h9; exact h9))⟩
          | true =>
           cases S with
           | false =>
            go_wp2_with fail
            go_ret
            exact ⟨by rw [← HR.out]; simp [onlyR, he1, he2], by (first | exact HB.out | (have h9 := HB.out; rw [hgx] at h9; exact h9))⟩
           | true =>
            cases L with
            | false =>
             go_wp2_with fail
             go_ret
             exact ⟨by rw [← HR.out]; simp [onlyR, he1, he2], by (first | exact HB.out | (have h9 := HB.out; rw [hgx] at h9; exact h9))⟩
            | true =>
             cases E with
             | false =>
              go_wp2_with fail
              go_ret
              exact ⟨by rw [← HR.out]; simp [onlyR, he1, he2], by (first | exact HB.out | (have h9 := HB.out; rw [hgx] at h9; exact h9))⟩
             | true =>
              cases B with
              | false =>
               go_wp2_with fail
               go_ret
               exact ⟨by rw [← HR.out]; simp [onlyR, he1, he2], by (first | exact HB.out | (have h9 := HB.out; rw [hgx] at h9; exact h9))⟩
              | true =>
               go_wp2_with fail
               refine (HQN.out).mono ?_
               rintro e w5 ⟨rfl, hb5⟩
               replace HB := Lib.hid (HB.out.trans (hb5.mono HB.out.size))
               have hk5 := fun (g i : Nat) (x : Value) (h : wd.cell? ⟨g, i, none⟩ = some x) => keep_cell hb5 h
               clear hb5
               replace z1 := hk5 _ _ _ z1
               replace z2 := hk5 _ _ _ z2
               clear hk5
               cases k1 with
               | false =>
                go_wp2_with fail
                go_ret
                exact ⟨by rw [← HR.out]; simp [onlyR, he1, he2], by (first | exact HB.out | (have h9 := HB.out; rw [hgx] at h9; exact h9))⟩
               | true =>
                go_wp2_with fail
                go_ret
                exact ⟨by rw [← HR.out]; simp [onlyR, he1, he2], by (first | exact HB.out | (have h9 := HB.out; rw [hgx] at h9; exact h9))⟩
         | true =>
          cases e2 with
          | false =>
           cases S with
           | false =>
            go_wp2_with fail
            go_ret
            exact ⟨by rw [← HR.out]; simp [onlyR, he1, he2], by (first | exact HB.out | (have h9 := HB.out; rw [hgx] at h9; exact h9))⟩
           | true =>
            cases L with
            | false =>
             go_wp2_with fail
             go_ret
             exact ⟨by rw [← HR.out]; simp [onlyR, he1, he2], by (first | exact HB.out | (have h9 := HB.out; rw [hgx] at h9; exact h9))⟩
            | true =>
             cases E with
             | false =>
              go_wp2_with fail
              go_ret
              exact ⟨by rw [← HR.out]; simp [onlyR, he1, he2], by (first | exact HB.out | (have h9 := HB.out; rw [hgx] at h9; exact h9))⟩
             | true =>
              cases B with
              | false =>
               go_wp2_with fail
               go_ret
               exact ⟨by rw [← HR.out]; simp [onlyR, he1, he2], by (first | exact HB.out | (have h9 := HB.out; rw [hgx] at h9; exact h9))⟩
              | true =>
               go_wp2_with fail
               refine (HQN.out).mono ?_
               rintro e w5 ⟨rfl, hb5⟩
               replace HB := Lib.hid (HB.out.trans (hb5.mono HB.out.size))
               have hk5 := fun (g i : Nat) (x : Value) (h : wd.cell? ⟨g, i, none⟩ = some x) => keep_cell hb5 h
               clear hb5
               replace z1 := hk5 _ _ _ z1
               replace z2 := hk5 _ _ _ z2
               clear hk5
               cases k1 with
               | false =>
                go_wp2_with fail
                go_ret
                exact ⟨by rw [← HR.out]; simp [onlyR, he1, he2], by (first | exact HB.out | (have h9 := HB.out; rw [hgx] at h9; exact h9))⟩
               | true =>
                go_wp2_with fail
                refine (HQF.out _).mono ?_
                rintro e w6 ⟨rfl, hb6⟩
                replace HB := Lib.hid (HB.out.trans (hb6.mono HB.out.size))
                clear hb6
                cases k2 with
                | false =>
                 go_wp2_with fail
                 go_ret
                 exact ⟨by rw [← HR.out]; simp [onlyR, he1, he2], by (first | exact HB.out | (have h9 := HB.out; rw [hgx] at h9; exact h9))⟩
                | true =>
                 go_wp2_with fail
                 go_ret
                 exact ⟨by rw [← HR.out]; simp [onlyR, he1, he2], by (first | exact HB.out | (have h9 := HB.out; rw [hgx] at h9; exact h9))⟩
          | true =>
           go_wp2_with fail
           go_ret
           exact ⟨by rw [← HR.out]; simp [onlyR, he1, he2], by (first | exact HB.out | (have h9 := HB.out; rw [hgx] at h9; exact h9))⟩
        | true =>
         go_wp2_with fail
         go_ret
         exact ⟨by rw [← HR.out]; simp [onlyR, he1, he2], by (first | exact HB.out | (have h9 := HB.out; rw [hgx] at h9; exact h9))⟩
end Go.Proofs.YtiipjbafdhijlaaGreatDoor
