/-
  NuK, in one text.
-/
import Derived.Test.YtiipjbafdhijlaaGreatDoorZuJ
namespace Go.Proofs.YtiipjbafdhijlaaGreatDoor
open Go Go.RowKit
set_option linter.unusedVariables false
set_option linter.unusedSimpArgs false
open Go.Sort
theorem len0_9 (n : Nat) : ((n : Int) == 0) = (n == 0) := by
 cases e : (n == 0) with
 | true => rw [beq_iff_eq] at e ⊢; omega
 | false => rw [beq_eq_false_iff_ne] at e ⊢; omega
theorem name_ne9 (s : Bytes) : (!s.isEmpty && isNameB s) = isNameB s := by
 cases s with
 | nil => rfl
 | cons b r => rfl
theorem head_f9 (xl : List XT) : headB false xl = true := rfl
def cntN : Nat → Int
 | 1 => 1 | 2 => 1 | 3 => 2 | 4 => 2 | 5 => 0 | 6 => 0 | 7 => 0 | 8 => 1 | 9 => 2 | 10 => 1 | _ => -1
def itemR (op : Int) (ON LN TG MX MS ML ME MP MB : Bool) : Bool := (decide (1 ≤ op) && (decide (op ≤ 10) && (ON && (LN && (!(op == 4) || TG))))) && (MX && (MS && (ML && (ME && (MP && MB)))))
theorem count0_9 (n : Nat) : countB n 0 false = (n == 0) := by unfold countB; rw [Bool.false_and, Bool.or_false, len0_9]
theorem count1_9 (n : Nat) : countB n 0 true = true := by
 unfold countB
 rw [Bool.true_and, len0_9]
 cases n with
 | zero => rfl
 | succ m => rw [Bool.or_eq_true]; right; rw [decide_eq_true_eq]; omega
theorem sum0_9 (n m : Nat) : (n + m == 0) = ((n == 0) && (m == 0)) := by
 cases n <;> cases m <;> simp
theorem none_all9 {α : Type} (p : α → Bool) (l : List α) : ((l.length == 0) && l.all p) = (l.length == 0) := by cases l <;> simp
theorem item_ref (op : Int) (nm nf : Bytes) (xa : Option Addr) (xc : Nat) (xl : List XT) (sa : Option Addr) (sc : Nat) (sl : List ST) (la : Option Addr) (lc : Nat) (ll : List IT) (ea : Option Addr) (ec : Nat) (el : List IT) (pa : Option Addr) (pc : Nat) (pl : List BT) (ba : Option Addr) (bc : Nat) (bl : List BT) :
  mayI (.mk op nm nf xa xc xl sa sc sl la lc ll ea ec el pa pc pl ba bc bl) = itemR op (onlyB (.mk op nm nf xa xc xl sa sc sl la lc ll ea ec el pa pc pl ba bc bl)) ((xl.length : Int) == cntN op.toNat) (targR xl) (xl.all mayX) (sl.all standS) (ll.all mayI) (el.all mayI) (pl.all mayB') (bl.all mayB') := by
 rw [mayI]
 cases hb : amongB op 11 with
 | false =>
  have h1 : ¬ (1 ≤ op ∧ op ≤ 10) := by
   intro h; unfold amongB at hb
   rw [decide_eq_true h.1, decide_eq_true (by omega)] at hb; cases hb
  unfold itemR
  rw [Bool.false_and]
  by_cases h2 : 1 ≤ op
  ·rw [decide_eq_false (show ¬ op ≤ 10 from fun h => h1 ⟨h2, h⟩)]; simp
  ·rw [decide_eq_false h2]; simp
 | true =>
  have hr : 1 ≤ op ∧ op < 11 := by unfold amongB at hb; simpa using hb
  obtain ⟨k, rfl⟩ : ∃ k : Nat, op = (k : Int) := ⟨op.toNat, by omega⟩
  have c10 : k = 1 ∨ k = 2 ∨ k = 3 ∨ k = 4 ∨ k = 5 ∨ k = 6 ∨ k = 7 ∨ k = 8 ∨ k = 9 ∨ k = 10 := by omega
  have n1 := name_ne9 nm
  have n2 := name_ne9 nf
  clear hb hr
  rw [Int.toNat_natCast, mayIL_all, mayIL_all]
  unfold onlyB itemR onlyR onN onO onS onL onE onB
  simp only [sum0_9]
  rw [← none_all9 standS sl, ← none_all9 mayI ll, ← none_all9 mayI el, ← none_all9 mayB' pl, ← none_all9 mayB' bl]
  have g1 : decide ((1 : Int) ≤ (k : Int)) = true := by rw [decide_eq_true_eq]; omega
  have g2 : decide ((k : Int) ≤ 10) = true := by rw [decide_eq_true_eq]; omega
  have f4 : ((k : Int) == 4) = (k == 4) := by rw [Bool.eq_iff_iff, beq_iff_eq, beq_iff_eq]; omega
  have f5 : ((k : Int) == 5) = (k == 5) := by rw [Bool.eq_iff_iff, beq_iff_eq, beq_iff_eq]; omega
  have f6 : ((k : Int) == 6) = (k == 6) := by rw [Bool.eq_iff_iff, beq_iff_eq, beq_iff_eq]; omega
  have f7 : ((k : Int) == 7) = (k == 7) := by rw [Bool.eq_iff_iff, beq_iff_eq, beq_iff_eq]; omega
  have f8 : ((k : Int) == 8) = (k == 8) := by rw [Bool.eq_iff_iff, beq_iff_eq, beq_iff_eq]; omega
  have f9 : ((k : Int) == 9) = (k == 9) := by rw [Bool.eq_iff_iff, beq_iff_eq, beq_iff_eq]; omega
  simp only [f4, f5, f6, f7, f8, f9, g1, g2]
  clear f4 f5 f6 f7 f8 f9 g1 g2
  rcases c10 with h | h | h | h | h | h | h | h | h | h <;> subst h
  all_goals
   simp only [Nat.reduceBEq, ki, nameB, head_targ, head_f9, count0_9, count1_9, cntN, if_true, Bool.true_and, Bool.and_true, Bool.and_false, Bool.or_true, Bool.or_false, Bool.not_false, Bool.not_true, Bool.false_or, Bool.true_or, Bool.false_eq_true, if_false, Bool.false_and]
   generalize isNameB nm = NM at *
   generalize List.isEmpty nm = EN at *
   generalize isNameB nf = NF at *
   generalize List.isEmpty nf = EF at *
   generalize xl.all mayX = XA at *
   generalize sl.all standS = SA at *
   generalize ll.all mayI = LA at *
   generalize el.all mayI = EA at *
   generalize pl.all mayB' = PA at *
   generalize bl.all mayB' = BA at *
   generalize (sl.length == 0) = S0 at *
   generalize (ll.length == 0) = L0 at *
   generalize (el.length == 0) = E0 at *
   generalize (pl.length == 0) = P0 at *
   generalize (bl.length == 0) = B0 at *
   generalize targR xl = TG at *
   (try generalize ((xl.length : Int) == _) = X1 at *)
   rw [Bool.eq_iff_iff]
   constructor <;> intro h <;> simp_all
set_option maxHeartbeats 16000000 in
set_option maxRecDepth 100000 in
theorem refitem_walk (op : Int) (nm nf : Bytes) (xa : Option Addr) (xc : Nat) (xl : List XT) (sa : Option Addr) (sc : Nat) (sl : List ST) (la : Option Addr) (lc : Nat) (ll : List IT) (ea : Option Addr) (ec : Nat) (el : List IT) (pa : Option Addr) (pc : Nat) (pl : List BT) (ba : Option Addr) (bc : Nat) (bl : List BT)
  (ON TG MX MS ML ME MP MB : Bool) (w : World) (hxl : xl.length ≤ 4500000)
  (hO : ∀ V, Calls Tryz.prog 148 #[.agg #[.int .i64 op, .string (bs nm), .string (bs nf), .slice xa xl.length xc, .slice sa sl.length sc, .slice la ll.length lc, .slice ea el.length ec, .slice pa pl.length pc, .slice ba bl.length bc]] V fun e w' => e = .returned (.bool ON) ∧ Below V.heap.size V w')
  (hT : ∀ V, Below w.heap.size w V → Calls Tryz.prog 149 #[.slice xa xl.length xc] V fun e w' => e = .returned (.bool TG) ∧ Below V.heap.size V w')
  (hX : ∀ V, Below w.heap.size w V → Calls Tryz.prog 125 #[.slice xa xl.length xc] V fun e w' => e = .returned (.bool MX) ∧ Below V.heap.size V w')
  (hS : ∀ V, Below w.heap.size w V → Calls Tryz.prog 150 #[.slice sa sl.length sc] V fun e w' => e = .returned (.bool MS) ∧ Below V.heap.size V w')
  (hL : ∀ V, Below w.heap.size w V → Calls Tryz.prog 96 #[.slice la ll.length lc] V fun e w' => e = .returned (.bool ML) ∧ Below V.heap.size V w')
  (hE : ∀ V, Below w.heap.size w V → Calls Tryz.prog 96 #[.slice ea el.length ec] V fun e w' => e = .returned (.bool ME) ∧ Below V.heap.size V w')
  (hP : ∀ V, Below w.heap.size w V → Calls Tryz.prog 95 #[.slice pa pl.length pc] V fun e w' => e = .returned (.bool MP) ∧ Below V.heap.size V w')
  (hB : ∀ V, Below w.heap.size w V → Calls Tryz.prog 95 #[.slice ba bl.length bc] V fun e w' => e = .returned (.bool MB) ∧ Below V.heap.size V w') :
  Calls Tryz.prog 126 #[.agg #[.int .i64 op, .string (bs nm), .string (bs nf), .slice xa xl.length xc, .slice sa sl.length sc, .slice la ll.length lc, .slice ea el.length ec, .slice pa pl.length pc, .slice ba bl.length bc]] w fun e w' => e = .returned (.bool (itemR op ON ((xl.length : Int) == cntN op.toNat) TG MX MS ML ME MP MB)) ∧ Below w.heap.size w w' := by
 obtain ⟨gx, hgx⟩ : ∃ gx, w.heap.size = gx := ⟨_, rfl⟩
 obtain ⟨w1, hw1⟩ : ∃ w1, w.alloc (.cells #[.int .i64 op, .string (bs nm), .string (bs nf), .slice xa xl.length xc, .slice sa sl.length sc, .slice la ll.length lc, .slice ea el.length ec, .slice pa pl.length pc, .slice ba bl.length bc] 48) = w1 := ⟨_, rfl⟩
 have hb0 : Below w.heap.size w w1 := by rw [← hw1]; exact (Below.refl _ _).alloc (Nat.le_refl _) _
 have BX : w1.heap[gx]? = some (.cells #[.int .i64 op, .string (bs nm), .string (bs nf), .slice xa xl.length xc, .slice sa sl.length sc, .slice la ll.length lc, .slice ea el.length ec, .slice pa pl.length pc, .slice ba bl.length bc] 48 (0, 0)) := by rw [← hw1, ← hgx]; exact World.alloc_heap_new w _
 obtain ⟨w2, hw2⟩ : ∃ w2, w1.alloc (.cells #[.int .i64 (-1), .int .i64 1, .int .i64 1, .int .i64 2, .int .i64 2, .int .i64 0, .int .i64 0, .int .i64 0, .int .i64 1, .int .i64 2, .int .i64 1] 3) = w2 := ⟨_, rfl⟩
 obtain ⟨gc, hgc⟩ : ∃ gc, w1.heap.size = gc := ⟨_, rfl⟩
 have hb1 : Below w1.heap.size w1 w2 := by rw [← hw2]; exact (Below.refl _ _).alloc (Nat.le_refl _) _
 have BC : w2.heap[gc]? = some (.cells #[.int .i64 (-1), .int .i64 1, .int .i64 1, .int .i64 2, .int .i64 2, .int .i64 0, .int .i64 0, .int .i64 0, .int .i64 1, .int .i64 2, .int .i64 1] 3 (0, 0)) := by rw [← hw2, ← hgc]; exact World.alloc_heap_new w1 _
 have BX2 : w2.heap[gx]? = some (.cells #[.int .i64 op, .string (bs nm), .string (bs nf), .slice xa xl.length xc, .slice sa sl.length sc, .slice la ll.length lc, .slice ea el.length ec, .slice pa pl.length pc, .slice ba bl.length bc] 48 (0, 0)) := (hb1.block gx (Array.getElem?_eq_some_iff.1 BX).1).trans BX
 have hb2 : Below w.heap.size w w2 := hb0.trans (hb1.mono hb0.size)
 have z0 : w2.cell? ⟨gx, 0, none⟩ = some (.int .i64 op) := by simp [World.cell?, BX2]
 have z1 : w2.cell? ⟨gx, 1, none⟩ = some (.string (bs nm)) := by simp [World.cell?, BX2]
 have z2 : w2.cell? ⟨gx, 2, none⟩ = some (.string (bs nf)) := by simp [World.cell?, BX2]
 have z3 : w2.cell? ⟨gx, 3, none⟩ = some (.slice xa xl.length xc) := by simp [World.cell?, BX2]
 have z4 : w2.cell? ⟨gx, 4, none⟩ = some (.slice sa sl.length sc) := by simp [World.cell?, BX2]
 have z5 : w2.cell? ⟨gx, 5, none⟩ = some (.slice la ll.length lc) := by simp [World.cell?, BX2]
 have z6 : w2.cell? ⟨gx, 6, none⟩ = some (.slice ea el.length ec) := by simp [World.cell?, BX2]
 have z7 : w2.cell? ⟨gx, 7, none⟩ = some (.slice pa pl.length pc) := by simp [World.cell?, BX2]
 have z8 : w2.cell? ⟨gx, 8, none⟩ = some (.slice ba bl.length bc) := by simp [World.cell?, BX2]
 have HB := Lib.hid hb2
 have HO := Lib.hid hO
 have HC := Lib.hid (And.intro hT (And.intro hX (And.intro hS (And.intro hL (And.intro hE (And.intro hP hB))))))
 clear hO hT hX hS hL hE hP hB hb0 hb1 hb2 BX BX2
 go_enter Tryz.func126, Tryz.ntmps126
 go_upto_region 2 with (fail)
 (try rw [hw1])
 (try rw [hgx])
 (try rw [hw2])
 (try rw [hgc])
 clear hw1 hw2
 go_cut [39] from 5 to 39 (fun p wx => p = .bool (!(decide (1 ≤ op) && (decide (op ≤ 10) && (ON && (((xl.length : Int) == cntN op.toNat) && (!(op == 4) || TG)))))) ∧ Below w2.heap.size w2 wx)
 case first =>
  have HT := Lib.hid (fun (dq : Nat) (osq : Array Obj) => HC.out.1 (grow (redrawn w2 dq) osq) (HB.out.trans ((below_regrown w2 dq osq).mono HB.out.size)))
  have z0R := cell_regrown z0
  have z1R := cell_regrown z1
  have z2R := cell_regrown z2
  have z3R := cell_regrown z3
  have z4R := cell_regrown z4
  have z5R := cell_regrown z5
  have z6R := cell_regrown z6
  have z7R := cell_regrown z7
  have z8R := cell_regrown z8
  by_cases h1 : op < 1
  ·have d1 : decide (op < 1) = true := by simpa using h1
   have c1 : decide (1 ≤ op) = false := by rw [decide_eq_false_iff_not]; omega
   refine wp_region_quiet_below (by kernel_rfl) (by kernel_rfl) ?_
   repeat (go_big_quiet_step (fail))
   refine wpQuiet_nil ?_
   intro _ hw'
   obtain ⟨⟨dq, osq⟩, hw''⟩ := hw'
   subst hw''
   have hbq := below_regrown w2 dq osq
   go_wp2
   go_meet
   exact ⟨by simp only [Int.toNat_natCast, c1, Bool.true_and, Bool.and_true, Bool.false_and, Bool.and_false, Bool.not_true, Bool.not_false, Bool.true_or, Bool.or_true, Bool.false_or], hbq⟩
  have d1 : decide (op < 1) = false := by simpa using h1
  have c1 : decide (1 ≤ op) = true := by rw [decide_eq_true_eq]; omega
  by_cases h2 : 10 < op
  ·have d2 : decide (10 < op) = true := by simpa using h2
   have c2 : decide (op ≤ 10) = false := by rw [decide_eq_false_iff_not]; omega
   refine wp_region_quiet_below (by kernel_rfl) (by kernel_rfl) ?_
   repeat (go_big_quiet_step (fail))
   refine wpQuiet_nil ?_
   intro _ hw'
   obtain ⟨⟨dq, osq⟩, hw''⟩ := hw'
   subst hw''
   have hbq := below_regrown w2 dq osq
   go_wp2
   go_meet
   exact ⟨by simp only [Int.toNat_natCast, c1, c2, Bool.true_and, Bool.and_true, Bool.false_and, Bool.and_false, Bool.not_true, Bool.not_false, Bool.true_or, Bool.or_true, Bool.false_or], hbq⟩
  have d2 : decide (10 < op) = false := by simpa using h2
  have c2 : decide (op ≤ 10) = true := by rw [decide_eq_true_eq]; omega
  obtain ⟨k, rfl⟩ : ∃ k : Nat, op = (k : Int) := ⟨op.toNat, by omega⟩
  have k1 : 1 ≤ k := by omega
  have k2 : k < 11 := by omega
  have k3 : (k : Int) < 11 := by omega
  have k4 : (0 : Int) ≤ (k : Int) := by omega
  have zc : w2.cell? ⟨gc, k, none⟩ = some (.int .i64 (cntN k)) := by
   have c10 : k = 1 ∨ k = 2 ∨ k = 3 ∨ k = 4 ∨ k = 5 ∨ k = 6 ∨ k = 7 ∨ k = 8 ∨ k = 9 ∨ k = 10 := by omega
   rcases c10 with h | h | h | h | h | h | h | h | h | h <;> subst h <;> simp [World.cell?, BC, cntN]
  have zcR := cell_regrown zc
  cases ON with
  | false =>
   refine wp_region_quiet_below (by kernel_rfl) (by kernel_rfl) ?_
   repeat (go_big_quiet_step (first | (go_at_call_of 148 (Value.agg #[.int .i64 (k : Int), .string (bs nm), .string (bs nf), .slice xa xl.length xc, .slice sa sl.length sc, .slice la ll.length lc, .slice ea el.length ec, .slice pa pl.length pc, .slice ba bl.length bc]); exact Calls.regrown_of (HO.out _))))
   refine wpQuiet_nil ?_
   intro _ hw'
   obtain ⟨⟨dq, osq⟩, hw''⟩ := hw'
   subst hw''
   have hbq := below_regrown w2 dq osq
   go_wp2
   go_meet
   exact ⟨by simp only [Int.toNat_natCast, c1, c2, Bool.true_and, Bool.and_true, Bool.false_and, Bool.and_false, Bool.not_true, Bool.not_false, Bool.true_or, Bool.or_true, Bool.false_or], hbq⟩
  | true =>
   by_cases h4 : k = 4
   ·subst h4
    replace z0R : ∀ d os, (grow (redrawn w2 d) os).cell? ⟨gx, 0, none⟩ = some (.int .i64 4) := z0R
    replace zcR : ∀ d os, (grow (redrawn w2 d) os).cell? ⟨gc, 4, none⟩ = some (.int .i64 2) := zcR
    have HO4 := Lib.hid (show ∀ V, Calls Tryz.prog 148 #[.agg #[.int .i64 4, .string (bs nm), .string (bs nf), .slice xa xl.length xc, .slice sa sl.length sc, .slice la ll.length lc, .slice ea el.length ec, .slice pa pl.length pc, .slice ba bl.length bc]] V fun e w' => e = .returned (.bool true) ∧ Below V.heap.size V w' from HO.out)
    have f1 : (((4 : Nat) : Int) == 4) = true := rfl
    clear z0 zc k1 k2 k3 k4 d1 d2 h1 h2
    by_cases h3 : (xl.length : Int) = 2
    ·have n1 : ((xl.length : Int) != 2) = false := by simpa using h3
     have n2 : ((xl.length : Int) == 2) = true := by simpa using h3
     have n3 : (xl.length != 2) = false := by simp; omega
     have n4 : (xl.length == 2) = true := by simp; omega
     clear h3
     have d1 : decide ((4 : Int) < 1) = false := rfl
     have d2 : decide ((10 : Int) < 4) = false := rfl
     cases TG with
     | false =>
      refine wp_region_quiet_below (by kernel_rfl) (by kernel_rfl) ?_
      repeat (go_big_quiet_step (first | (go_at_call_of 148 (Value.agg #[.int .i64 4, .string (bs nm), .string (bs nf), .slice xa xl.length xc, .slice sa sl.length sc, .slice la ll.length lc, .slice ea el.length ec, .slice pa pl.length pc, .slice ba bl.length bc]); exact Calls.regrown_of (HO4.out _)) | (go_at_call_of 149 (Value.slice xa xl.length xc); exact Calls.regrown_of (HT.out _ _))))
      refine wpQuiet_nil ?_
      intro _ hw'
      obtain ⟨⟨dq, osq⟩, hw''⟩ := hw'
      subst hw''
      have hbq := below_regrown w2 dq osq
      go_wp2
      go_meet
      exact ⟨by simp only [Int.toNat_natCast, c1, c2, n2, f1, cntN, Bool.true_and, Bool.and_true, Bool.false_and, Bool.and_false, Bool.not_true, Bool.not_false, Bool.true_or, Bool.or_true, Bool.false_or], hbq⟩
     | true =>
      refine wp_region_quiet_below (by kernel_rfl) (by kernel_rfl) ?_
      repeat (go_big_quiet_step (first | (go_at_call_of 148 (Value.agg #[.int .i64 4, .string (bs nm), .string (bs nf), .slice xa xl.length xc, .slice sa sl.length sc, .slice la ll.length lc, .slice ea el.length ec, .slice pa pl.length pc, .slice ba bl.length bc]); exact Calls.regrown_of (HO4.out _)) | (go_at_call_of 149 (Value.slice xa xl.length xc); exact Calls.regrown_of (HT.out _ _))))
      refine wpQuiet_nil ?_
      intro _ hw'
      obtain ⟨⟨dq, osq⟩, hw''⟩ := hw'
      subst hw''
      have hbq := below_regrown w2 dq osq
      go_wp2
      go_meet
      exact ⟨by simp only [Int.toNat_natCast, c1, c2, n2, f1, cntN, Bool.true_and, Bool.and_true, Bool.false_and, Bool.and_false, Bool.not_true, Bool.not_false, Bool.true_or, Bool.or_true, Bool.false_or], hbq⟩
    ·have n1 : ((xl.length : Int) != 2) = true := by simpa using h3
     have n2 : ((xl.length : Int) == 2) = false := by simpa using h3
     have n3 : (xl.length != 2) = true := by simp; omega
     have n4 : (xl.length == 2) = false := by simp; omega
     clear h3
     have d1 : decide ((4 : Int) < 1) = false := rfl
     have d2 : decide ((10 : Int) < 4) = false := rfl
     refine wp_region_quiet_below (by kernel_rfl) (by kernel_rfl) ?_
     repeat (go_big_quiet_step (first | (go_at_call_of 148 (Value.agg #[.int .i64 4, .string (bs nm), .string (bs nf), .slice xa xl.length xc, .slice sa sl.length sc, .slice la ll.length lc, .slice ea el.length ec, .slice pa pl.length pc, .slice ba bl.length bc]); exact Calls.regrown_of (HO4.out _))))
     refine wpQuiet_nil ?_
     intro _ hw'
     obtain ⟨⟨dq, osq⟩, hw''⟩ := hw'
     subst hw''
     have hbq := below_regrown w2 dq osq
     go_wp2
     go_meet
     exact ⟨by simp only [Int.toNat_natCast, c1, c2, n2, f1, cntN, Bool.true_and, Bool.and_true, Bool.false_and, Bool.and_false, Bool.not_true, Bool.not_false, Bool.true_or, Bool.or_true, Bool.false_or], hbq⟩
   ·have f1 : ((k : Int) == 4) = false := by rw [beq_eq_false_iff_ne]; omega
    by_cases h3 : (xl.length : Int) = cntN k
    ·have n1 : ((xl.length : Int) != cntN k) = false := by simpa using h3
     have n2 : ((xl.length : Int) == cntN k) = true := by simpa using h3
     clear h3 h4
     refine wp_region_quiet_below (by kernel_rfl) (by kernel_rfl) ?_
     repeat (go_big_quiet_step (first | (go_at_call_of 148 (Value.agg #[.int .i64 (k : Int), .string (bs nm), .string (bs nf), .slice xa xl.length xc, .slice sa sl.length sc, .slice la ll.length lc, .slice ea el.length ec, .slice pa pl.length pc, .slice ba bl.length bc]); exact Calls.regrown_of (HO.out _))))
     refine wpQuiet_nil ?_
     intro _ hw'
     obtain ⟨⟨dq, osq⟩, hw''⟩ := hw'
     subst hw''
     have hbq := below_regrown w2 dq osq
     go_wp2
     go_meet
     exact ⟨by simp only [Int.toNat_natCast, c1, c2, n2, f1, Bool.true_and, Bool.and_true, Bool.false_and, Bool.and_false, Bool.not_true, Bool.not_false, Bool.true_or, Bool.or_true, Bool.false_or], hbq⟩
    ·have n1 : ((xl.length : Int) != cntN k) = true := by simpa using h3
     have n2 : ((xl.length : Int) == cntN k) = false := by simpa using h3
     clear h3 h4
     refine wp_region_quiet_below (by kernel_rfl) (by kernel_rfl) ?_
     repeat (go_big_quiet_step (first | (go_at_call_of 148 (Value.agg #[.int .i64 (k : Int), .string (bs nm), .string (bs nf), .slice xa xl.length xc, .slice sa sl.length sc, .slice la ll.length lc, .slice ea el.length ec, .slice pa pl.length pc, .slice ba bl.length bc]); exact Calls.regrown_of (HO.out _))))
     refine wpQuiet_nil ?_
     intro _ hw'
     obtain ⟨⟨dq, osq⟩, hw''⟩ := hw'
     subst hw''
     have hbq := below_regrown w2 dq osq
     go_wp2
     go_meet
     exact ⟨by simp only [Int.toNat_natCast, c1, c2, n2, Bool.true_and, Bool.and_true, Bool.false_and, Bool.and_false, Bool.not_true, Bool.not_false, Bool.true_or, Bool.or_true, Bool.false_or], hbq⟩
 case rest =>
  obtain ⟨rfl, hbw⟩ := hcut
  generalize wc = w3 at *
  replace z0 := keep_cell hbw z0
  replace z1 := keep_cell hbw z1
  replace z2 := keep_cell hbw z2
  replace z3 := keep_cell hbw z3
  replace z4 := keep_cell hbw z4
  replace z5 := keep_cell hbw z5
  replace z6 := keep_cell hbw z6
  replace z7 := keep_cell hbw z7
  replace z8 := keep_cell hbw z8
  replace HB := Lib.hid (HB.out.trans (hbw.mono HB.out.size))
  clear hbw BC
  cases hg : (decide (1 ≤ op) && (decide (op ≤ 10) && (ON && (((xl.length : Int) == cntN op.toNat) && (!(op == 4) || TG))))) with
  | false =>
   go_wp2_with fail
   go_ret
   exact ⟨by unfold itemR; rw [hg]; rfl, by (first | exact HB.out | (have h9 := HB.out; rw [hgx] at h9; exact h9))⟩
  | true =>
   have hR : itemR op ON ((xl.length : Int) == cntN op.toNat) TG MX MS ML ME MP MB = (MX && (MS && (ML && (ME && (MP && MB))))) := by unfold itemR; rw [hg]; rfl
   have HR := Lib.hid hR
   clear hR hg
   go_wp2_with fail
   refine (HC.out.2.1 _ (by first | exact HB.out)).mono ?_
   rintro e w5 ⟨rfl, hb5⟩
   replace HB := Lib.hid (HB.out.trans (hb5.mono HB.out.size))
   replace z4 := keep_cell hb5 z4
   replace z5 := keep_cell hb5 z5
   replace z6 := keep_cell hb5 z6
   replace z7 := keep_cell hb5 z7
   replace z8 := keep_cell hb5 z8
   clear hb5
   cases MX with
   | false =>
    go_wp2_with fail
    go_ret
    exact ⟨by rw [HR.out]; simp, by (first | exact HB.out | (have h9 := HB.out; rw [hgx] at h9; exact h9))⟩
   | true =>
    go_wp2_with fail
    refine (HC.out.2.2.1 _ (by first | exact HB.out)).mono ?_
    rintro e w5 ⟨rfl, hb5⟩
    replace HB := Lib.hid (HB.out.trans (hb5.mono HB.out.size))
    replace z5 := keep_cell hb5 z5
    replace z6 := keep_cell hb5 z6
    replace z7 := keep_cell hb5 z7
    replace z8 := keep_cell hb5 z8
    clear hb5
    cases MS with
    | false =>
     go_wp2_with fail
     go_ret
     exact ⟨by rw [HR.out]; simp, by (first | exact HB.out | (have h9 := HB.out; rw [hgx] at h9; exact h9))⟩
    | true =>
     go_wp2_with fail
     refine (HC.out.2.2.2.1 _ (by first | exact HB.out)).mono ?_
     rintro e w5 ⟨rfl, hb5⟩
     replace HB := Lib.hid (HB.out.trans (hb5.mono HB.out.size))
     replace z6 := keep_cell hb5 z6
     replace z7 := keep_cell hb5 z7
     replace z8 := keep_cell hb5 z8
     clear hb5
     cases ML with
     | false =>
      go_wp2_with fail
      go_ret
      exact ⟨by rw [HR.out]; simp, by (first | exact HB.out | (have h9 := HB.out; rw [hgx] at h9; exact h9))⟩
     | true =>
      go_wp2_with fail
      refine (HC.out.2.2.2.2.1 _ (by first | exact HB.out)).mono ?_
      rintro e w5 ⟨rfl, hb5⟩
      replace HB := Lib.hid (HB.out.trans (hb5.mono HB.out.size))
      replace z7 := keep_cell hb5 z7
      replace z8 := keep_cell hb5 z8
      clear hb5
      cases ME with
      | false =>
       go_wp2_with fail
       go_ret
       exact ⟨by rw [HR.out]; simp, by (first | exact HB.out | (have h9 := HB.out; rw [hgx] at h9; exact h9))⟩
      | true =>
       go_wp2_with fail
       refine (HC.out.2.2.2.2.2.1 _ (by first | exact HB.out)).mono ?_
       rintro e w5 ⟨rfl, hb5⟩
       replace HB := Lib.hid (HB.out.trans (hb5.mono HB.out.size))
       replace z8 := keep_cell hb5 z8
       clear hb5
       cases MP with
       | false =>
        go_wp2_with fail
        go_ret
        exact ⟨by rw [HR.out]; simp, by (first | exact HB.out | (have h9 := HB.out; rw [hgx] at h9; exact h9))⟩
       | true =>
        go_wp2_with fail
        refine (HC.out.2.2.2.2.2.2 _ (by first | exact HB.out)).mono ?_
        rintro e w5 ⟨rfl, hb5⟩
        replace HB := Lib.hid (HB.out.trans (hb5.mono HB.out.size))
        clear hb5
        cases MB with
        | false =>
         go_wp2_with fail
         go_ret
         exact ⟨by rw [HR.out]; simp, by (first | exact HB.out | (have h9 := HB.out; rw [hgx] at h9; exact h9))⟩
        | true =>
         go_wp2_with fail
         go_ret
         exact ⟨by rw [HR.out]; rfl, by (first | exact HB.out | (have h9 := HB.out; rw [hgx] at h9; exact h9))⟩
end Go.Proofs.YtiipjbafdhijlaaGreatDoor
