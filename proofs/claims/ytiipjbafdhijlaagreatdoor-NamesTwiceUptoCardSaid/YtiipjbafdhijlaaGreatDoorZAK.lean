/-
  AsK, in one text.
-/
import Derived.Test.YtiipjbafdhijlaaGreatDoorZAE
import Derived.Test.YtiipjbafdhijlaaGreatDoorZSd
namespace Go.Proofs.YtiipjbafdhijlaaGreatDoor
open Go Go.RowKit
set_option linter.unusedVariables false
set_option linter.unusedSimpArgs false
open Go.Sort
def kx : Nat → Bool × Int × Bool × Int × Int
 | 2 => (true, 0, false, 0, 0)
 | 3 => (true, 2, false, 0, 0)
 | 4 => (true, 1, false, 0, 0)
 | 5 => (false, 1, false, 1, 6)
 | 6 => (false, 2, false, 11, 26)
 | 7 => (false, 3, false, 0, 0)
 | 8 => (false, 1, true, 0, 0)
 | 9 => (false, 2, false, 0, 0)
 | 10 => (false, 2, false, 31, 33)
 | _ => (false, 0, false, 0, 0)
def ks : Nat → Bool × Bool × Int × Int × Bool × Bool × Nat × Nat
 | 1 => (false, true, 2, 0, false, false, 0, 0)
 | 2 => (false, false, 1, 2, false, false, 32, 36)
 | 3 => (false, false, 1, 1, false, true, 16, 16)
 | 4 => (false, false, 0, 0, true, true, 110, 110)
 | 5 => (false, false, 0, 0, false, true, 110, 110)
 | 6 => (true, false, 2, 0, false, true, 110, 110)
 | _ => (false, false, 0, 0, false, false, 0, 0)
def ki : Nat → Bool × Bool × Bool × Int × Bool × Bool × Bool × Bool
 | 1 => (true, false, false, 1, false, false, false, false)
 | 2 => (true, false, false, 1, false, false, false, false)
 | 3 => (true, false, false, 2, false, false, false, false)
 | 4 => (false, false, true, 2, false, false, false, false)
 | 5 => (false, false, false, 0, true, false, false, false)
 | 6 => (false, false, false, 0, true, false, false, false)
 | 7 => (true, true, false, 0, false, false, false, true)
 | 8 => (false, false, false, 1, false, true, true, false)
 | 9 => (true, true, false, 2, false, true, false, false)
 | 10 => (true, false, false, 1, false, false, false, false)
 | _ => (false, false, false, 0, false, false, false, false)
def kxC (k : Nat) : List Value := [.bool (kx k).1, .int .i64 (kx k).2.1, .bool (kx k).2.2.1, .int .i64 (kx k).2.2.2.1, .int .i64 (kx k).2.2.2.2]
def ksC (k : Nat) : List Value := [.bool (ks k).1, .bool (ks k).2.1, .int .i64 (ks k).2.2.1, .int .i64 (ks k).2.2.2.1, .bool (ks k).2.2.2.2.1, .bool (ks k).2.2.2.2.2.1, .int .u64 ((ks k).2.2.2.2.2.2.1 : Int), .int .u64 ((ks k).2.2.2.2.2.2.2 : Int)]
def kiC (k : Nat) : List Value := [.bool (ki k).1, .bool (ki k).2.1, .bool (ki k).2.2.1, .int .i64 (ki k).2.2.2.1, .bool (ki k).2.2.2.2.1, .bool (ki k).2.2.2.2.2.1, .bool (ki k).2.2.2.2.2.2.1, .bool (ki k).2.2.2.2.2.2.2]
/-- What of the world is read: the signs, how long the library's search may be, and the tables of kinds. -/
structure EnvA (w : World) : Prop where
 env : Env w
 xk : ∀ k, k < 11 → RowC w 1 (k * 5) (kxC k)
 sk : ∀ k, k < 7 → RowC w 2 (k * 8) (ksC k)
 ik : ∀ k, k < 11 → RowC w 0 (k * 8) (kiC k)
theorem EnvA.keep {w w' : World} (h : EnvA w) (hb : Below w.heap.size w w') : EnvA w' :=
 ⟨h.env.keep hb, fun k hk j v hv => keep_cell hb (h.xk k hk j v hv), fun k hk j v hv => keep_cell hb (h.sk k hk j v hv), fun k hk j v hv => keep_cell hb (h.ik k hk j v hv)⟩
theorem EnvA.alloc {w : World} (h : EnvA w) (x : Obj) : EnvA (w.alloc x) := h.keep ((Below.refl _ _).alloc (Nat.le_refl _) x)
def amongB (a b : Int) : Bool := decide (1 ≤ a) && decide (a < b)
def countB (c n : Int) (m : Bool) : Bool := (c == n) || (m && decide (n < c))
def nameB (s : Bytes) (m : Bool) : Bool := if m = true then isNameB s else s.isEmpty
def numB (op wd : Int) (v : Nat) : Bool := if op = 1 then (wd == 0) || holdsI wd v else (wd == 0) && ((v : Int) == 0)
def hasB (op : Int) : Bool := amongB op 11 && (kx op.toNat).1
mutual
/-- May an expression be, whatever its size? -/
def mayX : XT → Bool
 | .mk op nm n wd v _ _ l => amongB op 11 && (nameB nm (kx op.toNat).1 && (numB op wd v && (decide ((kx op.toNat).2.2.2.1 ≤ n) && (decide (n ≤ (kx op.toNat).2.2.2.2) && (countB l.length (kx op.toNat).2.1 (kx op.toNat).2.2.1 && mayXL l)))))
def mayXL : List XT → Bool
 | [] => true
 | x :: r => mayX x && mayXL r
end
theorem mayXL_all : ∀ l : List XT, mayXL l = l.all mayX
 | [] => rfl
 | x :: r => by rw [mayXL, mayXL_all r]; rfl
def kindsK (others : Nat) : Nat → List ST → Bool
 | _, [] => true
 | fit, x :: r => !(fit &&& (1 <<< x.op.toNat) == 0) && kindsK others others r
def labelsK : List ST → Bool
 | [] => true
 | x :: r => (r.isEmpty == x.xl.isEmpty) && labelsK r
def headB (t : Bool) (l : List XT) : Bool := !t || (match l with | [] => false | x :: _ => hasB x.op)
mutual
/-- May a statement be, an arm too? -/
def mayS : ST → Bool
 | .mk op nm _ _ xl _ _ sl => amongB op 7 && (nameB nm (ks op.toNat).1 && (countB xl.length (ks op.toNat).2.2.1 (ks op.toNat).2.2.2.2.1 && (xl.all mayX && (headB (ks op.toNat).2.1 xl && (countB sl.length (ks op.toNat).2.2.2.1 (ks op.toNat).2.2.2.2.2.1 && (maySL sl && (kindsK (ks op.toNat).2.2.2.2.2.2.2 (ks op.toNat).2.2.2.2.2.2.1 sl && (!(op == 3) || labelsK sl))))))))
def maySL : List ST → Bool
 | [] => true
 | x :: r => mayS x && maySL r
end
theorem maySL_all : ∀ l : List ST, maySL l = l.all mayS
 | [] => rfl
 | x :: r => by rw [maySL, maySL_all r]; rfl
def standS (s : ST) : Bool := !(s.op == 4) && mayS s
def mayB' (b : BT) : Bool := isNameB b.nm && mayX b.x
def mayP (p : PT) : Bool := isNameB p.nm && mayX p.x
mutual
def mayI : IT → Bool
 | .mk op nm nf _ _ xl _ _ sl _ _ ll _ _ el _ _ pl _ _ bl => amongB op 11 && (nameB nm (ki op.toNat).1 && (nameB nf (ki op.toNat).2.1 && (((xl.length : Int) == (ki op.toNat).2.2.2.1) && (xl.all mayX && (headB (ki op.toNat).2.2.1 xl && (countB sl.length 0 (ki op.toNat).2.2.2.2.1 && (sl.all standS && (countB ll.length 0 (ki op.toNat).2.2.2.2.2.1 && (mayIL ll && (countB el.length 0 (ki op.toNat).2.2.2.2.2.2.1 && (mayIL el && (countB pl.length 0 (ki op.toNat).2.2.2.2.2.2.2 && (pl.all mayB' && (countB bl.length 0 (ki op.toNat).2.2.2.2.2.2.2 && bl.all mayB'))))))))))))))
def mayIL : List IT → Bool
 | [] => true
 | x :: r => mayI x && mayIL r
end
theorem mayIL_all : ∀ l : List IT, mayIL l = l.all mayI
 | [] => rfl
 | x :: r => by rw [mayIL, mayIL_all r]; rfl
def mayM (m : MT) : Bool := isNameB m.nm && (m.pl.all mayB' && (m.tl.all mayP && m.il.all mayI))
/-! ### Small contracts -/
set_option maxHeartbeats 1000000 in
theorem among_any (a b : Int) (w : World) : Calls Tryz.prog 137 #[.int .i64 a, .int .i64 b] w fun e w' => e = .returned (.bool (amongB a b)) ∧ w = w' := by
 have HI : Hid (amongB a b = (decide (1 ≤ a) && decide (a < b))) := Lib.hid rfl
 generalize amongB a b = R at *
 by_cases h1 : 1 ≤ a
 ·have d1 : decide (1 ≤ a) = true := by simpa using h1
  obtain ⟨c, hc⟩ : ∃ c, decide (a < b) = c := ⟨_, rfl⟩
  have HE : Hid (R = c) := Lib.hid (by rw [HI.out, d1, hc]; rfl)
  go_enter Tryz.func137, Tryz.ntmps137
  go_wp2
  go_ret
  exact ⟨by rw [HE.out]; rfl, rfl⟩
 ·have d1 : decide (1 ≤ a) = false := by simpa using h1
  have HE : Hid (R = false) := Lib.hid (by rw [HI.out, d1]; rfl)
  go_enter Tryz.func137, Tryz.ntmps137
  go_wp2
  go_ret
  exact ⟨by rw [HE.out]; rfl, rfl⟩
set_option maxHeartbeats 1000000 in
theorem countFits_any (c n : Int) (m : Bool) (w : World) : Calls Tryz.prog 141 #[.int .i64 c, .int .i64 n, .bool m] w fun e w' => e = .returned (.bool (countB c n m)) ∧ w = w' := by
 have HI : Hid (countB c n m = ((c == n) || (m && decide (n < c)))) := Lib.hid rfl
 generalize countB c n m = R at *
 obtain ⟨b, hb⟩ : ∃ b, (c == n) = b := ⟨_, rfl⟩
 obtain ⟨d, hd⟩ : ∃ d, decide (n < c) = d := ⟨_, rfl⟩
 have HE : Hid (R = (b || (m && d))) := Lib.hid (by rw [HI.out, hb, hd])
 cases b <;> cases m
 all_goals
  go_enter Tryz.func141, Tryz.ntmps141
  go_wp2
  go_ret
  exact ⟨by rw [HE.out]; rfl, rfl⟩
theorem allowed_any (b : Bool) (w : World) : Calls Tryz.prog 81 #[.bool b] w fun e w' => e = .returned (.int .i64 (if b = true then 0 else 1)) ∧ w = w' := by
 cases b
 all_goals
  go_enter Tryz.func81, Tryz.ntmps81
  go_wp2
  go_ret
  exact ⟨rfl, rfl⟩
theorem check_name (s : Bytes) : checkS 1 s 0 0 0 = if isNameB s = true then 0 else 1 := by
 unfold checkS mayB
 cases isNameB s <;> rfl
theorem check_num (wd : Int) (v : Nat) : checkS 3 [] wd v 0 = if ((wd == 0) || holdsI wd v) = true then 0 else 1 := by
 unfold checkS mayB
 cases h : ((wd == 0) || holdsI wd v) <;> simp [h]
set_option maxHeartbeats 2000000 in
theorem aisName_any (s : Bytes) (hs : s.length ≤ 6000000) (w : World) (he : EnvA w) : Calls Tryz.prog 111 #[.string (bs s)] w fun e w' => e = .returned (.bool (isNameB s)) ∧ Below w.heap.size w w' := by
 have hc := check_any 1 s 0 0 0 hs (by omega) w he.env
 rw [check_name] at hc
 have e0 : ((0 : Nat) : Int) = 0 := rfl
 rw [e0] at hc
 clear e0 he
 generalize isNameB s = b at *
 have hb0 : ((if b = true then (0 : Int) else 1) == 0) = b := by cases b <;> rfl
 generalize (if b = true then (0 : Int) else 1) = c at *
 all_goals
  go_enter Tryz.func111, Tryz.ntmps111
  go_wp2_with fail
  refine hc.mono ?_
  rintro e w1 ⟨rfl, hb⟩
  clear hc
  go_wp2
  go_ret
  exact ⟨rfl, hb⟩
set_option maxHeartbeats 2000000 in
theorem nameFits_any (s : Bytes) (m : Bool) (hs : s.length ≤ 6000000) (w : World) (he : EnvA w) : Calls Tryz.prog 138 #[.string (bs s), .bool m] w fun e w' => e = .returned (.bool (nameB s m)) ∧ Below w.heap.size w w' := by
 have hc := aisName_any s hs w he
 clear he
 cases m with
 | true =>
  have HE : Hid (nameB s true = isNameB s) := Lib.hid rfl
  rw [HE.out]
  go_enter Tryz.func138, Tryz.ntmps138
  go_wp2_with fail
  refine hc.mono ?_
  rintro e w1 ⟨rfl, hb⟩
  clear hc
  go_wp2
  go_ret
  exact ⟨rfl, hb⟩
 | false =>
  clear hc
  have HE : Hid (nameB s false = s.isEmpty) := Lib.hid rfl
  rw [HE.out]
  obtain ⟨b, hb⟩ : ∃ b, s.isEmpty = b := ⟨_, rfl⟩
  have hb2 : (s == []) = b := by rw [← hb]; cases s <;> rfl
  rw [hb]
  go_enter Tryz.func138, Tryz.ntmps138
  go_wp2
  go_ret
  exact ⟨rfl, Below.refl _ _⟩
set_option maxHeartbeats 2000000 in
theorem numberFits_any (op : Int) (nm : Bytes) (xn wd : Int) (v : Nat) (xa : Option Addr) (xc : Nat) (xl : List XT) (hv : v < 18446744073709551616) (w : World) (he : EnvA w) : Calls Tryz.prog 156 #[(XT.mk op nm xn wd v xa xc xl).val] w fun e w' => e = .returned (.bool (numB op wd v)) ∧ Below w.heap.size w w' := by
 simp only [XT.val, XT.cells]
 have HI : Hid (numB op wd v = if op = 1 then (wd == 0) || holdsI wd v else (wd == 0) && ((v : Int) == 0)) := Lib.hid rfl
 generalize numB op wd v = R at *
 by_cases h1 : op = 1
 ·have hc := check_any 3 [] wd v 0 (by simp) hv (w.alloc (.cells #[.int .i64 op, .string (bs nm), .int .i64 xn, .int .i64 wd, .int .u64 (v : Int), .slice xa xl.length xc] 54)) (he.env.alloc _)
  rw [check_num] at hc
  replace HI : Hid (R = ((wd == 0) || holdsI wd v)) := Lib.hid (by rw [HI.out, if_pos h1])
  have HV := Lib.hid hv
  subst h1
  clear he hv
  generalize ((wd == 0) || holdsI wd v) = b at *
  have hb0 : ((if b = true then (0 : Int) else 1) == 0) = b := by cases b <;> rfl
  generalize (if b = true then (0 : Int) else 1) = c at *
  all_goals
   go_enter Tryz.func156, Tryz.ntmps156
   go_wp2_with fail
   refine hc.mono ?_
   rintro e w1 ⟨rfl, hb⟩
   clear hc
   go_wp2
   go_ret
   exact ⟨by rw [HI.out]; rfl, ((Below.refl _ _).alloc (Nat.le_refl _) _).trans (hb.mono (by simp))⟩
 ·have d1 : (op != 1) = true := by rw [bne_iff_ne]; exact h1
  have d2 : (op == 1) = false := by rw [beq_eq_false_iff_ne]; exact h1
  replace HI : Hid (R = ((wd == 0) && ((v : Int) == 0))) := Lib.hid (by rw [HI.out, if_neg h1])
  have HV := Lib.hid hv
  clear he hv h1
  obtain ⟨b, hb⟩ : ∃ b, (wd == 0) = b := ⟨_, rfl⟩
  obtain ⟨c, hc⟩ : ∃ c, ((v : Int) == 0) = c := ⟨_, rfl⟩
  rw [hb, hc] at HI
  cases b
  all_goals
   go_enter Tryz.func156, Tryz.ntmps156
   go_wp2
   go_ret
   exact ⟨by rw [HI.out]; rfl, (Below.refl _ _).alloc (Nat.le_refl _) _⟩
set_option maxHeartbeats 2000000 in
theorem hasName_any (x : XT) (w : World) (he : EnvA w) : Calls Tryz.prog 140 #[x.val] w fun e w' => e = .returned (.bool (hasB x.op)) ∧ Below w.heap.size w w' := by
 obtain ⟨op, nm, xn, wd, v, xa, xc, xl⟩ := x
 simp only [XT.val, XT.cells, XT.op]
 have HI : Hid (hasB op = (amongB op 11 && (kx op.toNat).1)) := Lib.hid rfl
 have hm := fun w => among_any op 11 w
 cases hb : amongB op 11 with
 | false =>
  rw [hb] at hm
  replace HI : Hid (hasB op = false) := Lib.hid (by rw [HI.out, hb]; rfl)
  generalize hasB op = R at *
  clear hb he
  go_enter Tryz.func140, Tryz.ntmps140
  go_wp2_with fail
  refine (hm _).mono ?_
  rintro e w1 ⟨rfl, rfl⟩
  go_wp2
  go_ret
  exact ⟨by rw [HI.out]; rfl, (Below.refl _ _).alloc (Nat.le_refl _) _⟩
 | true =>
  rw [hb] at hm
  have hr : 1 ≤ op ∧ op < 11 := by unfold amongB at hb; simpa using hb
  obtain ⟨k, rfl⟩ : ∃ k : Nat, op = (k : Int) := ⟨op.toNat, by omega⟩
  have c0 := (he.alloc (.cells #[.int .i64 (k : Int), .string (bs nm), .int .i64 xn, .int .i64 wd, .int .u64 (v : Int), .slice xa xl.length xc] 54)).xk k (by omega) 0 _ rfl
  replace HI : Hid (hasB (k : Int) = (kx k).1) := Lib.hid (by rw [HI.out, hb, Int.toNat_natCast]; rfl)
  generalize hasB (k : Int) = R at *
  generalize (kx k).1 = c at *
  have q1 : (k : Int) < 11 := hr.2
  have q2 : k < 11 := by omega
  simp only [Nat.add_zero] at c0
  clear hb he hr
  go_enter Tryz.func140, Tryz.ntmps140
  go_wp2_with fail
  refine (hm _).mono ?_
  rintro e w1 ⟨rfl, rfl⟩
  go_wp2
  go_ret
  exact ⟨by rw [HI.out]; rfl, (Below.refl _ _).alloc (Nat.le_refl _) _⟩
end Go.Proofs.YtiipjbafdhijlaaGreatDoor
