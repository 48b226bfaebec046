/-
  Contracts: numbers out of digits; whether all bytes are digits.
-/
import Derived.Test.YtbcgeglkmpcnpaaDoorScD
import Derived.Lib.QuietBelow
namespace Go.Proofs.YtbcgeglkmpcnpaaDoor
open Go Go.RowKit
set_option linter.unusedVariables false
open Go.Sort

theorem regrown_same {P : Program} {f : FuncId} {args : Array Value} {w : World} {d : Nat} {os : Array Obj} {v : Value}
    (h : Calls P f args (grow (redrawn w d) os) fun e w' => e = .returned v ∧ grow (redrawn w d) os = w') : Calls P f args (grow (redrawn w d) os) fun e w'' => e = .returned v ∧ ∃ p : Regrown, w'' = grow (redrawn w p.d) p.os :=
  h.mono fun _ _ ⟨he, hw⟩ => ⟨he, ⟨⟨d, os⟩, hw.symm⟩⟩
theorem lt_cell {w : World} {b o : Nat} {v : Value} (h : w.cell? ⟨b, o, none⟩ = some v) : b < w.heap.size := World.block_lt_of_cell? w ⟨b, o, none⟩ h
theorem keep_cell {W w1 : World} (hb : Below W.heap.size W w1) {b o : Nat} {v : Value} (h : W.cell? ⟨b, o, none⟩ = some v) : w1.cell? ⟨b, o, none⟩ = some v := by
  rw [hb.cell (p := ⟨b, o, none⟩) (lt_cell h)]; exact h
theorem alloc_cell {w : World} {b o : Nat} {v : Value} (h : w.cell? ⟨b, o, none⟩ = some v) (x : Obj) : (w.alloc x).cell? ⟨b, o, none⟩ = some v := keep_cell ((Below.refl _ _).alloc (Nat.le_refl _) x) h
theorem below_drewN {B : Nat} {a w : World} (h : Below B a w) (n : Nat) : Below B a (w.drewN n) := ⟨h.os, h.tape, h.output, h.size, h.block⟩

/-- What a digit counts, as a natural number. -/
def dg (c : UInt8) : Nat := (worthI (bi c)).toNat
theorem dg_int (c : UInt8) : worthI (c.toNat : Int) = (dg c : Int) := by
  unfold dg bi; have := (worth_range (c.toNat : Int)).1; omega
/-- The number that digits are. -/
def num (r : Nat) (l : Bytes) : Nat := l.foldl (fun v c => v * r + dg c) 0
theorem num_succ (r : Nat) (l : Bytes) (k : Nat) (hk : k < l.length) : num r (l.take (k + 1)) = num r (l.take k) * r + dg l[k] := by
  unfold num
  rw [List.take_succ_eq_append_getElem hk, List.foldl_append]
  rfl
/-- Are all bytes digits of a base? -/
def allD (r : Nat) (l : Bytes) : Bool := l.all fun c => decide (dg c < r)
theorem allD_at {r : Nat} {l : Bytes} (h : allD r l = true) {k : Nat} (hk : k < l.length) : dg l[k] < r := by
  unfold allD at h
  rw [List.all_eq_true] at h
  simpa using h l[k] (List.getElem_mem hk)
theorem fits_step {V r d x c : Nat} (hr : 0 < r) (hx : x = V % 18446744073709551616) (hc : c = (x * r + d) / 18446744073709551616) : decide (V * r + d < 18446744073709551616) = (decide (V < 18446744073709551616) && ((c : Int) == 0)) := by
  by_cases h : V < 18446744073709551616
  · have e : x = V := by rw [hx, Nat.mod_eq_of_lt h]
    rw [e] at hc
    by_cases h2 : V * r + d < 18446744073709551616
    · have : c = 0 := by rw [hc]; exact Nat.div_eq_of_lt h2
      subst this; simp [h, h2]
    · have : c ≠ 0 := by rw [hc]; have := Nat.div_pos (Nat.le_of_not_lt h2) (by decide : 0 < 18446744073709551616); omega
      simp [h, h2]; omega
  · have h2 : ¬ V * r + d < 18446744073709551616 := by have := Nat.le_mul_of_pos_right V hr; omega
    simp [h, h2]
theorem mod_step {V r d x : Nat} (hx : x = V % 18446744073709551616) : (V * r + d) % 18446744073709551616 = (x * r + d) % 18446744073709551616 := by
  subst hx
  simp [Nat.add_mod, Nat.mul_mod]
theorem ret_ub {a b : Int} {p q : Bool} (h : a = b) (k : p = q) : Ending.returned (.tuple #[.int .u64 a, .bool p]) = .returned (.tuple #[.int .u64 b, .bool q]) := by rw [h, k]

/-- The closure of all. -/
theorem quiet_eq {P : Program} {f : FuncId} {args : Array Value} {w : World} {n : Nat} {v : Value}
    (h : Calls P f args (w.drewN n) fun e w' => e = .returned v ∧ w.drewN n = w') : Calls P f args (w.drewN n) fun e w'' => e = .returned v ∧ ∃ m, w'' = w.drewN m :=
  h.mono fun _ _ ⟨he, hm⟩ => ⟨he, n, hm.symm⟩
theorem run_full (p : UInt8 → Bool) (l : Bytes) : ((run p l : Int) == (l.length : Int)) = l.all p := by
  rw [Bool.eq_iff_iff, beq_iff_eq]
  constructor
  · intro h
    replace h : (l.takeWhile p).length = l.length := by unfold run at h; omega
    induction l with
    | nil => rfl
    | cons c l ih =>
      by_cases hc : p c = true
      · rw [List.takeWhile_cons, if_pos hc] at h
        simp only [List.length_cons] at h
        rw [List.all_cons, hc, ih (by omega)]; rfl
      · rw [List.takeWhile_cons, if_neg hc] at h
        simp at h
  · intro h
    rw [run_all p l h]
end Go.Proofs.YtbcgeglkmpcnpaaDoor
