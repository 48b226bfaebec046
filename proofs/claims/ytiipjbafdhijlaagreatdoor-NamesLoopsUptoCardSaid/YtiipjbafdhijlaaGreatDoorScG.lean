/-
  Contracts: numbers with a width.
-/
import Derived.Test.YtiipjbafdhijlaaGreatDoorScF
namespace Go.Proofs.YtiipjbafdhijlaaGreatDoor
open Go Go.RowKit
set_option linter.unusedVariables false
open Go.Sort

/-- The block of a result that is a token, as it is made. -/
def Res (w : World) (g : Nat) : Prop := w.heap[g]? = some (.cells #[.int .i64 0, .string ⟨#[]⟩, .int .i64 0, .int .u64 0, .int .i64 0] 168 (0, 0))
theorem Res.lt {w : World} {g : Nat} (h : Res w g) : g < w.heap.size := by
  unfold Res at h
  rcases Nat.lt_or_ge g w.heap.size with h1 | h1
  · exact h1
  · rw [Array.getElem?_eq_none h1] at h; cases h
theorem Res.below {w w' : World} {g : Nat} (h : Res w g) (hb : Below w.heap.size w w') : Res w' g := by
  have := h.lt
  unfold Res at *
  rw [hb.block g this]; exact h
theorem Res.alloc {w : World} {g : Nat} (h : Res w g) (x : Obj) : Res (w.alloc x) g := h.below ((Below.refl _ _).alloc (Nat.le_refl _) x)
theorem Res.cells {w : World} {g : Nat} (h : Res w g) : w.cell? ⟨g, 0, none⟩ = some (.int .i64 0) ∧ w.cell? ⟨g, 1, none⟩ = some (.string ⟨#[]⟩) ∧ w.cell? ⟨g, 2, none⟩ = some (.int .i64 0) ∧ w.cell? ⟨g, 3, none⟩ = some (.int .u64 0) ∧ w.cell? ⟨g, 4, none⟩ = some (.int .i64 0) := by
  unfold Res at h
  simp [World.cell?, h]
theorem Res.free {w : World} {g : Nat} (h : Res w g) (i : Nat) : w.frozen? ⟨g, i, none⟩ = false := by
  unfold Res at h
  simp [World.frozen?, h]
theorem res_new (w : World) : Res (w.alloc (.cells #[.int .i64 0, .string ⟨#[]⟩, .int .i64 0, .int .u64 0, .int .i64 0] 168)) w.heap.size := by
  unfold Res
  show (w.heap.push _)[w.heap.size]? = _
  simp

theorem take_drop_all (l : Bytes) (a : Nat) : (l.drop a).take (l.length - a) = l.drop a := List.take_of_length_le (by simp)
attribute [go_sem] take_drop_all
/-- What is told of a token: its kind, its text, its width, its value; how many bytes it has; an error. -/
structure Tk where
  k : Int
  s : Bytes
  W : Nat
  V : Nat
  size : Nat
  err : Int
def badT (e : Int) : Tk := ⟨0, [], 0, 0, 0, e⟩
def Tk.val (t : Tk) : Value := .tuple #[.agg #[.int .i64 t.k, .string (bs t.s), .int .i64 (t.W : Int), .int .u64 (t.V : Int), .int .i64 0], .int .i64 (t.size : Int), .int .i64 t.err]
def wideS (l : Bytes) (n : Nat) : Tk :=
  if (rbS (l.drop (n + 1))).2.2.2 = false then badT 21
  else if ((rbS (l.drop (n + 1))).2.2.1.take (run inName (rbS (l.drop (n + 1))).2.2.1)) = [] then badT 21
  else if allD (rbS (l.drop (n + 1))).1 ((rbS (l.drop (n + 1))).2.2.1.take (run inName (rbS (l.drop (n + 1))).2.2.1)) = false then badT 21
  else if ¬ num 10 (l.take n) < 18446744073709551616 then badT 22
  else if 64 < num 10 (l.take n) then badT 22
  else if ¬ num (rbS (l.drop (n + 1))).1 ((rbS (l.drop (n + 1))).2.2.1.take (run inName (rbS (l.drop (n + 1))).2.2.1)) < 18446744073709551616 then badT 22
  else if holdsI (num 10 (l.take n)) (num (rbS (l.drop (n + 1))).1 ((rbS (l.drop (n + 1))).2.2.1.take (run inName (rbS (l.drop (n + 1))).2.2.1))) = false then badT 22
  else ⟨3, [], num 10 (l.take n), num (rbS (l.drop (n + 1))).1 ((rbS (l.drop (n + 1))).2.2.1.take (run inName (rbS (l.drop (n + 1))).2.2.1)), n + 2 + run inName (rbS (l.drop (n + 1))).2.2.1, 0⟩
theorem rb_len (m : Bytes) : (rbS m).2.2.1.length ≤ m.length := by
  cases m with
  | nil => simp [rbS]
  | cons c l =>
    unfold rbS
    simp only
    split
    · simp
    · split
      · simp
      · split <;> simp

end Go.Proofs.YtiipjbafdhijlaaGreatDoor
