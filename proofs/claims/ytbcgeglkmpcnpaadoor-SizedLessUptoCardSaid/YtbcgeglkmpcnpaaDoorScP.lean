/-
  Plain words of layer 2: bytes, and strings as lists of bytes. No program.
-/
import Derived.WalkKit
import Derived.OpenShut
namespace Go.Proofs.YtbcgeglkmpcnpaaDoor
open Go

abbrev Bytes := List UInt8
/-- A string as a list of bytes. -/
def bs (l : Bytes) : ByteArray := ⟨l.toArray⟩
theorem bs_size (l : Bytes) : (bs l).size = l.length := by simp [bs, ByteArray.size]
theorem bs_data (l : Bytes) : (bs l).data = l.toArray := rfl
theorem bs_toList (s : ByteArray) : s = bs s.data.toList := by cases s; simp [bs]
theorem bs_inj {a b : Bytes} (h : bs a = bs b) : a = b := by
  have := congrArg (fun s : ByteArray => s.data.toList) h
  simpa [bs] using this
theorem bs_extract (l : Bytes) (a b : Nat) : (bs l).extract a b = bs ((l.drop a).take (b - a)) := by
  have h : ((bs l).extract a b).data = (bs ((l.drop a).take (b - a))).data := by
    rw [ByteArray.data_extract]
    simp [bs]
  cases h1 : (bs l).extract a b with | mk d => cases h2 : bs ((l.drop a).take (b - a)) with | mk d' => rw [h1, h2] at h; simp at h; rw [h]
theorem bs_get (l : Bytes) (k : Nat) (h : k < (bs l).size) : (bs l)[k] = l[k]'(by rw [bs_size] at h; exact h) := by
  simp [bs, ByteArray.getElem_eq_getElem_data]
theorem bs_append (a b : Bytes) : bs a ++ bs b = bs (a ++ b) := by
  rw [bs_toList (bs a ++ bs b)]
  simp [bs, ByteArray.data_append]

/-- A byte as the integer that the model holds. -/
def bi (c : UInt8) : Int := (c.toNat : Int)
theorem bi_range (c : UInt8) : 0 ≤ bi c ∧ bi c ≤ 255 := by unfold bi; have := c.toNat_lt; omega
def letterI (n : Int) : Bool := (decide (97 ≤ n) && decide (n ≤ 122)) || (decide (65 ≤ n) && decide (n ≤ 90)) || (n == 95)
def digitI (n : Int) : Bool := decide (48 ≤ n) && decide (n ≤ 57)
def blankI (n : Int) : Bool := (n == 32) || (n == 9) || (n == 10) || (n == 13)
def letter (c : UInt8) : Bool := letterI (bi c)
def digit (c : UInt8) : Bool := digitI (bi c)
def inName (c : UInt8) : Bool := letter c || digit c
def blank (c : UInt8) : Bool := blankI (bi c)
def inLine (c : UInt8) : Bool := !(bi c == 10)
/-- How many bytes of a kind a text begins with. -/
def run (p : UInt8 → Bool) (l : Bytes) : Nat := (l.takeWhile p).length
theorem run_le (p : UInt8 → Bool) (l : Bytes) : run p l ≤ l.length := by
  unfold run
  induction l with
  | nil => simp
  | cons c l ih =>
    simp only [List.takeWhile_cons]
    split
    · simp only [List.length_cons]; omega
    · simp
/-- All of the first k are of the kind; the next one is not: the run is k. -/
theorem run_at (p : UInt8 → Bool) (l : Bytes) (k : Nat) (hk : k < l.length) (h : (l.take k).all p = true) (hn : p l[k] = false) : run p l = k := by
  induction l generalizing k with
  | nil => simp at hk
  | cons c l ih =>
    cases k with
    | zero =>
      simp only [List.getElem_cons_zero] at hn
      simp [run, hn]
    | succ k =>
      simp only [List.take_succ_cons, List.all_cons, Bool.and_eq_true] at h
      simp only [List.getElem_cons_succ] at hn
      have := ih k (by simpa using hk) h.2 hn
      unfold run at this ⊢
      rw [List.takeWhile_cons, if_pos h.1, List.length_cons, this]
theorem run_all (p : UInt8 → Bool) (l : Bytes) (h : l.all p = true) : run p l = l.length := by
  induction l with
  | nil => rfl
  | cons c l ih =>
    simp only [List.all_cons, Bool.and_eq_true] at h
    have := ih h.2
    unfold run at this ⊢
    rw [List.takeWhile_cons, if_pos h.1, List.length_cons, List.length_cons, this]
theorem all_take_succ (p : UInt8 → Bool) (l : Bytes) (k : Nat) (hk : k < l.length) : (l.take (k + 1)).all p = ((l.take k).all p && p l[k]) := by
  rw [List.take_succ_eq_append_getElem hk, List.all_append]
  simp
attribute [go_sem] bs_size bs_extract bs_get
end Go.Proofs.YtbcgeglkmpcnpaaDoor
