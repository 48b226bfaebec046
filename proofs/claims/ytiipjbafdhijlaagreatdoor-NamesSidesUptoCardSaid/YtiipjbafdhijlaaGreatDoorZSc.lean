/-
  ScP, ScA, ScB, ScC, ScD, ScE, ScF, ScG, ScH, in one text.
-/
import Derived.WalkKit
import Derived.OpenShut
import Derived.Test.YtiipjbafdhijlaaGreatDoorProg
import Derived.WalkSmall
import Derived.Lib.Hide
import Derived.Below
import Derived.LoopTactic
import Derived.WalkSpells
import Derived.ScopeJumps
import Derived.BigQuiet
import Derived.Deep.QuietTactic
import Derived.Lib.Strings
import Derived.Shelf.Spec.BitsCarry
import Derived.Laws.BitsAllLaws
import Derived.Lib.QuietBelow
namespace Go.Proofs.YtiipjbafdhijlaaGreatDoor
open Go
abbrev Bytes := List UInt8
/-- A string as a list of bytes. -/
def bs (l : Bytes) : ByteArray := ⟨l.toArray⟩
theorem bs_size (l : Bytes) : (bs l).size = l.length := by simp [bs, ByteArray.size]
theorem bs_data (l : Bytes) : (bs l).data = l.toArray := rfl
theorem bs_toList (s : ByteArray) : s = bs s.data.toList := by cases s; simp [bs]
theorem bs_inj {a b : Bytes} (h : bs a = bs b) : a = b := by
 have := congrArg (fun s : ByteArray => s.data.toList) h
 simpa [bs] using this
theorem bs_extract (l : Bytes) (a b : Nat) : (bs l).extract a b = bs ((l.drop a).take (b - a)) := by
 have h : ((bs l).extract a b).data = (bs ((l.drop a).take (b - a))).data := by
  rw [ByteArray.data_extract]
  simp [bs]
 cases h1 : (bs l).extract a b with | mk d => cases h2 : bs ((l.drop a).take (b - a)) with | mk d' => rw [h1, h2] at h; simp at h; rw [h]
theorem bs_get (l : Bytes) (k : Nat) (h : k < (bs l).size) : (bs l)[k] = l[k]'(by rw [bs_size] at h; exact h) := by
 simp [bs, ByteArray.getElem_eq_getElem_data]
theorem bs_append (a b : Bytes) : bs a ++ bs b = bs (a ++ b) := by
 rw [bs_toList (bs a ++ bs b)]
 simp [bs, ByteArray.data_append]
/-- A byte as the integer that the model holds. -/
def bi (c : UInt8) : Int := (c.toNat : Int)
theorem bi_range (c : UInt8) : 0 ≤ bi c ∧ bi c ≤ 255 := by unfold bi; have := c.toNat_lt; omega
def letterI (n : Int) : Bool := (decide (97 ≤ n) && decide (n ≤ 122)) || (decide (65 ≤ n) && decide (n ≤ 90)) || (n == 95)
def digitI (n : Int) : Bool := decide (48 ≤ n) && decide (n ≤ 57)
def blankI (n : Int) : Bool := (n == 32) || (n == 9) || (n == 10) || (n == 13)
def letter (c : UInt8) : Bool := letterI (bi c)
def digit (c : UInt8) : Bool := digitI (bi c)
def inName (c : UInt8) : Bool := letter c || digit c
def blank (c : UInt8) : Bool := blankI (bi c)
def inLine (c : UInt8) : Bool := !(bi c == 10)
/-- How many bytes of a kind a text begins with. -/
def run (p : UInt8 → Bool) (l : Bytes) : Nat := (l.takeWhile p).length
theorem run_le (p : UInt8 → Bool) (l : Bytes) : run p l ≤ l.length := by
 unfold run
 induction l with
 | nil => simp
 | cons c l ih =>
  simp only [List.takeWhile_cons]
  split
  ·simp only [List.length_cons]; omega
  ·simp
/-- All of the first k are of the kind; the next one is not: the run is k. -/
theorem run_at (p : UInt8 → Bool) (l : Bytes) (k : Nat) (hk : k < l.length) (h : (l.take k).all p = true) (hn : p l[k] = false) : run p l = k := by
 induction l generalizing k with
 | nil => simp at hk
 | cons c l ih =>
  cases k with
  | zero =>
   simp only [List.getElem_cons_zero] at hn
   simp [run, hn]
  | succ k =>
   simp only [List.take_succ_cons, List.all_cons, Bool.and_eq_true] at h
   simp only [List.getElem_cons_succ] at hn
   have := ih k (by simpa using hk) h.2 hn
   unfold run at this ⊢
   rw [List.takeWhile_cons, if_pos h.1, List.length_cons, this]
theorem run_all (p : UInt8 → Bool) (l : Bytes) (h : l.all p = true) : run p l = l.length := by
 induction l with
 | nil => rfl
 | cons c l ih =>
  simp only [List.all_cons, Bool.and_eq_true] at h
  have := ih h.2
  unfold run at this ⊢
  rw [List.takeWhile_cons, if_pos h.1, List.length_cons, List.length_cons, this]
theorem all_take_succ (p : UInt8 → Bool) (l : Bytes) (k : Nat) (hk : k < l.length) : (l.take (k + 1)).all p = ((l.take k).all p && p l[k]) := by
 rw [List.take_succ_eq_append_getElem hk, List.all_append]
 simp
attribute [go_sem] bs_size bs_extract bs_get
end Go.Proofs.YtiipjbafdhijlaaGreatDoor
namespace Go.Proofs.YtiipjbafdhijlaaGreatDoor
open Go Go.RowKit
theorem ret_b {a b : Bool} (h : a = b) : Ending.returned (.bool a) = .returned (.bool b) := by rw [h]
theorem ret_n {k : IntKind} {a b : Int} (h : a = b) : Ending.returned (.int k a) = .returned (.int k b) := by rw [h]
theorem begins_i (n : Int) (w : World) : Calls Tryz.prog 171 #[.int .u8 n] w fun e w' => e = .returned (.bool (letterI n)) ∧ w = w' := by
 by_cases g65 : n < 65
 ·skip
  have t0 : decide (97 ≤ n) = false := by simp; omega
  have t1 : decide (n ≤ 122) = true := by simp; omega
  have t2 : decide (65 ≤ n) = false := by simp; omega
  have t3 : decide (n ≤ 90) = true := by simp; omega
  have t4 : (n == 95) = false := by simp; omega
  go_enter Tryz.func171, Tryz.ntmps171
  go_wp2
  go_ret
  exact ⟨ret_b (by simp [letterI, *]), rfl⟩
 ·skip
  by_cases g91 : n < 91
  ·skip
   have t0 : decide (97 ≤ n) = false := by simp; omega
   have t1 : decide (n ≤ 122) = true := by simp; omega
   have t2 : decide (65 ≤ n) = true := by simp; omega
   have t3 : decide (n ≤ 90) = true := by simp; omega
   have t4 : (n == 95) = false := by simp; omega
   go_enter Tryz.func171, Tryz.ntmps171
   go_wp2
   go_ret
   exact ⟨ret_b (by simp [letterI, *]), rfl⟩
  ·skip
   by_cases g95 : n < 95
   ·skip
    have t0 : decide (97 ≤ n) = false := by simp; omega
    have t1 : decide (n ≤ 122) = true := by simp; omega
    have t2 : decide (65 ≤ n) = true := by simp; omega
    have t3 : decide (n ≤ 90) = false := by simp; omega
    have t4 : (n == 95) = false := by simp; omega
    go_enter Tryz.func171, Tryz.ntmps171
    go_wp2
    go_ret
    exact ⟨ret_b (by simp [letterI, *]), rfl⟩
   ·skip
    by_cases g96 : n < 96
    ·skip
     have en : n = 95 := by omega
     subst en
     go_enter Tryz.func171, Tryz.ntmps171
     go_wp2
     go_ret
     exact ⟨ret_b (by simp [letterI, *]), rfl⟩
    ·skip
     by_cases g97 : n < 97
     ·skip
      have en : n = 96 := by omega
      subst en
      go_enter Tryz.func171, Tryz.ntmps171
      go_wp2
      go_ret
      exact ⟨ret_b (by simp [letterI, *]), rfl⟩
     ·skip
      by_cases g123 : n < 123
      ·skip
       have t0 : decide (97 ≤ n) = true := by simp; omega
       have t1 : decide (n ≤ 122) = true := by simp; omega
       have t2 : decide (65 ≤ n) = true := by simp; omega
       have t3 : decide (n ≤ 90) = false := by simp; omega
       have t4 : (n == 95) = false := by simp; omega
       go_enter Tryz.func171, Tryz.ntmps171
       go_wp2
       go_ret
       exact ⟨ret_b (by simp [letterI, *]), rfl⟩
      ·skip
       have t0 : decide (97 ≤ n) = true := by simp; omega
       have t1 : decide (n ≤ 122) = false := by simp; omega
       have t2 : decide (65 ≤ n) = true := by simp; omega
       have t3 : decide (n ≤ 90) = false := by simp; omega
       have t4 : (n == 95) = false := by simp; omega
       go_enter Tryz.func171, Tryz.ntmps171
       go_wp2
       go_ret
       exact ⟨ret_b (by simp [letterI, *]), rfl⟩
theorem digit_i (n : Int) (w : World) : Calls Tryz.prog 177 #[.int .u8 n] w fun e w' => e = .returned (.bool (digitI n)) ∧ w = w' := by
 by_cases g48 : n < 48
 ·skip
  have t0 : decide (48 ≤ n) = false := by simp; omega
  have t1 : decide (n ≤ 57) = true := by simp; omega
  go_enter Tryz.func177, Tryz.ntmps177
  go_wp2
  go_ret
  exact ⟨ret_b (by simp [digitI, *]), rfl⟩
 ·skip
  by_cases g58 : n < 58
  ·skip
   have t0 : decide (48 ≤ n) = true := by simp; omega
   have t1 : decide (n ≤ 57) = true := by simp; omega
   go_enter Tryz.func177, Tryz.ntmps177
   go_wp2
   go_ret
   exact ⟨ret_b (by simp [digitI, *]), rfl⟩
  ·skip
   have t0 : decide (48 ≤ n) = true := by simp; omega
   have t1 : decide (n ≤ 57) = false := by simp; omega
   go_enter Tryz.func177, Tryz.ntmps177
   go_wp2
   go_ret
   exact ⟨ret_b (by simp [digitI, *]), rfl⟩
theorem inName_i (n : Int) (w : World) : Calls Tryz.prog 173 #[.int .u8 n] w fun e w' => e = .returned (.bool (letterI n || digitI n)) ∧ w = w' := by
 cases h : letterI n with
 | true =>
  have hb : ∀ w, Calls Tryz.prog 171 #[.int .u8 n] w fun e w' => e = .returned (.bool true) ∧ w = w' := fun w => h ▸ begins_i n w
  go_enter Tryz.func173, Tryz.ntmps173
  go_wp2_with (go_at_call 171; refine (hb _).mono ?_; rintro e w' ⟨rfl, rfl⟩)
  go_ret
  exact ⟨ret_b (by simp), rfl⟩
 | false =>
  have hb : ∀ w, Calls Tryz.prog 171 #[.int .u8 n] w fun e w' => e = .returned (.bool false) ∧ w = w' := fun w => h ▸ begins_i n w
  go_enter Tryz.func173, Tryz.ntmps173
  go_wp2_with (first | (go_at_call 171; refine (hb _).mono ?_; rintro e w' ⟨rfl, rfl⟩) | (go_at_call 177; refine (digit_i _ _).mono ?_; rintro e w' ⟨rfl, rfl⟩))
  go_ret
  exact ⟨ret_b (by simp), rfl⟩
theorem begins_any (c : UInt8) (w : World) : Calls Tryz.prog 171 #[.int .u8 (c.toNat : Int)] w fun e w' => e = .returned (.bool (letter c)) ∧ w = w' := begins_i _ w
theorem digit_any (c : UInt8) (w : World) : Calls Tryz.prog 177 #[.int .u8 (c.toNat : Int)] w fun e w' => e = .returned (.bool (digit c)) ∧ w = w' := digit_i _ w
theorem inName_any (c : UInt8) (w : World) : Calls Tryz.prog 173 #[.int .u8 (c.toNat : Int)] w fun e w' => e = .returned (.bool (inName c)) ∧ w = w' := inName_i _ w
end Go.Proofs.YtiipjbafdhijlaaGreatDoor
namespace Go.Proofs.YtiipjbafdhijlaaGreatDoor
open Go Go.RowKit
set_option maxHeartbeats 1000000 in
theorem run_name (l : Bytes) (hl : l.length ≤ 9000000) (w : World) : Calls Tryz.prog 172 #[.string (bs l), .func (.func 173) #[] #[]] w fun e w' => e = .returned (.int .i64 (run inName l)) ∧ w = w' := by
 have hz := bs_size l
 go_enter Tryz.func172, Tryz.ntmps172
 go_wp2
 go_loop [8] (fun i => ∃ k : Nat, k ≤ l.length ∧ i = .int .i64 k ∧ (l.take k).all inName = true) (fun i => l.length - (intOf i).toNat)
 case atStart => exact ⟨0, Nat.zero_le _, rfl, rfl⟩
 case round =>
  obtain ⟨k, hk, rfl, ha⟩ := hrel
  have HA := Lib.hid ha
  clear ha
  by_cases hlt : k < l.length
  ·have HS := Lib.hid (all_take_succ inName l k hlt)
   cases hp : inName l[k] with
   | true =>
    have hc : ∀ w, Calls Tryz.prog 173 #[.int .u8 (l[k].toNat : Int)] w fun e w' => e = .returned (.bool true) ∧ w = w' := fun w => hp ▸ inName_any l[k] w
    have HP := Lib.hid hp
    clear hp
    go_wp2_with (go_at_call 173; refine (hc _).mono ?_; rintro e w' ⟨rfl, rfl⟩)
    go_round
    case rel => exact ⟨k + 1, by omega, by go_num, by rw [HS.out, HA.out, HP.out]; rfl⟩
    case measure => simp [intOf]; omega
   | false =>
    have hc : ∀ w, Calls Tryz.prog 173 #[.int .u8 (l[k].toNat : Int)] w fun e w' => e = .returned (.bool false) ∧ w = w' := fun w => hp ▸ inName_any l[k] w
    have HR := Lib.hid (run_at inName l k hlt HA.out hp)
    clear hp
    go_wp2_with (go_at_call 173; refine (hc _).mono ?_; rintro e w' ⟨rfl, rfl⟩)
    go_ret
    exact ⟨ret_n (by rw [HR.out]), rfl⟩
  ·obtain rfl : k = l.length := by omega
   have HR : Hid (run inName l = l.length) := Lib.hid (run_all inName l (by have := HA.out; rwa [List.take_length] at this))
   go_wp2
   go_ret
   exact ⟨ret_n (by rw [HR.out]), rfl⟩
set_option maxHeartbeats 1000000 in
theorem run_digit (l : Bytes) (hl : l.length ≤ 9000000) (w : World) : Calls Tryz.prog 172 #[.string (bs l), .func (.func 177) #[] #[]] w fun e w' => e = .returned (.int .i64 (run digit l)) ∧ w = w' := by
 have hz := bs_size l
 go_enter Tryz.func172, Tryz.ntmps172
 go_wp2
 go_loop [8] (fun i => ∃ k : Nat, k ≤ l.length ∧ i = .int .i64 k ∧ (l.take k).all digit = true) (fun i => l.length - (intOf i).toNat)
 case atStart => exact ⟨0, Nat.zero_le _, rfl, rfl⟩
 case round =>
  obtain ⟨k, hk, rfl, ha⟩ := hrel
  have HA := Lib.hid ha
  clear ha
  by_cases hlt : k < l.length
  ·have HS := Lib.hid (all_take_succ digit l k hlt)
   cases hp : digit l[k] with
   | true =>
    have hc : ∀ w, Calls Tryz.prog 177 #[.int .u8 (l[k].toNat : Int)] w fun e w' => e = .returned (.bool true) ∧ w = w' := fun w => hp ▸ digit_any l[k] w
    have HP := Lib.hid hp
    clear hp
    go_wp2_with (go_at_call 177; refine (hc _).mono ?_; rintro e w' ⟨rfl, rfl⟩)
    go_round
    case rel => exact ⟨k + 1, by omega, by go_num, by rw [HS.out, HA.out, HP.out]; rfl⟩
    case measure => simp [intOf]; omega
   | false =>
    have hc : ∀ w, Calls Tryz.prog 177 #[.int .u8 (l[k].toNat : Int)] w fun e w' => e = .returned (.bool false) ∧ w = w' := fun w => hp ▸ digit_any l[k] w
    have HR := Lib.hid (run_at digit l k hlt HA.out hp)
    clear hp
    go_wp2_with (go_at_call 177; refine (hc _).mono ?_; rintro e w' ⟨rfl, rfl⟩)
    go_ret
    exact ⟨ret_n (by rw [HR.out]), rfl⟩
  ·obtain rfl : k = l.length := by omega
   have HR : Hid (run digit l = l.length) := Lib.hid (run_all digit l (by have := HA.out; rwa [List.take_length] at this))
   go_wp2
   go_ret
   exact ⟨ret_n (by rw [HR.out]), rfl⟩
end Go.Proofs.YtiipjbafdhijlaaGreatDoor
namespace Go.Proofs.YtiipjbafdhijlaaGreatDoor
open Go Go.RowKit
set_option linter.unusedVariables false
theorem bs_list (l : Bytes) : (bs l).toList = l := by rw [Lib.toList_data]; simp [bs]
attribute [go_sem] bs_list
theorem prefix_take (p l : Bytes) (h : p.length ≤ l.length) : (l.take p.length == p) = p.isPrefixOf l := by
 rw [Bool.eq_iff_iff, beq_iff_eq, List.isPrefixOf_iff_prefix, List.prefix_iff_eq_take]
 exact eq_comm
theorem prefix_not (p l : Bytes) (h : ¬ p.length ≤ l.length) : p.isPrefixOf l = false := by
 rw [Bool.eq_false_iff]
 intro hp
 rw [List.isPrefixOf_iff_prefix] at hp
 exact h hp.length_le
/-- A token as the model holds it. -/
def tk (k : Int) (s : Bytes) (W V at' : Int) : Value := .agg #[.int .i64 k, .string (bs s), .int .i64 W, .int .u64 V, .int .i64 at']
/-- What a digit counts. -/
def worthI (n : Int) : Int := if digitI n = true then n - 48 else if 97 ≤ n ∧ n ≤ 102 then n - 87 else if 65 ≤ n ∧ n ≤ 70 then n - 55 else 16
theorem worth_range (n : Int) : 0 ≤ worthI n ∧ worthI n ≤ 16 := by
 unfold worthI digitI
 split
 ·rename_i h; simp at h; omega
 ·split
  ·omega
  ·split <;> omega
end Go.Proofs.YtiipjbafdhijlaaGreatDoor
namespace Go.Proofs.YtiipjbafdhijlaaGreatDoor
open Go Go.RowKit
set_option linter.unusedVariables false
theorem or_add (v d k : Nat) (hd : d < 2 ^ k) (hk : k ≤ 64) : ((v * 2 ^ k) % 18446744073709551616) ||| d = (v * 2 ^ k + d) % 18446744073709551616 := by
 have e : (v * 2 ^ k) % 18446744073709551616 = 2 ^ k * (v % 2 ^ (64 - k)) := by
  have : (18446744073709551616 : Nat) = 2 ^ k * 2 ^ (64 - k) := by rw [← Nat.pow_add, Nat.add_sub_cancel' hk]
  rw [this, Nat.mul_comm v, Nat.mul_mod_mul_left]
 rw [e, ← Nat.two_pow_add_eq_or_of_lt hd]
 have lt : 2 ^ k * (v % 2 ^ (64 - k)) + d < 18446744073709551616 := by
  have h1 : v % 2 ^ (64 - k) + 1 ≤ 2 ^ (64 - k) := Nat.mod_lt _ (Nat.two_pow_pos _)
  have h2 : 2 ^ k * (v % 2 ^ (64 - k) + 1) ≤ 2 ^ k * 2 ^ (64 - k) := Nat.mul_le_mul_left _ h1
  rw [← Nat.pow_add, Nat.add_sub_cancel' hk, Nat.mul_add] at h2
  have h3 : (2 ^ 64 : Nat) = 18446744073709551616 := by decide
  omega
 rw [← e] at lt ⊢
 have h4 : (v * 2 ^ k + d) % 18446744073709551616 = ((v * 2 ^ k) % 18446744073709551616 + d) % 18446744073709551616 := by rw [Nat.add_mod, Nat.mod_add_mod, Nat.add_mod_mod] <;> simp
 rw [h4, Nat.mod_eq_of_lt lt]
theorem or16 (v d : Nat) (hd : d < 16) : bits .or .u64 (IntKind.u64.wrap ((v : Int) * 16)) (d : Int) = (((v * 16 + d) % 18446744073709551616 : Nat) : Int) := by
 have e : IntKind.u64.wrap ((v : Int) * 16) = (((v * 16) % 18446744073709551616 : Nat) : Int) := by rw [IntKind.wrap_u64]; omega
 rw [e, u64_or_nat _ _ (by omega) (by omega), or_add v d 4 (by omega) (by omega)]
theorem or2 (v d : Nat) (hd : d < 2) : bits .or .u64 (IntKind.u64.wrap ((v : Int) * 2)) (d : Int) = (((v * 2 + d) % 18446744073709551616 : Nat) : Int) := by
 have e : IntKind.u64.wrap ((v : Int) * 2) = (((v * 2) % 18446744073709551616 : Nat) : Int) := by rw [IntKind.wrap_u64]; omega
 rw [e, u64_or_nat _ _ (by omega) (by omega), or_add v d 1 (by omega) (by omega)]
theorem ret_uu {a b c d : Int} (h : a = c) (k : b = d) : Ending.returned (.tuple #[.int .u64 a, .int .u64 b]) = .returned (.tuple #[.int .u64 c, .int .u64 d]) := by rw [h, k]
theorem and32 (v : Nat) (hv : v < 18446744073709551616) : bits .and .u64 (v : Int) 4294967295 = ((v % 4294967296 : Nat) : Int) := by
 rw [show (4294967295 : Int) = ((4294967295 : Nat) : Int) from rfl, u64_and_nat _ _ hv (by omega)]
 congr 1
 exact Nat.and_two_pow_sub_one_eq_mod v 32
theorem and32w (n : Int) : bits .and .u64 (IntKind.u64.wrap n) 4294967295 = n % 18446744073709551616 % 4294967296 := by
 have h0 : 0 ≤ n % 18446744073709551616 := by omega
 have h1 : n % 18446744073709551616 < 18446744073709551616 := by omega
 rw [IntKind.wrap_u64]
 generalize n % 18446744073709551616 = m at *
 obtain ⟨k, rfl⟩ := Int.eq_ofNat_of_zero_le h0
 have := and32 k (by omega)
 rw [show ((k : Nat) : Int) % 4294967296 = ((k % 4294967296 : Nat) : Int) by omega]
 exact this
theorem and10 : bits .and .u64 10 4294967295 = 10 := by
 have := and32 10 (by omega)
 simpa using this
end Go.Proofs.YtiipjbafdhijlaaGreatDoor
namespace Go.Proofs.YtiipjbafdhijlaaGreatDoor
open Go Go.RowKit
set_option linter.unusedVariables false
open Go.Sort
theorem regrown_same {P : Program} {f : FuncId} {args : Array Value} {w : World} {d : Nat} {os : Array Obj} {v : Value}
  (h : Calls P f args (grow (redrawn w d) os) fun e w' => e = .returned v ∧ grow (redrawn w d) os = w') : Calls P f args (grow (redrawn w d) os) fun e w'' => e = .returned v ∧ ∃ p : Regrown, w'' = grow (redrawn w p.d) p.os :=
 h.mono fun _ _ ⟨he, hw⟩ => ⟨he, ⟨⟨d, os⟩, hw.symm⟩⟩
theorem lt_cell {w : World} {b o : Nat} {v : Value} (h : w.cell? ⟨b, o, none⟩ = some v) : b < w.heap.size := World.block_lt_of_cell? w ⟨b, o, none⟩ h
theorem keep_cell {W w1 : World} (hb : Below W.heap.size W w1) {b o : Nat} {v : Value} (h : W.cell? ⟨b, o, none⟩ = some v) : w1.cell? ⟨b, o, none⟩ = some v := by
 rw [hb.cell (p := ⟨b, o, none⟩) (lt_cell h)]; exact h
theorem alloc_cell {w : World} {b o : Nat} {v : Value} (h : w.cell? ⟨b, o, none⟩ = some v) (x : Obj) : (w.alloc x).cell? ⟨b, o, none⟩ = some v := keep_cell ((Below.refl _ _).alloc (Nat.le_refl _) x) h
theorem below_drewN {B : Nat} {a w : World} (h : Below B a w) (n : Nat) : Below B a (w.drewN n) := ⟨h.os, h.tape, h.output, h.size, h.block⟩
/-- What a digit counts, as a natural number. -/
def dg (c : UInt8) : Nat := (worthI (bi c)).toNat
theorem dg_int (c : UInt8) : worthI (c.toNat : Int) = (dg c : Int) := by
 unfold dg bi; have := (worth_range (c.toNat : Int)).1; omega
/-- The number that digits are. -/
def num (r : Nat) (l : Bytes) : Nat := l.foldl (fun v c => v * r + dg c) 0
theorem num_succ (r : Nat) (l : Bytes) (k : Nat) (hk : k < l.length) : num r (l.take (k + 1)) = num r (l.take k) * r + dg l[k] := by
 unfold num
 rw [List.take_succ_eq_append_getElem hk, List.foldl_append]
 rfl
/-- Are all bytes digits of a base? -/
def allD (r : Nat) (l : Bytes) : Bool := l.all fun c => decide (dg c < r)
theorem allD_at {r : Nat} {l : Bytes} (h : allD r l = true) {k : Nat} (hk : k < l.length) : dg l[k] < r := by
 unfold allD at h
 rw [List.all_eq_true] at h
 simpa using h l[k] (List.getElem_mem hk)
theorem fits_step {V r d x c : Nat} (hr : 0 < r) (hx : x = V % 18446744073709551616) (hc : c = (x * r + d) / 18446744073709551616) : decide (V * r + d < 18446744073709551616) = (decide (V < 18446744073709551616) && ((c : Int) == 0)) := by
 by_cases h : V < 18446744073709551616
 ·have e : x = V := by rw [hx, Nat.mod_eq_of_lt h]
  rw [e] at hc
  by_cases h2 : V * r + d < 18446744073709551616
  ·have : c = 0 := by rw [hc]; exact Nat.div_eq_of_lt h2
   subst this; simp [h, h2]
  ·have : c ≠ 0 := by rw [hc]; have := Nat.div_pos (Nat.le_of_not_lt h2) (by decide : 0 < 18446744073709551616); omega
   simp [h, h2]; omega
 ·have h2 : ¬ V * r + d < 18446744073709551616 := by have := Nat.le_mul_of_pos_right V hr; omega
  simp [h, h2]
theorem mod_step {V r d x : Nat} (hx : x = V % 18446744073709551616) : (V * r + d) % 18446744073709551616 = (x * r + d) % 18446744073709551616 := by
 subst hx
 simp [Nat.add_mod, Nat.mul_mod]
theorem ret_ub {a b : Int} {p q : Bool} (h : a = b) (k : p = q) : Ending.returned (.tuple #[.int .u64 a, .bool p]) = .returned (.tuple #[.int .u64 b, .bool q]) := by rw [h, k]
/-- The closure of all. -/
theorem quiet_eq {P : Program} {f : FuncId} {args : Array Value} {w : World} {n : Nat} {v : Value}
  (h : Calls P f args (w.drewN n) fun e w' => e = .returned v ∧ w.drewN n = w') : Calls P f args (w.drewN n) fun e w'' => e = .returned v ∧ ∃ m, w'' = w.drewN m :=
 h.mono fun _ _ ⟨he, hm⟩ => ⟨he, n, hm.symm⟩
theorem run_full (p : UInt8 → Bool) (l : Bytes) : ((run p l : Int) == (l.length : Int)) = l.all p := by
 rw [Bool.eq_iff_iff, beq_iff_eq]
 constructor
 ·intro h
  replace h : (l.takeWhile p).length = l.length := by unfold run at h; omega
  induction l with
  | nil => rfl
  | cons c l ih =>
   by_cases hc : p c = true
   ·rw [List.takeWhile_cons, if_pos hc] at h
    simp only [List.length_cons] at h
    rw [List.all_cons, hc, ih (by omega)]; rfl
   ·rw [List.takeWhile_cons, if_neg hc] at h
    simp at h
 ·intro h
  rw [run_all p l h]
end Go.Proofs.YtiipjbafdhijlaaGreatDoor
namespace Go.Proofs.YtiipjbafdhijlaaGreatDoor
open Go Go.RowKit
set_option linter.unusedVariables false
/-- Is w a width, and do so many bits hold v? -/
def holdsI (W : Int) (v : Nat) : Bool := decide (1 ≤ W) && decide (W ≤ 64) && decide (v < 2 ^ W.toNat)
set_option maxHeartbeats 1000000 in
theorem holds_any (W : Int) (v : Nat) (hv : v < 18446744073709551616) (w : World) : Calls Tryz.prog 166 #[.int .i64 W, .int .u64 (v : Int)] w fun e w' => e = .returned (.bool (holdsI W v)) ∧ w = w' := by
 have HV := Lib.hid hv
 clear hv
 by_cases h1 : 1 ≤ W
 ·have d1 : decide (1 ≤ W) = true := by simpa using h1
  by_cases h2 : W ≤ 64
  ·have d2 : decide (W ≤ 64) = true := by simpa using h2
   have HH : Hid (holdsI W v = decide (v < 2 ^ W.toNat)) := Lib.hid (by unfold holdsI; rw [d1, d2]; rfl)
   obtain ⟨n, rfl⟩ : ∃ n : Nat, W = n := ⟨W.toNat, by omega⟩
   have wu : IntKind.u64.wrap (n : Int) = n := by rw [IntKind.wrap_u64]; omega
   go_enter Tryz.func166, Tryz.ntmps166
   go_wp2
   go_ret
   refine ⟨ret_b ?_, rfl⟩
   rw [HH.out, Int.toNat_natCast, Bool.eq_iff_iff, beq_iff_eq, decide_eq_true_eq]
   have e : (v : Int) / 2 ^ n = ((v / 2 ^ n : Nat) : Int) := by rw [Int.natCast_ediv, Int.natCast_pow]; rfl
   rw [e]
   have := Nat.div_eq_zero_iff_lt (x := v) (Nat.two_pow_pos n)
   omega
  ·have d2 : decide (W ≤ 64) = false := by simpa using h2
   have HH : Hid (holdsI W v = false) := Lib.hid (by unfold holdsI; rw [d1, d2]; rfl)
   go_enter Tryz.func166, Tryz.ntmps166
   go_wp2
   go_ret
   exact ⟨ret_b HH.out.symm, rfl⟩
 ·have d1 : decide (1 ≤ W) = false := by simpa using h1
  have HH : Hid (holdsI W v = false) := Lib.hid (by unfold holdsI; rw [d1]; rfl)
  go_enter Tryz.func166, Tryz.ntmps166
  go_wp2
  go_ret
  exact ⟨ret_b HH.out.symm, rfl⟩
/-- The base whose letter a text begins with. -/
def rbS (m : Bytes) : Nat × Nat × Bytes × Bool :=
 match m with
 | [] => (0, 0, [], false)
 | c :: r => if (c.toNat : Int) == 104 then (16, 4, r, true) else if (c.toNat : Int) == 100 then (10, 0, r, true) else if (c.toNat : Int) == 98 then (2, 1, r, true) else (0, 0, [], false)
theorem chr {c : UInt8} {n : Nat} (hn : n < 256) (h : ((c.toNat : Int) == (n : Int)) = true) : c = UInt8.ofNat n := by
 rw [beq_iff_eq] at h
 apply UInt8.toNat_inj.1
 rw [UInt8.toNat_ofNat_of_lt' (by simpa using hn)]
 omega
end Go.Proofs.YtiipjbafdhijlaaGreatDoor
namespace Go.Proofs.YtiipjbafdhijlaaGreatDoor
open Go Go.RowKit
set_option linter.unusedVariables false
open Go.Sort
/-- The block of a result that is a token, as it is made. -/
def Res (w : World) (g : Nat) : Prop := w.heap[g]? = some (.cells #[.int .i64 0, .string ⟨#[]⟩, .int .i64 0, .int .u64 0, .int .i64 0] 168 (0, 0))
theorem Res.lt {w : World} {g : Nat} (h : Res w g) : g < w.heap.size := by
 unfold Res at h
 rcases Nat.lt_or_ge g w.heap.size with h1 | h1
 ·exact h1
 ·rw [Array.getElem?_eq_none h1] at h; cases h
theorem Res.below {w w' : World} {g : Nat} (h : Res w g) (hb : Below w.heap.size w w') : Res w' g := by
 have := h.lt
 unfold Res at *
 rw [hb.block g this]; exact h
theorem Res.alloc {w : World} {g : Nat} (h : Res w g) (x : Obj) : Res (w.alloc x) g := h.below ((Below.refl _ _).alloc (Nat.le_refl _) x)
theorem Res.cells {w : World} {g : Nat} (h : Res w g) : w.cell? ⟨g, 0, none⟩ = some (.int .i64 0) ∧ w.cell? ⟨g, 1, none⟩ = some (.string ⟨#[]⟩) ∧ w.cell? ⟨g, 2, none⟩ = some (.int .i64 0) ∧ w.cell? ⟨g, 3, none⟩ = some (.int .u64 0) ∧ w.cell? ⟨g, 4, none⟩ = some (.int .i64 0) := by
 unfold Res at h
 simp [World.cell?, h]
theorem Res.free {w : World} {g : Nat} (h : Res w g) (i : Nat) : w.frozen? ⟨g, i, none⟩ = false := by
 unfold Res at h
 simp [World.frozen?, h]
theorem res_new (w : World) : Res (w.alloc (.cells #[.int .i64 0, .string ⟨#[]⟩, .int .i64 0, .int .u64 0, .int .i64 0] 168)) w.heap.size := by
 unfold Res
 show (w.heap.push _)[w.heap.size]? = _
 simp
theorem take_drop_all (l : Bytes) (a : Nat) : (l.drop a).take (l.length - a) = l.drop a := List.take_of_length_le (by simp)
attribute [go_sem] take_drop_all
/-- What is told of a token: its kind, its text, its width, its value; how many bytes it has; an error. -/
structure Tk where
 k : Int
 s : Bytes
 W : Nat
 V : Nat
 size : Nat
 err : Int
def badT (e : Int) : Tk := ⟨0, [], 0, 0, 0, e⟩
def Tk.val (t : Tk) : Value := .tuple #[.agg #[.int .i64 t.k, .string (bs t.s), .int .i64 (t.W : Int), .int .u64 (t.V : Int), .int .i64 0], .int .i64 (t.size : Int), .int .i64 t.err]
def wideS (l : Bytes) (n : Nat) : Tk :=
 if (rbS (l.drop (n + 1))).2.2.2 = false then badT 21
 else if ((rbS (l.drop (n + 1))).2.2.1.take (run inName (rbS (l.drop (n + 1))).2.2.1)) = [] then badT 21
 else if allD (rbS (l.drop (n + 1))).1 ((rbS (l.drop (n + 1))).2.2.1.take (run inName (rbS (l.drop (n + 1))).2.2.1)) = false then badT 21
 else if ¬ num 10 (l.take n) < 18446744073709551616 then badT 22
 else if 64 < num 10 (l.take n) then badT 22
 else if ¬ num (rbS (l.drop (n + 1))).1 ((rbS (l.drop (n + 1))).2.2.1.take (run inName (rbS (l.drop (n + 1))).2.2.1)) < 18446744073709551616 then badT 22
 else if holdsI (num 10 (l.take n)) (num (rbS (l.drop (n + 1))).1 ((rbS (l.drop (n + 1))).2.2.1.take (run inName (rbS (l.drop (n + 1))).2.2.1))) = false then badT 22
 else ⟨3, [], num 10 (l.take n), num (rbS (l.drop (n + 1))).1 ((rbS (l.drop (n + 1))).2.2.1.take (run inName (rbS (l.drop (n + 1))).2.2.1)), n + 2 + run inName (rbS (l.drop (n + 1))).2.2.1, 0⟩
theorem rb_len (m : Bytes) : (rbS m).2.2.1.length ≤ m.length := by
 cases m with
 | nil => simp [rbS]
 | cons c l =>
  unfold rbS
  simp only
  split
  ·simp
  ·split
   ·simp
   ·split <;> simp
end Go.Proofs.YtiipjbafdhijlaaGreatDoor
namespace Go.Proofs.YtiipjbafdhijlaaGreatDoor
open Go Go.RowKit
set_option linter.unusedVariables false
open Go.Sort
def numberS (l : Bytes) : Tk :=
 if ([39] : Bytes).isPrefixOf (l.drop (run digit l)) = true then wideS l (run digit l)
 else if 0 < run inName (l.drop (run digit l)) then badT 21
 else if ¬ num 10 (l.take (run digit l)) < 18446744073709551616 then badT 22
 else ⟨3, [], 0, num 10 (l.take (run digit l)), run digit l, 0⟩
theorem dg_digit (c : UInt8) (h : digit c = true) : dg c < 10 := by
 unfold dg worthI
 unfold digit at h
 rw [if_pos h]
 unfold digitI at h
 simp at h
 omega
theorem allD_run (l : Bytes) : allD 10 (l.take (run digit l)) = true := by
 unfold run
 induction l with
 | nil => rfl
 | cons c l ih =>
  by_cases hc : digit c = true
  ·rw [List.takeWhile_cons, if_pos hc, List.length_cons, List.take_succ_cons]
   unfold allD at ih ⊢
   rw [List.all_cons, ih]
   simp [dg_digit c hc]
  ·rw [List.takeWhile_cons, if_neg hc]; rfl
theorem prefix39 (m : Bytes) (h : ([39] : Bytes).isPrefixOf m = true) : 0 < m.length := by
 cases m with
 | nil => simp at h
 | cons c m => simp
end Go.Proofs.YtiipjbafdhijlaaGreatDoor
