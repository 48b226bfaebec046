/-
  Contracts: the base of a number; whether so many bits hold it.
-/
import Derived.Test.YtigdegjhajdmhaaDoorScE
namespace Go.Proofs.YtigdegjhajdmhaaDoor
open Go Go.RowKit
set_option linter.unusedVariables false

set_option maxHeartbeats 1000000 in
theorem rb_h (l : Bytes) (hl : l.length ≤ 100000) (w : World) : Calls Tryd.prog 54 #[.string (bs (104 :: l))] w fun e w' => e = .returned (.tuple #[.agg #[.int .u64 16, .int .u64 4], .string (bs l), .bool true]) ∧ Below w.heap.size w w' := by
  go_enter Tryd.func54, Tryd.ntmps54
  go_wp2
  refine bodyPost_ret (v := .tuple #[.agg #[.int .u64 16, .int .u64 4], .string (bs l), .bool true]) (by simp [results, Tryd.results54, go_sem, *]) rfl ⟨rfl, ?_⟩
  repeat (first | exact Below.refl _ _ | (refine Below.setCell ?_ (by first | (simp; done) | (simp; omega)) _) | (refine Below.alloc ?_ (by simp) _) | exact ((Below.refl _ _).alloc (Nat.le_refl _) _).trans (hb.mono (by simp)))

set_option maxHeartbeats 1000000 in
theorem rb_d (l : Bytes) (hl : l.length ≤ 100000) (w : World) : Calls Tryd.prog 54 #[.string (bs (100 :: l))] w fun e w' => e = .returned (.tuple #[.agg #[.int .u64 10, .int .u64 0], .string (bs l), .bool true]) ∧ Below w.heap.size w w' := by
  go_enter Tryd.func54, Tryd.ntmps54
  go_wp2_with fail
  refine (decimal_any _).mono ?_
  rintro e w' ⟨rfl, hb⟩
  have hz := hb.size
  simp at hz
  have r0 := keep_cell hb (b := w.heap.size) (o := 0) (v := .int .u64 0) (by simp)
  have r1 := keep_cell hb (b := w.heap.size) (o := 1) (v := .int .u64 0) (by simp)
  have f0 : w'.frozen? ⟨w.heap.size, 0, none⟩ = false := by rw [hb.frozen (p := ⟨w.heap.size, 0, none⟩) (by simp)]; go_simp
  have f1 : w'.frozen? ⟨w.heap.size, 1, none⟩ = false := by rw [hb.frozen (p := ⟨w.heap.size, 1, none⟩) (by simp)]; go_simp
  go_wp2
  refine bodyPost_ret (v := .tuple #[.agg #[.int .u64 10, .int .u64 0], .string (bs l), .bool true]) (by simp [results, Tryd.results54, go_sem, *]) rfl ⟨rfl, ?_⟩
  repeat (first | exact Below.refl _ _ | (refine Below.setCell ?_ (by first | (simp; done) | (simp; omega)) _) | (refine Below.alloc ?_ (by simp) _) | exact ((Below.refl _ _).alloc (Nat.le_refl _) _).trans (hb.mono (by simp)))

set_option maxHeartbeats 1000000 in
theorem rb_b (l : Bytes) (hl : l.length ≤ 100000) (w : World) : Calls Tryd.prog 54 #[.string (bs (98 :: l))] w fun e w' => e = .returned (.tuple #[.agg #[.int .u64 2, .int .u64 1], .string (bs l), .bool true]) ∧ Below w.heap.size w w' := by
  go_enter Tryd.func54, Tryd.ntmps54
  go_wp2
  refine bodyPost_ret (v := .tuple #[.agg #[.int .u64 2, .int .u64 1], .string (bs l), .bool true]) (by simp [results, Tryd.results54, go_sem, *]) rfl ⟨rfl, ?_⟩
  repeat (first | exact Below.refl _ _ | (refine Below.setCell ?_ (by first | (simp; done) | (simp; omega)) _) | (refine Below.alloc ?_ (by simp) _) | exact ((Below.refl _ _).alloc (Nat.le_refl _) _).trans (hb.mono (by simp)))

set_option maxHeartbeats 1000000 in
theorem rb_no (c : UInt8) (n1 : ((c.toNat : Int) == 104) = false) (n2 : ((c.toNat : Int) == 100) = false) (n3 : ((c.toNat : Int) == 98) = false) (l : Bytes) (hl : l.length ≤ 100000) (w : World) : Calls Tryd.prog 54 #[.string (bs (c :: l))] w fun e w' => e = .returned (.tuple #[.agg #[.int .u64 0, .int .u64 0], .string (bs []), .bool false]) ∧ Below w.heap.size w w' := by
  go_enter Tryd.func54, Tryd.ntmps54
  go_wp2
  refine bodyPost_ret (v := .tuple #[.agg #[.int .u64 0, .int .u64 0], .string (bs []), .bool false]) (by simp [results, Tryd.results54, go_sem, *]; rfl) rfl ⟨rfl, ?_⟩
  repeat (first | exact Below.refl _ _ | (refine Below.setCell ?_ (by first | (simp; done) | (simp; omega)) _) | (refine Below.alloc ?_ (by simp) _) | exact ((Below.refl _ _).alloc (Nat.le_refl _) _).trans (hb.mono (by simp)))

/-- Is w a width, and do so many bits hold v? -/
def holdsI (W : Int) (v : Nat) : Bool := decide (1 ≤ W) && decide (W ≤ 64) && decide (v < 2 ^ W.toNat)
set_option maxHeartbeats 1000000 in
theorem holds_any (W : Int) (v : Nat) (hv : v < 18446744073709551616) (w : World) : Calls Tryd.prog 42 #[.int .i64 W, .int .u64 (v : Int)] w fun e w' => e = .returned (.bool (holdsI W v)) ∧ w = w' := by
  have HV := Lib.hid hv
  clear hv
  by_cases h1 : 1 ≤ W
  · have d1 : decide (1 ≤ W) = true := by simpa using h1
    by_cases h2 : W ≤ 64
    · have d2 : decide (W ≤ 64) = true := by simpa using h2
      have HH : Hid (holdsI W v = decide (v < 2 ^ W.toNat)) := Lib.hid (by unfold holdsI; rw [d1, d2]; rfl)
      obtain ⟨n, rfl⟩ : ∃ n : Nat, W = n := ⟨W.toNat, by omega⟩
      have wu : IntKind.u64.wrap (n : Int) = n := by rw [IntKind.wrap_u64]; omega
      go_enter Tryd.func42, Tryd.ntmps42
      go_wp2
      go_ret
      refine ⟨ret_b ?_, rfl⟩
      rw [HH.out, Int.toNat_natCast, Bool.eq_iff_iff, beq_iff_eq, decide_eq_true_eq]
      have e : (v : Int) / 2 ^ n = ((v / 2 ^ n : Nat) : Int) := by rw [Int.natCast_ediv, Int.natCast_pow]; rfl
      rw [e]
      have := Nat.div_eq_zero_iff_lt (x := v) (Nat.two_pow_pos n)
      omega
    · have d2 : decide (W ≤ 64) = false := by simpa using h2
      have HH : Hid (holdsI W v = false) := Lib.hid (by unfold holdsI; rw [d1, d2]; rfl)
      go_enter Tryd.func42, Tryd.ntmps42
      go_wp2
      go_ret
      exact ⟨ret_b HH.out.symm, rfl⟩
  · have d1 : decide (1 ≤ W) = false := by simpa using h1
    have HH : Hid (holdsI W v = false) := Lib.hid (by unfold holdsI; rw [d1]; rfl)
    go_enter Tryd.func42, Tryd.ntmps42
    go_wp2
    go_ret
    exact ⟨ret_b HH.out.symm, rfl⟩

/-- The base whose letter a text begins with. -/
def rbS (m : Bytes) : Nat × Nat × Bytes × Bool :=
  match m with
  | [] => (0, 0, [], false)
  | c :: r => if (c.toNat : Int) == 104 then (16, 4, r, true) else if (c.toNat : Int) == 100 then (10, 0, r, true) else if (c.toNat : Int) == 98 then (2, 1, r, true) else (0, 0, [], false)
theorem rb_nil (w : World) : Calls Tryd.prog 54 #[.string (bs [])] w fun e w' => e = .returned (.tuple #[.agg #[.int .u64 0, .int .u64 0], .string (bs []), .bool false]) ∧ Below w.heap.size w w' := by
  go_enter Tryd.func54, Tryd.ntmps54
  go_wp2
  refine bodyPost_ret (v := .tuple #[.agg #[.int .u64 0, .int .u64 0], .string (bs []), .bool false]) (by simp [results, Tryd.results54, go_sem, *]; rfl) rfl ⟨rfl, ?_⟩
  repeat (first | exact Below.refl _ _ | (refine Below.setCell ?_ (by first | (simp; done) | (simp; omega)) _) | (refine Below.alloc ?_ (by simp) _))
theorem chr {c : UInt8} {n : Nat} (hn : n < 256) (h : ((c.toNat : Int) == (n : Int)) = true) : c = UInt8.ofNat n := by
  rw [beq_iff_eq] at h
  apply UInt8.toNat_inj.1
  rw [UInt8.toNat_ofNat_of_lt' (by simpa using hn)]
  omega
theorem readBase_any (m : Bytes) (hm : m.length ≤ 100000) (w : World) : Calls Tryd.prog 54 #[.string (bs m)] w fun e w' => e = .returned (.tuple #[.agg #[.int .u64 ((rbS m).1 : Int), .int .u64 ((rbS m).2.1 : Int)], .string (bs (rbS m).2.2.1), .bool (rbS m).2.2.2]) ∧ Below w.heap.size w w' := by
  cases m with
  | nil => exact rb_nil w
  | cons c l =>
    have hl : l.length ≤ 100000 := by simp at hm; omega
    by_cases h1 : ((c.toNat : Int) == 104) = true
    · obtain rfl : c = 104 := chr (n := 104) (by omega) h1
      exact rb_h l hl w
    · by_cases h2 : ((c.toNat : Int) == 100) = true
      · obtain rfl : c = 100 := chr (n := 100) (by omega) h2
        exact rb_d l hl w
      · by_cases h3 : ((c.toNat : Int) == 98) = true
        · obtain rfl : c = 98 := chr (n := 98) (by omega) h3
          exact rb_b l hl w
        · have e : rbS (c :: l) = (0, 0, [], false) := by unfold rbS; simp only; rw [if_neg h1, if_neg h2, if_neg h3]
          rw [e]
          exact rb_no c (by simpa using h1) (by simpa using h2) (by simpa using h3) l hl w
end Go.Proofs.YtigdegjhajdmhaaDoor
