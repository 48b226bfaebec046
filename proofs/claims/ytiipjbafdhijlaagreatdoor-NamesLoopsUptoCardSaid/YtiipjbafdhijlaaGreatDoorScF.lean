/-
  Contracts: the base of a number; whether so many bits hold it.
-/
import Derived.Test.YtiipjbafdhijlaaGreatDoorScE
namespace Go.Proofs.YtiipjbafdhijlaaGreatDoor
open Go Go.RowKit
set_option linter.unusedVariables false

/-- Is w a width, and do so many bits hold v? -/
def holdsI (W : Int) (v : Nat) : Bool := decide (1 ≤ W) && decide (W ≤ 64) && decide (v < 2 ^ W.toNat)
set_option maxHeartbeats 1000000 in
theorem holds_any (W : Int) (v : Nat) (hv : v < 18446744073709551616) (w : World) : Calls Tryz.prog 166 #[.int .i64 W, .int .u64 (v : Int)] w fun e w' => e = .returned (.bool (holdsI W v)) ∧ w = w' := by
  have HV := Lib.hid hv
  clear hv
  by_cases h1 : 1 ≤ W
  · have d1 : decide (1 ≤ W) = true := by simpa using h1
    by_cases h2 : W ≤ 64
    · have d2 : decide (W ≤ 64) = true := by simpa using h2
      have HH : Hid (holdsI W v = decide (v < 2 ^ W.toNat)) := Lib.hid (by unfold holdsI; rw [d1, d2]; rfl)
      obtain ⟨n, rfl⟩ : ∃ n : Nat, W = n := ⟨W.toNat, by omega⟩
      have wu : IntKind.u64.wrap (n : Int) = n := by rw [IntKind.wrap_u64]; omega
      go_enter Tryz.func166, Tryz.ntmps166
      go_wp2
      go_ret
      refine ⟨ret_b ?_, rfl⟩
      rw [HH.out, Int.toNat_natCast, Bool.eq_iff_iff, beq_iff_eq, decide_eq_true_eq]
      have e : (v : Int) / 2 ^ n = ((v / 2 ^ n : Nat) : Int) := by rw [Int.natCast_ediv, Int.natCast_pow]; rfl
      rw [e]
      have := Nat.div_eq_zero_iff_lt (x := v) (Nat.two_pow_pos n)
      omega
    · have d2 : decide (W ≤ 64) = false := by simpa using h2
      have HH : Hid (holdsI W v = false) := Lib.hid (by unfold holdsI; rw [d1, d2]; rfl)
      go_enter Tryz.func166, Tryz.ntmps166
      go_wp2
      go_ret
      exact ⟨ret_b HH.out.symm, rfl⟩
  · have d1 : decide (1 ≤ W) = false := by simpa using h1
    have HH : Hid (holdsI W v = false) := Lib.hid (by unfold holdsI; rw [d1]; rfl)
    go_enter Tryz.func166, Tryz.ntmps166
    go_wp2
    go_ret
    exact ⟨ret_b HH.out.symm, rfl⟩

/-- The base whose letter a text begins with. -/
def rbS (m : Bytes) : Nat × Nat × Bytes × Bool :=
  match m with
  | [] => (0, 0, [], false)
  | c :: r => if (c.toNat : Int) == 104 then (16, 4, r, true) else if (c.toNat : Int) == 100 then (10, 0, r, true) else if (c.toNat : Int) == 98 then (2, 1, r, true) else (0, 0, [], false)
theorem chr {c : UInt8} {n : Nat} (hn : n < 256) (h : ((c.toNat : Int) == (n : Int)) = true) : c = UInt8.ofNat n := by
  rw [beq_iff_eq] at h
  apply UInt8.toNat_inj.1
  rw [UInt8.toNat_ofNat_of_lt' (by simpa using hn)]
  omega
end Go.Proofs.YtiipjbafdhijlaaGreatDoor
