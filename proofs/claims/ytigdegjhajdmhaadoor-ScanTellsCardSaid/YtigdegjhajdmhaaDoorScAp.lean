/-
  Contracts: numbers appended; the byte behind a token.
-/
import Derived.Test.YtigdegjhajdmhaaDoorScFb
import Derived.Test.YtigdegjhajdmhaaDoorScR
namespace Go.Proofs.YtigdegjhajdmhaaDoor
open Go Go.RowKit
set_option linter.unusedVariables false
open Go.Sort

set_option maxHeartbeats 2000000 in
theorem au16 (B n u0 : Nat) (hu : u0 < 18446744073709551616) (sv : Value) (xs : List Value) (w : World) (hown : w.ownsRow B 5 1 sv n xs) (hBw : B ≤ w.heap.size) (hlim : n ≤ 1000000) (ht : w.cell? ⟨4, 15, none⟩ = some (.int .u8 4)) :
    Calls Tryd.prog 51 #[sv, .int .u64 (u0 : Int), .int .i64 16] w fun e w' => ∃ v', e = .returned v' ∧ w'.ownsRow B 5 1 v' (n + (hexD u0).length) (xs ++ Lib.byteCells (hexD u0)) ∧ Below B w w' := by
  have h := fb16 B n u0 hu sv xs w hown hBw hlim ht
  have HU := Lib.hid hu
  clear hu hown ht
  go_enter Tryd.func51, Tryd.ntmps51
  go_wp2_with fail
  refine h.mono ?_
  rintro e1 w1 ⟨v1, rfl, o1, b1⟩
  clear h
  go_wp2
  go_ret
  exact ⟨v1, rfl, o1, b1⟩
set_option maxHeartbeats 2000000 in
theorem su16 (B n u0 : Nat) (hu : u0 < 18446744073709551616) (sv : Value) (xs : List Value) (w : World) (hown : w.ownsRow B 5 1 sv n xs) (hBw : B ≤ w.heap.size) (hlim : n ≤ 1000000) (ht : w.cell? ⟨4, 15, none⟩ = some (.int .u8 4)) :
    Calls Tryd.prog 37 #[sv, .int .u64 (u0 : Int), .int .i64 16] w fun e w' => ∃ v', e = .returned v' ∧ w'.ownsRow B 5 1 v' (n + (hexD u0).length) (xs ++ Lib.byteCells (hexD u0)) ∧ Below B w w' := by
  have h := au16 B n u0 hu sv xs w hown hBw hlim ht
  have HU := Lib.hid hu
  clear hu hown ht
  go_enter Tryd.func37, Tryd.ntmps37
  go_wp2_with fail
  refine h.mono ?_
  rintro e1 w1 ⟨v1, rfl, o1, b1⟩
  clear h
  go_wp2
  go_ret
  exact ⟨v1, rfl, o1, b1⟩
set_option maxHeartbeats 2000000 in
theorem su10 (B n u0 : Nat) (hu : u0 < 18446744073709551616) (sv : Value) (xs : List Value) (w : World) (hown : w.ownsRow B 5 1 sv n xs) (hBw : B ≤ w.heap.size) (hlim : n ≤ 1000000) (htab : Lib.TabIs Tryd.prog w "internal/strconv.uint64pow10" .u64 Lib.pow10Tab) :
    Calls Tryd.prog 37 #[sv, .int .u64 (u0 : Int), .int .i64 10] w fun e w' => ∃ v', e = .returned v' ∧ w'.ownsRow B 5 1 v' (n + (Lib.decDigits u0).length) (xs ++ Lib.byteCells (Lib.decDigits u0)) ∧ Below B w w' := by
  have h := Tryd.internal_strconv_AppendUint_10 B n u0 hu sv xs w hown hBw (by omega) htab
  have HU := Lib.hid hu
  clear hu hown htab
  go_enter Tryd.func37, Tryd.ntmps37
  go_wp2_with fail
  refine h.mono ?_
  rintro e1 w1 ⟨v1, rfl, o1, b1, _⟩
  clear h
  go_wp2
  go_ret
  exact ⟨v1, rfl, o1, b1⟩

/-- The byte that parts a token from the next one. -/
def behindS (s : Bytes) : UInt8 := if s = [59] ∨ s = [123] ∨ s = [125] then 10 else 32
set_option maxHeartbeats 2000000 in
theorem behind_any (k : Int) (s : Bytes) (W : Int) (V : Nat) (at0 : Int) (w : World) : Calls Tryd.prog 16 #[.agg #[.int .i64 k, .string (bs s), .int .i64 W, .int .u64 (V : Int), .int .i64 at0]] w fun e w' => e = .returned (.int .u8 ((behindS s).toNat : Int)) ∧ Below w.heap.size w w' := by
  by_cases h1 : s = [59]
  · subst h1
    go_enter Tryd.func16, Tryd.ntmps16
    go_wp2
    go_ret
    exact ⟨rfl, (Below.refl _ _).alloc (Nat.le_refl _) _⟩
  · by_cases h2 : s = [123]
    · subst h2
      go_enter Tryd.func16, Tryd.ntmps16
      go_wp2
      go_ret
      exact ⟨rfl, (Below.refl _ _).alloc (Nat.le_refl _) _⟩
    · by_cases h3 : s = [125]
      · subst h3
        go_enter Tryd.func16, Tryd.ntmps16
        go_wp2
        go_ret
        exact ⟨rfl, (Below.refl _ _).alloc (Nat.le_refl _) _⟩
      · have e : behindS s = 32 := by unfold behindS; rw [if_neg (by simp [h1, h2, h3])]
        have b1 : (s == [59]) = false := by rw [beq_eq_false_iff_ne]; exact h1
        have b2 : (s == [123]) = false := by rw [beq_eq_false_iff_ne]; exact h2
        have b3 : (s == [125]) = false := by rw [beq_eq_false_iff_ne]; exact h3
        go_enter Tryd.func16, Tryd.ntmps16
        go_wp2
        go_ret
        rw [e]
        exact ⟨rfl, (Below.refl _ _).alloc (Nat.le_refl _) _⟩
end Go.Proofs.YtigdegjhajdmhaaDoor
