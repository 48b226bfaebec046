/-
  Contracts of the leaves: Mask, wrong, keep, truth, bit, within, bits, up, down of both packages.
-/
import Derived.Test.YtemolkkpigkanaaProg
import Derived.Test.YtemolkkpigkanaaS
import Derived.Deep.QuietTactic
import Derived.BigQuiet
import Derived.Deep.RegionHeld3
import Derived.Deep.DeepCutAuto
import Derived.KernelRfl
import Derived.Lib.Hide
namespace Go.Proofs.Ytemolkkpigkanaa
open Go Go.RowKit

/-- The world has new blocks, and nothing below B has turned; the value is v. -/
def Gives (B : Nat) (w : World) (v : Value) (e : Ending) (w' : World) : Prop := e = .returned v ∧ Below B w w'

theorem Gives.mk {B : Nat} {w w' : World} {v v' : Value} (h : v = v') (hb : Below B w w') : Gives B w v' (.returned v) w' := ⟨by rw [h], hb⟩

theorem ret_i {k : IntKind} {a b : Int} (h : a = b) : Ending.returned (.int k a) = .returned (.int k b) := by rw [h]

set_option maxHeartbeats 400000 in
theorem ref_mask (n : Int) (w : World) : Calls Try.prog 19 #[.int .i64 n] w fun e w' => e = .returned (.int .u64 (u (msk n))) ∧ w = w' := by
  go_enter Try.func19, Try.ntmps19
  go_wp2
  · go_ret
    rename_i h
    exact ⟨ret_i (by rw [msk_low h, ← u_zero]), rfl⟩
  · go_ret
    rename_i h
    exact ⟨ret_i (by rw [msk_high h, ← u_max]), rfl⟩
  · go_ret
    rename_i h1 h2
    exact ⟨ret_i (by rw [msk_mid h1 h2]; rfl), rfl⟩

theorem wrap_pos {n : Int} (h1 : 1 ≤ n) (h2 : n ≤ 9223372036854775807) : IntKind.u64.wrap n = n := by rw [IntKind.wrap_u64]; omega

set_option maxHeartbeats 400000 in
theorem bitv_mask (n : Int) (hn : (Lit.int .i64 n).wf = true) (w : World) : Calls Try.prog 18 #[.int .i64 n] w fun e w' => e = .returned (.int .u64 (u (msk n))) ∧ w = w' := by
  have hb := bounds_i64 hn
  clear hn
  by_cases h1 : n < 1
  · go_enter Try.func18, Try.ntmps18
    go_wp2
    go_ret
    exact ⟨ret_i (by rw [msk_low h1, ← u_zero]), rfl⟩
  · have hw : IntKind.u64.wrap n = n := wrap_pos (by omega) hb.2
    by_cases h2 : n ≤ 64
    · go_enter Try.func18, Try.ntmps18
      go_wp2
      go_ret
      exact ⟨ret_i (by rw [msk_pw (by omega) h2]; rfl), rfl⟩
    · go_enter Try.func18, Try.ntmps18
      go_wp2
      go_ret
      exact ⟨ret_i (by rw [msk_high (by omega)]; decide), rfl⟩

/-- Results that are a value of two cells, in memory, and a number. -/
theorem ret_two {n m : Int} {x y : BitVec 64} {e e' : Int} (h : n = m) (hx : x = y) (he : e = e') : Ending.returned (.tuple #[.agg #[.int .i64 n, .int .u64 (u x)], .int .i64 e]) = .returned (.tuple #[.agg #[.int .i64 m, .int .u64 (u y)], .int .i64 e']) := by rw [h, hx, he]

set_option maxHeartbeats 400000 in
theorem bitv_wrong (w : World) : Calls Try.prog 32 #[] w fun e w' => e = .returned (.tuple #[.agg #[.int .i64 0, .int .u64 0], .int .i64 1]) ∧ Below w.heap.size w w' := by
  go_enter Try.func32, Try.ntmps32
  go_wp2
  refine bodyPost_ret (v := .tuple #[.agg #[.int .i64 0, .int .u64 0], .int .i64 1]) (by simp [results, Try.results32, go_sem]) rfl ⟨rfl, ?_⟩
  exact (Below.refl _ _).alloc (Nat.le_refl _) _

set_option maxHeartbeats 400000 in
theorem bitv_keep (n : Int) (hn : (Lit.int .i64 n).wf = true) (v : BitVec 64) (w : World) : Calls Try.prog 33 #[.int .i64 n, .int .u64 (u v)] w fun e w' => e = .returned (.tuple #[.agg #[.int .i64 n, .int .u64 (u (v &&& msk n))], .int .i64 0]) ∧ Below w.heap.size w w' := by
  go_enter Try.func33, Try.ntmps33
  go_wp2_with (go_at_call 18; refine (bitv_mask n hn _).mono ?_; rintro e w' ⟨rfl, rfl⟩)
  refine bodyPost_ret (v := .tuple #[.agg #[.int .i64 n, .int .u64 (u (v &&& msk n))], .int .i64 0]) (by simp [results, Try.results33, go_sem]) rfl ⟨rfl, ?_⟩
  exact (Below.refl _ _).alloc (Nat.le_refl _) _

set_option maxHeartbeats 400000 in
theorem bitv_truth (b : Bool) (w : World) : Calls Try.prog 34 #[.bool b] w fun e w' => e = .returned (.tuple #[.agg #[.int .i64 1, .int .u64 (u (b2u b))], .int .i64 0]) ∧ Below w.heap.size w w' := by
  cases b
  · have hu : u (b2u false) = 0 := by decide
    go_enter Try.func34, Try.ntmps34
    go_wp2
    refine bodyPost_ret (v := .tuple #[.agg #[.int .i64 1, .int .u64 0], .int .i64 0]) (by simp [results, Try.results34, go_sem]) rfl ⟨by rw [hu], ?_⟩
    exact (Below.refl _ _).alloc (Nat.le_refl _) _
  · have hu : u (b2u true) = 1 := by decide
    go_enter Try.func34, Try.ntmps34
    go_wp2
    refine bodyPost_ret (v := .tuple #[.agg #[.int .i64 1, .int .u64 1], .int .i64 0]) (by simp [results, Try.results34, go_sem]) rfl ⟨by rw [hu], ?_⟩
    exact (Below.refl _ _).alloc (Nat.le_refl _) _

set_option maxHeartbeats 400000 in
theorem ref_bit (b : Bool) (w : World) : Calls Try.prog 36 #[.bool b] w fun e w' => e = .returned (.agg #[.int .i64 1, .int .u64 (u (b2u b))]) ∧ Below w.heap.size w w' := by
  cases b
  · have hu : u (b2u false) = 0 := by decide
    go_enter Try.func36, Try.ntmps36
    go_wp2
    refine bodyPost_ret (v := .agg #[.int .i64 1, .int .u64 0]) (by simp [results, Try.results36, go_sem]) rfl ⟨by rw [hu], ?_⟩
    exact (Below.refl _ _).alloc (Nat.le_refl _) _
  · have hu : u (b2u true) = 1 := by decide
    go_enter Try.func36, Try.ntmps36
    go_wp2
    refine bodyPost_ret (v := .agg #[.int .i64 1, .int .u64 1]) (by simp [results, Try.results36, go_sem]) rfl ⟨by rw [hu], ?_⟩
    exact (Below.refl _ _).alloc (Nat.le_refl _) _

set_option maxHeartbeats 400000 in
theorem law_bits (n : Int) (m : Int) (w : World) : Calls Try.prog 38 #[.int .i64 n, .int .u64 m] w fun e w' => e = .returned (.agg #[.int .i64 n, .int .u64 m]) ∧ Below w.heap.size w w' := by
  go_enter Try.func38, Try.ntmps38
  go_wp2
  refine bodyPost_ret (v := .agg #[.int .i64 n, .int .u64 m]) (by simp [results, Try.results38, go_sem]) rfl ⟨rfl, ?_⟩
  exact (Below.refl _ _).alloc (Nat.le_refl _) _

set_option maxHeartbeats 400000 in
theorem ref_up (x y : BitVec 64) (w : World) : Calls Try.prog 44 #[.int .u64 (u x), .int .u64 (u y)] w fun e w' => e = .returned (.int .u64 (u (x <<< y.toNat))) ∧ w = w' := by
  by_cases h : 63 < u y
  · have hz : x <<< y.toNat = 0 := BitVec.shiftLeft_eq_zero (by unfold u at h; omega)
    have HZ := Lib.hid hz
    clear hz
    go_enter Try.func44, Try.ntmps44
    go_wp2
    go_ret
    exact ⟨ret_i (by rw [HZ.out, ← u_zero]), rfl⟩
  · go_enter Try.func44, Try.ntmps44
    go_wp2
    go_ret
    exact ⟨rfl, rfl⟩

set_option maxHeartbeats 400000 in
theorem ref_down (x y : BitVec 64) (w : World) : Calls Try.prog 45 #[.int .u64 (u x), .int .u64 (u y)] w fun e w' => e = .returned (.int .u64 (u (x >>> y.toNat))) ∧ w = w' := by
  by_cases h : 63 < u y
  · have hz : x >>> y.toNat = 0 := BitVec.ushiftRight_eq_zero (by unfold u at h; omega)
    have HZ := Lib.hid hz
    clear hz
    go_enter Try.func45, Try.ntmps45
    go_wp2
    go_ret
    exact ⟨ret_i (by rw [HZ.out, ← u_zero]), rfl⟩
  · go_enter Try.func45, Try.ntmps45
    go_wp2
    go_ret
    exact ⟨rfl, rfl⟩
end Go.Proofs.Ytemolkkpigkanaa
