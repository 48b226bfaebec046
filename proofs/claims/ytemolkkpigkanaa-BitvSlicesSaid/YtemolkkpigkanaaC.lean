/-
  Contracts: Check of both packages; odd.
-/
import Derived.Test.YtemolkkpigkanaaA
import Derived.WalkSmall
namespace Go.Proofs.Ytemolkkpigkanaa
open Go Go.RowKit

def eno (b : Bool) : Int := if b then 0 else 1
/-- A callee that leaves the world alone, within a region that draws. -/
theorem quiet_eq {P : Program} {f : FuncId} {args : Array Value} {w : World} {n : Nat} {v : Value}
    (h : Calls P f args (w.drewN n) fun e w' => e = .returned v ∧ w.drewN n = w') : Calls P f args (w.drewN n) fun e w'' => e = .returned v ∧ ∃ m, w'' = w.drewN m :=
  h.mono fun _ _ ⟨he, hm⟩ => ⟨he, n, hm.symm⟩
theorem ok_low {W : Int} {V : BitVec 64} (h : W < 1) : ok W V = false := by
  unfold ok; rw [decide_eq_false (p := 1 ≤ W) (by omega)]; rfl
theorem ok_high {W : Int} {V : BitVec 64} (h : 64 < W) : ok W V = false := by
  unfold ok; rw [decide_eq_false (p := W ≤ 64) (by omega)]; simp
theorem ok_mid {W : Int} {V : BitVec 64} (h : ¬ W < 1) (h' : ¬ 64 < W) : ok W V = decide (V ≤ msk W) := by
  unfold ok; rw [decide_eq_true (p := 1 ≤ W) (by omega), decide_eq_true (p := W ≤ 64) (by omega)]; simp
theorem eno_ok {W : Int} {V : BitVec 64} (h : ¬ W < 1) (h' : ¬ 64 < W) (h2 : ¬ msk W < V) : eno (ok W V) = 0 := by
  rw [ok_mid h h', decide_eq_true (by rw [BitVec.le_def]; rw [BitVec.lt_def] at h2; omega)]; rfl
theorem eno_no {W : Int} {V : BitVec 64} (h : ¬ W < 1) (h' : ¬ 64 < W) (h2 : msk W < V) : eno (ok W V) = 1 := by
  rw [ok_mid h h', decide_eq_false (by rw [BitVec.le_def]; rw [BitVec.lt_def] at h2; omega)]; rfl

set_option maxHeartbeats 1000000 in
theorem bitv_check (W : Int) (hW : (Lit.int .i64 W).wf = true) (V : BitVec 64) (w : World) : Calls Try.prog 16 #[.agg #[.int .i64 W, .int .u64 (u V)]] w fun e w' => e = .returned (.int .i64 (eno (ok W V))) ∧ Below w.heap.size w w' := by
  by_cases h1 : W < 1
  · have hd : decide (W < 1) = true := by simpa using h1
    go_enter Try.func16, Try.ntmps16
    go_wp2
    go_quiet (fail)
    go_wp2
    go_ret
    exact ⟨ret_i (by rw [ok_low h1]; rfl), below_drewN ((Below.refl _ _).alloc (Nat.le_refl _) _) _⟩
  · have hd : decide (W < 1) = false := by simpa using h1
    by_cases h2 : 64 < W
    · have hd2 : decide (64 < W) = true := by simpa using h2
      go_enter Try.func16, Try.ntmps16
      go_wp2
      go_quiet (fail)
      go_wp2
      go_ret
      exact ⟨ret_i (by rw [ok_high h2]; rfl), below_drewN ((Below.refl _ _).alloc (Nat.le_refl _) _) _⟩
    · have hd2 : decide (64 < W) = false := by simpa using h2
      by_cases h3 : msk W < V
      · go_enter Try.func16, Try.ntmps16
        go_wp2
        go_quiet ((go_at_call 18; exact quiet_eq (bitv_mask _ hW _)))
        go_wp2
        go_ret
        exact ⟨ret_i (by rw [eno_no (by omega) (by omega) h3]), below_drewN ((Below.refl _ _).alloc (Nat.le_refl _) _) _⟩
      · have h3' : V ≤ msk W := by rw [BitVec.le_def]; rw [BitVec.lt_def] at h3; omega
        go_enter Try.func16, Try.ntmps16
        go_wp2
        go_quiet ((go_at_call 18; exact quiet_eq (bitv_mask _ hW _)))
        go_wp2
        go_ret
        exact ⟨ret_i (by rw [eno_ok (by omega) (by omega) h3]), below_drewN ((Below.refl _ _).alloc (Nat.le_refl _) _) _⟩

set_option maxHeartbeats 1000000 in
theorem ref_check (W : Int) (V : BitVec 64) (w : World) : Calls Try.prog 17 #[.agg #[.int .i64 W, .int .u64 (u V)]] w fun e w' => e = .returned (.int .i64 (eno (ok W V))) ∧ Below w.heap.size w w' := by
  by_cases h1 : W < 1
  · have hd : decide (W < 1) = true := by simpa using h1
    go_enter Try.func17, Try.ntmps17
    go_wp2
    go_quiet (fail)
    go_wp2
    go_ret
    exact ⟨ret_i (by rw [ok_low h1]; rfl), below_drewN ((Below.refl _ _).alloc (Nat.le_refl _) _) _⟩
  · have hd : decide (W < 1) = false := by simpa using h1
    by_cases h2 : 64 < W
    · have hd2 : decide (64 < W) = true := by simpa using h2
      go_enter Try.func17, Try.ntmps17
      go_wp2
      go_quiet (fail)
      go_wp2
      go_ret
      exact ⟨ret_i (by rw [ok_high h2]; rfl), below_drewN ((Below.refl _ _).alloc (Nat.le_refl _) _) _⟩
    · have hd2 : decide (64 < W) = false := by simpa using h2
      by_cases h3 : msk W < V
      · go_enter Try.func17, Try.ntmps17
        go_wp2
        go_quiet ((go_at_call 19; exact quiet_eq (ref_mask _ _)))
        go_wp2
        go_ret
        exact ⟨ret_i (by rw [eno_no (by omega) (by omega) h3]), below_drewN ((Below.refl _ _).alloc (Nat.le_refl _) _) _⟩
      · have h3' : V ≤ msk W := by rw [BitVec.le_def]; rw [BitVec.lt_def] at h3; omega
        go_enter Try.func17, Try.ntmps17
        go_wp2
        go_quiet ((go_at_call 19; exact quiet_eq (ref_mask _ _)))
        go_wp2
        go_ret
        exact ⟨ret_i (by rw [eno_ok (by omega) (by omega) h3]), below_drewN ((Below.refl _ _).alloc (Nat.le_refl _) _) _⟩

set_option maxHeartbeats 1000000 in
theorem ref_odd (v : BitVec 64) (w : World) : Calls Try.prog 37 #[.int .u64 (u v)] w fun e w' => e = .returned (.bool (odds 64 v)) ∧ w = w' := by
  go_enter Try.func37, Try.ntmps37
  go_wp2
  go_loop [3, 4] (fun t i => ∃ k : Nat, k ≤ 64 ∧ i = .int .i64 k ∧ t = .bool (odds k v)) (fun _ i => 64 - (intOf i).toNat)
  case atStart => exact ⟨0, Nat.zero_le _, rfl, rfl⟩
  case round =>
    obtain ⟨k, hk, rfl, rfl⟩ := hrel
    by_cases hlt : k < 64
    · have hs : odds (k + 1) v = xor (odds k v) (v >>> k &&& 1#64 == 1#64) := rfl
      have HS := Lib.hid hs
      clear hs
      by_cases hb : (v >>> k &&& 1#64 == 1#64) = true
      · go_wp2
        go_round
        case rel => exact ⟨k + 1, by omega, by go_num, by rw [HS.out, hb, Bool.xor_true]⟩
        case measure => simp [intOf]; omega
      · have hb' : (v >>> k &&& 1#64 == 1#64) = false := by simpa using hb
        clear hb
        go_wp2
        go_round
        case rel => exact ⟨k + 1, by omega, by go_num, by rw [HS.out, hb', Bool.xor_false]⟩
        case measure => simp [intOf]; omega
    · obtain rfl : k = 64 := by omega
      go_wp2
      go_ret
      exact ⟨rfl, rfl⟩
/-- What a call ends with that tells a value and an error. -/
def rv (r : R) : Ending := .returned (.tuple #[.agg #[.int .i64 r.1, .int .u64 (u r.2.1)], .int .i64 r.2.2])
theorem n_ne2 (n : Nat) : (n = n + 1 + 1) = False := by simp; omega
theorem n_ne2' (n : Nat) : (n + 1 + 1 = n) = False := by simp; omega
theorem n_ne3 (n : Nat) : (n = n + 1 + 1 + 1) = False := by simp; omega
theorem n_ne3' (n : Nat) : (n + 1 + 1 + 1 = n) = False := by simp; omega
theorem n_ne4 (n : Nat) : (n = n + 1 + 1 + 1 + 1) = False := by simp; omega
theorem n_ne4' (n : Nat) : (n + 1 + 1 + 1 + 1 = n) = False := by simp; omega
attribute [simp] n_ne2 n_ne2' n_ne3 n_ne3' n_ne4 n_ne4'
theorem lt_of_cell' {w : World} {b o : Nat} {v : Value} (h : w.cell? ⟨b, o, none⟩ = some v) : b < w.heap.size := by
  refine Decidable.byContradiction fun hn => ?_
  rw [World.cell?] at h
  rw [Array.getElem?_eq_none (by simpa using hn)] at h
  simp at h
theorem keep_cell {W w1 : World} (hb : Below W.heap.size W w1) {b o : Nat} {v : Value} (h : W.cell? ⟨b, o, none⟩ = some v) : w1.cell? ⟨b, o, none⟩ = some v := by
  rw [hb.cell (p := ⟨b, o, none⟩) (lt_of_cell' h)]; exact h
theorem keep_frozen {W w1 : World} (hb : Below W.heap.size W w1) {b o : Nat} (h : b < W.heap.size) (hf : W.frozen? ⟨b, o, none⟩ = false) : w1.frozen? ⟨b, o, none⟩ = false := by
  rw [hb.frozen (p := ⟨b, o, none⟩) h]; exact hf
theorem below_via {B B' : Nat} {a m w : World} (h : Below B' m w) (k : Below B a m) (hB : B ≤ B') : Below B a w := k.trans (h.mono hB)
theorem bcell {W w1 : World} (hb : Below W.heap.size W w1) : (∀ b o, b < W.heap.size → w1.cell? ⟨b, o, none⟩ = W.cell? ⟨b, o, none⟩) ∧ (∀ b o, b < W.heap.size → w1.frozen? ⟨b, o, none⟩ = W.frozen? ⟨b, o, none⟩) :=
  ⟨fun b o h => hb.cell (p := ⟨b, o, none⟩) h, fun b o h => hb.frozen (p := ⟨b, o, none⟩) h⟩

end Go.Proofs.Ytemolkkpigkanaa
