/-
  Contracts: the step of mayBe, fold over it, mayBe.
-/
import Derived.Test.YtemolkkpigkanaaC
namespace Go.Proofs.Ytemolkkpigkanaa
open Go Go.RowKit

theorem ret_b {a b : Bool} (h : a = b) : Ending.returned (.bool a) = .returned (.bool b) := by rw [h]
theorem eno_beq (b : Bool) : (eno b == 0) = (true && b) := by cases b <;> rfl

set_option maxHeartbeats 1000000 in
theorem mayBe_step (b : Bool) (W : Int) (hW : (Lit.int .i64 W).wf = true) (V : BitVec 64) (w : World) : Calls Try.prog 53 #[.bool b, .agg #[.int .i64 W, .int .u64 (u V)]] w fun e w' => e = .returned (.bool (b && ok W V)) ∧ Below w.heap.size w w' := by
  cases b
  · go_enter Try.func53, Try.ntmps53
    go_wp2
    go_ret
    exact ⟨rfl, (Below.refl _ _).alloc (Nat.le_refl _) _⟩
  · go_enter Try.func53, Try.ntmps53
    go_wp2_with (go_at_call 16; refine (bitv_check _ hW _ _).mono ?_; rintro e w' ⟨rfl, hb⟩)
    go_ret
    exact ⟨ret_b (eno_beq _), (((Below.refl _ _).alloc (Nat.le_refl _) _)).trans (hb.mono (by simp))⟩

/-- A slice's cells: values of two cells each. -/
def Row (w : World) (b off : Nat) (l : List (Int × BitVec 64)) : Prop :=
  ∀ k W V, l[k]? = some (W, V) → w.cell? ⟨b, off + k * 2, none⟩ = some (.int .i64 W) ∧ w.cell? ⟨b, off + k * 2 + 1, none⟩ = some (.int .u64 (u V)) ∧ (Lit.int .i64 W).wf = true

theorem allOk_take {l : List (Int × BitVec 64)} {k : Nat} {W : Int} {V : BitVec 64} (h : l[k]? = some (W, V)) : allOk (l.take (k + 1)) = (allOk (l.take k) && ok W V) := by
  unfold allOk
  rw [List.take_add_one, h, List.all_append]
  simp

set_option maxHeartbeats 1000000 in
theorem fold_ok (l : List (Int × BitVec 64)) (b off cap : Nat) (w : World) (hl : l.length ≤ 4611686018427387904) (hrow : Row w b off l) (hbl : b < w.heap.size) : Calls Try.prog 52 #[.bool true, .func (.func 53) #[] #[], .slice (some ⟨b, off, none⟩) l.length cap] w fun e w' => e = .returned (.bool (allOk l)) ∧ Below w.heap.size w w' := by
  go_enter Try.func52, Try.ntmps52
  go_wp2
  go_loopw [0, 11] (fun acc i wr => ∃ k : Nat, k ≤ l.length ∧ i = .int .i64 k ∧ acc = .bool (allOk (l.take k)) ∧ Below w.heap.size w wr) (fun _ i _ => l.length - (intOf i).toNat)
  case atStart => exact ⟨0, Nat.zero_le _, rfl, rfl, Below.refl _ _⟩
  case round =>
    obtain ⟨k, hk, rfl, rfl, hb0⟩ := hrel
    by_cases hlt : k < l.length
    · obtain ⟨W, V, hv⟩ : ∃ W V, l[k]? = some (W, V) := ⟨l[k].1, l[k].2, by rw [List.getElem?_eq_getElem hlt]⟩
      obtain ⟨h0, h1, hw⟩ := hrow k W V hv
      have c0 : wr.cell? ⟨b, off + k * 2, none⟩ = some (.int .i64 W) := by rw [hb0.cell hbl]; exact h0
      have c1 : wr.cell? ⟨b, off + k * 2 + 1, none⟩ = some (.int .u64 (u V)) := by rw [hb0.cell hbl]; exact h1
      have HS := Lib.hid (allOk_take hv)
      clear h0 h1 hv hrow
      go_wp2_with (go_at_call 53; refine (mayBe_step _ W hw V _).mono ?_; rintro e w' ⟨rfl, hb⟩)
      go_roundw
      case rel => exact ⟨k + 1, by omega, by go_num, by rw [HS.out], (hb0.alloc hb0.size _).trans (hb.mono (by have := hb0.size; simp; omega))⟩
      case measure => simp [intOf]; omega
    · obtain rfl : k = l.length := by omega
      go_wp2
      go_ret
      exact ⟨ret_b (by rw [List.take_length]), hb0⟩

set_option maxHeartbeats 1000000 in
theorem mayBe_any (l : List (Int × BitVec 64)) (b off cap : Nat) (w : World) (hl : l.length ≤ 4611686018427387904) (hrow : Row w b off l) (hbl : b < w.heap.size) : Calls Try.prog 31 #[.slice (some ⟨b, off, none⟩) l.length cap] w fun e w' => e = .returned (.bool (allOk l)) ∧ Below w.heap.size w w' := by
  have H := Lib.hid hrow
  clear hrow
  go_enter Try.func31, Try.ntmps31
  go_wp2_with (go_at_call 52; refine (fold_ok l b off cap _ hl H.out hbl).mono ?_; rintro e w' ⟨rfl, hb⟩)
  go_ret
  exact ⟨rfl, hb⟩

theorem may1 (W : Int) (hW : (Lit.int .i64 W).wf = true) (V : BitVec 64) (b : Nat) (w : World) (h0 : w.cell? ⟨b, 0, none⟩ = some (.int .i64 W)) (h1 : w.cell? ⟨b, 1, none⟩ = some (.int .u64 (u V))) (hbl : b < w.heap.size) :
    Calls Try.prog 31 #[.slice (some ⟨b, 0, none⟩) 1 1] w fun e w' => e = .returned (.bool (ok W V)) ∧ Below w.heap.size w w' := by
  refine (mayBe_any [(W, V)] b 0 1 w (by simp) ?_ hbl).mono ?_
  · intro k W' V' h
    match k, h with
    | 0, h => obtain ⟨rfl, rfl⟩ : W = W' ∧ V = V' := by simpa using h
              exact ⟨h0, h1, hW⟩
    | k + 1, h => simp at h
  · rintro e w' ⟨rfl, hb⟩
    exact ⟨ret_b (by simp [allOk]), hb⟩

theorem may2 (W : Int) (hW : (Lit.int .i64 W).wf = true) (V : BitVec 64) (W2 : Int) (hW2 : (Lit.int .i64 W2).wf = true) (V2 : BitVec 64) (b : Nat) (w : World) (h0 : w.cell? ⟨b, 0, none⟩ = some (.int .i64 W)) (h1 : w.cell? ⟨b, 1, none⟩ = some (.int .u64 (u V)))
    (h2 : w.cell? ⟨b, 2, none⟩ = some (.int .i64 W2)) (h3 : w.cell? ⟨b, 3, none⟩ = some (.int .u64 (u V2))) (hbl : b < w.heap.size) :
    Calls Try.prog 31 #[.slice (some ⟨b, 0, none⟩) 2 2] w fun e w' => e = .returned (.bool (ok W V && ok W2 V2)) ∧ Below w.heap.size w w' := by
  refine (mayBe_any [(W, V), (W2, V2)] b 0 2 w (by simp) ?_ hbl).mono ?_
  · intro k W' V' h
    match k, h with
    | 0, h => obtain ⟨rfl, rfl⟩ : W = W' ∧ V = V' := by simpa using h
              exact ⟨h0, h1, hW⟩
    | 1, h => obtain ⟨rfl, rfl⟩ : W2 = W' ∧ V2 = V' := by simpa using h
              exact ⟨h2, h3, hW2⟩
    | k + 2, h => simp at h
  · rintro e w' ⟨rfl, hb⟩
    exact ⟨ret_b (by simp [allOk]), hb⟩

theorem may3 (W : Int) (hW : (Lit.int .i64 W).wf = true) (V : BitVec 64) (W2 : Int) (hW2 : (Lit.int .i64 W2).wf = true) (V2 : BitVec 64) (W3 : Int) (hW3 : (Lit.int .i64 W3).wf = true) (V3 : BitVec 64) (b : Nat) (w : World) (h0 : w.cell? ⟨b, 0, none⟩ = some (.int .i64 W)) (h1 : w.cell? ⟨b, 1, none⟩ = some (.int .u64 (u V)))
    (h2 : w.cell? ⟨b, 2, none⟩ = some (.int .i64 W2)) (h3 : w.cell? ⟨b, 3, none⟩ = some (.int .u64 (u V2))) (h4 : w.cell? ⟨b, 4, none⟩ = some (.int .i64 W3)) (h5 : w.cell? ⟨b, 5, none⟩ = some (.int .u64 (u V3))) (hbl : b < w.heap.size) :
    Calls Try.prog 31 #[.slice (some ⟨b, 0, none⟩) 3 3] w fun e w' => e = .returned (.bool (ok W V && (ok W2 V2 && ok W3 V3))) ∧ Below w.heap.size w w' := by
  refine (mayBe_any [(W, V), (W2, V2), (W3, V3)] b 0 3 w (by simp) ?_ hbl).mono ?_
  · intro k W' V' h
    match k, h with
    | 0, h => obtain ⟨rfl, rfl⟩ : W = W' ∧ V = V' := by simpa using h
              exact ⟨h0, h1, hW⟩
    | 1, h => obtain ⟨rfl, rfl⟩ : W2 = W' ∧ V2 = V' := by simpa using h
              exact ⟨h2, h3, hW2⟩
    | 2, h => obtain ⟨rfl, rfl⟩ : W3 = W' ∧ V3 = V' := by simpa using h
              exact ⟨h4, h5, hW3⟩
    | k + 3, h => simp at h
  · rintro e w' ⟨rfl, hb⟩
    exact ⟨ret_b (by simp [allOk]), hb⟩
end Go.Proofs.Ytemolkkpigkanaa
