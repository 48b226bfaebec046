/-
  Contracts: may, bin, un, masked of the laws.
-/
import Derived.Test.YtemolkkpigkanaaL
import Derived.Test.YtemolkkpigkanaaQ
namespace Go.Proofs.Ytemolkkpigkanaa
open Go Go.RowKit

set_option maxHeartbeats 1000000 in
theorem may_ok (W : Int) (V : BitVec 64) (w : World) : Calls Try.prog 30 #[.agg #[.int .i64 W, .int .u64 (u V)], .int .i64 0] w fun e w' => e = .returned (.bool (ok W V)) ∧ Below w.heap.size w w' := by
  go_enter Try.func30, Try.ntmps30
  go_wp2_with (go_at_call 17; refine (ref_check _ _ _).mono ?_; rintro e w' ⟨rfl, hb⟩; have hz := hb.size; (try simp at hz); have c00 := keep_cell hb (b := w.heap.size) (o := 0) (v := .int .i64 W) (by go_simp); have c01 := keep_cell hb (b := w.heap.size) (o := 1) (v := .int .u64 (u V)) (by go_simp))
  go_ret
  refine ⟨ret_b (eno_beq (ok W V)), ?_⟩
  repeat (first | exact Below.refl _ _ | (refine Below.setCell ?_ (by first | (simp; done) | (simp; omega) | omega) _) | (refine Below.alloc ?_ (by first | (simp; done) | (simp; omega) | omega) _) | (refine below_drewN ?_ _) | (refine Below.drew ?_) | (refine below_via (by assumption) ?_ (by first | (simp; done) | (simp; omega) | omega)))

set_option maxHeartbeats 1000000 in
theorem may_err (E : Int) (h : (E != 0) = true) (w : World) : Calls Try.prog 30 #[.agg #[.int .i64 0, .int .u64 (u 0#64)], .int .i64 E] w fun e w' => e = .returned (.bool true) ∧ Below w.heap.size w w' := by
  go_enter Try.func30, Try.ntmps30
  go_wp2
  go_ret
  refine ⟨rfl, ?_⟩
  repeat (first | exact Below.refl _ _ | (refine Below.setCell ?_ (by first | (simp; done) | (simp; omega) | omega) _) | (refine Below.alloc ?_ (by first | (simp; done) | (simp; omega) | omega) _) | (refine below_drewN ?_ _) | (refine Below.drew ?_) | (refine below_via (by assumption) ?_ (by first | (simp; done) | (simp; omega) | omega)))

theorem may_fine (W : Int) (V : BitVec 64) (E : Int) (h : Fine (W, V, E)) (w : World) : Calls Try.prog 30 #[.agg #[.int .i64 W, .int .u64 (u V)], .int .i64 E] w fun e w' => e = .returned (.bool true) ∧ Below w.heap.size w w' := by
  rcases h with ⟨h1, h2⟩ | ⟨h1, h2, h3⟩
  · obtain rfl : E = 0 := h1
    have h2' : ok W V = true := h2
    refine (may_ok W V w).mono ?_
    rintro e w' ⟨rfl, hb⟩
    exact ⟨by rw [h2'], hb⟩
  · obtain rfl : W = 0 := h2
    obtain rfl : V = 0#64 := h3
    exact may_err E (by simpa using h1) w

set_option maxHeartbeats 1000000 in
theorem bin_law (op W : Int) (hW : (Lit.int .i64 W).wf = true) (V : BitVec 64) (W2 : Int) (hW2 : (Lit.int .i64 W2).wf = true) (V2 : BitVec 64) (w : World) : Calls Try.prog 25 #[.int .i64 op, .agg #[.int .i64 W, .int .u64 (u V)], .agg #[.int .i64 W2, .int .u64 (u V2)]] w fun e w' => e = .returned (.agg #[.int .i64 (sBin op W V W2 V2).1, .int .u64 (u (sBin op W V W2 V2).2.1)]) ∧ Below w.heap.size w w' := by
  obtain ⟨R1, S1, E1, hr⟩ : ∃ R S E, sBin op W V W2 V2 = (R, S, E) := ⟨_, _, _, rfl⟩
  have HR := Lib.hid hr
  have e1 : Ending.returned (.agg #[.int .i64 R1, .int .u64 (u S1)]) = .returned (.agg #[.int .i64 (sBin op W V W2 V2).1, .int .u64 (u (sBin op W V W2 V2).2.1)]) := by rw [hr]
  have HE := Lib.hid e1
  clear hr e1
  go_enter Try.func25, Try.ntmps25
  go_wp2_with (go_at_call 20; refine (tolds R1 S1 E1 HR.out (bin_any op W hW V W2 hW2 V2 _)).mono ?_; rintro e w' ⟨rfl, hb⟩; have hz := hb.size; (try simp at hz); have c20 := keep_cell hb (b := w.heap.size + 2) (o := 0) (v := .int .i64 0) (by go_simp); have c21 := keep_cell hb (b := w.heap.size + 2) (o := 1) (v := .int .u64 0) (by go_simp); have f20 := keep_frozen hb (b := w.heap.size + 2) (o := 0) (by first | omega | (simp; omega) | (simp; done)) (by go_simp); have f21 := keep_frozen hb (b := w.heap.size + 2) (o := 1) (by first | omega | (simp; omega) | (simp; done)) (by go_simp); have A0 := alloc_cell c20 (.cells #[.int .i64 R1, .int .u64 (u S1)] 24); have A1 := alloc_cell c21 (.cells #[.int .i64 R1, .int .u64 (u S1)] 24); have B0 := alloc_frozen (by first | omega | (simp; omega) | (simp; done)) f20 (.cells #[.int .i64 R1, .int .u64 (u S1)] 24); have B1 := alloc_frozen (by first | omega | (simp; omega) | (simp; done)) f21 (.cells #[.int .i64 R1, .int .u64 (u S1)] 24))
  refine bodyPost_ret (v := .agg #[.int .i64 R1, .int .u64 (u S1)]) (by simp [results, Try.results25, go_sem, *]) rfl ⟨HE.out, ?_⟩
  repeat (first | exact Below.refl _ _ | (refine Below.setCell ?_ (by first | (simp; done) | (simp; omega) | omega) _) | (refine Below.alloc ?_ (by first | (simp; done) | (simp; omega) | omega) _) | (refine below_drewN ?_ _) | (refine Below.drew ?_) | (refine below_via (by assumption) ?_ (by first | (simp; done) | (simp; omega) | omega)))

set_option maxHeartbeats 1000000 in
theorem un_law (op W : Int) (hW : (Lit.int .i64 W).wf = true) (V : BitVec 64) (w : World) : Calls Try.prog 26 #[.int .i64 op, .agg #[.int .i64 W, .int .u64 (u V)]] w fun e w' => e = .returned (.agg #[.int .i64 (sUn op W V).1, .int .u64 (u (sUn op W V).2.1)]) ∧ Below w.heap.size w w' := by
  obtain ⟨R1, S1, E1, hr⟩ : ∃ R S E, sUn op W V = (R, S, E) := ⟨_, _, _, rfl⟩
  have HR := Lib.hid hr
  have e1 : Ending.returned (.agg #[.int .i64 R1, .int .u64 (u S1)]) = .returned (.agg #[.int .i64 (sUn op W V).1, .int .u64 (u (sUn op W V).2.1)]) := by rw [hr]
  have HE := Lib.hid e1
  clear hr e1
  go_enter Try.func26, Try.ntmps26
  go_wp2_with (go_at_call 13; refine (tolds R1 S1 E1 HR.out (un_any op W hW V _)).mono ?_; rintro e w' ⟨rfl, hb⟩; have hz := hb.size; (try simp at hz); have c10 := keep_cell hb (b := w.heap.size + 1) (o := 0) (v := .int .i64 0) (by go_simp); have c11 := keep_cell hb (b := w.heap.size + 1) (o := 1) (v := .int .u64 0) (by go_simp); have f10 := keep_frozen hb (b := w.heap.size + 1) (o := 0) (by first | omega | (simp; omega) | (simp; done)) (by go_simp); have f11 := keep_frozen hb (b := w.heap.size + 1) (o := 1) (by first | omega | (simp; omega) | (simp; done)) (by go_simp); have A0 := alloc_cell c10 (.cells #[.int .i64 R1, .int .u64 (u S1)] 24); have A1 := alloc_cell c11 (.cells #[.int .i64 R1, .int .u64 (u S1)] 24); have B0 := alloc_frozen (by first | omega | (simp; omega) | (simp; done)) f10 (.cells #[.int .i64 R1, .int .u64 (u S1)] 24); have B1 := alloc_frozen (by first | omega | (simp; omega) | (simp; done)) f11 (.cells #[.int .i64 R1, .int .u64 (u S1)] 24))
  refine bodyPost_ret (v := .agg #[.int .i64 R1, .int .u64 (u S1)]) (by simp [results, Try.results26, go_sem, *]) rfl ⟨HE.out, ?_⟩
  repeat (first | exact Below.refl _ _ | (refine Below.setCell ?_ (by first | (simp; done) | (simp; omega) | omega) _) | (refine Below.alloc ?_ (by first | (simp; done) | (simp; omega) | omega) _) | (refine below_drewN ?_ _) | (refine Below.drew ?_) | (refine below_via (by assumption) ?_ (by first | (simp; done) | (simp; omega) | omega)))

set_option maxHeartbeats 1000000 in
theorem masked_any (n : Int) (hn : 0 ≤ n ∧ n ≤ 255) (x : BitVec 64) (w : World) : Calls Try.prog 24 #[.int .u8 n, .int .u64 (u x)] w fun e w' => e = .returned (.agg #[.int .i64 (1 + n % 64), .int .u64 (u (x &&& msk (1 + n % 64)))]) ∧ Below w.heap.size w w' := by
  have hw : wrap64 n = n := IntWalk.wrap64_in n ⟨by omega, by omega⟩
  go_enter Try.func24, Try.ntmps24
  go_wp2_with (go_at_call 19; refine (ref_mask _ _).mono ?_; rintro e w' ⟨rfl, rfl⟩)
  refine bodyPost_ret (v := .agg #[.int .i64 (1 + n % 64), .int .u64 (u (x &&& msk (1 + n % 64)))]) (by simp [results, Try.results24, go_sem, *]) rfl ⟨rfl, ?_⟩
  repeat (first | exact Below.refl _ _ | (refine Below.setCell ?_ (by first | (simp; done) | (simp; omega) | omega) _) | (refine Below.alloc ?_ (by first | (simp; done) | (simp; omega) | omega) _) | (refine below_drewN ?_ _) | (refine Below.drew ?_) | (refine below_via (by assumption) ?_ (by first | (simp; done) | (simp; omega) | omega)))

/-- What an operation of two of one width tells, if there is no error. -/
def rb (op W : Int) (V V2 : BitVec 64) : BitVec 64 := (sBin op W V W V2).2.1
def ru (op W : Int) (V : BitVec 64) : BitVec 64 := (sUn op W V).2.1
theorem bin_w {op W : Int} {V V2 : BitVec 64} (h : ok W V = true) (h2 : ok W V2 = true) (ho : 11 ≤ op ∧ op ≤ 18) : (sBin op W V W V2).1 = W ∧ ok W (rb op W V V2) = true := by
  obtain ⟨a, b, _⟩ := (ok_iff _ _).1 h
  have : op = 11 ∨ op = 12 ∨ op = 13 ∨ op = 14 ∨ op = 15 ∨ op = 16 ∨ op = 17 ∨ op = 18 := by omega
  unfold rb
  rcases this with rfl | rfl | rfl | rfl | rfl | rfl | rfl | rfl <;> simp [sBin, h, h2, some', ok_masked a b]
theorem bin_one {op W : Int} {V V2 : BitVec 64} (h : ok W V = true) (h2 : ok W V2 = true) (ho : 19 ≤ op ∧ op ≤ 24) : (sBin op W V W V2).1 = 1 ∧ ok 1 (rb op W V V2) = true := by
  have : op = 19 ∨ op = 20 ∨ op = 21 ∨ op = 22 ∨ op = 23 ∨ op = 24 := by omega
  unfold rb
  rcases this with rfl | rfl | rfl | rfl | rfl | rfl <;> simp [sBin, h, h2, one, ok_bit]
theorem un_w {op W : Int} {V : BitVec 64} (h : ok W V = true) (ho : 1 ≤ op ∧ op ≤ 2) : (sUn op W V).1 = W ∧ ok W (ru op W V) = true := by
  obtain ⟨a, b, _⟩ := (ok_iff _ _).1 h
  have : op = 1 ∨ op = 2 := by omega
  unfold ru
  rcases this with rfl | rfl <;> simp [sUn, h, some', ok_masked a b]
theorem un_one {op W : Int} {V : BitVec 64} (h : ok W V = true) (ho : 3 ≤ op ∧ op ≤ 5) : (sUn op W V).1 = 1 ∧ ok 1 (ru op W V) = true := by
  have : op = 3 ∨ op = 4 ∨ op = 5 := by omega
  unfold ru
  rcases this with rfl | rfl | rfl
  · simp [sUn, h, one, ok_bit]
  · simp [sUn, h, one, ok_bit]
  · have e : sUn 5 W V = one (odds 64 V) := by unfold sUn; rw [if_neg (by rw [h]; decide)]; simp only [Int.reduceEq, if_false, if_true]
    rw [e]; generalize odds 64 V = b; exact ⟨rfl, ok_bit b⟩
theorem un_no {V : BitVec 64} (h : ok 1 V = true) : (sUn 6 1 V).1 = 1 ∧ ok 1 (ru 6 1 V) = true := by
  unfold ru; simp [sUn, h, one, ok_bit]
theorem masked_is (n : Int) (hn : 0 ≤ n ∧ n ≤ 255) (x : BitVec 64) (m : Int) (hm : m = u x) (W : Int) (A : BitVec 64) (hW : W = 1 + n % 64) (hA : A = x &&& msk W) (w : World) : Calls Try.prog 24 #[.int .u8 n, .int .u64 m] w fun e w' => e = .returned (.agg #[.int .i64 W, .int .u64 (u A)]) ∧ Below w.heap.size w w' := by
  subst hm hA hW
  exact masked_any n hn x w
theorem ok_wf {W : Int} {V : BitVec 64} (h : ok W V = true) : (Lit.int .i64 W).wf = true := WalkArith.wf_i64 (by obtain ⟨a, b, _⟩ := (ok_iff _ _).1 h; omega)
/-- An operation of two of one width that tells so many bits. -/
theorem binw (op W : Int) (V V2 : BitVec 64) (h : ok W V = true) (h2 : ok W V2 = true) (ho : 11 ≤ op ∧ op ≤ 18) (w : World) : Calls Try.prog 25 #[.int .i64 op, .agg #[.int .i64 W, .int .u64 (u V)], .agg #[.int .i64 W, .int .u64 (u V2)]] w fun e w' => e = .returned (.agg #[.int .i64 W, .int .u64 (u (rb op W V V2))]) ∧ Below w.heap.size w w' := by
  have := bin_law op W (ok_wf h) V W (ok_wf h2) V2 w
  rw [(bin_w h h2 ho).1] at this
  exact this
/-- .. one bit. -/
theorem binb (op W : Int) (V V2 : BitVec 64) (h : ok W V = true) (h2 : ok W V2 = true) (ho : 19 ≤ op ∧ op ≤ 24) (w : World) : Calls Try.prog 25 #[.int .i64 op, .agg #[.int .i64 W, .int .u64 (u V)], .agg #[.int .i64 W, .int .u64 (u V2)]] w fun e w' => e = .returned (.agg #[.int .i64 1, .int .u64 (u (rb op W V V2))]) ∧ Below w.heap.size w w' := by
  have := bin_law op W (ok_wf h) V W (ok_wf h2) V2 w
  rw [(bin_one h h2 ho).1] at this
  exact this
theorem unw (op W : Int) (V : BitVec 64) (h : ok W V = true) (ho : 1 ≤ op ∧ op ≤ 2) (w : World) : Calls Try.prog 26 #[.int .i64 op, .agg #[.int .i64 W, .int .u64 (u V)]] w fun e w' => e = .returned (.agg #[.int .i64 W, .int .u64 (u (ru op W V))]) ∧ Below w.heap.size w w' := by
  have := un_law op W (ok_wf h) V w
  rw [(un_w h ho).1] at this
  exact this
theorem unb (op W : Int) (V : BitVec 64) (h : ok W V = true) (ho : 3 ≤ op ∧ op ≤ 5) (w : World) : Calls Try.prog 26 #[.int .i64 op, .agg #[.int .i64 W, .int .u64 (u V)]] w fun e w' => e = .returned (.agg #[.int .i64 1, .int .u64 (u (ru op W V))]) ∧ Below w.heap.size w w' := by
  have := un_law op W (ok_wf h) V w
  rw [(un_one h ho).1] at this
  exact this
theorem unn (V : BitVec 64) (h : ok 1 V = true) (w : World) : Calls Try.prog 26 #[.int .i64 6, .agg #[.int .i64 1, .int .u64 (u V)]] w fun e w' => e = .returned (.agg #[.int .i64 1, .int .u64 (u (ru 6 1 V))]) ∧ Below w.heap.size w w' := by
  have := un_law 6 1 (ok_wf h) V w
  rw [(un_no h).1] at this
  exact this
end Go.Proofs.Ytemolkkpigkanaa
