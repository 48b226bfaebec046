/-
  Contracts: Un and Bin of the document's answers.
-/
import Derived.Test.YtonjgblnocljcaaT
import Derived.Test.YtonjgblnocljcaaQ
namespace Go.Proofs.Ytonjgblnocljcaa
open Go Go.RowKit

theorem not_eq {W : Int} {V : BitVec 64} (h : ok W V = true) : msk W - V = ~~~V &&& msk W := by
  obtain ⟨h1, h2, h3⟩ := (ok_iff _ _).1 h
  have hm := msk_n h1 h2
  have hp : 0 < 2 ^ W.toNat := Nat.two_pow_pos _
  have hle : 2 ^ W.toNat ≤ 2 ^ 64 := Nat.pow_le_pow_right (by decide) (by omega)
  apply BitVec.eq_of_toNat_eq
  rw [and_msk h1 h2, BitVec.toNat_sub, hm, BitVec.toNat_not]
  obtain ⟨q, hq⟩ : ∃ q, 2 ^ 64 = 2 ^ W.toNat * q := ⟨2 ^ (64 - W.toNat), by rw [← Nat.pow_add]; congr 1; omega⟩
  generalize 2 ^ W.toNat = m at *
  rw [show 2 ^ 64 - V.toNat + (m - 1) = (m - 1 - V.toNat) + 2 ^ 64 from by omega, Nat.add_mod_right, Nat.mod_eq_of_lt (by omega)]
  have hq1 : 1 ≤ q := by
    cases q with
    | zero => rw [Nat.mul_zero] at hq; omega
    | succ n => omega
  obtain ⟨t, rfl⟩ : ∃ t, q = t + 1 := ⟨q - 1, by omega⟩
  rw [Nat.mul_add, Nat.mul_one] at hq
  rw [show 2 ^ 64 - 1 - V.toNat = (m - 1 - V.toNat) + m * t from by omega, Nat.add_mul_mod_self_left, Nat.mod_eq_of_lt (by omega)]

set_option maxHeartbeats 1000000 in
theorem refun_bad (op : Int) (W : Int) (V : BitVec 64) (h : ok W V = false)  (w : World) : Calls Try.prog 14 #[.int .i64 op, .agg #[.int .i64 W, .int .u64 (u V)]] w fun e w' => e = rv bad ∧ Below w.heap.size w w' := by
  have he : eno (ok W V) = 1 := by rw [h]; rfl
  have HE := Lib.hid he
  clear he h
  go_enter Try.func14, Try.ntmps14
  go_wp2_with (first | (go_at_call 17; refine (ref_check _ _ _).mono ?_; rintro e w' ⟨rfl, hb⟩; have hz := hb.size; (try simp at hz); have c00 := keep_cell hb (b := w.heap.size) (o := 0) (v := .int .i64 W) (by go_simp); have c01 := keep_cell hb (b := w.heap.size) (o := 1) (v := .int .u64 (u V)) (by go_simp); have c10 := keep_cell hb (b := w.heap.size + 1) (o := 0) (v := .int .i64 0) (by go_simp); have c11 := keep_cell hb (b := w.heap.size + 1) (o := 1) (v := .int .u64 0) (by go_simp); have f10 := keep_frozen hb (b := w.heap.size + 1) (o := 0) (by first | omega | (simp; omega) | (simp; done)) (by go_simp); have f11 := keep_frozen hb (b := w.heap.size + 1) (o := 1) (by first | omega | (simp; omega) | (simp; done)) (by go_simp); rw [HE.out]))
  refine bodyPost_ret (v := .tuple #[.agg #[.int .i64 0, .int .u64 0], .int .i64 1]) (by simp [results, Try.results14, go_sem, *]) rfl ⟨rfl, ?_⟩
  repeat (first | exact Below.refl _ _ | (refine Below.setCell ?_ (by first | (simp; done) | (simp; omega) | omega) _) | (refine Below.alloc ?_ (by first | (simp; done) | (simp; omega) | omega) _) | (refine below_drewN ?_ _) | (refine Below.drew ?_) | (refine below_via (by assumption) ?_ (by first | (simp; done) | (simp; omega) | omega)))

set_option maxHeartbeats 1000000 in
theorem refun_1 (W : Int) (V : BitVec 64) (h : ok W V = true)  (w : World) : Calls Try.prog 14 #[.int .i64 1, .agg #[.int .i64 W, .int .u64 (u V)]] w fun e w' => e = rv (some' W (~~~V &&& msk W)) ∧ Below w.heap.size w w' := by
  have he : eno (ok W V) = 0 := by rw [h]; rfl
  have HE := Lib.hid he
  have HN := Lib.hid (not_eq h)
  clear he h
  go_enter Try.func14, Try.ntmps14
  go_wp2_with (first | (go_at_call 17; refine (ref_check _ _ _).mono ?_; rintro e w' ⟨rfl, hb⟩; have hz := hb.size; (try simp at hz); have c00 := keep_cell hb (b := w.heap.size) (o := 0) (v := .int .i64 W) (by go_simp); have c01 := keep_cell hb (b := w.heap.size) (o := 1) (v := .int .u64 (u V)) (by go_simp); have c10 := keep_cell hb (b := w.heap.size + 1) (o := 0) (v := .int .i64 0) (by go_simp); have c11 := keep_cell hb (b := w.heap.size + 1) (o := 1) (v := .int .u64 0) (by go_simp); have f10 := keep_frozen hb (b := w.heap.size + 1) (o := 0) (by first | omega | (simp; omega) | (simp; done)) (by go_simp); have f11 := keep_frozen hb (b := w.heap.size + 1) (o := 1) (by first | omega | (simp; omega) | (simp; done)) (by go_simp); rw [HE.out]) | (go_at_call 19; refine (ref_mask _ _).mono ?_; rintro e w' ⟨rfl, rfl⟩))
  refine bodyPost_ret (v := .tuple #[.agg #[.int .i64 W, .int .u64 (u (msk W - V))], .int .i64 0]) (by simp [results, Try.results14, go_sem, *]) rfl ⟨by rw [HN.out]; rfl, ?_⟩
  repeat (first | exact Below.refl _ _ | (refine Below.setCell ?_ (by first | (simp; done) | (simp; omega) | omega) _) | (refine Below.alloc ?_ (by first | (simp; done) | (simp; omega) | omega) _) | (refine below_drewN ?_ _) | (refine Below.drew ?_) | (refine below_via (by assumption) ?_ (by first | (simp; done) | (simp; omega) | omega)))

set_option maxHeartbeats 1000000 in
theorem refun_2 (W : Int) (V : BitVec 64) (h : ok W V = true)  (w : World) : Calls Try.prog 14 #[.int .i64 2, .agg #[.int .i64 W, .int .u64 (u V)]] w fun e w' => e = rv (some' W (-V &&& msk W)) ∧ Below w.heap.size w w' := by
  have he : eno (ok W V) = 0 := by rw [h]; rfl
  have HE := Lib.hid he
  clear he h
  go_enter Try.func14, Try.ntmps14
  go_wp2_with (first | (go_at_call 17; refine (ref_check _ _ _).mono ?_; rintro e w' ⟨rfl, hb⟩; have hz := hb.size; (try simp at hz); have c00 := keep_cell hb (b := w.heap.size) (o := 0) (v := .int .i64 W) (by go_simp); have c01 := keep_cell hb (b := w.heap.size) (o := 1) (v := .int .u64 (u V)) (by go_simp); have c10 := keep_cell hb (b := w.heap.size + 1) (o := 0) (v := .int .i64 0) (by go_simp); have c11 := keep_cell hb (b := w.heap.size + 1) (o := 1) (v := .int .u64 0) (by go_simp); have f10 := keep_frozen hb (b := w.heap.size + 1) (o := 0) (by first | omega | (simp; omega) | (simp; done)) (by go_simp); have f11 := keep_frozen hb (b := w.heap.size + 1) (o := 1) (by first | omega | (simp; omega) | (simp; done)) (by go_simp); rw [HE.out]) | (go_at_call 19; refine (ref_mask _ _).mono ?_; rintro e w' ⟨rfl, rfl⟩))
  refine bodyPost_ret (v := .tuple #[.agg #[.int .i64 W, .int .u64 (u (-V &&& msk W))], .int .i64 0]) (by simp [results, Try.results14, go_sem, *]) rfl ⟨rfl, ?_⟩
  repeat (first | exact Below.refl _ _ | (refine Below.setCell ?_ (by first | (simp; done) | (simp; omega) | omega) _) | (refine Below.alloc ?_ (by first | (simp; done) | (simp; omega) | omega) _) | (refine below_drewN ?_ _) | (refine Below.drew ?_) | (refine below_via (by assumption) ?_ (by first | (simp; done) | (simp; omega) | omega)))

set_option maxHeartbeats 1000000 in
theorem refun_3 (W : Int) (V : BitVec 64) (h : ok W V = true)  (w : World) : Calls Try.prog 14 #[.int .i64 3, .agg #[.int .i64 W, .int .u64 (u V)]] w fun e w' => e = rv (one (V == msk W)) ∧ Below w.heap.size w w' := by
  have he : eno (ok W V) = 0 := by rw [h]; rfl
  have HE := Lib.hid he
  clear he h
  go_enter Try.func14, Try.ntmps14
  go_wp2_with (first | (go_at_call 17; refine (ref_check _ _ _).mono ?_; rintro e w' ⟨rfl, hb⟩; have hz := hb.size; (try simp at hz); have c00 := keep_cell hb (b := w.heap.size) (o := 0) (v := .int .i64 W) (by go_simp); have c01 := keep_cell hb (b := w.heap.size) (o := 1) (v := .int .u64 (u V)) (by go_simp); have c10 := keep_cell hb (b := w.heap.size + 1) (o := 0) (v := .int .i64 0) (by go_simp); have c11 := keep_cell hb (b := w.heap.size + 1) (o := 1) (v := .int .u64 0) (by go_simp); have f10 := keep_frozen hb (b := w.heap.size + 1) (o := 0) (by first | omega | (simp; omega) | (simp; done)) (by go_simp); have f11 := keep_frozen hb (b := w.heap.size + 1) (o := 1) (by first | omega | (simp; omega) | (simp; done)) (by go_simp); rw [HE.out]) | (go_at_call 19; refine (ref_mask _ _).mono ?_; rintro e w' ⟨rfl, rfl⟩) | (go_at_call 36; refine (ref_bit _ _).mono ?_; rintro e w' ⟨rfl, hb⟩; have hz := hb.size; (try simp at hz); have c00 := keep_cell hb (b := w.heap.size) (o := 0) (v := .int .i64 W) (by go_simp); have c01 := keep_cell hb (b := w.heap.size) (o := 1) (v := .int .u64 (u V)) (by go_simp); have c10 := keep_cell hb (b := w.heap.size + 1) (o := 0) (v := .int .i64 0) (by go_simp); have c11 := keep_cell hb (b := w.heap.size + 1) (o := 1) (v := .int .u64 0) (by go_simp); have f10 := keep_frozen hb (b := w.heap.size + 1) (o := 0) (by first | omega | (simp; omega) | (simp; done)) (by go_simp); have f11 := keep_frozen hb (b := w.heap.size + 1) (o := 1) (by first | omega | (simp; omega) | (simp; done)) (by go_simp)))
  refine bodyPost_ret (v := .tuple #[.agg #[.int .i64 1, .int .u64 (u (b2u (V == msk W)))], .int .i64 0]) (by simp [results, Try.results14, go_sem, *]) rfl ⟨rfl, ?_⟩
  repeat (first | exact Below.refl _ _ | (refine Below.setCell ?_ (by first | (simp; done) | (simp; omega) | omega) _) | (refine Below.alloc ?_ (by first | (simp; done) | (simp; omega) | omega) _) | (refine below_drewN ?_ _) | (refine Below.drew ?_) | (refine below_via (by assumption) ?_ (by first | (simp; done) | (simp; omega) | omega)))

set_option maxHeartbeats 1000000 in
theorem refun_4 (W : Int) (V : BitVec 64) (h : ok W V = true)  (w : World) : Calls Try.prog 14 #[.int .i64 4, .agg #[.int .i64 W, .int .u64 (u V)]] w fun e w' => e = rv (one (!(V == 0#64))) ∧ Below w.heap.size w w' := by
  have he : eno (ok W V) = 0 := by rw [h]; rfl
  have HE := Lib.hid he
  clear he h
  go_enter Try.func14, Try.ntmps14
  go_wp2_with (first | (go_at_call 17; refine (ref_check _ _ _).mono ?_; rintro e w' ⟨rfl, hb⟩; have hz := hb.size; (try simp at hz); have c00 := keep_cell hb (b := w.heap.size) (o := 0) (v := .int .i64 W) (by go_simp); have c01 := keep_cell hb (b := w.heap.size) (o := 1) (v := .int .u64 (u V)) (by go_simp); have c10 := keep_cell hb (b := w.heap.size + 1) (o := 0) (v := .int .i64 0) (by go_simp); have c11 := keep_cell hb (b := w.heap.size + 1) (o := 1) (v := .int .u64 0) (by go_simp); have f10 := keep_frozen hb (b := w.heap.size + 1) (o := 0) (by first | omega | (simp; omega) | (simp; done)) (by go_simp); have f11 := keep_frozen hb (b := w.heap.size + 1) (o := 1) (by first | omega | (simp; omega) | (simp; done)) (by go_simp); rw [HE.out]) | (go_at_call 19; refine (ref_mask _ _).mono ?_; rintro e w' ⟨rfl, rfl⟩) | (go_at_call 36; refine (ref_bit _ _).mono ?_; rintro e w' ⟨rfl, hb⟩; have hz := hb.size; (try simp at hz); have c00 := keep_cell hb (b := w.heap.size) (o := 0) (v := .int .i64 W) (by go_simp); have c01 := keep_cell hb (b := w.heap.size) (o := 1) (v := .int .u64 (u V)) (by go_simp); have c10 := keep_cell hb (b := w.heap.size + 1) (o := 0) (v := .int .i64 0) (by go_simp); have c11 := keep_cell hb (b := w.heap.size + 1) (o := 1) (v := .int .u64 0) (by go_simp); have f10 := keep_frozen hb (b := w.heap.size + 1) (o := 0) (by first | omega | (simp; omega) | (simp; done)) (by go_simp); have f11 := keep_frozen hb (b := w.heap.size + 1) (o := 1) (by first | omega | (simp; omega) | (simp; done)) (by go_simp)))
  refine bodyPost_ret (v := .tuple #[.agg #[.int .i64 1, .int .u64 (u (b2u (!(V == 0#64))))], .int .i64 0]) (by simp [results, Try.results14, go_sem, *]) rfl ⟨rfl, ?_⟩
  repeat (first | exact Below.refl _ _ | (refine Below.setCell ?_ (by first | (simp; done) | (simp; omega) | omega) _) | (refine Below.alloc ?_ (by first | (simp; done) | (simp; omega) | omega) _) | (refine below_drewN ?_ _) | (refine Below.drew ?_) | (refine below_via (by assumption) ?_ (by first | (simp; done) | (simp; omega) | omega)))

set_option maxHeartbeats 1000000 in
theorem refun_5 (W : Int) (V : BitVec 64) (h : ok W V = true)  (w : World) : Calls Try.prog 14 #[.int .i64 5, .agg #[.int .i64 W, .int .u64 (u V)]] w fun e w' => e = rv (one (odds 64 V)) ∧ Below w.heap.size w w' := by
  have he : eno (ok W V) = 0 := by rw [h]; rfl
  have HE := Lib.hid he
  clear he h
  go_enter Try.func14, Try.ntmps14
  go_wp2_with (first | (go_at_call 17; refine (ref_check _ _ _).mono ?_; rintro e w' ⟨rfl, hb⟩; have hz := hb.size; (try simp at hz); have c00 := keep_cell hb (b := w.heap.size) (o := 0) (v := .int .i64 W) (by go_simp); have c01 := keep_cell hb (b := w.heap.size) (o := 1) (v := .int .u64 (u V)) (by go_simp); have c10 := keep_cell hb (b := w.heap.size + 1) (o := 0) (v := .int .i64 0) (by go_simp); have c11 := keep_cell hb (b := w.heap.size + 1) (o := 1) (v := .int .u64 0) (by go_simp); have f10 := keep_frozen hb (b := w.heap.size + 1) (o := 0) (by first | omega | (simp; omega) | (simp; done)) (by go_simp); have f11 := keep_frozen hb (b := w.heap.size + 1) (o := 1) (by first | omega | (simp; omega) | (simp; done)) (by go_simp); rw [HE.out]) | (go_at_call 19; refine (ref_mask _ _).mono ?_; rintro e w' ⟨rfl, rfl⟩) | (go_at_call 36; refine (ref_bit _ _).mono ?_; rintro e w' ⟨rfl, hb⟩; have hz := hb.size; (try simp at hz); have c00 := keep_cell hb (b := w.heap.size) (o := 0) (v := .int .i64 W) (by go_simp); have c01 := keep_cell hb (b := w.heap.size) (o := 1) (v := .int .u64 (u V)) (by go_simp); have c10 := keep_cell hb (b := w.heap.size + 1) (o := 0) (v := .int .i64 0) (by go_simp); have c11 := keep_cell hb (b := w.heap.size + 1) (o := 1) (v := .int .u64 0) (by go_simp); have f10 := keep_frozen hb (b := w.heap.size + 1) (o := 0) (by first | omega | (simp; omega) | (simp; done)) (by go_simp); have f11 := keep_frozen hb (b := w.heap.size + 1) (o := 1) (by first | omega | (simp; omega) | (simp; done)) (by go_simp)) | (go_at_call 37; refine (ref_odd _ _).mono ?_; rintro e w' ⟨rfl, rfl⟩))
  refine bodyPost_ret (v := .tuple #[.agg #[.int .i64 1, .int .u64 (u (b2u (odds 64 V)))], .int .i64 0]) (by simp [results, Try.results14, go_sem, *]) rfl ⟨by simp only [rv, one], ?_⟩
  repeat (first | exact Below.refl _ _ | (refine Below.setCell ?_ (by first | (simp; done) | (simp; omega) | omega) _) | (refine Below.alloc ?_ (by first | (simp; done) | (simp; omega) | omega) _) | (refine below_drewN ?_ _) | (refine Below.drew ?_) | (refine below_via (by assumption) ?_ (by first | (simp; done) | (simp; omega) | omega)))

set_option maxHeartbeats 1000000 in
theorem refun_6 (W : Int) (V : BitVec 64) (h : ok W V = true) (hW1 : W = 1) (w : World) : Calls Try.prog 14 #[.int .i64 6, .agg #[.int .i64 W, .int .u64 (u V)]] w fun e w' => e = rv (one (V == 0#64)) ∧ Below w.heap.size w w' := by
  have he : eno (ok W V) = 0 := by rw [h]; rfl
  have HE := Lib.hid he
  have hw : (W == 1) = true := by simpa using hW1
  clear hW1
  clear he h
  go_enter Try.func14, Try.ntmps14
  go_wp2_with (first | (go_at_call 17; refine (ref_check _ _ _).mono ?_; rintro e w' ⟨rfl, hb⟩; have hz := hb.size; (try simp at hz); have c00 := keep_cell hb (b := w.heap.size) (o := 0) (v := .int .i64 W) (by go_simp); have c01 := keep_cell hb (b := w.heap.size) (o := 1) (v := .int .u64 (u V)) (by go_simp); have c10 := keep_cell hb (b := w.heap.size + 1) (o := 0) (v := .int .i64 0) (by go_simp); have c11 := keep_cell hb (b := w.heap.size + 1) (o := 1) (v := .int .u64 0) (by go_simp); have f10 := keep_frozen hb (b := w.heap.size + 1) (o := 0) (by first | omega | (simp; omega) | (simp; done)) (by go_simp); have f11 := keep_frozen hb (b := w.heap.size + 1) (o := 1) (by first | omega | (simp; omega) | (simp; done)) (by go_simp); rw [HE.out]) | (go_at_call 19; refine (ref_mask _ _).mono ?_; rintro e w' ⟨rfl, rfl⟩) | (go_at_call 36; refine (ref_bit _ _).mono ?_; rintro e w' ⟨rfl, hb⟩; have hz := hb.size; (try simp at hz); have c00 := keep_cell hb (b := w.heap.size) (o := 0) (v := .int .i64 W) (by go_simp); have c01 := keep_cell hb (b := w.heap.size) (o := 1) (v := .int .u64 (u V)) (by go_simp); have c10 := keep_cell hb (b := w.heap.size + 1) (o := 0) (v := .int .i64 0) (by go_simp); have c11 := keep_cell hb (b := w.heap.size + 1) (o := 1) (v := .int .u64 0) (by go_simp); have f10 := keep_frozen hb (b := w.heap.size + 1) (o := 0) (by first | omega | (simp; omega) | (simp; done)) (by go_simp); have f11 := keep_frozen hb (b := w.heap.size + 1) (o := 1) (by first | omega | (simp; omega) | (simp; done)) (by go_simp)))
  refine bodyPost_ret (v := .tuple #[.agg #[.int .i64 1, .int .u64 (u (b2u (V == 0#64)))], .int .i64 0]) (by simp [results, Try.results14, go_sem, *]) rfl ⟨rfl, ?_⟩
  repeat (first | exact Below.refl _ _ | (refine Below.setCell ?_ (by first | (simp; done) | (simp; omega) | omega) _) | (refine Below.alloc ?_ (by first | (simp; done) | (simp; omega) | omega) _) | (refine below_drewN ?_ _) | (refine Below.drew ?_) | (refine below_via (by assumption) ?_ (by first | (simp; done) | (simp; omega) | omega)))

set_option maxHeartbeats 1000000 in
theorem refun_6bad (W : Int) (V : BitVec 64) (h : ok W V = true) (hW1 : ¬ W = 1) (w : World) : Calls Try.prog 14 #[.int .i64 6, .agg #[.int .i64 W, .int .u64 (u V)]] w fun e w' => e = rv bad ∧ Below w.heap.size w w' := by
  have he : eno (ok W V) = 0 := by rw [h]; rfl
  have HE := Lib.hid he
  have hw : (W == 1) = false := by simpa using hW1
  clear hW1
  clear he h
  go_enter Try.func14, Try.ntmps14
  go_wp2_with (first | (go_at_call 17; refine (ref_check _ _ _).mono ?_; rintro e w' ⟨rfl, hb⟩; have hz := hb.size; (try simp at hz); have c00 := keep_cell hb (b := w.heap.size) (o := 0) (v := .int .i64 W) (by go_simp); have c01 := keep_cell hb (b := w.heap.size) (o := 1) (v := .int .u64 (u V)) (by go_simp); have c10 := keep_cell hb (b := w.heap.size + 1) (o := 0) (v := .int .i64 0) (by go_simp); have c11 := keep_cell hb (b := w.heap.size + 1) (o := 1) (v := .int .u64 0) (by go_simp); have f10 := keep_frozen hb (b := w.heap.size + 1) (o := 0) (by first | omega | (simp; omega) | (simp; done)) (by go_simp); have f11 := keep_frozen hb (b := w.heap.size + 1) (o := 1) (by first | omega | (simp; omega) | (simp; done)) (by go_simp); rw [HE.out]) | (go_at_call 19; refine (ref_mask _ _).mono ?_; rintro e w' ⟨rfl, rfl⟩))
  refine bodyPost_ret (v := .tuple #[.agg #[.int .i64 0, .int .u64 0], .int .i64 1]) (by simp [results, Try.results14, go_sem, *]) rfl ⟨rfl, ?_⟩
  repeat (first | exact Below.refl _ _ | (refine Below.setCell ?_ (by first | (simp; done) | (simp; omega) | omega) _) | (refine Below.alloc ?_ (by first | (simp; done) | (simp; omega) | omega) _) | (refine below_drewN ?_ _) | (refine Below.drew ?_) | (refine below_via (by assumption) ?_ (by first | (simp; done) | (simp; omega) | omega)))

set_option maxHeartbeats 1000000 in
theorem refun_no (op : Int) (W : Int) (V : BitVec 64) (h : ok W V = true) (n1 : ¬ op = 1) (n2 : ¬ op = 2) (n3 : ¬ op = 3) (n4 : ¬ op = 4) (n5 : ¬ op = 5) (n6 : ¬ op = 6) (w : World) : Calls Try.prog 14 #[.int .i64 op, .agg #[.int .i64 W, .int .u64 (u V)]] w fun e w' => e = rv bad ∧ Below w.heap.size w w' := by
  have he : eno (ok W V) = 0 := by rw [h]; rfl
  have HE := Lib.hid he
  have e1 : (op == 1) = false := by simpa using n1
  have e2 : (op == 2) = false := by simpa using n2
  have e3 : (op == 3) = false := by simpa using n3
  have e4 : (op == 4) = false := by simpa using n4
  have e5 : (op == 5) = false := by simpa using n5
  have e6 : (op == 6) = false := by simpa using n6
  clear he h
  go_enter Try.func14, Try.ntmps14
  go_wp2_with (first | (go_at_call 17; refine (ref_check _ _ _).mono ?_; rintro e w' ⟨rfl, hb⟩; have hz := hb.size; (try simp at hz); have c00 := keep_cell hb (b := w.heap.size) (o := 0) (v := .int .i64 W) (by go_simp); have c01 := keep_cell hb (b := w.heap.size) (o := 1) (v := .int .u64 (u V)) (by go_simp); have c10 := keep_cell hb (b := w.heap.size + 1) (o := 0) (v := .int .i64 0) (by go_simp); have c11 := keep_cell hb (b := w.heap.size + 1) (o := 1) (v := .int .u64 0) (by go_simp); have f10 := keep_frozen hb (b := w.heap.size + 1) (o := 0) (by first | omega | (simp; omega) | (simp; done)) (by go_simp); have f11 := keep_frozen hb (b := w.heap.size + 1) (o := 1) (by first | omega | (simp; omega) | (simp; done)) (by go_simp); rw [HE.out]) | (go_at_call 19; refine (ref_mask _ _).mono ?_; rintro e w' ⟨rfl, rfl⟩))
  refine bodyPost_ret (v := .tuple #[.agg #[.int .i64 0, .int .u64 0], .int .i64 1]) (by simp [results, Try.results14, go_sem, *]) rfl ⟨rfl, ?_⟩
  repeat (first | exact Below.refl _ _ | (refine Below.setCell ?_ (by first | (simp; done) | (simp; omega) | omega) _) | (refine Below.alloc ?_ (by first | (simp; done) | (simp; omega) | omega) _) | (refine below_drewN ?_ _) | (refine Below.drew ?_) | (refine below_via (by assumption) ?_ (by first | (simp; done) | (simp; omega) | omega)))

theorem refun_any (op W : Int) (V : BitVec 64) (w : World) : Calls Try.prog 14 #[.int .i64 op, .agg #[.int .i64 W, .int .u64 (u V)]] w fun e w' => e = rv (sUn op W V) ∧ Below w.heap.size w w' := by
  by_cases h : ok W V = true
  · by_cases e1 : op = 1
    · subst e1; exact told (by simp [sUn, h]) (refun_1 W V h w)
    by_cases e2 : op = 2
    · subst e2; exact told (by simp [sUn, h]) (refun_2 W V h w)
    by_cases e3 : op = 3
    · subst e3; exact told (by simp [sUn, h]) (refun_3 W V h w)
    by_cases e4 : op = 4
    · subst e4; exact told (by simp [sUn, h]) (refun_4 W V h w)
    by_cases e5 : op = 5
    · subst e5; exact told (by simp only [sUn, h]; rfl) (refun_5 W V h w)
    by_cases e6 : op = 6
    · subst e6
      by_cases e7 : W = 1
      · exact told (by subst e7; simp [sUn, h]) (refun_6 W V h e7 w)
      · exact told (by simp [sUn, h, e7]) (refun_6bad W V h e7 w)
    · exact told (by simp [sUn, h, e1, e2, e3, e4, e5, e6]) (refun_no op W V h e1 e2 e3 e4 e5 e6 w)
  · have h' : ok W V = false := by simpa using h
    exact told (by simp [sUn, h']) (refun_bad op W V h' w)
end Go.Proofs.Ytonjgblnocljcaa
