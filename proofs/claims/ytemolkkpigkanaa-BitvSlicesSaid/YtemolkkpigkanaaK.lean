/-
  Contracts: Cat, and the folds that it is made of.
-/
import Derived.Test.YtemolkkpigkanaaE
namespace Go.Proofs.Ytemolkkpigkanaa
open Go Go.RowKit

theorem alloc_cell {w : World} {b o : Nat} {v : Value} (h : w.cell? ⟨b, o, none⟩ = some v) (x : Obj) : (w.alloc x).cell? ⟨b, o, none⟩ = some v := keep_cell ((Below.refl _ _).alloc (Nat.le_refl _) x) h
theorem alloc_frozen {w : World} {b o : Nat} (hb : b < w.heap.size) (h : w.frozen? ⟨b, o, none⟩ = false) (x : Obj) : (w.alloc x).frozen? ⟨b, o, none⟩ = false := keep_frozen ((Below.refl _ _).alloc (Nat.le_refl _) x) hb h
theorem ok_range {W : Int} {V : BitVec 64} (h : ok W V = true) : 1 ≤ W ∧ W ≤ 64 ∧ V ≤ msk W := by
  unfold ok at h; simp only [Bool.and_eq_true, decide_eq_true_eq] at h; exact ⟨h.1.1, h.1.2, h.2⟩
theorem allOk_at {l : List (Int × BitVec 64)} (h : allOk l = true) {k : Nat} {W : Int} {V : BitVec 64} (hv : l[k]? = some (W, V)) : ok W V = true := by
  unfold allOk at h; rw [List.all_eq_true] at h; exact h (W, V) (List.mem_of_getElem? hv)
theorem wide_take {l : List (Int × BitVec 64)} {k : Nat} {W : Int} {V : BitVec 64} (h : l[k]? = some (W, V)) : wide (l.take (k + 1)) = wide (l.take k) + W := by
  unfold wide; rw [List.take_add_one, h, List.foldl_append]; rfl
theorem behind_take {l : List (Int × BitVec 64)} {k : Nat} {W : Int} {V : BitVec 64} (h : l[k]? = some (W, V)) : behind (l.take (k + 1)) = ((behind (l.take k)).1 + W, ((behind (l.take k)).2 <<< W.toNat) ||| V) := by
  unfold behind; rw [List.take_add_one, h, List.foldl_append]; rfl
theorem wide_bound {l : List (Int × BitVec 64)} (h : allOk l = true) : ∀ k, k ≤ l.length → 0 ≤ wide (l.take k) ∧ wide (l.take k) ≤ 64 * k ∧ (behind (l.take k)).1 = wide (l.take k) := by
  intro k
  induction k with
  | zero => intro _; exact ⟨by simp [wide], by simp [wide], by simp [wide, behind]⟩
  | succ k ih =>
    intro hk
    obtain ⟨W, V, hv⟩ : ∃ W V, l[k]? = some (W, V) := ⟨l[k].1, l[k].2, by rw [List.getElem?_eq_getElem (by omega)]⟩
    obtain ⟨a, b, c⟩ := ih (by omega)
    have hw := ok_range (allOk_at h hv)
    rw [wide_take hv, behind_take hv]
    exact ⟨by omega, by omega, by simp only [c]⟩

set_option maxHeartbeats 1000000 in
theorem addWidth_any (n W : Int) (V : BitVec 64) (h0 : 0 ≤ n) (h1 : n ≤ 1000000) (h2 : 0 ≤ W) (h3 : W ≤ 64) (w : World) : Calls Try.prog 47 #[.int .i64 n, .agg #[.int .i64 W, .int .u64 (u V)]] w fun e w' => e = .returned (.int .i64 (n + W)) ∧ Below w.heap.size w w' := by
  go_enter Try.func47, Try.ntmps47
  go_wp2
  go_ret
  refine ⟨rfl, ?_⟩
  repeat (first | exact Below.refl _ _ | (refine Below.setCell ?_ (by first | (simp; done) | (simp; omega) | omega) _) | (refine Below.alloc ?_ (by first | (simp; done) | (simp; omega) | omega) _) | (refine below_drewN ?_ _) | (refine Below.drew ?_) | (refine below_via (by assumption) ?_ (by first | (simp; done) | (simp; omega) | omega)))

set_option maxHeartbeats 1000000 in
theorem putBehind_any (W : Int) (V : BitVec 64) (W2 : Int) (V2 : BitVec 64) (h0 : 0 ≤ W) (h1 : W ≤ 1000000) (h2 : 1 ≤ W2) (h3 : W2 ≤ 64) (w : World) : Calls Try.prog 49 #[.agg #[.int .i64 W, .int .u64 (u V)], .agg #[.int .i64 W2, .int .u64 (u V2)]] w fun e w' => e = .returned (.agg #[.int .i64 (W + W2), .int .u64 (u ((V <<< W2.toNat) ||| V2))]) ∧ Below w.heap.size w w' := by
  have hw : IntKind.u64.wrap W2 = W2 := by rw [IntKind.wrap_u64]; omega
  go_enter Try.func49, Try.ntmps49
  go_wp2
  refine bodyPost_ret (v := .agg #[.int .i64 (W + W2), .int .u64 (u ((V <<< W2.toNat) ||| V2))]) (by simp [results, Try.results49, go_sem, *]) rfl ⟨rfl, ?_⟩
  repeat (first | exact Below.refl _ _ | (refine Below.setCell ?_ (by first | (simp; done) | (simp; omega) | omega) _) | (refine Below.alloc ?_ (by first | (simp; done) | (simp; omega) | omega) _) | (refine below_drewN ?_ _) | (refine Below.drew ?_) | (refine below_via (by assumption) ?_ (by first | (simp; done) | (simp; omega) | omega)))

set_option maxHeartbeats 1000000 in
theorem fold_wide (w : World) (l : List (Int × BitVec 64)) (b off cap : Nat) (hl : l.length ≤ 1000) (hrow : Row w b off l) (hbl : b < w.heap.size) (hok : allOk l = true) : Calls Try.prog 46 #[.int .i64 0, .func (.func 47) #[] #[], .slice (some ⟨b, off, none⟩) l.length cap] w fun e w' => e = .returned (.int .i64 (wide l)) ∧ Below w.heap.size w w' := by
  go_enter Try.func46, Try.ntmps46
  go_wp2
  go_loopw [0, 11] (fun acc i wr => ∃ k : Nat, k ≤ l.length ∧ i = .int .i64 k ∧ acc = .int .i64 (wide (l.take k)) ∧ Below w.heap.size w wr) (fun _ i _ => l.length - (intOf i).toNat)
  case atStart => exact ⟨0, Nat.zero_le _, rfl, rfl, Below.refl _ _⟩
  case round =>
    obtain ⟨k, hk, rfl, rfl, hb0⟩ := hrel
    obtain ⟨n0, n1, _⟩ := wide_bound hok k hk
    by_cases hlt : k < l.length
    · obtain ⟨W, V, hv⟩ : ∃ W V, l[k]? = some (W, V) := ⟨l[k].1, l[k].2, by rw [List.getElem?_eq_getElem hlt]⟩
      obtain ⟨h0, h1, hw⟩ := hrow k W V hv
      have c0 : wr.cell? ⟨b, off + k * 2, none⟩ = some (.int .i64 W) := by rw [hb0.cell hbl]; exact h0
      have c1 : wr.cell? ⟨b, off + k * 2 + 1, none⟩ = some (.int .u64 (u V)) := by rw [hb0.cell hbl]; exact h1
      have HS := Lib.hid (wide_take hv)
      have hr := ok_range (allOk_at hok hv)
      have HO := Lib.hid hok
      have r1 := hr.1
      have r2 := hr.2.1
      clear h0 h1 hv hrow hok hr hw
      generalize wide (l.take k) = acc at *
      go_wp2_with (go_at_call 47; refine (addWidth_any _ _ _ ?_ ?_ ?_ ?_ _).mono ?_; (· omega); (· omega); (· omega); (· omega); rintro e w' ⟨rfl, hb⟩)
      go_roundw
      case rel => exact ⟨k + 1, by omega, by go_num, by rw [HS.out], (hb0.alloc hb0.size _).trans (hb.mono (by have := hb0.size; simp; omega))⟩
      case measure => simp [intOf]; omega
    · obtain rfl : k = l.length := by omega
      go_wp2
      go_ret
      exact ⟨ret_i (by rw [List.take_length]), hb0⟩

set_option maxHeartbeats 1000000 in
theorem fold_behind (w : World) (l : List (Int × BitVec 64)) (b off cap : Nat) (hl : l.length ≤ 1000) (hrow : Row w b off l) (hbl : b < w.heap.size) (hok : allOk l = true) : Calls Try.prog 48 #[.agg #[.int .i64 0, .int .u64 0], .func (.func 49) #[] #[], .slice (some ⟨b, off, none⟩) l.length cap] w fun e w' => e = .returned (.agg #[.int .i64 (behind l).1, .int .u64 (u (behind l).2)]) ∧ Below w.heap.size w w' := by
  go_enter Try.func48, Try.ntmps48
  go_wp2
  go_loopw [11] (fun i wr => ∃ k : Nat, k ≤ l.length ∧ i = .int .i64 k ∧ wr.cell? ⟨w.heap.size, 0, none⟩ = some (.int .i64 (behind (l.take k)).1) ∧ wr.cell? ⟨w.heap.size, 1, none⟩ = some (.int .u64 (u (behind (l.take k)).2)) ∧ wr.frozen? ⟨w.heap.size, 0, none⟩ = false ∧ wr.frozen? ⟨w.heap.size, 1, none⟩ = false ∧ wr.cell? ⟨w.heap.size + 1, 0, none⟩ = some (.int .i64 0) ∧ wr.cell? ⟨w.heap.size + 1, 1, none⟩ = some (.int .u64 0) ∧ wr.frozen? ⟨w.heap.size + 1, 0, none⟩ = false ∧ wr.frozen? ⟨w.heap.size + 1, 1, none⟩ = false ∧ w.heap.size + 2 ≤ wr.heap.size ∧ Below w.heap.size w wr) (fun i _ => l.length - (intOf i).toNat)
  case atStart => exact ⟨0, Nat.zero_le _, rfl, by go_simp; rfl, by go_simp; rfl, by go_simp, by go_simp, by go_simp, by go_simp, by go_simp, by go_simp, by simp, ((Below.refl _ _).alloc (Nat.le_refl _) _).alloc (by simp) _⟩
  case round =>
    obtain ⟨k, hk, rfl, a0, a1, f0, f1, r0, r1, g0, g1, hz0, hb0⟩ := hrel
    obtain ⟨n0, n1, n2⟩ := wide_bound hok k hk
    by_cases hlt : k < l.length
    · obtain ⟨W, V, hv⟩ : ∃ W V, l[k]? = some (W, V) := ⟨l[k].1, l[k].2, by rw [List.getElem?_eq_getElem hlt]⟩
      obtain ⟨h0, h1, hw⟩ := hrow k W V hv
      have c0 : wr.cell? ⟨b, off + k * 2, none⟩ = some (.int .i64 W) := by rw [hb0.cell hbl]; exact h0
      have c1 : wr.cell? ⟨b, off + k * 2 + 1, none⟩ = some (.int .u64 (u V)) := by rw [hb0.cell hbl]; exact h1
      have HS := Lib.hid (behind_take hv)
      have hr := ok_range (allOk_at hok hv)
      have q1 := hr.1
      have q2 := hr.2.1
      have HO := Lib.hid hok
      have m0 : 0 ≤ (behind (l.take k)).1 := by omega
      have m1 : (behind (l.take k)).1 ≤ 1000000 := by omega
      clear h0 h1 hv hrow hok hr hw n2
      generalize behind (l.take k) = acc at *
      obtain ⟨aw, av⟩ := acc
      simp only at *
      have A0 := alloc_cell a0
      have A1 := alloc_cell a1
      have A2 := alloc_cell r0
      have A3 := alloc_cell r1
      have F0 := alloc_frozen (by omega) f0
      have F1 := alloc_frozen (by omega) f1
      have F2 := alloc_frozen (by omega) g0
      have F3 := alloc_frozen (by omega) g1
      go_wp2_with (go_at_call 49; refine (putBehind_any _ _ _ _ ?_ ?_ ?_ ?_ _).mono ?_; (· omega); (· omega); (· omega); (· omega); rintro e w' ⟨rfl, hb⟩; have hz := hb.size; (try simp at hz); have d0 := keep_cell hb (b := w.heap.size) (o := 0) (v := .int .i64 aw) (by go_simp); have d1 := keep_cell hb (b := w.heap.size) (o := 1) (v := .int .u64 (u av)) (by go_simp); have d2 := keep_cell hb (b := w.heap.size + 1) (o := 0) (v := .int .i64 0) (by go_simp); have d3 := keep_cell hb (b := w.heap.size + 1) (o := 1) (v := .int .u64 0) (by go_simp); have e0 := keep_frozen hb (b := w.heap.size) (o := 0) (by simp; omega) (by go_simp); have e1 := keep_frozen hb (b := w.heap.size) (o := 1) (by simp; omega) (by go_simp); have e2 := keep_frozen hb (b := w.heap.size + 1) (o := 0) (by simp; omega) (by go_simp); have e3 := keep_frozen hb (b := w.heap.size + 1) (o := 1) (by simp; omega) (by go_simp))
      go_roundw
      case rel =>
        refine ⟨k + 1, by omega, by go_num, ?_, ?_, ?_, ?_, ?_, ?_, ?_, ?_, ?_, ?_⟩
        · rw [HS.out]; go_simp
        · rw [HS.out]; go_simp
        · go_simp
        · go_simp
        · go_simp
        · go_simp
        · go_simp
        · go_simp
        · simp; omega
        · exact (((hb0.alloc hb0.size _).trans (hb.mono (by have := hb0.size; simp; omega))).setCell (by simp) _).setCell (by simp) _
      case measure => simp [intOf]; omega
    · obtain rfl : k = l.length := by omega
      rw [List.take_length] at a0 a1
      clear n0 n1 n2 hrow
      obtain ⟨acc, hacc⟩ : ∃ acc, behind l = acc := ⟨_, rfl⟩
      rw [hacc] at a0 a1
      have HA := Lib.hid hacc
      clear hacc
      go_wp2
      refine bodyPost_ret (v := .agg #[.int .i64 acc.1, .int .u64 (u acc.2)]) (by simp [results, Try.results48, go_sem, *]) rfl ⟨by rw [HA.out], ?_⟩
      exact (hb0.setCell (by simp) _).setCell (by simp) _

theorem row_below {w w1 : World} {b off : Nat} {l : List (Int × BitVec 64)} (h : Row w b off l) (hb : Below w.heap.size w w1) (hbl : b < w.heap.size) : Row w1 b off l := by
  intro k W V hv
  obtain ⟨h0, h1, hw⟩ := h k W V hv
  exact ⟨by rw [hb.cell hbl]; exact h0, by rw [hb.cell hbl]; exact h1, hw⟩
theorem row_alloc {w : World} {b off : Nat} {l : List (Int × BitVec 64)} (h : Row w b off l) (hbl : b < w.heap.size) (x : Obj) : Row (w.alloc x) b off l := row_below h ((Below.refl _ _).alloc (Nat.le_refl _) x) hbl

set_option maxHeartbeats 1000000 in
theorem cat_none (a : Option Addr) (cap : Nat) (w : World) : Calls Try.prog 22 #[.slice a 0 cap] w fun e w' => e = rv bad ∧ Below w.heap.size w w' := by
  go_enter Try.func22, Try.ntmps22
  go_wp2_with (first | (go_at_call 32; refine (bitv_wrong _).mono ?_; rintro e w' ⟨rfl, hb⟩; have hz := hb.size; (try simp at hz); have c00 := keep_cell hb (b := w.heap.size) (o := 0) (v := .int .i64 0) (by go_simp); have c01 := keep_cell hb (b := w.heap.size) (o := 1) (v := .int .u64 0) (by go_simp); have f00 := keep_frozen hb (b := w.heap.size) (o := 0) (by first | omega | (simp; omega) | (simp; done)) (by go_simp); have f01 := keep_frozen hb (b := w.heap.size) (o := 1) (by first | omega | (simp; omega) | (simp; done)) (by go_simp)))
  refine bodyPost_ret (v := .tuple #[.agg #[.int .i64 0, .int .u64 0], .int .i64 1]) (by simp [results, Try.results22, go_sem, *]) rfl ⟨rfl, ?_⟩
  repeat (first | exact Below.refl _ _ | (refine Below.setCell ?_ (by first | (simp; done) | (simp; omega) | omega) _) | (refine Below.alloc ?_ (by first | (simp; done) | (simp; omega) | omega) _) | (refine below_drewN ?_ _) | (refine Below.drew ?_) | (refine below_via (by assumption) ?_ (by first | (simp; done) | (simp; omega) | omega)))

set_option maxHeartbeats 1000000 in
theorem cat_bad (w : World) (l : List (Int × BitVec 64)) (b off cap : Nat) (hl : l.length ≤ 1000) (hne : 0 < l.length) (hrow : Row w b off l) (hbl : b < w.heap.size) (h : allOk l = false) : Calls Try.prog 22 #[.slice (some ⟨b, off, none⟩) l.length cap] w fun e w' => e = rv bad ∧ Below w.heap.size w w' := by
  have R1 := row_alloc hrow hbl (.cells #[.int .i64 0, .int .u64 0] 24)
  have B1 : b < (w.alloc (.cells #[.int .i64 0, .int .u64 0] 24)).heap.size := by simp; omega
  have hd : ((l.length : Int) == 0) = false := by simp; intro h; simp [h] at hne
  clear hrow
  have HE := Lib.hid h
  clear h
  go_enter Try.func22, Try.ntmps22
  go_wp2_with (first | (go_at_call 31; refine (mayBe_any l b off cap _ (by omega) R1 B1).mono ?_; rintro e w' ⟨rfl, hb⟩; have hz := hb.size; (try simp at hz); have c00 := keep_cell hb (b := w.heap.size) (o := 0) (v := .int .i64 0) (by go_simp); have c01 := keep_cell hb (b := w.heap.size) (o := 1) (v := .int .u64 0) (by go_simp); have f00 := keep_frozen hb (b := w.heap.size) (o := 0) (by first | omega | (simp; omega) | (simp; done)) (by go_simp); have f01 := keep_frozen hb (b := w.heap.size) (o := 1) (by first | omega | (simp; omega) | (simp; done)) (by go_simp); rw [HE.out]; have R2 := row_below R1 hb B1; have B2 := Nat.lt_of_lt_of_le B1 hb.size) | (go_at_call 32; refine (bitv_wrong _).mono ?_; rintro e w' ⟨rfl, hb⟩; have hz := hb.size; (try simp at hz); have c00 := keep_cell hb (b := w.heap.size) (o := 0) (v := .int .i64 0) (by go_simp); have c01 := keep_cell hb (b := w.heap.size) (o := 1) (v := .int .u64 0) (by go_simp); have f00 := keep_frozen hb (b := w.heap.size) (o := 0) (by first | omega | (simp; omega) | (simp; done)) (by go_simp); have f01 := keep_frozen hb (b := w.heap.size) (o := 1) (by first | omega | (simp; omega) | (simp; done)) (by go_simp)))
  refine bodyPost_ret (v := .tuple #[.agg #[.int .i64 0, .int .u64 0], .int .i64 1]) (by simp [results, Try.results22, go_sem, *]) rfl ⟨rfl, ?_⟩
  repeat (first | exact Below.refl _ _ | (refine Below.setCell ?_ (by first | (simp; done) | (simp; omega) | omega) _) | (refine Below.alloc ?_ (by first | (simp; done) | (simp; omega) | omega) _) | (refine below_drewN ?_ _) | (refine Below.drew ?_) | (refine below_via (by assumption) ?_ (by first | (simp; done) | (simp; omega) | omega)))

set_option maxHeartbeats 1000000 in
theorem cat_wide (w : World) (l : List (Int × BitVec 64)) (b off cap : Nat) (hl : l.length ≤ 1000) (hne : 0 < l.length) (hrow : Row w b off l) (hbl : b < w.heap.size) (h : allOk l = true) (h2 : 64 < wide l) : Calls Try.prog 22 #[.slice (some ⟨b, off, none⟩) l.length cap] w fun e w' => e = rv tooWide ∧ Below w.heap.size w w' := by
  have R1 := row_alloc hrow hbl (.cells #[.int .i64 0, .int .u64 0] 24)
  have B1 : b < (w.alloc (.cells #[.int .i64 0, .int .u64 0] 24)).heap.size := by simp; omega
  have hd : ((l.length : Int) == 0) = false := by simp; intro h; simp [h] at hne
  clear hrow
  have HE := Lib.hid h
  have HOK := Lib.hid h
  clear h
  go_enter Try.func22, Try.ntmps22
  go_wp2_with (first | (go_at_call 31; refine (mayBe_any l b off cap _ (by omega) R1 B1).mono ?_; rintro e w' ⟨rfl, hb⟩; have hz := hb.size; (try simp at hz); have c00 := keep_cell hb (b := w.heap.size) (o := 0) (v := .int .i64 0) (by go_simp); have c01 := keep_cell hb (b := w.heap.size) (o := 1) (v := .int .u64 0) (by go_simp); have f00 := keep_frozen hb (b := w.heap.size) (o := 0) (by first | omega | (simp; omega) | (simp; done)) (by go_simp); have f01 := keep_frozen hb (b := w.heap.size) (o := 1) (by first | omega | (simp; omega) | (simp; done)) (by go_simp); rw [HE.out]; have R2 := row_below R1 hb B1; have B2 := Nat.lt_of_lt_of_le B1 hb.size) | (go_at_call 46; refine (fold_wide _ l b off cap hl R2 B2 HOK.out).mono ?_; rintro e w' ⟨rfl, hb⟩; have hz := hb.size; (try simp at hz); have c00 := keep_cell hb (b := w.heap.size) (o := 0) (v := .int .i64 0) (by go_simp); have c01 := keep_cell hb (b := w.heap.size) (o := 1) (v := .int .u64 0) (by go_simp); have f00 := keep_frozen hb (b := w.heap.size) (o := 0) (by first | omega | (simp; omega) | (simp; done)) (by go_simp); have f01 := keep_frozen hb (b := w.heap.size) (o := 1) (by first | omega | (simp; omega) | (simp; done)) (by go_simp); have R3 := row_below R2 hb B2; have B3 := Nat.lt_of_lt_of_le B2 hb.size))
  refine bodyPost_ret (v := .tuple #[.agg #[.int .i64 0, .int .u64 0], .int .i64 2]) (by simp [results, Try.results22, go_sem, *]) rfl ⟨rfl, ?_⟩
  repeat (first | exact Below.refl _ _ | (refine Below.setCell ?_ (by first | (simp; done) | (simp; omega) | omega) _) | (refine Below.alloc ?_ (by first | (simp; done) | (simp; omega) | omega) _) | (refine below_drewN ?_ _) | (refine Below.drew ?_) | (refine below_via (by assumption) ?_ (by first | (simp; done) | (simp; omega) | omega)))

set_option maxHeartbeats 1000000 in
theorem cat_in (w : World) (l : List (Int × BitVec 64)) (b off cap : Nat) (hl : l.length ≤ 1000) (hne : 0 < l.length) (hrow : Row w b off l) (hbl : b < w.heap.size) (h : allOk l = true) (h2 : ¬ 64 < wide l) : Calls Try.prog 22 #[.slice (some ⟨b, off, none⟩) l.length cap] w fun e w' => e = rv (some' (behind l).1 (behind l).2) ∧ Below w.heap.size w w' := by
  have R1 := row_alloc hrow hbl (.cells #[.int .i64 0, .int .u64 0] 24)
  have B1 : b < (w.alloc (.cells #[.int .i64 0, .int .u64 0] 24)).heap.size := by simp; omega
  have hd : ((l.length : Int) == 0) = false := by simp; intro h; simp [h] at hne
  clear hrow
  have HE := Lib.hid h
  have HOK := Lib.hid h
  clear h
  go_enter Try.func22, Try.ntmps22
  go_wp2_with (first | (go_at_call 31; refine (mayBe_any l b off cap _ (by omega) R1 B1).mono ?_; rintro e w' ⟨rfl, hb⟩; have hz := hb.size; (try simp at hz); have c00 := keep_cell hb (b := w.heap.size) (o := 0) (v := .int .i64 0) (by go_simp); have c01 := keep_cell hb (b := w.heap.size) (o := 1) (v := .int .u64 0) (by go_simp); have f00 := keep_frozen hb (b := w.heap.size) (o := 0) (by first | omega | (simp; omega) | (simp; done)) (by go_simp); have f01 := keep_frozen hb (b := w.heap.size) (o := 1) (by first | omega | (simp; omega) | (simp; done)) (by go_simp); rw [HE.out]; have R2 := row_below R1 hb B1; have B2 := Nat.lt_of_lt_of_le B1 hb.size) | (go_at_call 46; refine (fold_wide _ l b off cap hl R2 B2 HOK.out).mono ?_; rintro e w' ⟨rfl, hb⟩; have hz := hb.size; (try simp at hz); have c00 := keep_cell hb (b := w.heap.size) (o := 0) (v := .int .i64 0) (by go_simp); have c01 := keep_cell hb (b := w.heap.size) (o := 1) (v := .int .u64 0) (by go_simp); have f00 := keep_frozen hb (b := w.heap.size) (o := 0) (by first | omega | (simp; omega) | (simp; done)) (by go_simp); have f01 := keep_frozen hb (b := w.heap.size) (o := 1) (by first | omega | (simp; omega) | (simp; done)) (by go_simp); have R3 := row_below R2 hb B2; have B3 := Nat.lt_of_lt_of_le B2 hb.size) | (go_at_call 48; refine (fold_behind _ l b off cap hl R3 B3 HOK.out).mono ?_; rintro e w' ⟨rfl, hb⟩; have hz := hb.size; (try simp at hz); have c00 := keep_cell hb (b := w.heap.size) (o := 0) (v := .int .i64 0) (by go_simp); have c01 := keep_cell hb (b := w.heap.size) (o := 1) (v := .int .u64 0) (by go_simp); have f00 := keep_frozen hb (b := w.heap.size) (o := 0) (by first | omega | (simp; omega) | (simp; done)) (by go_simp); have f01 := keep_frozen hb (b := w.heap.size) (o := 1) (by first | omega | (simp; omega) | (simp; done)) (by go_simp)))
  refine bodyPost_ret (v := .tuple #[.agg #[.int .i64 (behind l).1, .int .u64 (u (behind l).2)], .int .i64 0]) (by simp [results, Try.results22, go_sem, *]) rfl ⟨rfl, ?_⟩
  repeat (first | exact Below.refl _ _ | (refine Below.setCell ?_ (by first | (simp; done) | (simp; omega) | omega) _) | (refine Below.alloc ?_ (by first | (simp; done) | (simp; omega) | omega) _) | (refine below_drewN ?_ _) | (refine Below.drew ?_) | (refine below_via (by assumption) ?_ (by first | (simp; done) | (simp; omega) | omega)))
end Go.Proofs.Ytemolkkpigkanaa
