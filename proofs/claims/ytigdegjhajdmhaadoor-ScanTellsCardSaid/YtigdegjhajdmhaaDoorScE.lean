/-
  Contracts: numbers out of digits; whether all bytes are digits.
-/
import Derived.Test.YtigdegjhajdmhaaDoorScD
import Derived.Lib.QuietBelow
namespace Go.Proofs.YtigdegjhajdmhaaDoor
open Go Go.RowKit
set_option linter.unusedVariables false
open Go.Sort

theorem regrown_same {P : Program} {f : FuncId} {args : Array Value} {w : World} {d : Nat} {os : Array Obj} {v : Value}
    (h : Calls P f args (grow (redrawn w d) os) fun e w' => e = .returned v ∧ grow (redrawn w d) os = w') : Calls P f args (grow (redrawn w d) os) fun e w'' => e = .returned v ∧ ∃ p : Regrown, w'' = grow (redrawn w p.d) p.os :=
  h.mono fun _ _ ⟨he, hw⟩ => ⟨he, ⟨⟨d, os⟩, hw.symm⟩⟩
theorem lt_cell {w : World} {b o : Nat} {v : Value} (h : w.cell? ⟨b, o, none⟩ = some v) : b < w.heap.size := World.block_lt_of_cell? w ⟨b, o, none⟩ h
theorem keep_cell {W w1 : World} (hb : Below W.heap.size W w1) {b o : Nat} {v : Value} (h : W.cell? ⟨b, o, none⟩ = some v) : w1.cell? ⟨b, o, none⟩ = some v := by
  rw [hb.cell (p := ⟨b, o, none⟩) (lt_cell h)]; exact h
theorem alloc_cell {w : World} {b o : Nat} {v : Value} (h : w.cell? ⟨b, o, none⟩ = some v) (x : Obj) : (w.alloc x).cell? ⟨b, o, none⟩ = some v := keep_cell ((Below.refl _ _).alloc (Nat.le_refl _) x) h
theorem below_drewN {B : Nat} {a w : World} (h : Below B a w) (n : Nat) : Below B a (w.drewN n) := ⟨h.os, h.tape, h.output, h.size, h.block⟩

/-- What a digit counts, as a natural number. -/
def dg (c : UInt8) : Nat := (worthI (bi c)).toNat
theorem dg_int (c : UInt8) : worthI (c.toNat : Int) = (dg c : Int) := by
  unfold dg bi; have := (worth_range (c.toNat : Int)).1; omega
/-- The number that digits are. -/
def num (r : Nat) (l : Bytes) : Nat := l.foldl (fun v c => v * r + dg c) 0
theorem num_succ (r : Nat) (l : Bytes) (k : Nat) (hk : k < l.length) : num r (l.take (k + 1)) = num r (l.take k) * r + dg l[k] := by
  unfold num
  rw [List.take_succ_eq_append_getElem hk, List.foldl_append]
  rfl
/-- Are all bytes digits of a base? -/
def allD (r : Nat) (l : Bytes) : Bool := l.all fun c => decide (dg c < r)
theorem allD_at {r : Nat} {l : Bytes} (h : allD r l = true) {k : Nat} (hk : k < l.length) : dg l[k] < r := by
  unfold allD at h
  rw [List.all_eq_true] at h
  simpa using h l[k] (List.getElem_mem hk)
def PushOk (r sh : Nat) : Prop := ∀ (v d : Nat) (w : World), v < 18446744073709551616 → d < r → Calls Tryd.prog 56 #[.agg #[.int .u64 (r : Int), .int .u64 (sh : Int)], .int .u64 (v : Int), .int .u64 (d : Int)] w fun e w' => e = .returned (.tuple #[.int .u64 (((v * r + d) % 18446744073709551616 : Nat) : Int), .int .u64 (((v * r + d) / 18446744073709551616 : Nat) : Int)]) ∧ Below w.heap.size w w'
theorem ok16 : PushOk 16 4 := fun v d w hv hd => push16 v d hv hd w
theorem ok10 : PushOk 10 0 := fun v d w hv hd => push10 v d hv hd w
theorem ok2 : PushOk 2 1 := fun v d w hv hd => push2 v d hv hd w
theorem fits_step {V r d x c : Nat} (hr : 0 < r) (hx : x = V % 18446744073709551616) (hc : c = (x * r + d) / 18446744073709551616) : decide (V * r + d < 18446744073709551616) = (decide (V < 18446744073709551616) && ((c : Int) == 0)) := by
  by_cases h : V < 18446744073709551616
  · have e : x = V := by rw [hx, Nat.mod_eq_of_lt h]
    rw [e] at hc
    by_cases h2 : V * r + d < 18446744073709551616
    · have : c = 0 := by rw [hc]; exact Nat.div_eq_of_lt h2
      subst this; simp [h, h2]
    · have : c ≠ 0 := by rw [hc]; have := Nat.div_pos (Nat.le_of_not_lt h2) (by decide : 0 < 18446744073709551616); omega
      simp [h, h2]; omega
  · have h2 : ¬ V * r + d < 18446744073709551616 := by have := Nat.le_mul_of_pos_right V hr; omega
    simp [h, h2]
theorem mod_step {V r d x : Nat} (hx : x = V % 18446744073709551616) : (V * r + d) % 18446744073709551616 = (x * r + d) % 18446744073709551616 := by
  subst hx
  simp [Nat.add_mod, Nat.mul_mod]
theorem ret_ub {a b : Int} {p q : Bool} (h : a = b) (k : p = q) : Ending.returned (.tuple #[.int .u64 a, .bool p]) = .returned (.tuple #[.int .u64 b, .bool q]) := by rw [h, k]

set_option maxHeartbeats 2000000 in
theorem value_any (r sh : Nat) (hr : 0 < r) (hp : PushOk r sh) (l : Bytes) (hl : l.length ≤ 100000) (hall : allD r l = true) (w : World) : Calls Tryd.prog 45 #[.string (bs l), .agg #[.int .u64 (r : Int), .int .u64 (sh : Int)]] w fun e w' => e = .returned (.tuple #[.int .u64 ((num r l % 18446744073709551616 : Nat) : Int), .bool (decide (num r l < 18446744073709551616))]) ∧ Below w.heap.size w w' := by
  obtain ⟨B, hB⟩ : ∃ B : Nat, B = 18446744073709551616 := ⟨_, rfl⟩
  rw [← hB]
  have HB := Lib.hid hB
  have hB0 : 0 < B := by omega
  clear hB
  go_enter Tryd.func45, Tryd.ntmps45
  go_wp2
  go_loopw [6, 7, 13] (fun v b i wr => ∃ k : Nat, k ≤ l.length ∧ i = .int .i64 k ∧ v = .int .u64 ((num r (l.take k) % B : Nat) : Int) ∧ b = .bool (decide (num r (l.take k) < B)) ∧ wr.cell? ⟨w.heap.size, 0, none⟩ = some (.int .u64 (r : Int)) ∧ wr.cell? ⟨w.heap.size, 1, none⟩ = some (.int .u64 (sh : Int)) ∧ w.heap.size + 1 ≤ wr.heap.size ∧ Below w.heap.size w wr) (fun _ _ i _ => l.length - (intOf i).toNat)
  case atStart => exact ⟨0, Nat.zero_le _, rfl, by simp [num], by simp [num, hB0], by go_simp, by go_simp, by simp, (Below.refl _ _).alloc (Nat.le_refl _) _⟩
  case round =>
    obtain ⟨k, hk, rfl, rfl, rfl, a0, a1, hz0, hb0⟩ := hrel
    by_cases hlt : k < l.length
    · obtain ⟨x, hx⟩ : ∃ x, x = num r (l.take k) % B := ⟨_, rfl⟩
      obtain ⟨c, hc⟩ : ∃ c, c = (x * r + dg l[k]) / B := ⟨_, rfl⟩
      obtain ⟨y, hy⟩ : ∃ y, y = (x * r + dg l[k]) % B := ⟨_, rfl⟩
      have hxB : x < B := by rw [hx]; exact Nat.mod_lt _ hB0
      have hpu : ∀ w, Calls Tryd.prog 56 #[.agg #[.int .u64 (r : Int), .int .u64 (sh : Int)], .int .u64 (x : Int), .int .u64 (dg l[k] : Int)] w fun e w' => e = .returned (.tuple #[.int .u64 (y : Int), .int .u64 (c : Int)]) ∧ Below w.heap.size w w' := by
        intro w; rw [hy, hc, HB.out]; exact hp x (dg l[k]) w (by rw [← HB.out]; exact hxB) (allD_at hall hlt)
      have hwo : ∀ w, Calls Tryd.prog 57 #[.int .u8 (l[k].toNat : Int)] w fun e w' => e = .returned (.int .u64 (dg l[k] : Int)) ∧ w = w' := by
        intro w; rw [← dg_int]; exact worth_i _ (bi_range l[k]) w
      have HS := Lib.hid (num_succ r l k hlt)
      have HF : Hid (decide (num r (l.take (k + 1)) < B) = (decide (num r (l.take k) < B) && ((c : Int) == 0))) := Lib.hid (by rw [HS.out, HB.out]; exact fits_step (x := x) hr (by rw [hx, HB.out]) (by rw [hc, HB.out]))
      have HY : Hid (num r (l.take (k + 1)) % B = y) := Lib.hid (by rw [HS.out, hy, HB.out]; exact mod_step (x := x) (by rw [hx, HB.out]))
      rw [← hx]
      clear hx hy hc hxB hall hp
      have a0R := cell_regrown a0
      have a1R := cell_regrown a1
      cases hf : decide (num r (l.take k) < B) with
      | true =>
        rw [hf] at HF
        have HF2 : Hid (decide (num r (l.take (k + 1)) < B) = ((c : Int) == 0)) := Lib.hid (by rw [HF.out]; rfl)
        clear HF hf
        go_wp2
        refine wp_region_quiet_below (by kernel_rfl) (by kernel_rfl) ?_
        repeat (go_big_quiet_step (first | (go_at_call 57; exact regrown_same (hwo _)) | (go_at_call 56; exact Calls.regrown_of (hpu _))))
        refine wpQuiet_nil ?_
        intro _ hw'
        obtain ⟨⟨dq, osq⟩, hw''⟩ := hw'
        subst hw''
        have hbq := below_regrown wr dq osq
        have b0 := a0R dq osq
        have b1 := a1R dq osq
        clear a0R a1R
        generalize grow (redrawn wr dq) osq = wq at *
        go_wp2
        go_roundw
        case rel => exact ⟨k + 1, by omega, by go_num, by rw [HY.out], by rw [HF2.out], b0, b1, Nat.le_trans hz0 hbq.size, hb0.trans (hbq.mono hb0.size)⟩
        case measure => simp [intOf]; omega
      | false =>
        rw [hf] at HF
        have HF2 : Hid (decide (num r (l.take (k + 1)) < B) = false) := Lib.hid (by rw [HF.out]; rfl)
        clear HF hf
        go_wp2
        refine wp_region_quiet_below (by kernel_rfl) (by kernel_rfl) ?_
        repeat (go_big_quiet_step (first | (go_at_call 57; exact regrown_same (hwo _)) | (go_at_call 56; exact Calls.regrown_of (hpu _))))
        refine wpQuiet_nil ?_
        intro _ hw'
        obtain ⟨⟨dq, osq⟩, hw''⟩ := hw'
        subst hw''
        have hbq := below_regrown wr dq osq
        have b0 := a0R dq osq
        have b1 := a1R dq osq
        clear a0R a1R
        generalize grow (redrawn wr dq) osq = wq at *
        go_wp2
        go_roundw
        case rel => exact ⟨k + 1, by omega, by go_num, by rw [HY.out], by rw [HF2.out], b0, b1, Nat.le_trans hz0 hbq.size, hb0.trans (hbq.mono hb0.size)⟩
        case measure => simp [intOf]; omega
    · obtain rfl : k = l.length := by omega
      rw [List.take_length]
      obtain ⟨y, hy⟩ : ∃ y, num r l % B = y := ⟨_, rfl⟩
      obtain ⟨b, hb⟩ : ∃ b, decide (num r l < B) = b := ⟨_, rfl⟩
      rw [hy, hb]
      have HY := Lib.hid hy
      have HB2 := Lib.hid hb
      clear hy hb
      go_wp2
      go_ret2
      exact ⟨ret_ub (by rw [HY.out]) (by rw [HB2.out]), hb0⟩

/-- The closure of all. -/
theorem quiet_eq {P : Program} {f : FuncId} {args : Array Value} {w : World} {n : Nat} {v : Value}
    (h : Calls P f args (w.drewN n) fun e w' => e = .returned v ∧ w.drewN n = w') : Calls P f args (w.drewN n) fun e w'' => e = .returned v ∧ ∃ m, w'' = w.drewN m :=
  h.mono fun _ _ ⟨he, hm⟩ => ⟨he, n, hm.symm⟩
set_option maxHeartbeats 1000000 in
theorem all1_any (r : Nat) (c : UInt8) (g : Nat) (w : World) (hg : w.cell? ⟨g, 0, none⟩ = some (.int .u64 (r : Int))) : Calls Tryd.prog 69 #[.int .u8 (c.toNat : Int), .pointer (some ⟨g, 0, none⟩)] w fun e w' => e = .returned (.bool (decide (dg c < r))) ∧ ∃ m, w' = w.drewN m := by
  have hwo : ∀ w, Calls Tryd.prog 57 #[.int .u8 (c.toNat : Int)] w fun e w' => e = .returned (.int .u64 (dg c : Int)) ∧ w = w' := by
    intro w; rw [← dg_int]; exact worth_i _ (bi_range c) w
  go_enter Tryd.func69, Tryd.ntmps69
  go_wp2
  go_quiet ((go_at_call 57; exact quiet_eq (hwo _)))
  go_wp2
  go_ret
  exact ⟨ret_b (by simp), ⟨_, rfl⟩⟩
set_option maxHeartbeats 1000000 in
theorem run_all1 (r : Nat) (g : Nat) (l : Bytes) (hl : l.length ≤ 100000) (w : World) (hg : w.cell? ⟨g, 0, none⟩ = some (.int .u64 (r : Int))) : Calls Tryd.prog 18 #[.string (bs l), .func (.func 69) #[] #[.pointer (some ⟨g, 0, none⟩)]] w fun e w' => e = .returned (.int .i64 (run (fun c => decide (dg c < r)) l)) ∧ Below w.heap.size w w' := by
  have hz := bs_size l
  obtain ⟨p, hp0⟩ : ∃ p : UInt8 → Bool, p = fun c => decide (dg c < r) := ⟨_, rfl⟩
  have hcal : ∀ c wr, wr.cell? ⟨g, 0, none⟩ = some (.int .u64 (r : Int)) → Calls Tryd.prog 69 #[.int .u8 (c.toNat : Int), .pointer (some ⟨g, 0, none⟩)] wr fun e w' => e = .returned (.bool (p c)) ∧ ∃ m, w' = wr.drewN m := fun c wr h => by rw [hp0]; exact all1_any r c g wr h
  rw [← hp0]
  clear hp0
  go_enter Tryd.func18, Tryd.ntmps18
  go_wp2
  go_loopw [8] (fun i wr => ∃ k : Nat, k ≤ l.length ∧ i = .int .i64 k ∧ (l.take k).all p = true ∧ Below w.heap.size w wr) (fun i _ => l.length - (intOf i).toNat)
  case atStart => exact ⟨0, Nat.zero_le _, rfl, rfl, Below.refl _ _⟩
  case round =>
    obtain ⟨k, hk, rfl, ha, hb0⟩ := hrel
    have HA := Lib.hid ha
    clear ha
    have hgr : wr.cell? ⟨g, 0, none⟩ = some (.int .u64 (r : Int)) := keep_cell hb0 hg
    by_cases hlt : k < l.length
    · have HS := Lib.hid (all_take_succ p l k hlt)
      have hc := hcal l[k] wr hgr
      clear hcal hgr hg
      cases hp : p l[k] with
      | true =>
        rw [hp] at hc
        have HP := Lib.hid hp
        clear hp
        go_wp2_with (go_at_call 69; refine hc.mono ?_; rintro e w' ⟨rfl, m, rfl⟩)
        go_roundw
        case rel => exact ⟨k + 1, by omega, by go_num, by rw [HS.out, HA.out, HP.out]; rfl, below_drewN hb0 _⟩
        case measure => simp [intOf]; omega
      | false =>
        rw [hp] at hc
        have HR := Lib.hid (run_at p l k hlt HA.out hp)
        clear hp
        go_wp2_with (go_at_call 69; refine hc.mono ?_; rintro e w' ⟨rfl, m, rfl⟩)
        go_ret
        exact ⟨ret_n (by rw [HR.out]), below_drewN hb0 _⟩
    · obtain rfl : k = l.length := by omega
      have HR : Hid (run p l = l.length) := Lib.hid (run_all p l (by have := HA.out; rwa [List.take_length] at this))
      clear hcal hgr hg
      go_wp2
      go_ret
      exact ⟨ret_n (by rw [HR.out]), hb0⟩
theorem run_full (p : UInt8 → Bool) (l : Bytes) : ((run p l : Int) == (l.length : Int)) = l.all p := by
  rw [Bool.eq_iff_iff, beq_iff_eq]
  constructor
  · intro h
    replace h : (l.takeWhile p).length = l.length := by unfold run at h; omega
    induction l with
    | nil => rfl
    | cons c l ih =>
      by_cases hc : p c = true
      · rw [List.takeWhile_cons, if_pos hc] at h
        simp only [List.length_cons] at h
        rw [List.all_cons, hc, ih (by omega)]; rfl
      · rw [List.takeWhile_cons, if_neg hc] at h
        simp at h
  · intro h
    rw [run_all p l h]
set_option maxHeartbeats 1000000 in
theorem all_any (r sh : Nat) (l : Bytes) (hl : l.length ≤ 100000) (w : World) : Calls Tryd.prog 55 #[.string (bs l), .agg #[.int .u64 (r : Int), .int .u64 (sh : Int)]] w fun e w' => e = .returned (.bool (allD r l)) ∧ Below w.heap.size w w' := by
  have HA : Hid (((run (fun c => decide (dg c < r)) l : Int) == (l.length : Int)) = allD r l) := Lib.hid (run_full _ l)
  have hr := fun (w : World) hg => run_all1 r w.heap.size l hl (w.alloc (.cells #[.int .u64 (r : Int), .int .u64 (sh : Int)] 60)) hg
  generalize allD r l = A at *
  generalize run (fun c => decide (dg c < r)) l = n at *
  go_enter Tryd.func55, Tryd.ntmps55
  go_wp2_with fail
  refine (hr w (by simp)).mono ?_
  rintro e w' ⟨rfl, hb⟩
  have hz := hb.size
  simp at hz
  go_wp2
  go_ret
  exact ⟨ret_b HA.out, ((Below.refl _ _).alloc (Nat.le_refl _) _).trans (hb.mono (by simp))⟩
end Go.Proofs.YtigdegjhajdmhaaDoor
