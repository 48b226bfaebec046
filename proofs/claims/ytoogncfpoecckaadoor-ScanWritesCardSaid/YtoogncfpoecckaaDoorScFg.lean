/-
  The reference: numbers written to a base; a token written.
-/
import Derived.Test.YtoogncfpoecckaaDoorScLw
import Derived.BigQuiet
import Derived.Lib.QuietBelow
namespace Go.Proofs.YtoogncfpoecckaaDoor
open Go Go.RowKit
set_option linter.unusedVariables false
set_option linter.unusedSimpArgs false
open Go.Sort

theorem low_slice (d : Nat) (h : d < 16) : ByteArray.extract { data := #[48, 49, 50, 51, 52, 53, 54, 55, 56, 57, 97, 98, 99, 100, 101, 102] } d (d + 1) = bs [hxc d] := by
  have : d = 0 ∨ d = 1 ∨ d = 2 ∨ d = 3 ∨ d = 4 ∨ d = 5 ∨ d = 6 ∨ d = 7 ∨ d = 8 ∨ d = 9 ∨ d = 10 ∨ d = 11 ∨ d = 12 ∨ d = 13 ∨ d = 14 ∨ d = 15 := by omega
  rcases this with rfl | rfl | rfl | rfl | rfl | rfl | rfl | rfl | rfl | rfl | rfl | rfl | rfl | rfl | rfl | rfl <;> rfl
theorem low_size : ByteArray.size { data := #[48, 49, 50, 51, 52, 53, 54, 55, 56, 57, 97, 98, 99, 100, 101, 102] } = 16 := rfl
def figF : Nat → Nat → Nat → Bytes
  | 0, _, _ => []
  | f + 1, b, v => if v < b then [hxc v] else figF f b (v / b) ++ [hxc (v % b)]
theorem figF_len : ∀ f b v, (figF f b v).length ≤ f
  | 0, _, _ => Nat.le_refl _
  | f + 1, b, v => by
    rw [figF]
    split
    · simp
    · have := figF_len f b (v / b)
      simp only [List.length_append, List.length_cons, List.length_nil]; omega
theorem fig_hex : ∀ f v, figF f 16 v = hexF f v
  | 0, _ => rfl
  | f + 1, v => by rw [figF, hexF, fig_hex f]
theorem fig_dec : ∀ f v, 1 ≤ f → v < 10 ^ f → figF f 10 v = Lib.decDigits v
  | 0, _, h, _ => absurd h (by omega)
  | f + 1, v, _, h => by
    rw [figF, Lib.decDigits]
    by_cases hv : v < 10
    · rw [if_pos hv, dif_pos hv]
      unfold hxc
      rw [if_pos hv]
    · rw [if_neg hv, dif_neg hv]
      have hf : 1 ≤ f := by
        cases f with
        | zero => simp at h; omega
        | succ f => omega
      rw [fig_dec f (v / 10) hf (by rw [Nat.div_lt_iff_lt_mul (by omega)]; rw [Nat.pow_succ] at h; exact h)]
      unfold hxc
      rw [if_pos (by omega)]
set_option maxHeartbeats 4000000 in
set_option maxRecDepth 100000 in
theorem figure_any (b : Nat) (hb : 2 ≤ b) (hb2 : b ≤ 16) : ∀ (f : Nat) (hf : f ≤ 100) (v : Nat) (hv : v < 18446744073709551616) (hvf : v < b ^ f) (hf1 : 1 ≤ f) (w : World), Calls Tryd.prog 61 #[.int .u64 (v : Int), .int .u64 (b : Int)] w fun e w' => e = .returned (.string (bs (figF f b v))) ∧ Below w.heap.size w w' := by
  intro f
  induction f with
  | zero => intro _ _ _ _ h; omega
  | succ f ih =>
    intro hf v hv hvf _ w
    have HV := Lib.hid hv
    have hm : v % b < b := Nat.mod_lt _ (by omega)
    have hdm : Hid (((v : Int) % (b : Int) = ((v % b : Nat) : Int)) ∧ ((v : Int) / (b : Int) = ((v / b : Nat) : Int))) := Lib.hid ⟨by rw [Int.natCast_emod], by rw [Int.natCast_ediv]⟩
    have HL : Hid (v / b ≤ v) := Lib.hid (Nat.div_le_self v b)
    have HF : Hid (figF (f + 1) b v = if v < b then [hxc v] else figF f b (v / b) ++ [hxc (v % b)]) := Lib.hid (by rw [figF])
    have HQ : Hid (v / b < b ^ f) := Lib.hid (by rw [Nat.div_lt_iff_lt_mul (by omega)]; rw [Nat.pow_succ] at hvf; exact hvf)
    have HSM : Hid (v < b → v % b = v) := Lib.hid (fun h => Nat.mod_eq_of_lt h)
    have HVF := Lib.hid hvf
    clear hv hvf
    obtain ⟨dd, hdd⟩ : ∃ dd, v % b = dd := ⟨_, rfl⟩
    obtain ⟨q, hq⟩ : ∃ q, v / b = q := ⟨_, rfl⟩
    rw [hdd] at hm hdm HF HSM
    rw [hq] at hdm HL HF HQ
    have w1 : IntKind.u64.wrap ((v : Int) % (b : Int)) = (dd : Int) := by rw [hdm.out.1]; exact IntWalk.u64_in _ (by omega)
    have w1b : (v : Int) % (b : Int) = (dd : Int) := hdm.out.1
    have w2 : IntKind.u64.wrap ((v : Int) / (b : Int)) = (q : Int) := by rw [hdm.out.2]; have := HL.out; have := HV.out; exact IntWalk.u64_in _ (by omega)
    have w3 : IntKind.u64.wrap ((dd : Int) + 1) = (dd : Int) + 1 := IntWalk.u64_in _ (by omega)
    have nz : (b : Int) ≠ 0 := by omega
    have us := low_slice dd (by omega)
    have uz := low_size
    have i1 : (0 : Int) ≤ (dd : Int) := by omega
    have i2 : (dd : Int) ≤ (dd : Int) + 1 := by omega
    have i3 : (dd : Int) + 1 ≤ 16 := by omega
    have i4 : dd + 1 ≤ 16 := by omega
    have i5 : ((dd : Int) + 1).toNat = dd + 1 := by omega
    clear hdd hq
    by_cases hvb : v < b
    · have g1 : decide ((v : Int) < (b : Int)) = true := by rw [decide_eq_true_eq]; omega
      have g2 : decide (v < b) = true := by simpa using hvb
      have hdv : dd = v := HSM.out hvb
      have HE : Hid (figF (f + 1) b v = [hxc dd]) := Lib.hid (by rw [HF.out, if_pos hvb, hdv])
      clear hdv
      go_enter Tryd.func61, Tryd.ntmps61
      go_wp2_with fail
      go_quiet (fail)
      go_wp2
      go_ret
      exact ⟨by rw [HE.out]; rfl, below_drewN (Below.refl _ _) _⟩
    · have g1 : decide ((v : Int) < (b : Int)) = false := by rw [decide_eq_false_iff_not]; omega
      have g2 : decide (v < b) = false := by simpa using hvb
      have hf0 : 1 ≤ f := by
        cases f with
        | zero => exact absurd HVF.out (by simp; omega)
        | succ f => omega
      have hc := fun w => ih (by omega) q (by have := HL.out; have := HV.out; omega) HQ.out hf0 w
      have hlen := figF_len f b q
      have HE : Hid (figF (f + 1) b v = figF f b q ++ [hxc dd]) := Lib.hid (by rw [HF.out, if_neg hvb])
      generalize figF f b q = FQ at *
      have cat : bs FQ ++ bs [hxc dd] = bs (FQ ++ [hxc dd]) := bs_append _ _
      clear ih
      go_enter Tryd.func61, Tryd.ntmps61
      go_wp2_with fail
      go_quiet (fail)
      go_wp2_with fail
      refine (hc _).mono ?_
      rintro e1 w1 ⟨rfl, hb1⟩
      go_wp2
      go_ret
      exact ⟨by rw [HE.out]; rfl, (below_drewN (Below.refl _ _) _).trans (hb1.mono (by simp))⟩
theorem figdec_any (v : Nat) (hv : v < 18446744073709551616) (w : World) : Calls Tryd.prog 61 #[.int .u64 (v : Int), .int .u64 10] w fun e w' => e = .returned (.string (bs (Lib.decDigits v))) ∧ Below w.heap.size w w' := by
  have h : v < 10 ^ 20 := by omega
  have := figure_any 10 (by omega) (by omega) 20 (by omega) v hv h (by omega) w
  rw [fig_dec 20 v (by omega) h] at this
  exact this
theorem fighex_any (v : Nat) (hv : v < 18446744073709551616) (w : World) : Calls Tryd.prog 61 #[.int .u64 (v : Int), .int .u64 16] w fun e w' => e = .returned (.string (bs (hexD v))) ∧ Below w.heap.size w w' := by
  have h : v < 16 ^ 16 := by omega
  have := figure_any 16 (by omega) (by omega) 16 (by omega) v hv h (by omega) w
  rw [fig_hex] at this
  exact this
end Go.Proofs.YtoogncfpoecckaaDoor
