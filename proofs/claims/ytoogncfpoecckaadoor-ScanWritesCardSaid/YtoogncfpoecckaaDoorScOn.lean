/-
  The reference: a token written.
-/
import Derived.Test.YtoogncfpoecckaaDoorScFg
import Derived.Deep.RegionWith
namespace Go.Proofs.YtoogncfpoecckaaDoor
open Go Go.RowKit
set_option linter.unusedVariables false
set_option linter.unusedSimpArgs false
open Go.Sort

set_option maxHeartbeats 4000000 in
set_option maxRecDepth 100000 in
theorem refone_any (k : Int) (s : Bytes) (W : Int) (V : Nat) (p : Int) (hV : V < 18446744073709551616) (hW0 : 0 ≤ W) (hW1 : W ≤ 64) (w : World) : Calls Tryd.prog 41 #[.agg #[.int .i64 k, .string (bs s), .int .i64 W, .int .u64 (V : Int), .int .i64 p]] w fun e w' => e = .returned (.string (bs (writeS k s W V))) ∧ Below w.heap.size w w' := by
  have hA : Below w.heap.size w (w.alloc (.cells #[.int .i64 k, .string (bs s), .int .i64 W, .int .u64 (V : Int), .int .i64 p] 32)) := (Below.refl _ _).alloc (Nat.le_refl _) _
  have t0 : (w.alloc (.cells #[.int .i64 k, .string (bs s), .int .i64 W, .int .u64 (V : Int), .int .i64 p] 32)).cell? ⟨w.heap.size, 0, none⟩ = some (.int .i64 k) := by simp
  have t1 : (w.alloc (.cells #[.int .i64 k, .string (bs s), .int .i64 W, .int .u64 (V : Int), .int .i64 p] 32)).cell? ⟨w.heap.size, 1, none⟩ = some (.string (bs s)) := by simp
  have t2 : (w.alloc (.cells #[.int .i64 k, .string (bs s), .int .i64 W, .int .u64 (V : Int), .int .i64 p] 32)).cell? ⟨w.heap.size, 2, none⟩ = some (.int .i64 W) := by simp
  have t3 : (w.alloc (.cells #[.int .i64 k, .string (bs s), .int .i64 W, .int .u64 (V : Int), .int .i64 p] 32)).cell? ⟨w.heap.size, 3, none⟩ = some (.int .u64 (V : Int)) := by simp
  by_cases hk : k = 3
  · subst hk
    by_cases hW : W = 0
    · subst hW
      have HE : Hid (writeS 3 s 0 V = Lib.decDigits V) := Lib.hid rfl
      have hf := figdec_any V hV
      have HV := Lib.hid hV
      clear hV
      go_enter Tryd.func41, Tryd.ntmps41
      go_wp2_with fail
      refine (hf _).mono ?_
      rintro e1 w1 ⟨rfl, hb1⟩
      go_wp2
      go_ret
      exact ⟨by rw [HE.out]; rfl, hA.trans (hb1.mono hA.size)⟩
    · obtain ⟨n, rfl⟩ : ∃ n : Nat, W = n := ⟨W.toNat, by omega⟩
      have e0 : ((n : Int) == 0) = false := by rw [beq_eq_false_iff_ne]; exact hW
      have hf := figdec_any n (by omega)
      have hh := fighex_any V hV
      have wu : IntKind.u64.wrap (n : Int) = (n : Int) := IntWalk.u64_in _ (by omega)
      have ei : Lib.itoa (n : Int) = Lib.decDigits n := by unfold Lib.itoa; rw [if_neg (by omega)]; rfl
      have HE : Hid (writeS 3 s n V = Lib.decDigits n ++ [39, 104] ++ hexD V) := Lib.hid (by unfold writeS; rw [if_pos rfl, if_neg hW, ei])
      have l1 := dec_len 2 n (by omega) (by omega)
      have l2 := (hexD_facts V hV).2.2.2.2
      have HV := Lib.hid hV
      clear hV ei hW
      generalize Lib.decDigits n = DN at *
      generalize hexD V = HX at *
      obtain ⟨D2, hD2⟩ : ∃ X, DN ++ [39, 104] = X := ⟨_, rfl⟩
      have c1 : bs DN ++ { data := #[39, 104] } = bs D2 := by rw [← hD2]; exact bs_append DN [39, 104]
      obtain ⟨D3, hD3⟩ : ∃ X, D2 ++ HX = X := ⟨_, rfl⟩
      have c2 : bs D2 ++ bs HX = bs D3 := by rw [← hD3]; exact bs_append _ _
      have l3 : D2.length ≤ 100 := by rw [← hD2]; simp; omega
      rw [hD2, hD3] at HE
      clear hD2 hD3
      go_enter Tryd.func41, Tryd.ntmps41
      go_wp2_with fail
      have t0R := cell_regrown t0
      have t1R := cell_regrown t1
      have t2R := cell_regrown t2
      have t3R := cell_regrown t3
      refine wp_region_quiet_below (by kernel_rfl) (by kernel_rfl) ?_
      repeat (go_big_quiet_step (first | (go_at_call_of 61 (Value.int .u64 (n : Int)); exact Calls.regrown_of (hf _)) | (go_at_call_of 61 (Value.int .u64 (V : Int)); exact Calls.regrown_of (hh _))))
      refine wpQuiet_nil ?_
      intro _ hw'
      obtain ⟨⟨dq, osq⟩, hw''⟩ := hw'
      subst hw''
      replace hA := hA.trans ((below_regrown _ dq osq).mono hA.size)
      go_wp2
      go_ret
      exact ⟨by rw [HE.out]; rfl, hA⟩
  · have e0 : (k != 3) = true := by simpa using hk
    have e1 : (k == 3) = false := by simpa using hk
    have HE : Hid (writeS k s W V = s) := Lib.hid (by unfold writeS; rw [if_neg hk])
    have HV := Lib.hid hV
    clear hV
    go_enter Tryd.func41, Tryd.ntmps41
    go_wp2
    go_ret
    exact ⟨by rw [HE.out]; rfl, hA⟩
end Go.Proofs.YtoogncfpoecckaaDoor
