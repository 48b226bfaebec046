/-
  One field too many is seen: what is known of a spoilt expression. No program.
-/
import Derived.Test.YtppgfedakcmgcaaDoorAsLa
namespace Go.Proofs.YtppgfedakcmgcaaDoor
open Go Go.RowKit
set_option linter.unusedVariables false
set_option linter.unusedSimpArgs false
theorem cx_is0 (x : XT) : checkX x = 0 ↔ x.sz ≤ 65536 ∧ x.dp ≤ 64 ∧ mayX x = true := by
  unfold checkX
  cases h1 : decide (65536 < x.sz) <;> cases h2 : decide (64 < x.dp) <;> cases h3 : mayX x <;> simp at h1 h2 ⊢ <;> omega
theorem cx_is1 (x : XT) (a : x.sz ≤ 65536) (b : x.dp ≤ 64) (c : mayX x = false) : checkX x = 1 := by
  unfold checkX
  rw [show decide (65536 < x.sz) = false by rw [decide_eq_false_iff_not]; omega, show decide (64 < x.dp) = false by rw [decide_eq_false_iff_not]; omega, c]
  rfl
theorem kx_gap (k : Nat) : (kx k).2.2.2.2 < (kx k).2.2.2.1 + 40 ∧ 0 ≤ (kx k).2.2.2.1 ∧ (kx k).2.2.2.2 ≤ 33 := by
  match k with
  | 0 => decide
  | 1 => decide
  | 2 => decide
  | 3 => decide
  | 4 => decide
  | 5 => decide
  | 6 => decide
  | 7 => decide
  | 8 => decide
  | 9 => decide
  | 10 => decide
  | _ + 11 => simp [kx]
section
variable {op : Int} {nm : Bytes} {n wd : Int} {v : Nat} {xa : Option Addr} {xc : Nat} {xl : List XT}
theorem sp0 (h : checkX (.mk op nm n wd v xa xc xl) = 0) : (0 ≤ n ∧ n ≤ 33) ∧ checkX (.mk op nm (n + 40) wd v xa xc xl) = 1 ∧ sameX (.mk op nm n wd v xa xc xl) (.mk op nm (n + 40) wd v xa xc xl) = false := by
  rw [cx_is0] at h
  obtain ⟨h1, h2, h3⟩ := h
  rw [mayX] at h3
  simp only [Bool.and_eq_true, decide_eq_true_eq] at h3
  have hk := kx_gap op.toNat
  have ha := h3.2.2.2.1
  have hb := h3.2.2.2.2.1
  refine ⟨⟨by omega, by omega⟩, cx_is1 _ h1 h2 ?_, ?_⟩
  · rw [mayX]
    have e : decide (n + 40 ≤ (kx op.toNat).2.2.2.2) = false := by rw [decide_eq_false_iff_not]; omega
    rw [e]
    simp
  · rw [sameX]
    have e : (n == n + 40) = false := by rw [beq_eq_false_iff_ne]; omega
    rw [e]
    simp
theorem sp1 (h : checkX (.mk op nm n wd v xa xc xl) = 0) : checkX (.mk op nm n 65 v xa xc xl) = 1 ∧ sameX (.mk op nm n wd v xa xc xl) (.mk op nm n 65 v xa xc xl) = false := by
  rw [cx_is0] at h
  obtain ⟨h1, h2, h3⟩ := h
  rw [mayX] at h3
  simp only [Bool.and_eq_true] at h3
  have hn := h3.2.2.1
  have hw : wd ≤ 64 := by
    unfold numB at hn
    split at hn
    · simp only [Bool.or_eq_true, beq_iff_eq, holdsI, Bool.and_eq_true, decide_eq_true_eq] at hn
      omega
    · simp only [Bool.and_eq_true, beq_iff_eq] at hn
      omega
  refine ⟨cx_is1 _ h1 h2 ?_, ?_⟩
  · rw [mayX]
    have e : numB op 65 v = false := by
      unfold numB
      split
      · simp [holdsI]
      · simp
    rw [e]
    simp
  · rw [sameX]
    have e : (wd == 65) = false := by rw [beq_eq_false_iff_ne]; omega
    rw [e]
    simp
theorem sp2 (h : checkX (.mk op nm n wd v xa xc xl) = 0) : checkX (.mk op (49 :: nm) n wd v xa xc xl) = 1 ∧ sameX (.mk op nm n wd v xa xc xl) (.mk op (49 :: nm) n wd v xa xc xl) = false := by
  rw [cx_is0] at h
  obtain ⟨h1, h2, h3⟩ := h
  refine ⟨cx_is1 _ h1 h2 ?_, ?_⟩
  · rw [mayX]
    have e : nameB (49 :: nm) (kx op.toNat).1 = false := by
      cases (kx op.toNat).1 with
      | true =>
        show isNameB (49 :: nm) = false
        have e2 : isNameB (49 :: nm) = (letter 49 && (decide ((49 :: nm).length ≤ 64) && ((49 :: nm).all inName && !isWord (49 :: nm)))) := rfl
        rw [e2, show letter 49 = false by decide]
        rfl
      | false => rfl
    rw [e]
    simp
  · rw [sameX]
    have e : (nm == 49 :: nm) = false := by
      rw [beq_eq_false_iff_ne]
      intro h
      have := congrArg List.length h
      simp at this
    rw [e]
    simp
/-- An expression of no kind. -/
def X0 : XT := .mk 0 [] 0 0 0 none 0 []
theorem X0_in (n : Nat) (W : World) : X0.In n W := by rw [X0, XT.In_mk]; trivial
theorem X0_wf : X0.Wf := by simp [X0, XT.wf_mk]
theorem sp3 (ya : Option Addr) (yc : Nat) (h : checkX (.mk op nm n wd v xa xc xl) = 0) (hs : (XT.mk op nm n wd v xa xc xl).sz ≤ 2000) : checkX (.mk op nm n wd v ya yc (xl ++ [X0])) = 1 ∧ sameX (.mk op nm n wd v xa xc xl) (.mk op nm n wd v ya yc (xl ++ [X0])) = false := by
  rw [cx_is0] at h
  obtain ⟨h1, h2, h3⟩ := h
  refine ⟨cx_is1 _ ?_ ?_ ?_, ?_⟩
  · simp only [XT.sz] at hs ⊢
    rw [XT.szL_app]
    have : XT.szL [X0] = 1 := by decide
    omega
  · simp only [XT.dp] at h2 ⊢
    rw [XT.dpL_app]
    have : XT.dpL [X0] = 1 := by decide
    omega
  · rw [mayX, mayXL_all, List.all_append]
    have e : [X0].all mayX = false := by decide
    rw [e]
    simp
  · rw [sameX, sameXL_eq, eqList_len sameX xl (xl ++ [X0]) (by simp)]
    simp
end
end Go.Proofs.YtppgfedakcmgcaaDoor
