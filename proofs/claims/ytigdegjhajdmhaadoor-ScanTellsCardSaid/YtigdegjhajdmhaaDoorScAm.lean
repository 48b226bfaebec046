/-
  Contracts: the reference: among a list of words.
-/
import Derived.Test.YtigdegjhajdmhaaDoorScX
import Derived.Test.YtigdegjhajdmhaaDoorScC
import Derived.Deep.LoopGhost
namespace Go.Proofs.YtigdegjhajdmhaaDoor
open Go Go.RowKit
set_option linter.unusedVariables false
set_option linter.unusedSimpArgs false
open Go.Sort

/-- Is a text one of those that stand in a list, a blank behind each? From a place on. -/
def amK (l s : Bytes) : Nat → Nat → Nat → Bool
  | 0, _, _ => false
  | g + 1, i, b => if h : i < l.length then (if l[i] = 32 then (if ((l.drop b).take (i - b)) = s then true else amK l s g (i + 1) (i + 1)) else amK l s g (i + 1) b) else false
set_option maxHeartbeats 2000000 in
theorem among_any (l s : Bytes) (hl : l.length ≤ 100000) (hs : s.length ≤ 100000) (w : World) : Calls Tryd.prog 47 #[.string (bs l), .string (bs s)] w fun e w' => e = .returned (.bool (amK l s (l.length + 1) 0 0)) ∧ ∃ n, w' = w.drewN n := by
  obtain ⟨R, hR⟩ : ∃ R, amK l s (l.length + 1) 0 0 = R := ⟨_, rfl⟩
  have HR := Lib.hid hR
  rw [hR]
  clear hR
  go_enter Tryd.func47, Tryd.ntmps47
  go_wp2
  go_loopg [5, 6] (l.length + 1) (fun g u v wr => ∃ b i : Nat, u = .int .i64 b ∧ v = .int .i64 i ∧ b ≤ i ∧ i ≤ l.length ∧ l.length - i < g ∧ amK l s g i b = R ∧ wr = w)
  case atStart => exact ⟨0, 0, rfl, rfl, by omega, by omega, by omega, HR.out, rfl⟩
  case round =>
    obtain ⟨b, i, rfl, rfl, hb, hi, hg, hk, rfl⟩ := hrel
    have HK := Lib.hid hk
    clear hk
    cases gk with
    | zero => omega
    | succ gg =>
      by_cases hlt : i < l.length
      · have d1 : decide (i < l.length) = true := by simpa using hlt
        have d2 : decide ((i : Int) < (l.length : Int)) = true := by rw [decide_eq_true_eq]; omega
        by_cases h32 : l[i] = 32
        · have HX : Hid ((if ((l.drop b).take (i - b)) = s then true else amK l s gg (i + 1) (i + 1)) = R) := Lib.hid (by rw [← HK.out]; simp only [amK, dif_pos hlt, if_pos h32])
          have e32 : ((l[i].toNat : Int) == 32) = true := by rw [h32]; rfl
          have e33 : (l[i].toNat == 32) = true := by rw [h32]; rfl
          by_cases heq : ((l.drop b).take (i - b)) = s
          · have eb : ((l.drop b).take (i - b) == s) = true := by rw [beq_iff_eq]; exact heq
            have HE : Hid (R = true) := Lib.hid (by rw [← HX.out, if_pos heq])
            clear heq HK HX
            go_wp2
            go_ret
            exact ⟨ret_b HE.out.symm, 0, rfl⟩
          · have eb : ((l.drop b).take (i - b) == s) = false := by rw [beq_eq_false_iff_ne]; exact heq
            have HE : Hid (amK l s gg (i + 1) (i + 1) = R) := Lib.hid (by rw [← HX.out, if_neg heq])
            clear heq HK HX
            go_wp2
            go_roundg gg
            case rel => exact ⟨i + 1, i + 1, rfl, rfl, by omega, by omega, by omega, HE.out, rfl⟩
            case measure => omega
        · have HE : Hid (amK l s gg (i + 1) b = R) := Lib.hid (by rw [← HK.out]; simp only [amK, dif_pos hlt, if_neg h32])
          have e33 : (l[i].toNat == 32) = false := by
            rw [beq_eq_false_iff_ne]
            intro h
            exact h32 (UInt8.toNat_inj.1 (by rw [h]; rfl))
          have e32 : ((l[i].toNat : Int) == 32) = false := by
            rw [beq_eq_false_iff_ne] at e33 ⊢
            omega
          clear HK h32
          go_wp2
          go_roundg gg
          case rel => exact ⟨b, i + 1, rfl, rfl, by omega, by omega, by omega, HE.out, rfl⟩
          case measure => omega
      · have d1 : decide (i < l.length) = false := by simpa using hlt
        have d2 : decide ((i : Int) < (l.length : Int)) = false := by rw [decide_eq_false_iff_not]; omega
        have HE : Hid (R = false) := Lib.hid (by rw [← HK.out]; simp only [amK, dif_neg hlt])
        clear HK
        go_wp2
        go_ret
        exact ⟨ret_b HE.out.symm, 0, rfl⟩

/-- The words of a list, a blank behind each. -/
def pieces (l : Bytes) : Nat → Nat → Nat → List Bytes
  | 0, _, _ => []
  | g + 1, i, b => if h : i < l.length then (if l[i] = 32 then (l.drop b).take (i - b) :: pieces l g (i + 1) (i + 1) else pieces l g (i + 1) b) else []
theorem amK_pieces (l s : Bytes) : ∀ g i b, amK l s g i b = (pieces l g i b).contains s
  | 0, _, _ => rfl
  | g + 1, i, b => by
    by_cases h : i < l.length
    · by_cases h32 : l[i] = 32
      · simp only [amK, pieces, dif_pos h, if_pos h32]
        by_cases e : (l.drop b).take (i - b) = s
        · rw [if_pos e, e]; simp
        · rw [if_neg e, amK_pieces l s g]
          rw [List.contains_cons]
          have : (s == (l.drop b).take (i - b)) = false := by rw [beq_eq_false_iff_ne]; exact fun h => e h.symm
          rw [this, Bool.false_or]
      · simp only [amK, pieces, dif_pos h, if_neg h32]
        exact amK_pieces l s g _ _
    · simp only [amK, pieces, dif_neg h]
      rfl
def WORDS_ : Bytes := [109, 111, 100, 117, 108, 101, 32, 105, 110, 32, 111, 117, 116, 32, 119, 105, 114, 101, 32, 114, 101, 103, 32, 99, 111, 110, 115, 116, 32, 97, 115, 115, 105, 103, 110, 32, 99, 111, 109, 98, 32, 111, 110, 32, 116, 105, 99, 107, 32, 105, 110, 115, 116, 32, 105, 102, 32, 101, 108, 115, 101, 32, 102, 111, 114, 32, 99, 104, 101, 99, 107, 32, 99, 97, 115, 101, 32, 122, 101, 120, 116, 32, 115, 101, 120, 116, 32, 116, 114, 117, 110, 99, 32]
def SIGNS_ : Bytes := [35, 32, 40, 32, 41, 32, 44, 32, 123, 32, 125, 32, 61, 32, 58, 32, 59, 32, 91, 32, 93, 32, 63, 32, 124, 32, 94, 32, 38, 32, 60, 32, 62, 32, 43, 32, 45, 32, 42, 32, 126, 32, 33, 32, 46, 46, 32, 60, 61, 32, 62, 61, 32, 124, 124, 32, 38, 38, 32, 61, 61, 32, 33, 61, 32, 60, 60, 32, 62, 62, 32]
set_option maxRecDepth 100000
theorem pieces_words : pieces WORDS_ (WORDS_.length + 1) 0 0 = wordList := by kernel_rfl
theorem among_words (s : Bytes) : amK WORDS_ s (WORDS_.length + 1) 0 0 = isWord s := by
  rw [amK_pieces, pieces_words]
  rfl
set_option maxHeartbeats 2000000 in
theorem refWord_any (s : Bytes) (hs : s.length ≤ 100000) (w : World) : Calls Tryd.prog 33 #[.string (bs s)] w fun e w' => e = .returned (.bool (isWord s)) ∧ ∃ n, w' = w.drewN n := by
  have h := among_any WORDS_ s (by decide) hs w
  rw [among_words] at h
  go_enter Tryd.func33, Tryd.ntmps33
  go_wp2_with fail
  refine h.mono ?_
  rintro e1 w1 ⟨rfl, n, rfl⟩
  go_wp2
  go_ret
  exact ⟨rfl, n, rfl⟩
set_option maxHeartbeats 2000000 in
theorem refSign_any (s : Bytes) (hs : s.length ≤ 100000) (w : World) : Calls Tryd.prog 36 #[.string (bs s)] w fun e w' => e = .returned (.bool (amK SIGNS_ s (SIGNS_.length + 1) 0 0)) ∧ ∃ n, w' = w.drewN n := by
  have h := among_any SIGNS_ s (by decide) hs w
  go_enter Tryd.func36, Tryd.ntmps36
  go_wp2_with fail
  refine h.mono ?_
  rintro e1 w1 ⟨rfl, n, rfl⟩
  go_wp2
  go_ret
  exact ⟨rfl, n, rfl⟩
end Go.Proofs.YtigdegjhajdmhaaDoor
