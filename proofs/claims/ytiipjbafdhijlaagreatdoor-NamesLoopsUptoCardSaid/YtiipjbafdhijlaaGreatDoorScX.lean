/-
  Contract: Word.
-/
import Derived.Test.YtiipjbafdhijlaaGreatDoorScB
import Derived.Test.YtiipjbafdhijlaaGreatDoorScW
import Derived.Lib.IndexMore
namespace Go.Proofs.YtiipjbafdhijlaaGreatDoor
open Go Go.RowKit
set_option linter.unusedVariables false

def wordList : List Bytes := [[109, 111, 100, 117, 108, 101], [105, 110], [111, 117, 116], [119, 105, 114, 101], [114, 101, 103], [99, 111, 110, 115, 116], [97, 115, 115, 105, 103, 110], [99, 111, 109, 98], [111, 110], [116, 105, 99, 107], [105, 110, 115, 116], [105, 102], [101, 108, 115, 101], [102, 111, 114], [99, 104, 101, 99, 107], [99, 97, 115, 101], [122, 101, 120, 116], [115, 101, 120, 116], [116, 114, 117, 110, 99]]
def signList : List Bytes := [[46, 46], [60, 61], [62, 61], [124, 124], [38, 38], [61, 61], [33, 61], [60, 60], [62, 62], [35], [40], [41], [44], [123], [125], [61], [58], [59], [91], [93], [63], [124], [94], [38], [60], [62], [43], [45], [42], [126], [33]]
def isWord (s : Bytes) : Bool := wordList.contains s
/-- Words, a blank behind each. -/
def joinW : List Bytes → Bytes
  | [] => []
  | w :: ws => w ++ 32 :: joinW ws
def noBlank (l : Bytes) : Bool := l.all fun c => !(c == 32)
theorem contains_cons (b : UInt8) (l sub : Bytes) : Lib.contains (b :: l) sub = (sub.isPrefixOf (b :: l) || Lib.contains l sub) := by
  have hg := Lib.index_ge l sub
  unfold Lib.contains
  rw [Lib.index]
  by_cases h : sub.isPrefixOf (b :: l) = true
  · rw [if_pos h, h]; rfl
  · rw [if_neg h]
    have h' : sub.isPrefixOf (b :: l) = false := Bool.eq_false_iff.2 h
    rw [h', Bool.false_or]
    by_cases h2 : (Lib.index l sub == -1) = true
    · rw [if_pos h2]
      rw [beq_iff_eq] at h2
      rw [h2]
    · rw [if_neg h2]
      have : Lib.index l sub ≠ -1 := fun e => h2 (by rw [e]; rfl)
      rw [Bool.eq_iff_iff, decide_eq_true_eq, decide_eq_true_eq]
      omega
theorem contains_skip (w R t : Bytes) (h : noBlank w = true) : Lib.contains (w ++ R) (32 :: t) = Lib.contains R (32 :: t) := by
  induction w with
  | nil => rfl
  | cons c w ih =>
    unfold noBlank at h
    simp only [List.all_cons, Bool.and_eq_true] at h
    have hc : (32 == c) = false := by
      have h1 := h.1
      simp at h1
      rw [beq_eq_false_iff_ne]
      exact fun e => h1 e.symm
    rw [List.cons_append, contains_cons, ih h.2]
    simp [List.isPrefixOf, hc]
theorem prefix_word (s w J : Bytes) (hs : noBlank s = true) (hw : noBlank w = true) : (s ++ [32]).isPrefixOf (w ++ 32 :: J) = (s == w) := by
  induction s generalizing w with
  | nil =>
    cases w with
    | nil => simp [List.isPrefixOf]
    | cons c w =>
      unfold noBlank at hw
      simp only [List.all_cons, Bool.and_eq_true] at hw
      have hc : (32 == c) = false := by
        have h1 := hw.1
        simp at h1
        rw [beq_eq_false_iff_ne]
        exact fun e => h1 e.symm
      simp [List.isPrefixOf, hc]
  | cons d s ih =>
    unfold noBlank at hs
    simp only [List.all_cons, Bool.and_eq_true] at hs
    cases w with
    | nil =>
      have hd : (d == 32) = false := by simpa using hs.1
      simp [List.isPrefixOf, hd]
    | cons c w =>
      unfold noBlank at hw
      simp only [List.all_cons, Bool.and_eq_true] at hw
      have := ih w hs.2 hw.2
      simp only [List.cons_append, List.isPrefixOf, this]
      rfl
theorem contains_join (s : Bytes) (hs : noBlank s = true) : ∀ ws : List Bytes, ws.all noBlank = true → Lib.contains (32 :: joinW ws) (32 :: (s ++ [32])) = ws.contains s
  | [], _ => by
    rw [contains_cons]
    have e : Lib.contains (joinW []) (32 :: (s ++ [32])) = false := by
      unfold joinW Lib.contains Lib.index; simp
    rw [e]
    cases s <;> simp [joinW, List.isPrefixOf]
  | w :: ws, h => by
    simp only [List.all_cons, Bool.and_eq_true] at h
    have ih := contains_join s hs ws h.2
    have hw := h.1
    rw [joinW, contains_cons, contains_skip w _ _ hw, ih]
    have := prefix_word s w (joinW ws) hs hw
    rw [List.contains_cons]
    congr 1
theorem name_noBlank (s : Bytes) (h : s.all inName = true) : noBlank s = true := by
  unfold noBlank
  rw [List.all_eq_true] at *
  intro c hc
  have h1 := h c hc
  by_cases e : c = 32
  · subst e; revert h1; decide
  · simpa using e
theorem word_name (s : Bytes) (h : isWord s = true) : s.all inName = true := by
  have : wordList.all (fun w => w.all inName) = true := by decide
  rw [List.all_eq_true] at this
  unfold isWord at h
  rw [List.contains_iff_mem] at h
  exact this s h
theorem words_are : (32 :: joinW wordList : Bytes) = [32, 109, 111, 100, 117, 108, 101, 32, 105, 110, 32, 111, 117, 116, 32, 119, 105, 114, 101, 32, 114, 101, 103, 32, 99, 111, 110, 115, 116, 32, 97, 115, 115, 105, 103, 110, 32, 99, 111, 109, 98, 32, 111, 110, 32, 116, 105, 99, 107, 32, 105, 110, 115, 116, 32, 105, 102, 32, 101, 108, 115, 101, 32, 102, 111, 114, 32, 99, 104, 101, 99, 107, 32, 99, 97, 115, 101, 32, 122, 101, 120, 116, 32, 115, 101, 120, 116, 32, 116, 114, 117, 110, 99, 32] := by decide
theorem is_word (s : Bytes) (h : s.all inName = true) : Lib.contains (32 :: joinW wordList) (32 :: (s ++ [32])) = isWord s := contains_join s (name_noBlank s h) wordList (by decide)

set_option maxHeartbeats 2000000 in
set_option maxRecDepth 9000000 in
theorem word_any (l : Bytes) (hl : l.length ≤ 6000000) (m : Int) (w : World) (hm : w.cell? ⟨4, 0, none⟩ = some (.int .i64 m)) : Calls Tryz.prog 164 #[.string (bs l)] w fun e w' => e = .returned (.bool (isWord l)) ∧ w = w' := by
  have hru := run_name l (by omega)
  cases ha : l.all inName with
  | true =>
    have hr : run inName l = l.length := run_all _ _ ha
    rw [hr] at hru
    have hco := Tryz.strings_Contains (bs (32 :: joinW wordList)) (bs (32 :: (l ++ [32]))) m w (by rw [bs_size, words_are]; simp) hm
    have e : Lib.contains (bs (32 :: joinW wordList)).data.toList (bs (32 :: (l ++ [32]))).data.toList = isWord l := is_word l ha
    rw [e] at hco
    have hcat : ({ data := #[32] } : ByteArray) ++ bs l ++ { data := #[32] } = bs (32 :: (l ++ [32])) := by
      rw [show ({ data := #[32] } : ByteArray) = bs [32] from rfl, bs_append, bs_append]; rfl
    clear ha hr e
    go_enter Tryz.func164, Tryz.ntmps164
    go_wp2_with fail
    refine (hru _).mono ?_
    rintro e1 w1 ⟨rfl, rfl⟩
    rw [words_are] at hco
    go_wp2_with fail
    refine hco.mono ?_
    rintro e2 w2 ⟨rfl, hw2⟩
    obtain rfl : w = w2 := hw2.symm
    go_wp2
    go_ret
    exact ⟨rfl, rfl⟩
  | false =>
    have hr : ((run inName l : Int) == (l.length : Int)) = false := by
      rw [beq_eq_false_iff_ne]
      intro e
      have e : (l.takeWhile inName).length = l.length := by unfold run at e; omega
      have e2 : l.takeWhile inName = l := (List.takeWhile_prefix inName).eq_of_length e
      have : l.all inName = true := by rw [← e2]; simp [List.all_takeWhile]
      rw [ha] at this; cases this
    have hn : isWord l = false := by
      rw [Bool.eq_false_iff]; intro h; rw [word_name l h] at ha; cases ha
    generalize run inName l = n at *
    have HN := Lib.hid hn
    clear ha hn
    go_enter Tryz.func164, Tryz.ntmps164
    go_wp2_with fail
    refine (hru _).mono ?_
    rintro e1 w1 ⟨rfl, rfl⟩
    go_wp2
    go_ret
    exact ⟨ret_b HN.out.symm, rfl⟩
end Go.Proofs.YtiipjbafdhijlaaGreatDoor
