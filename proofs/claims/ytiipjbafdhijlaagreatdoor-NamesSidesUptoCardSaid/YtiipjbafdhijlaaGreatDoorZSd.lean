/-
  ScX, ScY, ScT, ScU, ScCk, ScMb, in one text.
-/
import Derived.Test.YtiipjbafdhijlaaGreatDoorZSc
import Derived.Test.YtiipjbafdhijlaaGreatDoorScW
import Derived.Lib.IndexMore
import Derived.Deep.MidRow
import Derived.Deep.LoopGhost
import Derived.WalkMore
namespace Go.Proofs.YtiipjbafdhijlaaGreatDoor
open Go Go.RowKit
set_option linter.unusedVariables false
def wordList : List Bytes := [[109, 111, 100, 117, 108, 101], [105, 110], [111, 117, 116], [119, 105, 114, 101], [114, 101, 103], [99, 111, 110, 115, 116], [97, 115, 115, 105, 103, 110], [99, 111, 109, 98], [111, 110], [116, 105, 99, 107], [105, 110, 115, 116], [105, 102], [101, 108, 115, 101], [102, 111, 114], [99, 104, 101, 99, 107], [99, 97, 115, 101], [122, 101, 120, 116], [115, 101, 120, 116], [116, 114, 117, 110, 99]]
def signList : List Bytes := [[46, 46], [60, 61], [62, 61], [124, 124], [38, 38], [61, 61], [33, 61], [60, 60], [62, 62], [35], [40], [41], [44], [123], [125], [61], [58], [59], [91], [93], [63], [124], [94], [38], [60], [62], [43], [45], [42], [126], [33]]
def isWord (s : Bytes) : Bool := wordList.contains s
/-- Words, a blank behind each. -/
def joinW : List Bytes → Bytes
 | [] => []
 | w :: ws => w ++ 32 :: joinW ws
def noBlank (l : Bytes) : Bool := l.all fun c => !(c == 32)
theorem contains_cons (b : UInt8) (l sub : Bytes) : Lib.contains (b :: l) sub = (sub.isPrefixOf (b :: l) || Lib.contains l sub) := by
 have hg := Lib.index_ge l sub
 unfold Lib.contains
 rw [Lib.index]
 by_cases h : sub.isPrefixOf (b :: l) = true
 ·rw [if_pos h, h]; rfl
 ·rw [if_neg h]
  have h' : sub.isPrefixOf (b :: l) = false := Bool.eq_false_iff.2 h
  rw [h', Bool.false_or]
  by_cases h2 : (Lib.index l sub == -1) = true
  ·rw [if_pos h2]
   rw [beq_iff_eq] at h2
   rw [h2]
  ·rw [if_neg h2]
   have : Lib.index l sub ≠ -1 := fun e => h2 (by rw [e]; rfl)
   rw [Bool.eq_iff_iff, decide_eq_true_eq, decide_eq_true_eq]
   omega
theorem contains_skip (w R t : Bytes) (h : noBlank w = true) : Lib.contains (w ++ R) (32 :: t) = Lib.contains R (32 :: t) := by
 induction w with
 | nil => rfl
 | cons c w ih =>
  unfold noBlank at h
  simp only [List.all_cons, Bool.and_eq_true] at h
  have hc : (32 == c) = false := by
   have h1 := h.1
   simp at h1
   rw [beq_eq_false_iff_ne]
   exact fun e => h1 e.symm
  rw [List.cons_append, contains_cons, ih h.2]
  simp [List.isPrefixOf, hc]
theorem prefix_word (s w J : Bytes) (hs : noBlank s = true) (hw : noBlank w = true) : (s ++ [32]).isPrefixOf (w ++ 32 :: J) = (s == w) := by
 induction s generalizing w with
 | nil =>
  cases w with
  | nil => simp [List.isPrefixOf]
  | cons c w =>
   unfold noBlank at hw
   simp only [List.all_cons, Bool.and_eq_true] at hw
   have hc : (32 == c) = false := by
    have h1 := hw.1
    simp at h1
    rw [beq_eq_false_iff_ne]
    exact fun e => h1 e.symm
   simp [List.isPrefixOf, hc]
 | cons d s ih =>
  unfold noBlank at hs
  simp only [List.all_cons, Bool.and_eq_true] at hs
  cases w with
  | nil =>
   have hd : (d == 32) = false := by simpa using hs.1
   simp [List.isPrefixOf, hd]
  | cons c w =>
   unfold noBlank at hw
   simp only [List.all_cons, Bool.and_eq_true] at hw
   have := ih w hs.2 hw.2
   simp only [List.cons_append, List.isPrefixOf, this]
   rfl
theorem contains_join (s : Bytes) (hs : noBlank s = true) : ∀ ws : List Bytes, ws.all noBlank = true → Lib.contains (32 :: joinW ws) (32 :: (s ++ [32])) = ws.contains s
 | [], _ => by
  rw [contains_cons]
  have e : Lib.contains (joinW []) (32 :: (s ++ [32])) = false := by
   unfold joinW Lib.contains Lib.index; simp
  rw [e]
  cases s <;> simp [joinW, List.isPrefixOf]
 | w :: ws, h => by
  simp only [List.all_cons, Bool.and_eq_true] at h
  have ih := contains_join s hs ws h.2
  have hw := h.1
  rw [joinW, contains_cons, contains_skip w _ _ hw, ih]
  have := prefix_word s w (joinW ws) hs hw
  rw [List.contains_cons]
  congr 1
theorem name_noBlank (s : Bytes) (h : s.all inName = true) : noBlank s = true := by
 unfold noBlank
 rw [List.all_eq_true] at *
 intro c hc
 have h1 := h c hc
 by_cases e : c = 32
 ·subst e; revert h1; decide
 ·simpa using e
theorem word_name (s : Bytes) (h : isWord s = true) : s.all inName = true := by
 have : wordList.all (fun w => w.all inName) = true := by decide
 rw [List.all_eq_true] at this
 unfold isWord at h
 rw [List.contains_iff_mem] at h
 exact this s h
theorem words_are : (32 :: joinW wordList : Bytes) = [32, 109, 111, 100, 117, 108, 101, 32, 105, 110, 32, 111, 117, 116, 32, 119, 105, 114, 101, 32, 114, 101, 103, 32, 99, 111, 110, 115, 116, 32, 97, 115, 115, 105, 103, 110, 32, 99, 111, 109, 98, 32, 111, 110, 32, 116, 105, 99, 107, 32, 105, 110, 115, 116, 32, 105, 102, 32, 101, 108, 115, 101, 32, 102, 111, 114, 32, 99, 104, 101, 99, 107, 32, 99, 97, 115, 101, 32, 122, 101, 120, 116, 32, 115, 101, 120, 116, 32, 116, 114, 117, 110, 99, 32] := by decide
theorem is_word (s : Bytes) (h : s.all inName = true) : Lib.contains (32 :: joinW wordList) (32 :: (s ++ [32])) = isWord s := contains_join s (name_noBlank s h) wordList (by decide)
set_option maxHeartbeats 2000000 in
set_option maxRecDepth 9000000 in
theorem word_any (l : Bytes) (hl : l.length ≤ 6000000) (m : Int) (w : World) (hm : w.cell? ⟨4, 0, none⟩ = some (.int .i64 m)) : Calls Tryz.prog 164 #[.string (bs l)] w fun e w' => e = .returned (.bool (isWord l)) ∧ w = w' := by
 have hru := run_name l (by omega)
 cases ha : l.all inName with
 | true =>
  have hr : run inName l = l.length := run_all _ _ ha
  rw [hr] at hru
  have hco := Tryz.strings_Contains (bs (32 :: joinW wordList)) (bs (32 :: (l ++ [32]))) m w (by rw [bs_size, words_are]; simp) hm
  have e : Lib.contains (bs (32 :: joinW wordList)).data.toList (bs (32 :: (l ++ [32]))).data.toList = isWord l := is_word l ha
  rw [e] at hco
  have hcat : ({ data := #[32] } : ByteArray) ++ bs l ++ { data := #[32] } = bs (32 :: (l ++ [32])) := by
   rw [show ({ data := #[32] } : ByteArray) = bs [32] from rfl, bs_append, bs_append]; rfl
  clear ha hr e
  go_enter Tryz.func164, Tryz.ntmps164
  go_wp2_with fail
  refine (hru _).mono ?_
  rintro e1 w1 ⟨rfl, rfl⟩
  rw [words_are] at hco
  go_wp2_with fail
  refine hco.mono ?_
  rintro e2 w2 ⟨rfl, hw2⟩
  obtain rfl : w = w2 := hw2.symm
  go_wp2
  go_ret
  exact ⟨rfl, rfl⟩
 | false =>
  have hr : ((run inName l : Int) == (l.length : Int)) = false := by
   rw [beq_eq_false_iff_ne]
   intro e
   have e : (l.takeWhile inName).length = l.length := by unfold run at e; omega
   have e2 : l.takeWhile inName = l := (List.takeWhile_prefix inName).eq_of_length e
   have : l.all inName = true := by rw [← e2]; simp [List.all_takeWhile]
   rw [ha] at this; cases this
  have hn : isWord l = false := by
   rw [Bool.eq_false_iff]; intro h; rw [word_name l h] at ha; cases ha
  generalize run inName l = n at *
  have HN := Lib.hid hn
  clear ha hn
  go_enter Tryz.func164, Tryz.ntmps164
  go_wp2_with fail
  refine (hru _).mono ?_
  rintro e1 w1 ⟨rfl, rfl⟩
  go_wp2
  go_ret
  exact ⟨ret_b HN.out.symm, rfl⟩
end Go.Proofs.YtiipjbafdhijlaaGreatDoor
namespace Go.Proofs.YtiipjbafdhijlaaGreatDoor
open Go Go.RowKit
set_option linter.unusedVariables false
open Go.Sort
def nameS (l : Bytes) : Tk :=
 if 64 < run inName l then badT 2
 else ⟨if isWord (l.take (run inName l)) = true then 2 else 1, l.take (run inName l), 0, 0, run inName l, 0⟩
theorem take_take_len (l : Bytes) (n : Nat) : List.take n l = List.take n l := rfl
end Go.Proofs.YtiipjbafdhijlaaGreatDoor
namespace Go.Proofs.YtiipjbafdhijlaaGreatDoor
open Go Go.RowKit
set_option linter.unusedVariables false
def sg (k : Nat) : Bytes := signList.getD k []
def signCells : List Value := signList.map fun s => Value.string (bs s)
/-- The longest sign that a text begins with; or none. -/
def signS (l : Bytes) : Bytes := (signList.find? fun s => s.isPrefixOf l).getD []
def NoneTo (l : Bytes) (k : Nat) : Prop := ∀ j, j < k → (sg j).isPrefixOf l = false
theorem noneTo_succ {l : Bytes} {k : Nat} (h : NoneTo l k) (h2 : (sg k).isPrefixOf l = false) : NoneTo l (k + 1) := fun j hj => by
 by_cases e : j = k
 ·rw [e]; exact h2
 ·exact h j (by omega)
theorem sg_at (k : Nat) (hk : k < 31) : signList[k]? = some (sg k) := by
 have : signList.length = 31 := by decide
 unfold sg
 rw [List.getD_eq_getElem?_getD, List.getElem?_eq_getElem (by omega)]
 rfl
theorem signS_found {l : Bytes} {k : Nat} (hk : k < 31) (h : NoneTo l k) (h2 : (sg k).isPrefixOf l = true) : signS l = sg k := by
 have hl : signList.length = 31 := by decide
 have : signList.find? (fun s => s.isPrefixOf l) = some (sg k) := by
  rw [List.find?_eq_some_iff_getElem]
  refine ⟨h2, k, by omega, ?_, fun j hj => ?_⟩
  ·have := sg_at k hk
   rw [List.getElem?_eq_getElem (by omega)] at this
   exact Option.some.inj this
  ·have h3 := h j hj
   have := sg_at j (by omega)
   rw [List.getElem?_eq_getElem (by omega)] at this
   rw [Option.some.inj this, h3]; rfl
 unfold signS
 rw [this]; rfl
theorem signS_none {l : Bytes} (h : NoneTo l 31) : signS l = [] := by
 have hl : signList.length = 31 := by decide
 have : signList.find? (fun s => s.isPrefixOf l) = none := by
  rw [List.find?_eq_none]
  intro s hs
  obtain ⟨j, hj, rfl⟩ := List.getElem_of_mem hs
  have h3 := h j (by omega)
  have := sg_at j (by omega)
  rw [List.getElem?_eq_getElem (by omega)] at this
  rw [Option.some.inj this, h3]; decide
 unfold signS
 rw [this]; rfl
theorem sg_len (k : Nat) (hk : k < 31) : 1 ≤ (sg k).length ∧ (sg k).length ≤ 2 := by
 have : ∀ k : Fin 31, 1 ≤ (sg k.val).length ∧ (sg k.val).length ≤ 2 := by decide
 exact this ⟨k, hk⟩
theorem idx0 (w : World) : (Instr.index 204 (.agg signCells.toArray) (.int .i64 ((0 : Nat) : Int))).run Tryz.prog w = .ok (.string (bs (sg 0))) w := by kernel_rfl
theorem idx1 (w : World) : (Instr.index 204 (.agg signCells.toArray) (.int .i64 ((1 : Nat) : Int))).run Tryz.prog w = .ok (.string (bs (sg 1))) w := by kernel_rfl
theorem idx2 (w : World) : (Instr.index 204 (.agg signCells.toArray) (.int .i64 ((2 : Nat) : Int))).run Tryz.prog w = .ok (.string (bs (sg 2))) w := by kernel_rfl
theorem idx3 (w : World) : (Instr.index 204 (.agg signCells.toArray) (.int .i64 ((3 : Nat) : Int))).run Tryz.prog w = .ok (.string (bs (sg 3))) w := by kernel_rfl
theorem idx4 (w : World) : (Instr.index 204 (.agg signCells.toArray) (.int .i64 ((4 : Nat) : Int))).run Tryz.prog w = .ok (.string (bs (sg 4))) w := by kernel_rfl
theorem idx5 (w : World) : (Instr.index 204 (.agg signCells.toArray) (.int .i64 ((5 : Nat) : Int))).run Tryz.prog w = .ok (.string (bs (sg 5))) w := by kernel_rfl
theorem idx6 (w : World) : (Instr.index 204 (.agg signCells.toArray) (.int .i64 ((6 : Nat) : Int))).run Tryz.prog w = .ok (.string (bs (sg 6))) w := by kernel_rfl
theorem idx7 (w : World) : (Instr.index 204 (.agg signCells.toArray) (.int .i64 ((7 : Nat) : Int))).run Tryz.prog w = .ok (.string (bs (sg 7))) w := by kernel_rfl
theorem idx8 (w : World) : (Instr.index 204 (.agg signCells.toArray) (.int .i64 ((8 : Nat) : Int))).run Tryz.prog w = .ok (.string (bs (sg 8))) w := by kernel_rfl
theorem idx9 (w : World) : (Instr.index 204 (.agg signCells.toArray) (.int .i64 ((9 : Nat) : Int))).run Tryz.prog w = .ok (.string (bs (sg 9))) w := by kernel_rfl
theorem idx10 (w : World) : (Instr.index 204 (.agg signCells.toArray) (.int .i64 ((10 : Nat) : Int))).run Tryz.prog w = .ok (.string (bs (sg 10))) w := by kernel_rfl
theorem idx11 (w : World) : (Instr.index 204 (.agg signCells.toArray) (.int .i64 ((11 : Nat) : Int))).run Tryz.prog w = .ok (.string (bs (sg 11))) w := by kernel_rfl
theorem idx12 (w : World) : (Instr.index 204 (.agg signCells.toArray) (.int .i64 ((12 : Nat) : Int))).run Tryz.prog w = .ok (.string (bs (sg 12))) w := by kernel_rfl
theorem idx13 (w : World) : (Instr.index 204 (.agg signCells.toArray) (.int .i64 ((13 : Nat) : Int))).run Tryz.prog w = .ok (.string (bs (sg 13))) w := by kernel_rfl
theorem idx14 (w : World) : (Instr.index 204 (.agg signCells.toArray) (.int .i64 ((14 : Nat) : Int))).run Tryz.prog w = .ok (.string (bs (sg 14))) w := by kernel_rfl
theorem idx15 (w : World) : (Instr.index 204 (.agg signCells.toArray) (.int .i64 ((15 : Nat) : Int))).run Tryz.prog w = .ok (.string (bs (sg 15))) w := by kernel_rfl
theorem idx16 (w : World) : (Instr.index 204 (.agg signCells.toArray) (.int .i64 ((16 : Nat) : Int))).run Tryz.prog w = .ok (.string (bs (sg 16))) w := by kernel_rfl
theorem idx17 (w : World) : (Instr.index 204 (.agg signCells.toArray) (.int .i64 ((17 : Nat) : Int))).run Tryz.prog w = .ok (.string (bs (sg 17))) w := by kernel_rfl
theorem idx18 (w : World) : (Instr.index 204 (.agg signCells.toArray) (.int .i64 ((18 : Nat) : Int))).run Tryz.prog w = .ok (.string (bs (sg 18))) w := by kernel_rfl
theorem idx19 (w : World) : (Instr.index 204 (.agg signCells.toArray) (.int .i64 ((19 : Nat) : Int))).run Tryz.prog w = .ok (.string (bs (sg 19))) w := by kernel_rfl
theorem idx20 (w : World) : (Instr.index 204 (.agg signCells.toArray) (.int .i64 ((20 : Nat) : Int))).run Tryz.prog w = .ok (.string (bs (sg 20))) w := by kernel_rfl
theorem idx21 (w : World) : (Instr.index 204 (.agg signCells.toArray) (.int .i64 ((21 : Nat) : Int))).run Tryz.prog w = .ok (.string (bs (sg 21))) w := by kernel_rfl
theorem idx22 (w : World) : (Instr.index 204 (.agg signCells.toArray) (.int .i64 ((22 : Nat) : Int))).run Tryz.prog w = .ok (.string (bs (sg 22))) w := by kernel_rfl
theorem idx23 (w : World) : (Instr.index 204 (.agg signCells.toArray) (.int .i64 ((23 : Nat) : Int))).run Tryz.prog w = .ok (.string (bs (sg 23))) w := by kernel_rfl
theorem idx24 (w : World) : (Instr.index 204 (.agg signCells.toArray) (.int .i64 ((24 : Nat) : Int))).run Tryz.prog w = .ok (.string (bs (sg 24))) w := by kernel_rfl
theorem idx25 (w : World) : (Instr.index 204 (.agg signCells.toArray) (.int .i64 ((25 : Nat) : Int))).run Tryz.prog w = .ok (.string (bs (sg 25))) w := by kernel_rfl
theorem idx26 (w : World) : (Instr.index 204 (.agg signCells.toArray) (.int .i64 ((26 : Nat) : Int))).run Tryz.prog w = .ok (.string (bs (sg 26))) w := by kernel_rfl
theorem idx27 (w : World) : (Instr.index 204 (.agg signCells.toArray) (.int .i64 ((27 : Nat) : Int))).run Tryz.prog w = .ok (.string (bs (sg 27))) w := by kernel_rfl
theorem idx28 (w : World) : (Instr.index 204 (.agg signCells.toArray) (.int .i64 ((28 : Nat) : Int))).run Tryz.prog w = .ok (.string (bs (sg 28))) w := by kernel_rfl
theorem idx29 (w : World) : (Instr.index 204 (.agg signCells.toArray) (.int .i64 ((29 : Nat) : Int))).run Tryz.prog w = .ok (.string (bs (sg 29))) w := by kernel_rfl
theorem idx30 (w : World) : (Instr.index 204 (.agg signCells.toArray) (.int .i64 ((30 : Nat) : Int))).run Tryz.prog w = .ok (.string (bs (sg 30))) w := by kernel_rfl
theorem idx_sign (k : Nat) (hk : k < 31) (w : World) : (Instr.index 204 (.agg signCells.toArray) (.int .i64 (k : Int))).run Tryz.prog w = .ok (.string (bs (sg k))) w := by
 have : k = 0 ∨ k = 1 ∨ k = 2 ∨ k = 3 ∨ k = 4 ∨ k = 5 ∨ k = 6 ∨ k = 7 ∨ k = 8 ∨ k = 9 ∨ k = 10 ∨ k = 11 ∨ k = 12 ∨ k = 13 ∨ k = 14 ∨ k = 15 ∨ k = 16 ∨ k = 17 ∨ k = 18 ∨ k = 19 ∨ k = 20 ∨ k = 21 ∨ k = 22 ∨ k = 23 ∨ k = 24 ∨ k = 25 ∨ k = 26 ∨ k = 27 ∨ k = 28 ∨ k = 29 ∨ k = 30 := by omega
 rcases this with rfl | rfl | rfl | rfl | rfl | rfl | rfl | rfl | rfl | rfl | rfl | rfl | rfl | rfl | rfl | rfl | rfl | rfl | rfl | rfl | rfl | rfl | rfl | rfl | rfl | rfl | rfl | rfl | rfl | rfl | rfl
 ·exact idx0 w
 ·exact idx1 w
 ·exact idx2 w
 ·exact idx3 w
 ·exact idx4 w
 ·exact idx5 w
 ·exact idx6 w
 ·exact idx7 w
 ·exact idx8 w
 ·exact idx9 w
 ·exact idx10 w
 ·exact idx11 w
 ·exact idx12 w
 ·exact idx13 w
 ·exact idx14 w
 ·exact idx15 w
 ·exact idx16 w
 ·exact idx17 w
 ·exact idx18 w
 ·exact idx19 w
 ·exact idx20 w
 ·exact idx21 w
 ·exact idx22 w
 ·exact idx23 w
 ·exact idx24 w
 ·exact idx25 w
 ·exact idx26 w
 ·exact idx27 w
 ·exact idx28 w
 ·exact idx29 w
 ·exact idx30 w
theorem take_eq_step {s l : Bytes} {j : Nat} (hs : j < s.length) (hl : j < l.length) (h : s.take j = l.take j) (he : s[j] = l[j]) : s.take (j + 1) = l.take (j + 1) := by
 rw [List.take_succ_eq_append_getElem hs, List.take_succ_eq_append_getElem hl, h, he]
theorem prefix_of_take {s l : Bytes} (hl : s.length ≤ l.length) (h : s.take s.length = l.take s.length) : s.isPrefixOf l = true := by
 rw [List.take_length] at h
 rw [List.isPrefixOf_iff_prefix, List.prefix_iff_eq_take]; exact h
theorem not_prefix_at {s l : Bytes} {j : Nat} (hs : j < s.length) (hl : j < l.length) (he : s[j] ≠ l[j]) : s.isPrefixOf l = false := by
 rw [Bool.eq_false_iff]
 intro h
 rw [List.isPrefixOf_iff_prefix] at h
 obtain ⟨t, rfl⟩ := h
 exact he (by rw [List.getElem_append_left hs])
set_option maxHeartbeats 4000000 in
theorem sign_any (l : Bytes) (hl : l.length ≤ 6000000) (w : World) (hg : w.rangeAt 3 0 signCells) : Calls Tryz.prog 175 #[.string (bs l)] w fun e w' => e = .returned (.string (bs (signS l))) ∧ ∃ m, w' = w.drewN m := by
 go_enter Tryz.func175, Tryz.ntmps175
 go_wp2
 go_step3
 go_wp2
 go_step3
 go_wp2_with (refine wpList_load_mid rfl 204 (.global 3) rfl 3 0 rfl signCells _ hg Tryz.underlying204 rfl (by kernel_rfl) ?_)
 clear hg
 go_loopg [7] 31 (fun g u wx => ∃ k m : Nat, k + g = 31 ∧ u = .int .i64 k ∧ NoneTo l k ∧ wx = w.drewN m)
 case atStart => exact ⟨0, 0, by omega, rfl, fun j hj => by omega, rfl⟩
 case round =>
  obtain ⟨k, m, hkg, rfl, hno, rfl⟩ := hrel
  have HN := Lib.hid hno
  clear hno
  cases gk with
  | zero =>
   obtain rfl : k = 31 := by omega
   have HS := Lib.hid (signS_none HN.out)
   go_wp2
   try rw [Exit.noGoto_ret]
   go_ret
   exact ⟨by rw [HS.out]; rfl, _, rfl⟩
  | succ gg =>
   have hk : k < 31 := by omega
   obtain ⟨sl1, sl2⟩ := sg_len k hk
   have hix := idx_sign k hk
   obtain ⟨s, hs⟩ : ∃ s, sg k = s := ⟨_, rfl⟩
   rw [hs] at sl1 sl2 hix
   have HSG := Lib.hid hs
   clear hs
   by_cases hlen : l.length < s.length
   ·have d1 : decide (l.length < s.length) = true := by simpa using hlen
    have HP : Hid ((sg k).isPrefixOf l = false) := Lib.hid (by rw [HSG.out]; exact prefix_not s l (by omega))
    go_wp2
    go_roundg gg
    case rel => exact ⟨k + 1, m, by omega, by go_num, noneTo_succ HN.out HP.out, rfl⟩
    case measure => omega
   ·have d1 : decide (l.length < s.length) = false := by simpa using hlen
    go_wp2
    go_loopg [17] s.length (fun g u wx => ∃ j m2 : Nat, j + g = s.length ∧ u = .int .i64 j ∧ s.take j = l.take j ∧ wx = w.drewN m2)
    case atStart => exact ⟨0, m, by omega, rfl, by simp, rfl⟩
    case round =>
     obtain ⟨j, m2, hjg, rfl, hta, rfl⟩ := hrel
     have HT := Lib.hid hta
     clear hta
     cases gk with
     | zero =>
      obtain rfl : j = s.length := by omega
      have HP : Hid ((sg k).isPrefixOf l = true) := Lib.hid (by rw [HSG.out]; exact prefix_of_take (by omega) HT.out)
      have HS : Hid (signS l = s) := Lib.hid (by rw [signS_found hk HN.out HP.out, HSG.out])
      go_wp2
      try rw [Exit.noGoto_ret]
      go_ret
      exact ⟨by rw [HS.out]; rfl, _, rfl⟩
     | succ gi =>
      have hj : j < s.length := by omega
      have hjl : j < l.length := by omega
      by_cases he : s[j] = l[j]
      ·have en : ((l[j].toNat : Int) != (s[j].toNat : Int)) = false := by rw [he]; simp
       have HE := Lib.hid he
       clear he
       go_wp2
       go_quiet (fail)
       go_wp2
       go_roundg gi
       case rel => exact ⟨j + 1, _, by omega, by go_num, take_eq_step hj hjl HT.out HE.out, rfl⟩
       case measure => omega
      ·have en : ((l[j].toNat : Int) != (s[j].toNat : Int)) = true := by
        rw [bne_iff_ne]
        intro h
        exact he (UInt8.toNat_inj.1 (by omega))
       have HP : Hid ((sg k).isPrefixOf l = false) := Lib.hid (by rw [HSG.out]; exact not_prefix_at hj hjl he)
       clear he
       go_wp2
       go_quiet (fail)
       go_wp2
       go_roundg gg
       case rel => exact ⟨k + 1, _, by omega, by go_num, noneTo_succ HN.out HP.out, rfl⟩
       case measure => omega
end Go.Proofs.YtiipjbafdhijlaaGreatDoor
namespace Go.Proofs.YtiipjbafdhijlaaGreatDoor
open Go Go.RowKit
set_option linter.unusedVariables false
open Go.Sort
/-- What of the world is read: how long the library's search may be, and the signs. -/
structure Env (w : World) : Prop where
 most : ∃ m, w.cell? ⟨4, 0, none⟩ = some (.int .i64 m)
 signs : w.rangeAt 3 0 signCells
theorem Env.keep {w w' : World} (h : Env w) (hb : Below w.heap.size w w') : Env w' := by
 obtain ⟨⟨m, hm⟩, hs⟩ := h
 exact ⟨⟨m, keep_cell hb hm⟩, fun j v hv => keep_cell hb (hs j v hv)⟩
theorem Env.alloc {w : World} (h : Env w) (x : Obj) : Env (w.alloc x) := h.keep ((Below.refl _ _).alloc (Nat.le_refl _) x)
theorem Env.drewN {w : World} (h : Env w) (n : Nat) : Env (w.drewN n) := h.keep (below_drewN (Below.refl _ _) n)
def tokenS (l : Bytes) : Tk :=
 match l with
 | [] => badT 0
 | c :: _ => if letter c = true then nameS l else if digit c = true then numberS l
  else if signS l = [] then badT 20 else ⟨4, signS l, 0, 0, (signS l).length, 0⟩
theorem signS_short (l : Bytes) : (signS l).length ≤ 2 := by
 unfold signS
 have hall : signList.all (fun s => decide (s.length ≤ 2)) = true := by decide
 rw [List.all_eq_true] at hall
 cases h : signList.find? (fun s => s.isPrefixOf l) with
 | none => simp
 | some s => have := hall s (List.mem_of_find?_eq_some h); simpa using this
end Go.Proofs.YtiipjbafdhijlaaGreatDoor
namespace Go.Proofs.YtiipjbafdhijlaaGreatDoor
open Go Go.RowKit
set_option linter.unusedVariables false
open Go.Sort
def isNameB (l : Bytes) : Bool :=
 match l with
 | [] => false
 | c :: _ => letter c && (decide (l.length ≤ 64) && (l.all inName && !isWord l))
def isSignB (l : Bytes) : Bool := !l.isEmpty && (signS l == l)
set_option maxHeartbeats 2000000 in
theorem isName_any (l : Bytes) (hl : l.length ≤ 6000000) (m : Int) (w : World) (hm : w.cell? ⟨4, 0, none⟩ = some (.int .i64 m)) : Calls Tryz.prog 163 #[.string (bs l)] w fun e w' => e = .returned (.bool (isNameB l)) ∧ w = w' := by
 cases l with
 | nil =>
  go_enter Tryz.func163, Tryz.ntmps163
  go_wp2
  go_ret
  exact ⟨rfl, rfl⟩
 | cons c t =>
  have hbg := begins_any c
  obtain ⟨l, hl0⟩ : ∃ l, c :: t = l := ⟨_, rfl⟩
  have HI : Hid (isNameB l = (letter c && (decide (l.length ≤ 64) && (l.all inName && !isWord l)))) := Lib.hid (by rw [← hl0]; rfl)
  have hz : 0 < l.length := by rw [← hl0]; simp
  have hc0 : ∀ h : 0 < l.length, l[0] = c := by subst hl0; intro h; rfl
  have hc1 := hc0 hz
  have ne1 : l.isEmpty = false := by rw [← hl0]; rfl
  have ne2 : (l == []) = false := by rw [← hl0]; rfl
  have ne3 : (l != []) = true := by rw [← hl0]; rfl
  have hru := run_name l (by rw [← hl0]; omega)
  have hfu := run_full inName l
  have hwo := word_any l (by rw [← hl0]; omega) m w hm
  rw [hl0] at hl ⊢
  clear hl0 hc0 hm
  generalize run inName l = n at *
  cases ha : letter c with
  | false =>
   rw [ha] at hbg HI
   have HE : Hid (isNameB l = false) := Lib.hid (by rw [HI.out]; rfl)
   clear ha hfu
   go_enter Tryz.func163, Tryz.ntmps163
   go_wp2_with fail
   refine (hbg _).mono ?_
   rintro e1 w1 ⟨rfl, rfl⟩
   go_wp2
   go_ret
   exact ⟨ret_b HE.out.symm, rfl⟩
  | true =>
   rw [ha] at hbg HI
   clear ha
   by_cases h64 : l.length ≤ 64
   ·have d1 : decide (l.length ≤ 64) = true := by simpa using h64
    have d2 : decide ((l.length : Int) ≤ 64) = true := by rw [decide_eq_true_eq]; omega
    cases hall : l.all inName with
    | false =>
     rw [hall] at hfu
     have HE : Hid (isNameB l = false) := Lib.hid (by rw [HI.out, d1, hall]; rfl)
     clear hall
     go_enter Tryz.func163, Tryz.ntmps163
     go_wp2_with fail
     refine (hbg _).mono ?_
     rintro e1 w1 ⟨rfl, rfl⟩
     go_wp2_with fail
     refine (hru _).mono ?_
     rintro e2 w2 ⟨rfl, rfl⟩
     go_wp2
     go_ret
     exact ⟨ret_b HE.out.symm, rfl⟩
    | true =>
     rw [hall] at hfu
     cases hw : isWord l with
     | false =>
      rw [hw] at hwo
      have HE : Hid (isNameB l = true) := Lib.hid (by rw [HI.out, d1, hall, hw]; rfl)
      clear hall hw
      go_enter Tryz.func163, Tryz.ntmps163
      go_wp2_with fail
      refine (hbg _).mono ?_
      rintro e1 w1 ⟨rfl, rfl⟩
      go_wp2_with fail
      refine (hru _).mono ?_
      rintro e2 w2 ⟨rfl, rfl⟩
      go_wp2_with fail
      refine hwo.mono ?_
      rintro e3 w3 ⟨rfl, rfl⟩
      go_wp2
      go_ret
      exact ⟨ret_b HE.out.symm, rfl⟩
     | true =>
      rw [hw] at hwo
      have HE : Hid (isNameB l = false) := Lib.hid (by rw [HI.out, d1, hall, hw]; rfl)
      clear hall hw
      go_enter Tryz.func163, Tryz.ntmps163
      go_wp2_with fail
      refine (hbg _).mono ?_
      rintro e1 w1 ⟨rfl, rfl⟩
      go_wp2_with fail
      refine (hru _).mono ?_
      rintro e2 w2 ⟨rfl, rfl⟩
      go_wp2_with fail
      refine hwo.mono ?_
      rintro e3 w3 ⟨rfl, rfl⟩
      go_wp2
      go_ret
      exact ⟨ret_b HE.out.symm, rfl⟩
   ·have d1 : decide (l.length ≤ 64) = false := by simpa using h64
    have d2 : decide ((l.length : Int) ≤ 64) = false := by rw [decide_eq_false_iff_not]; omega
    have HE : Hid (isNameB l = false) := Lib.hid (by rw [HI.out, d1]; rfl)
    clear hfu
    go_enter Tryz.func163, Tryz.ntmps163
    go_wp2_with fail
    refine (hbg _).mono ?_
    rintro e1 w1 ⟨rfl, rfl⟩
    go_wp2
    go_ret
    exact ⟨ret_b HE.out.symm, rfl⟩
set_option maxHeartbeats 1000000 in
theorem isSign_any (l : Bytes) (hl : l.length ≤ 6000000) (w : World) (hg : w.rangeAt 3 0 signCells) : Calls Tryz.prog 165 #[.string (bs l)] w fun e w' => e = .returned (.bool (isSignB l)) ∧ ∃ n, w' = w.drewN n := by
 cases l with
 | nil =>
  go_enter Tryz.func165, Tryz.ntmps165
  go_wp2
  go_ret
  exact ⟨rfl, 0, rfl⟩
 | cons c t =>
  have hsg := sign_any (c :: t) hl w hg
  obtain ⟨l, hl0⟩ : ∃ l, c :: t = l := ⟨_, rfl⟩
  have ne1 : l.isEmpty = false := by rw [← hl0]; rfl
  have ne2 : (l == []) = false := by rw [← hl0]; rfl
  have ne3 : (l != []) = true := by rw [← hl0]; rfl
  have HI : Hid (isSignB l = (signS l == l)) := Lib.hid (by unfold isSignB; rw [ne1]; rfl)
  rw [hl0] at hl hsg ⊢
  clear hl0 hg
  generalize signS l = g at *
  go_enter Tryz.func165, Tryz.ntmps165
  go_wp2_with fail
  refine hsg.mono ?_
  rintro e1 w1 ⟨rfl, n, rfl⟩
  go_wp2
  go_ret
  exact ⟨ret_b HI.out.symm, n, rfl⟩
end Go.Proofs.YtiipjbafdhijlaaGreatDoor
namespace Go.Proofs.YtiipjbafdhijlaaGreatDoor
open Go Go.RowKit
set_option linter.unusedVariables false
open Go.Sort
/-- May a token be, wherever it stands? -/
def mayB (k : Int) (s : Bytes) (W : Int) (V : Nat) : Bool :=
 if k = 1 then ((W == 0) && ((V : Int) == 0)) && isNameB s
 else if k = 2 then ((W == 0) && ((V : Int) == 0)) && isWord s
 else if k = 4 then ((W == 0) && ((V : Int) == 0)) && isSignB s
 else if k = 3 then s.isEmpty && ((W == 0) || holdsI W V)
 else false
set_option maxHeartbeats 8000000 in
theorem mayBe_any (k : Int) (s : Bytes) (W : Int) (V : Nat) (at0 : Int) (hs : s.length ≤ 6000000) (hV : V < 18446744073709551616) (w : World) (he : Env w) : Calls Tryz.prog 155 #[.agg #[.int .i64 k, .string (bs s), .int .i64 W, .int .u64 (V : Int), .int .i64 at0]] w fun e w' => e = .returned (.bool (mayB k s W V)) ∧ Below w.heap.size w w' := by
 have hho := holds_any W V hV
 have HV := Lib.hid hV
 clear hV
 have hea := he.alloc (.cells #[.int .i64 k, .string (bs s), .int .i64 W, .int .u64 (V : Int), .int .i64 at0] 168)
 obtain ⟨m, hm⟩ := hea.most
 have hg := hea.signs
 have hna := fun (w : World) hm => isName_any s hs m w hm
 have hwo := fun (w : World) hm => word_any s hs m w hm
 have hsi := fun (w : World) hg => isSign_any s hs w hg
 have HM := Lib.hid hm
 have HG := Lib.hid hg
 have HI : Hid (mayB k s W V = if k = 1 then ((W == 0) && ((V : Int) == 0)) && isNameB s else if k = 2 then ((W == 0) && ((V : Int) == 0)) && isWord s else if k = 4 then ((W == 0) && ((V : Int) == 0)) && isSignB s else if k = 3 then s.isEmpty && ((W == 0) || holdsI W V) else false) := Lib.hid rfl
 generalize isNameB s = bn at *
 generalize isWord s = bw at *
 generalize isSignB s = bg at *
 generalize holdsI W V = bh at *
 generalize mayB k s W V = R at *
 clear hm hg hea he
 by_cases k1 : k = 1
 ·skip
  subst k1
  cases cW : (W == 0) with
  | true =>
   cases cV : ((V : Int) == 0) with
   | true =>
    have HE : Hid (R = bn) := Lib.hid (by rw [HI.out]; simp [*])
    clear hho
    go_enter Tryz.func155, Tryz.ntmps155
    go_wp2_with fail
    refine (hna _ HM.out).mono ?_
    rintro e1 w1 ⟨rfl, rfl⟩
    go_wp2
    go_ret
    exact ⟨ret_b HE.out.symm, (Below.refl _ _).alloc (Nat.le_refl _) _⟩
   | false =>
    have HE : Hid (R = false) := Lib.hid (by rw [HI.out]; simp [*])
    clear hho
    go_enter Tryz.func155, Tryz.ntmps155
    go_wp2
    go_ret
    exact ⟨ret_b HE.out.symm, (Below.refl _ _).alloc (Nat.le_refl _) _⟩
  | false =>
   have HE : Hid (R = false) := Lib.hid (by rw [HI.out]; simp [*])
   clear hho
   go_enter Tryz.func155, Tryz.ntmps155
   go_wp2
   go_ret
   exact ⟨ret_b HE.out.symm, (Below.refl _ _).alloc (Nat.le_refl _) _⟩
 ·skip
  have n1 : (k == 1) = false := by rw [beq_eq_false_iff_ne]; exact k1
  by_cases k2 : k = 2
  ·skip
   subst k2
   cases cW : (W == 0) with
   | true =>
    cases cV : ((V : Int) == 0) with
    | true =>
     have HE : Hid (R = bw) := Lib.hid (by rw [HI.out]; simp [*])
     clear hho
     go_enter Tryz.func155, Tryz.ntmps155
     go_wp2_with fail
     refine (hwo _ HM.out).mono ?_
     rintro e1 w1 ⟨rfl, rfl⟩
     go_wp2
     go_ret
     exact ⟨ret_b HE.out.symm, (Below.refl _ _).alloc (Nat.le_refl _) _⟩
    | false =>
     have HE : Hid (R = false) := Lib.hid (by rw [HI.out]; simp [*])
     clear hho
     go_enter Tryz.func155, Tryz.ntmps155
     go_wp2
     go_ret
     exact ⟨ret_b HE.out.symm, (Below.refl _ _).alloc (Nat.le_refl _) _⟩
   | false =>
    have HE : Hid (R = false) := Lib.hid (by rw [HI.out]; simp [*])
    clear hho
    go_enter Tryz.func155, Tryz.ntmps155
    go_wp2
    go_ret
    exact ⟨ret_b HE.out.symm, (Below.refl _ _).alloc (Nat.le_refl _) _⟩
  ·skip
   have n2 : (k == 2) = false := by rw [beq_eq_false_iff_ne]; exact k2
   by_cases k4 : k = 4
   ·skip
    subst k4
    cases cW : (W == 0) with
    | true =>
     cases cV : ((V : Int) == 0) with
     | true =>
      have HE : Hid (R = bg) := Lib.hid (by rw [HI.out]; simp [*])
      clear hho
      go_enter Tryz.func155, Tryz.ntmps155
      go_wp2_with fail
      refine (hsi _ HG.out).mono ?_
      rintro e1 w1 ⟨rfl, n, rfl⟩
      go_wp2
      go_ret
      exact ⟨ret_b HE.out.symm, below_drewN ((Below.refl _ _).alloc (Nat.le_refl _) _) _⟩
     | false =>
      have HE : Hid (R = false) := Lib.hid (by rw [HI.out]; simp [*])
      clear hho
      go_enter Tryz.func155, Tryz.ntmps155
      go_wp2
      go_ret
      exact ⟨ret_b HE.out.symm, (Below.refl _ _).alloc (Nat.le_refl _) _⟩
    | false =>
     have HE : Hid (R = false) := Lib.hid (by rw [HI.out]; simp [*])
     clear hho
     go_enter Tryz.func155, Tryz.ntmps155
     go_wp2
     go_ret
     exact ⟨ret_b HE.out.symm, (Below.refl _ _).alloc (Nat.le_refl _) _⟩
   ·skip
    have n4 : (k == 4) = false := by rw [beq_eq_false_iff_ne]; exact k4
    by_cases k3 : k = 3
    ·skip
     subst k3
     cases cS : s.isEmpty with
     | true =>
      have eS : s = [] := by simpa using cS
      subst eS
      cases cW : (W == 0) with
      | true =>
       cases cV : ((V : Int) == 0) with
       | true =>
        have HE : Hid (R = true) := Lib.hid (by rw [HI.out]; simp [*])
        clear hho
        go_enter Tryz.func155, Tryz.ntmps155
        go_wp2
        go_ret
        exact ⟨ret_b HE.out.symm, (Below.refl _ _).alloc (Nat.le_refl _) _⟩
       | false =>
        have HE : Hid (R = true) := Lib.hid (by rw [HI.out]; simp [*])
        clear hho
        go_enter Tryz.func155, Tryz.ntmps155
        go_wp2
        go_ret
        exact ⟨ret_b HE.out.symm, (Below.refl _ _).alloc (Nat.le_refl _) _⟩
      | false =>
       have HE : Hid (R = bh) := Lib.hid (by rw [HI.out]; simp [*])
       skip
       go_enter Tryz.func155, Tryz.ntmps155
       go_wp2_with fail
       refine (hho _).mono ?_
       rintro e1 w1 ⟨rfl, rfl⟩
       go_wp2
       go_ret
       exact ⟨ret_b HE.out.symm, (Below.refl _ _).alloc (Nat.le_refl _) _⟩
     | false =>
      have eS : (s == []) = false := by cases s <;> simp_all
      cases cW : (W == 0) with
      | true =>
       cases cV : ((V : Int) == 0) with
       | true =>
        have HE : Hid (R = false) := Lib.hid (by rw [HI.out]; simp [*])
        clear hho
        go_enter Tryz.func155, Tryz.ntmps155
        go_wp2
        go_ret
        exact ⟨ret_b HE.out.symm, (Below.refl _ _).alloc (Nat.le_refl _) _⟩
       | false =>
        have HE : Hid (R = false) := Lib.hid (by rw [HI.out]; simp [*])
        clear hho
        go_enter Tryz.func155, Tryz.ntmps155
        go_wp2
        go_ret
        exact ⟨ret_b HE.out.symm, (Below.refl _ _).alloc (Nat.le_refl _) _⟩
      | false =>
       have HE : Hid (R = false) := Lib.hid (by rw [HI.out]; simp [*])
       clear hho
       go_enter Tryz.func155, Tryz.ntmps155
       go_wp2
       go_ret
       exact ⟨ret_b HE.out.symm, (Below.refl _ _).alloc (Nat.le_refl _) _⟩
    ·skip
     have n3 : (k == 3) = false := by rw [beq_eq_false_iff_ne]; exact k3
     cases cW : (W == 0) with
     | true =>
      cases cV : ((V : Int) == 0) with
      | true =>
       have HE : Hid (R = false) := Lib.hid (by rw [HI.out]; simp [*])
       clear hho
       go_enter Tryz.func155, Tryz.ntmps155
       go_wp2
       go_ret
       exact ⟨ret_b HE.out.symm, (Below.refl _ _).alloc (Nat.le_refl _) _⟩
      | false =>
       have HE : Hid (R = false) := Lib.hid (by rw [HI.out]; simp [*])
       clear hho
       go_enter Tryz.func155, Tryz.ntmps155
       go_wp2
       go_ret
       exact ⟨ret_b HE.out.symm, (Below.refl _ _).alloc (Nat.le_refl _) _⟩
     | false =>
      have HE : Hid (R = false) := Lib.hid (by rw [HI.out]; simp [*])
      clear hho
      go_enter Tryz.func155, Tryz.ntmps155
      go_wp2
      go_ret
      exact ⟨ret_b HE.out.symm, (Below.refl _ _).alloc (Nat.le_refl _) _⟩
/-- Whether a token may be: an error's number. -/
def checkS (k : Int) (s : Bytes) (W : Int) (V : Nat) (at0 : Int) : Int := if decide (at0 < 0) || !mayB k s W V then 1 else 0
set_option maxHeartbeats 2000000 in
theorem check_any (k : Int) (s : Bytes) (W : Int) (V : Nat) (at0 : Int) (hs : s.length ≤ 6000000) (hV : V < 18446744073709551616) (w : World) (he : Env w) : Calls Tryz.prog 135 #[.agg #[.int .i64 k, .string (bs s), .int .i64 W, .int .u64 (V : Int), .int .i64 at0]] w fun e w' => e = .returned (.int .i64 (checkS k s W V at0)) ∧ Below w.heap.size w w' := by
 have hmb := mayBe_any k s W V at0 hs hV _ (he.alloc (.cells #[.int .i64 k, .string (bs s), .int .i64 W, .int .u64 (V : Int), .int .i64 at0] 168))
 have HI : Hid (checkS k s W V at0 = if decide (at0 < 0) || !mayB k s W V then 1 else 0) := Lib.hid rfl
 have HV := Lib.hid hV
 clear hV he
 generalize mayB k s W V = b at *
 generalize checkS k s W V at0 = R at *
 by_cases h0 : at0 < 0
 ·have d0 : decide (at0 < 0) = true := by simpa using h0
  have HE : Hid (R = 1) := Lib.hid (by rw [HI.out, d0]; rfl)
  clear hmb
  go_enter Tryz.func135, Tryz.ntmps135
  go_wp2
  go_ret
  exact ⟨ret_n HE.out.symm, (Below.refl _ _).alloc (Nat.le_refl _) _⟩
 ·have d0 : decide (at0 < 0) = false := by simpa using h0
  cases b with
  | true =>
   have HE : Hid (R = 0) := Lib.hid (by rw [HI.out, d0]; rfl)
   go_enter Tryz.func135, Tryz.ntmps135
   go_wp2_with fail
   refine hmb.mono ?_
   rintro e1 w1 ⟨rfl, hb⟩
   go_wp2
   go_ret
   exact ⟨ret_n HE.out.symm, ((Below.refl _ _).alloc (Nat.le_refl _) _).trans (hb.mono (by simp))⟩
  | false =>
   have HE : Hid (R = 1) := Lib.hid (by rw [HI.out, d0]; rfl)
   go_enter Tryz.func135, Tryz.ntmps135
   go_wp2_with fail
   refine hmb.mono ?_
   rintro e1 w1 ⟨rfl, hb⟩
   go_wp2
   go_ret
   exact ⟨ret_n HE.out.symm, ((Below.refl _ _).alloc (Nat.le_refl _) _).trans (hb.mono (by simp))⟩
end Go.Proofs.YtiipjbafdhijlaaGreatDoor
