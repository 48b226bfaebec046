/-
  Contract: sign.
-/
import Derived.Test.YtiipjbafdhijlaaGreatDoorScX
import Derived.Test.YtiipjbafdhijlaaGreatDoorScG
import Derived.Deep.MidRow
import Derived.Deep.LoopGhost
import Derived.WalkMore
namespace Go.Proofs.YtiipjbafdhijlaaGreatDoor
open Go Go.RowKit
set_option linter.unusedVariables false

def sg (k : Nat) : Bytes := signList.getD k []
def signCells : List Value := signList.map fun s => Value.string (bs s)
/-- The longest sign that a text begins with; or none. -/
def signS (l : Bytes) : Bytes := (signList.find? fun s => s.isPrefixOf l).getD []
def NoneTo (l : Bytes) (k : Nat) : Prop := ∀ j, j < k → (sg j).isPrefixOf l = false
theorem noneTo_succ {l : Bytes} {k : Nat} (h : NoneTo l k) (h2 : (sg k).isPrefixOf l = false) : NoneTo l (k + 1) := fun j hj => by
  by_cases e : j = k
  · rw [e]; exact h2
  · exact h j (by omega)
theorem sg_at (k : Nat) (hk : k < 31) : signList[k]? = some (sg k) := by
  have : signList.length = 31 := by decide
  unfold sg
  rw [List.getD_eq_getElem?_getD, List.getElem?_eq_getElem (by omega)]
  rfl
theorem signS_found {l : Bytes} {k : Nat} (hk : k < 31) (h : NoneTo l k) (h2 : (sg k).isPrefixOf l = true) : signS l = sg k := by
  have hl : signList.length = 31 := by decide
  have : signList.find? (fun s => s.isPrefixOf l) = some (sg k) := by
    rw [List.find?_eq_some_iff_getElem]
    refine ⟨h2, k, by omega, ?_, fun j hj => ?_⟩
    · have := sg_at k hk
      rw [List.getElem?_eq_getElem (by omega)] at this
      exact Option.some.inj this
    · have h3 := h j hj
      have := sg_at j (by omega)
      rw [List.getElem?_eq_getElem (by omega)] at this
      rw [Option.some.inj this, h3]; rfl
  unfold signS
  rw [this]; rfl
theorem signS_none {l : Bytes} (h : NoneTo l 31) : signS l = [] := by
  have hl : signList.length = 31 := by decide
  have : signList.find? (fun s => s.isPrefixOf l) = none := by
    rw [List.find?_eq_none]
    intro s hs
    obtain ⟨j, hj, rfl⟩ := List.getElem_of_mem hs
    have h3 := h j (by omega)
    have := sg_at j (by omega)
    rw [List.getElem?_eq_getElem (by omega)] at this
    rw [Option.some.inj this, h3]; decide
  unfold signS
  rw [this]; rfl
theorem sg_len (k : Nat) (hk : k < 31) : 1 ≤ (sg k).length ∧ (sg k).length ≤ 2 := by
  have : ∀ k : Fin 31, 1 ≤ (sg k.val).length ∧ (sg k.val).length ≤ 2 := by decide
  exact this ⟨k, hk⟩
theorem idx0 (w : World) : (Instr.index 204 (.agg signCells.toArray) (.int .i64 ((0 : Nat) : Int))).run Tryz.prog w = .ok (.string (bs (sg 0))) w := by kernel_rfl
theorem idx1 (w : World) : (Instr.index 204 (.agg signCells.toArray) (.int .i64 ((1 : Nat) : Int))).run Tryz.prog w = .ok (.string (bs (sg 1))) w := by kernel_rfl
theorem idx2 (w : World) : (Instr.index 204 (.agg signCells.toArray) (.int .i64 ((2 : Nat) : Int))).run Tryz.prog w = .ok (.string (bs (sg 2))) w := by kernel_rfl
theorem idx3 (w : World) : (Instr.index 204 (.agg signCells.toArray) (.int .i64 ((3 : Nat) : Int))).run Tryz.prog w = .ok (.string (bs (sg 3))) w := by kernel_rfl
theorem idx4 (w : World) : (Instr.index 204 (.agg signCells.toArray) (.int .i64 ((4 : Nat) : Int))).run Tryz.prog w = .ok (.string (bs (sg 4))) w := by kernel_rfl
theorem idx5 (w : World) : (Instr.index 204 (.agg signCells.toArray) (.int .i64 ((5 : Nat) : Int))).run Tryz.prog w = .ok (.string (bs (sg 5))) w := by kernel_rfl
theorem idx6 (w : World) : (Instr.index 204 (.agg signCells.toArray) (.int .i64 ((6 : Nat) : Int))).run Tryz.prog w = .ok (.string (bs (sg 6))) w := by kernel_rfl
theorem idx7 (w : World) : (Instr.index 204 (.agg signCells.toArray) (.int .i64 ((7 : Nat) : Int))).run Tryz.prog w = .ok (.string (bs (sg 7))) w := by kernel_rfl
theorem idx8 (w : World) : (Instr.index 204 (.agg signCells.toArray) (.int .i64 ((8 : Nat) : Int))).run Tryz.prog w = .ok (.string (bs (sg 8))) w := by kernel_rfl
theorem idx9 (w : World) : (Instr.index 204 (.agg signCells.toArray) (.int .i64 ((9 : Nat) : Int))).run Tryz.prog w = .ok (.string (bs (sg 9))) w := by kernel_rfl
theorem idx10 (w : World) : (Instr.index 204 (.agg signCells.toArray) (.int .i64 ((10 : Nat) : Int))).run Tryz.prog w = .ok (.string (bs (sg 10))) w := by kernel_rfl
theorem idx11 (w : World) : (Instr.index 204 (.agg signCells.toArray) (.int .i64 ((11 : Nat) : Int))).run Tryz.prog w = .ok (.string (bs (sg 11))) w := by kernel_rfl
theorem idx12 (w : World) : (Instr.index 204 (.agg signCells.toArray) (.int .i64 ((12 : Nat) : Int))).run Tryz.prog w = .ok (.string (bs (sg 12))) w := by kernel_rfl
theorem idx13 (w : World) : (Instr.index 204 (.agg signCells.toArray) (.int .i64 ((13 : Nat) : Int))).run Tryz.prog w = .ok (.string (bs (sg 13))) w := by kernel_rfl
theorem idx14 (w : World) : (Instr.index 204 (.agg signCells.toArray) (.int .i64 ((14 : Nat) : Int))).run Tryz.prog w = .ok (.string (bs (sg 14))) w := by kernel_rfl
theorem idx15 (w : World) : (Instr.index 204 (.agg signCells.toArray) (.int .i64 ((15 : Nat) : Int))).run Tryz.prog w = .ok (.string (bs (sg 15))) w := by kernel_rfl
theorem idx16 (w : World) : (Instr.index 204 (.agg signCells.toArray) (.int .i64 ((16 : Nat) : Int))).run Tryz.prog w = .ok (.string (bs (sg 16))) w := by kernel_rfl
theorem idx17 (w : World) : (Instr.index 204 (.agg signCells.toArray) (.int .i64 ((17 : Nat) : Int))).run Tryz.prog w = .ok (.string (bs (sg 17))) w := by kernel_rfl
theorem idx18 (w : World) : (Instr.index 204 (.agg signCells.toArray) (.int .i64 ((18 : Nat) : Int))).run Tryz.prog w = .ok (.string (bs (sg 18))) w := by kernel_rfl
theorem idx19 (w : World) : (Instr.index 204 (.agg signCells.toArray) (.int .i64 ((19 : Nat) : Int))).run Tryz.prog w = .ok (.string (bs (sg 19))) w := by kernel_rfl
theorem idx20 (w : World) : (Instr.index 204 (.agg signCells.toArray) (.int .i64 ((20 : Nat) : Int))).run Tryz.prog w = .ok (.string (bs (sg 20))) w := by kernel_rfl
theorem idx21 (w : World) : (Instr.index 204 (.agg signCells.toArray) (.int .i64 ((21 : Nat) : Int))).run Tryz.prog w = .ok (.string (bs (sg 21))) w := by kernel_rfl
theorem idx22 (w : World) : (Instr.index 204 (.agg signCells.toArray) (.int .i64 ((22 : Nat) : Int))).run Tryz.prog w = .ok (.string (bs (sg 22))) w := by kernel_rfl
theorem idx23 (w : World) : (Instr.index 204 (.agg signCells.toArray) (.int .i64 ((23 : Nat) : Int))).run Tryz.prog w = .ok (.string (bs (sg 23))) w := by kernel_rfl
theorem idx24 (w : World) : (Instr.index 204 (.agg signCells.toArray) (.int .i64 ((24 : Nat) : Int))).run Tryz.prog w = .ok (.string (bs (sg 24))) w := by kernel_rfl
theorem idx25 (w : World) : (Instr.index 204 (.agg signCells.toArray) (.int .i64 ((25 : Nat) : Int))).run Tryz.prog w = .ok (.string (bs (sg 25))) w := by kernel_rfl
theorem idx26 (w : World) : (Instr.index 204 (.agg signCells.toArray) (.int .i64 ((26 : Nat) : Int))).run Tryz.prog w = .ok (.string (bs (sg 26))) w := by kernel_rfl
theorem idx27 (w : World) : (Instr.index 204 (.agg signCells.toArray) (.int .i64 ((27 : Nat) : Int))).run Tryz.prog w = .ok (.string (bs (sg 27))) w := by kernel_rfl
theorem idx28 (w : World) : (Instr.index 204 (.agg signCells.toArray) (.int .i64 ((28 : Nat) : Int))).run Tryz.prog w = .ok (.string (bs (sg 28))) w := by kernel_rfl
theorem idx29 (w : World) : (Instr.index 204 (.agg signCells.toArray) (.int .i64 ((29 : Nat) : Int))).run Tryz.prog w = .ok (.string (bs (sg 29))) w := by kernel_rfl
theorem idx30 (w : World) : (Instr.index 204 (.agg signCells.toArray) (.int .i64 ((30 : Nat) : Int))).run Tryz.prog w = .ok (.string (bs (sg 30))) w := by kernel_rfl
theorem idx_sign (k : Nat) (hk : k < 31) (w : World) : (Instr.index 204 (.agg signCells.toArray) (.int .i64 (k : Int))).run Tryz.prog w = .ok (.string (bs (sg k))) w := by
  have : k = 0 ∨ k = 1 ∨ k = 2 ∨ k = 3 ∨ k = 4 ∨ k = 5 ∨ k = 6 ∨ k = 7 ∨ k = 8 ∨ k = 9 ∨ k = 10 ∨ k = 11 ∨ k = 12 ∨ k = 13 ∨ k = 14 ∨ k = 15 ∨ k = 16 ∨ k = 17 ∨ k = 18 ∨ k = 19 ∨ k = 20 ∨ k = 21 ∨ k = 22 ∨ k = 23 ∨ k = 24 ∨ k = 25 ∨ k = 26 ∨ k = 27 ∨ k = 28 ∨ k = 29 ∨ k = 30 := by omega
  rcases this with rfl | rfl | rfl | rfl | rfl | rfl | rfl | rfl | rfl | rfl | rfl | rfl | rfl | rfl | rfl | rfl | rfl | rfl | rfl | rfl | rfl | rfl | rfl | rfl | rfl | rfl | rfl | rfl | rfl | rfl | rfl
  · exact idx0 w
  · exact idx1 w
  · exact idx2 w
  · exact idx3 w
  · exact idx4 w
  · exact idx5 w
  · exact idx6 w
  · exact idx7 w
  · exact idx8 w
  · exact idx9 w
  · exact idx10 w
  · exact idx11 w
  · exact idx12 w
  · exact idx13 w
  · exact idx14 w
  · exact idx15 w
  · exact idx16 w
  · exact idx17 w
  · exact idx18 w
  · exact idx19 w
  · exact idx20 w
  · exact idx21 w
  · exact idx22 w
  · exact idx23 w
  · exact idx24 w
  · exact idx25 w
  · exact idx26 w
  · exact idx27 w
  · exact idx28 w
  · exact idx29 w
  · exact idx30 w
theorem take_eq_step {s l : Bytes} {j : Nat} (hs : j < s.length) (hl : j < l.length) (h : s.take j = l.take j) (he : s[j] = l[j]) : s.take (j + 1) = l.take (j + 1) := by
  rw [List.take_succ_eq_append_getElem hs, List.take_succ_eq_append_getElem hl, h, he]
theorem prefix_of_take {s l : Bytes} (hl : s.length ≤ l.length) (h : s.take s.length = l.take s.length) : s.isPrefixOf l = true := by
  rw [List.take_length] at h
  rw [List.isPrefixOf_iff_prefix, List.prefix_iff_eq_take]; exact h
theorem not_prefix_at {s l : Bytes} {j : Nat} (hs : j < s.length) (hl : j < l.length) (he : s[j] ≠ l[j]) : s.isPrefixOf l = false := by
  rw [Bool.eq_false_iff]
  intro h
  rw [List.isPrefixOf_iff_prefix] at h
  obtain ⟨t, rfl⟩ := h
  exact he (by rw [List.getElem_append_left hs])

set_option maxHeartbeats 4000000 in
theorem sign_any (l : Bytes) (hl : l.length ≤ 6000000) (w : World) (hg : w.rangeAt 3 0 signCells) : Calls Tryz.prog 175 #[.string (bs l)] w fun e w' => e = .returned (.string (bs (signS l))) ∧ ∃ m, w' = w.drewN m := by
  go_enter Tryz.func175, Tryz.ntmps175
  go_wp2
  go_step3
  go_wp2
  go_step3
  go_wp2_with (refine wpList_load_mid rfl 204 (.global 3) rfl 3 0 rfl signCells _ hg Tryz.underlying204 rfl (by kernel_rfl) ?_)
  clear hg
  go_loopg [7] 31 (fun g u wx => ∃ k m : Nat, k + g = 31 ∧ u = .int .i64 k ∧ NoneTo l k ∧ wx = w.drewN m)
  case atStart => exact ⟨0, 0, by omega, rfl, fun j hj => by omega, rfl⟩
  case round =>
    obtain ⟨k, m, hkg, rfl, hno, rfl⟩ := hrel
    have HN := Lib.hid hno
    clear hno
    cases gk with
    | zero =>
      obtain rfl : k = 31 := by omega
      have HS := Lib.hid (signS_none HN.out)
      go_wp2
      try rw [Exit.noGoto_ret]
      go_ret
      exact ⟨by rw [HS.out]; rfl, _, rfl⟩
    | succ gg =>
      have hk : k < 31 := by omega
      obtain ⟨sl1, sl2⟩ := sg_len k hk
      have hix := idx_sign k hk
      obtain ⟨s, hs⟩ : ∃ s, sg k = s := ⟨_, rfl⟩
      rw [hs] at sl1 sl2 hix
      have HSG := Lib.hid hs
      clear hs
      by_cases hlen : l.length < s.length
      · have d1 : decide (l.length < s.length) = true := by simpa using hlen
        have HP : Hid ((sg k).isPrefixOf l = false) := Lib.hid (by rw [HSG.out]; exact prefix_not s l (by omega))
        go_wp2
        go_roundg gg
        case rel => exact ⟨k + 1, m, by omega, by go_num, noneTo_succ HN.out HP.out, rfl⟩
        case measure => omega
      · have d1 : decide (l.length < s.length) = false := by simpa using hlen
        go_wp2
        go_loopg [17] s.length (fun g u wx => ∃ j m2 : Nat, j + g = s.length ∧ u = .int .i64 j ∧ s.take j = l.take j ∧ wx = w.drewN m2)
        case atStart => exact ⟨0, m, by omega, rfl, by simp, rfl⟩
        case round =>
          obtain ⟨j, m2, hjg, rfl, hta, rfl⟩ := hrel
          have HT := Lib.hid hta
          clear hta
          cases gk with
          | zero =>
            obtain rfl : j = s.length := by omega
            have HP : Hid ((sg k).isPrefixOf l = true) := Lib.hid (by rw [HSG.out]; exact prefix_of_take (by omega) HT.out)
            have HS : Hid (signS l = s) := Lib.hid (by rw [signS_found hk HN.out HP.out, HSG.out])
            go_wp2
            try rw [Exit.noGoto_ret]
            go_ret
            exact ⟨by rw [HS.out]; rfl, _, rfl⟩
          | succ gi =>
            have hj : j < s.length := by omega
            have hjl : j < l.length := by omega
            by_cases he : s[j] = l[j]
            · have en : ((l[j].toNat : Int) != (s[j].toNat : Int)) = false := by rw [he]; simp
              have HE := Lib.hid he
              clear he
              go_wp2
              go_quiet (fail)
              go_wp2
              go_roundg gi
              case rel => exact ⟨j + 1, _, by omega, by go_num, take_eq_step hj hjl HT.out HE.out, rfl⟩
              case measure => omega
            · have en : ((l[j].toNat : Int) != (s[j].toNat : Int)) = true := by
                rw [bne_iff_ne]
                intro h
                exact he (UInt8.toNat_inj.1 (by omega))
              have HP : Hid ((sg k).isPrefixOf l = false) := Lib.hid (by rw [HSG.out]; exact not_prefix_at hj hjl he)
              clear he
              go_wp2
              go_quiet (fail)
              go_wp2
              go_roundg gg
              case rel => exact ⟨k + 1, _, by omega, by go_num, noneTo_succ HN.out HP.out, rfl⟩
              case measure => omega
end Go.Proofs.YtiipjbafdhijlaaGreatDoor
