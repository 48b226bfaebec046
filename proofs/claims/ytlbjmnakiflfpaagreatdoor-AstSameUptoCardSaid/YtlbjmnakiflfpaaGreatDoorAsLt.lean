/-
  live: its trees, and what is called of them.
-/
import Derived.Test.YtlbjmnakiflfpaaGreatDoorAsLa
import Derived.Test.YtlbjmnakiflfpaaGreatDoorAsLf
import Derived.Test.YtlbjmnakiflfpaaGreatDoorAsRf
namespace Go.Proofs.YtlbjmnakiflfpaaGreatDoor
open Go Go.RowKit
set_option linter.unusedVariables false
set_option linter.unusedSimpArgs false
open Go.Sort

theorem rowc_of {W : World} {b o : Nat} {t : TypeId} {all cs : List Value} (h : W.heap[b]? = some (.cells all.toArray t (0, 0))) (hs : (all.drop o).take cs.length = cs) : RowC W b o cs := by
  intro j v hv
  have hj : j < cs.length := by
    by_cases h1 : j < cs.length
    · exact h1
    · rw [List.getElem?_eq_none (by omega)] at hv; cases hv
  rw [← hs, List.getElem?_take_of_lt hj, List.getElem?_drop] at hv
  simp only [World.cell?, h]
  simpa using hv
theorem name_call (l : Bytes) (w : World) : Calls Tryz.prog 31 #[.string (bs l)] w fun e w' => e = .returned (.agg #[.int .i64 2, .string (bs l), .int .i64 0, .int .i64 0, .int .u64 0, .slice none 0 0]) ∧ Below w.heap.size w w' := name_any l w
/-- live's expression: its blocks are g and g + 1. -/
def lx (g : Nat) : XT := .mk 6 [] 14 0 0 (some ⟨g + 1, 0, none⟩) 2 [nameT [97], .mk 6 [] 16 0 0 (some ⟨g, 0, none⟩) 2 [.mk 1 [] 0 8 3 none 0 [], nameT [98]]]
/-- Its statement. -/
def ls (g ga : Nat) : ST := .mk 1 [] (some ⟨ga, 0, none⟩) 2 [nameT [121], lx g] none 0 []
/-- Its file. -/
def lf (g ga gs gi gm : Nat) : FT := ⟨some ⟨gm, 0, none⟩, 1, [⟨[109], none, 0, [], none, 0, [], some ⟨gi, 0, none⟩, 1, [.mk 5 [] [] none 0 [] (some ⟨gs, 0, none⟩) 1 [ls g ga] none 0 [] none 0 [] none 0 [] none 0 []]⟩]⟩
/-- An arm by itself. -/
def la : ST := .mk 4 [] none 0 [] none 0 []
theorem lx_in {W : World} {g n : Nat} (hn : g + 1 < n) (h1 : W.heap[g]? = some (.cells #[.int .i64 1, .string ⟨#[]⟩, .int .i64 0, .int .i64 8, .int .u64 3, .slice none 0 0, .int .i64 2, .string (bs [98]), .int .i64 0, .int .i64 0, .int .u64 0, .slice none 0 0] 25 (0, 0))) (h2 : W.heap[g + 1]? = some (.cells #[.int .i64 2, .string (bs [97]), .int .i64 0, .int .i64 0, .int .u64 0, .slice none 0 0, .int .i64 6, .string ⟨#[]⟩, .int .i64 16, .int .i64 0, .int .u64 0, .slice (some ⟨g, 0, none⟩) 2 2] 25 (0, 0))) : (lx g).In n W := by
  rw [lx, XT.In_mk]
  refine ⟨⟨g + 1, 0, rfl, by omega, rowc_of (o := 0) h2 rfl⟩, nameT_in _ _ _, ⟨g + 1, 6, rfl, by omega, rowc_of (o := 6) h2 rfl⟩, ?_, trivial⟩
  rw [XT.In_mk]
  refine ⟨⟨g, 0, rfl, by omega, rowc_of (o := 0) h1 rfl⟩, ?_, ⟨g, 6, rfl, by omega, rowc_of (o := 6) h1 rfl⟩, nameT_in _ _ _, trivial⟩
  rw [XT.In_mk]
  trivial
theorem ls_in {W : World} {g ga n : Nat} (hx : (lx g).In n W) (hn : ga < n) (h : W.heap[ga]? = some (.cells #[.int .i64 2, .string (bs [121]), .int .i64 0, .int .i64 0, .int .u64 0, .slice none 0 0, .int .i64 6, .string ⟨#[]⟩, .int .i64 14, .int .i64 0, .int .u64 0, .slice (some ⟨g + 1, 0, none⟩) 2 2] 25 (0, 0))) : (ls g ga).In n W := by
  rw [ls, ST.In_mk]
  exact ⟨⟨⟨ga, 0, rfl, hn, rowc_of (o := 0) h rfl⟩, nameT_in _ _ _, ⟨ga, 6, rfl, hn, rowc_of (o := 6) h rfl⟩, hx, trivial⟩, trivial⟩
theorem lf_in {W : World} {g ga gs gi gm n : Nat} (hs : (ls g ga).In n W) (h1 : gs < n) (h2 : gi < n) (h3 : gm < n) (b1 : W.heap[gs]? = some (.cells #[.int .i64 1, .string ⟨#[]⟩, .slice (some ⟨ga, 0, none⟩) 2 2, .slice none 0 0] 28 (0, 0))) (b2 : W.heap[gi]? = some (.cells #[.int .i64 5, .string ⟨#[]⟩, .string ⟨#[]⟩, .slice none 0 0, .slice (some ⟨gs, 0, none⟩) 1 1, .slice none 0 0, .slice none 0 0, .slice none 0 0, .slice none 0 0] 60 (0, 0))) (b3 : W.heap[gm]? = some (.cells #[.string ⟨#[109]⟩, .slice none 0 0, .slice none 0 0, .slice (some ⟨gi, 0, none⟩) 1 1] 63 (0, 0))) : (lf g ga gs gi gm).In n W := by
  refine ⟨⟨gm, 0, rfl, h3, rowc_of (o := 0) b3 rfl⟩, ⟨trivial, trivial, ⟨gi, 0, rfl, h2, rowc_of (o := 0) b2 rfl⟩, ?_, trivial⟩, trivial⟩
  rw [IT.In_mk]
  exact ⟨trivial, ⟨⟨gs, 0, rfl, h1, rowc_of (o := 0) b1 rfl⟩, hs, trivial⟩, trivial, trivial, trivial, trivial⟩
theorem la_in (n : Nat) (W : World) : la.In n W := by rw [la, ST.In_mk]; exact ⟨trivial, trivial⟩
theorem lx_wf (g : Nat) : (lx g).Wf := by simp [lx, XT.wf_mk, nameT]
theorem nameT_wf (l : Bytes) : (nameT l).Wf := by simp [nameT, XT.wf_mk]
theorem ls_wf (g ga : Nat) : (ls g ga).Wf := by simp [ls, ST.Wf, XT.WfL, ST.WfL, lx_wf, nameT_wf]
theorem la_wf : la.Wf := by simp [la, ST.Wf, XT.WfL, ST.WfL]
theorem lf_wf (g ga gs gi gm : Nat) : (lf g ga gs gi gm).Wf := by simp [lf, FT.Wf, MT.WfL, MT.Wf, BT.WfL, PT.WfL, IT.WfL, IT.Wf, XT.WfL, ST.WfL, ls_wf]
theorem lx_sz (g : Nat) : (lx g).sz = 5 := rfl
theorem lx_bk (g : Nat) : (lx g).bk = 7 := rfl
theorem ls_bk (g ga : Nat) : (ls g ga).bk = 10 := rfl
theorem lf_bk (g ga gs gi gm : Nat) : (lf g ga gs gi gm).bk = 14 := rfl
theorem lf_sz (g ga gs gi gm : Nat) : (lf g ga gs gi gm).sz = 9 := rfl
theorem lv_free {g : Nat} {W : World} {n : Nat} (hn : n ≤ W.heap.size) (he : EnvA W) (hx : (lx g).In n W) : Calls Tryz.prog 14 #[.agg #[.int .i64 6, .string ⟨#[]⟩, .int .i64 14, .int .i64 0, .int .u64 0, .slice (some ⟨g + 1, 0, none⟩) 2 2]] W (ToldN W [[97], [98]]) := free_any (lx g) (by rw [lx_bk]; omega) n W hn he hx
theorem lv_checkX {g : Nat} {W : World} {n : Nat} (hn : n ≤ W.heap.size) (he : EnvA W) (hx : (lx g).In n W) : Calls Tryz.prog 9 #[.agg #[.int .i64 6, .string ⟨#[]⟩, .int .i64 14, .int .i64 0, .int .u64 0, .slice (some ⟨g + 1, 0, none⟩) 2 2]] W fun e w' => e = .returned (.int .i64 0) ∧ Below W.heap.size W w' := by
  have h := checkX_any (lx g) (by rw [lx_bk]; omega) (lx_wf g) n W hn he hx
  rw [show checkX (lx g) = 0 from rfl] at h
  exact h
theorem lv_checkN {W : World} (he : EnvA W) : Calls Tryz.prog 9 #[.agg #[.int .i64 2, .string (bs [105, 102]), .int .i64 0, .int .i64 0, .int .u64 0, .slice none 0 0]] W fun e w' => e = .returned (.int .i64 1) ∧ Below W.heap.size W w' := by
  have h := checkX_any (nameT [105, 102]) (by decide) (nameT_wf _) W.heap.size W (Nat.le_refl _) he (nameT_in _ _ _)
  rw [show checkX (nameT [105, 102]) = 1 from rfl] at h
  exact h
theorem lv_checkS {g ga : Nat} {W : World} {n : Nat} (hn : n ≤ W.heap.size) (he : EnvA W) (hs : (ls g ga).In n W) : Calls Tryz.prog 11 #[.agg #[.int .i64 1, .string ⟨#[]⟩, .slice (some ⟨ga, 0, none⟩) 2 2, .slice none 0 0]] W fun e w' => e = .returned (.int .i64 0) ∧ Below W.heap.size W w' := by
  have h := checkS_any (ls g ga) (by rw [ls_bk]; omega) (ls_wf g ga) n W hn he hs
  rw [show checkSt (ls g ga) = 0 from rfl] at h
  exact h
theorem lv_checkA {W : World} (he : EnvA W) : Calls Tryz.prog 11 #[.agg #[.int .i64 4, .string ⟨#[]⟩, .slice none 0 0, .slice none 0 0]] W fun e w' => e = .returned (.int .i64 1) ∧ Below W.heap.size W w' := by
  have h := checkS_any la (by decide) la_wf W.heap.size W (Nat.le_refl _) he (la_in _ _)
  rw [show checkSt la = 1 from rfl] at h
  exact h
theorem lv_check {g ga gs gi gm : Nat} {W : World} {n : Nat} (hn : n ≤ W.heap.size) (he : EnvA W) (hf : (lf g ga gs gi gm).In n W) : Calls Tryz.prog 32 #[.agg #[.slice (some ⟨gm, 0, none⟩) 1 1]] W fun e w' => e = .returned (.int .i64 0) ∧ Below W.heap.size W w' := by
  have h := check_file_any (lf g ga gs gi gm) (by rw [lf_bk]; omega) (lf_wf _ _ _ _ _) n W hn he hf
  rw [show checkF (lf g ga gs gi gm) = 0 by kernel_rfl] at h
  exact h
theorem lv_size {g ga gs gi gm : Nat} {W : World} {n : Nat} (hn : n ≤ W.heap.size) (hf : (lf g ga gs gi gm).In n W) : Calls Tryz.prog 33 #[.agg #[.slice (some ⟨gm, 0, none⟩) 1 1]] W fun e w' => e = .returned (.int .i64 9) ∧ Below W.heap.size W w' := by
  have h := size_any (lf g ga gs gi gm) (by rw [lf_sz]; omega) n W hn hf
  rw [lf_sz] at h
  exact h
theorem lv_deep {g ga gs gi gm : Nat} {W : World} {n : Nat} (hn : n ≤ W.heap.size) (hf : (lf g ga gs gi gm).In n W) : Calls Tryz.prog 34 #[.agg #[.slice (some ⟨gm, 0, none⟩) 1 1]] W fun e w' => e = .returned (.int .i64 6) ∧ Below W.heap.size W w' := by
  have h := deep_any (lf g ga gs gi gm) (by rw [lf_sz]; omega) n W hn hf
  rw [show (lf g ga gs gi gm).dp = 6 by kernel_rfl] at h
  exact h
theorem lv_same {g ga gs gi gm : Nat} {W : World} {n : Nat} (hn : n ≤ W.heap.size) (hf : (lf g ga gs gi gm).In n W) : Calls Tryz.prog 17 #[.agg #[.slice (some ⟨gm, 0, none⟩) 1 1], .agg #[.slice (some ⟨gm, 0, none⟩) 1 1]] W fun e w' => e = .returned (.bool true) ∧ Below W.heap.size W w' := by
  have h := same_any (lf g ga gs gi gm) (lf g ga gs gi gm) (by rw [lf_bk]; omega) (by rw [lf_bk]; omega) n W hn hf hf
  rw [show sameF (lf g ga gs gi gm) (lf g ga gs gi gm) = true by simp [lf, sameF, eqList, sameM, sameI, sameIL, ls, sameS, sameSL, sameXL, sameX, lx, nameT]] at h
  exact h
theorem lv_sameX {g : Nat} {W : World} {n : Nat} (hn : n ≤ W.heap.size) (hx : (lx g).In n W) : Calls Tryz.prog 19 #[.agg #[.int .i64 6, .string ⟨#[]⟩, .int .i64 14, .int .i64 0, .int .u64 0, .slice (some ⟨g + 1, 0, none⟩) 2 2], .agg #[.int .i64 6, .string ⟨#[]⟩, .int .i64 14, .int .i64 0, .int .u64 0, .slice (some ⟨g + 1, 0, none⟩) 2 2]] W fun e w' => e = .returned (.bool true) ∧ Below W.heap.size W w' := by
  have h := sameX_any (lx g) (by rw [lx_bk]; omega) (lx g) (by rw [lx_bk]; omega) n W hn hx hx
  rw [show sameX (lx g) (lx g) = true from rfl] at h
  exact h
theorem lv_sameN {g : Nat} {W : World} {n : Nat} (hn : n ≤ W.heap.size) (hx : (lx g).In n W) : Calls Tryz.prog 19 #[.agg #[.int .i64 6, .string ⟨#[]⟩, .int .i64 14, .int .i64 0, .int .u64 0, .slice (some ⟨g + 1, 0, none⟩) 2 2], .agg #[.int .i64 2, .string (bs [97]), .int .i64 0, .int .i64 0, .int .u64 0, .slice none 0 0]] W fun e w' => e = .returned (.bool false) ∧ Below W.heap.size W w' := by
  have h := sameX_any (lx g) (by rw [lx_bk]; omega) (nameT [97]) (by decide) n W hn hx (nameT_in _ _ _)
  rw [show sameX (lx g) (nameT [97]) = false from rfl] at h
  exact h
theorem lv_sameS {g ga : Nat} {W : World} {n : Nat} (hn : n ≤ W.heap.size) (hs : (ls g ga).In n W) : Calls Tryz.prog 21 #[.agg #[.int .i64 1, .string ⟨#[]⟩, .slice (some ⟨ga, 0, none⟩) 2 2, .slice none 0 0], .agg #[.int .i64 1, .string ⟨#[]⟩, .slice (some ⟨ga, 0, none⟩) 2 2, .slice none 0 0]] W fun e w' => e = .returned (.bool true) ∧ Below W.heap.size W w' := by
  have h := sameS_any (ls g ga) (by rw [ls_bk]; omega) (ls g ga) (by rw [ls_bk]; omega) n W hn hs hs
  rw [show sameS (ls g ga) (ls g ga) = true from rfl] at h
  exact h
end Go.Proofs.YtlbjmnakiflfpaaGreatDoor
