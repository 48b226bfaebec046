/-
  Contracts: write.
-/
import Derived.Test.YtigdegjhajdmhaaDoorScAp
import Derived.Test.YtigdegjhajdmhaaDoorScMb
import Derived.Lib.AppendStr
import Derived.Lib.ItoaLen
namespace Go.Proofs.YtigdegjhajdmhaaDoor
open Go Go.RowKit
set_option linter.unusedVariables false
open Go.Sort

/-- A token, written. -/
def writeS (k : Int) (s : Bytes) (W : Int) (V : Nat) : Bytes :=
  if k = 3 then (if W = 0 then Lib.decDigits V else Lib.itoa W ++ [39, 104] ++ hexD V) else s
theorem str_cells (l : Bytes) : Lib.strCells (bs l) = Lib.byteCells l := by
  unfold Lib.strCells Lib.byteCells
  simp [bs]
theorem bs_sz (l : Bytes) : (bs l).size = l.length := by simp [bs, ByteArray.size]
theorem below_own {B n e size : Nat} {v : Value} {xs : List Value} {a w w' : World} (hb : Below B a w) (hown : w.ownsRow B e size v n xs) (hg : w.grownBy w' v.ownBlock) (hB : B ≤ w.heap.size) : Below B a w' := hb.grown hg hB (fun k hk => (hown.lt k hk).1)
theorem row_kept {B n e e2 size g : Nat} {v : Value} {xs : List Value} {w w' : World} {cs : Array Value} (hown : w.ownsRow B e size v n xs) (hg : w.grownBy w' v.ownBlock) (h : w.heap[g]? = some (.cells cs e2 (0, 0))) (hne : e2 ≠ e) : w'.heap[g]? = some (.cells cs e2 (0, 0)) := by
  have hlt : g < w.heap.size := by
    rcases Nat.lt_or_ge g w.heap.size with x | x
    · exact x
    · rw [Array.getElem?_eq_none x] at h; cases h
  rw [hg.block g hlt ?_]
  · exact h
  · intro hc
    rcases hown.2 with ⟨rfl, _⟩ | ⟨g2, cap, cur, rfl, _, h2, _⟩
    · simp [Value.ownBlock] at hc
    · simp [Value.ownBlock] at hc
      subst hc
      rw [h] at h2
      injection h2 with h3
      injection h3 with _ h4 _
      exact hne h4
set_option maxHeartbeats 4000000 in
set_option maxRecDepth 100000 in
theorem write_any (B n : Nat) (sv : Value) (xs : List Value) (k : Int) (s : Bytes) (W : Int) (V : Nat) (at0 : Int) (hs : s.length ≤ 70000) (hV : V < 18446744073709551616) (hW0 : 0 ≤ W) (hW1 : W ≤ 1000) (w : World) (hown : w.ownsRow B 5 1 sv n xs) (hBw : B ≤ w.heap.size) (hn : n ≤ 200000) (h4 : 4 < B) (ht : w.cell? ⟨4, 15, none⟩ = some (.int .u8 4)) (htab : Lib.TabBelow Tryd.prog B w "internal/strconv.uint64pow10" .u64 Lib.pow10Tab) :
    Calls Tryd.prog 17 #[sv, .agg #[.int .i64 k, .string (bs s), .int .i64 W, .int .u64 (V : Int), .int .i64 at0]] w fun e w' => ∃ v', e = .returned v' ∧ w'.ownsRow B 5 1 v' (n + (writeS k s W V).length) (xs ++ Lib.byteCells (writeS k s W V)) ∧ Below B w w' := by
  obtain ⟨i0, hi0, hz0, hz1, hz2⟩ := info_parts info_u8
  have hb1 : Below B w (w.alloc (.cells #[.int .i64 k, .string (bs s), .int .i64 W, .int .u64 (V : Int), .int .i64 at0] 32)) := (Below.refl _ _).alloc hBw _
  have own1 := hown.alloc (.cells #[.int .i64 k, .string (bs s), .int .i64 W, .int .u64 (V : Int), .int .i64 at0] 32)
  have tab1 := htab.on hb1
  have ht1 := alloc_cell ht (.cells #[.int .i64 k, .string (bs s), .int .i64 W, .int .u64 (V : Int), .int .i64 at0] 32)
  have hB1 : B ≤ (w.alloc (.cells #[.int .i64 k, .string (bs s), .int .i64 W, .int .u64 (V : Int), .int .i64 at0] 32)).heap.size := Nat.le_trans hBw hb1.size
  clear hown htab ht
  by_cases hk : k = 3
  · subst hk
    by_cases hW : W = 0
    · subst hW
      have e : writeS 3 s 0 V = Lib.decDigits V := by unfold writeS; rw [if_pos rfl, if_pos rfl]
      rw [e]
      have h10 := su10 B n V hV sv xs _ own1 hB1 (by omega) tab1.here
      have HV := Lib.hid hV
      clear hV
      go_enter Tryd.func17, Tryd.ntmps17
      go_wp2_with fail
      refine h10.mono ?_
      rintro e1 w1 ⟨v1, rfl, o1, b1⟩
      clear h10
      go_wp2
      go_ret
      exact ⟨v1, rfl, o1, hb1.trans b1⟩
    · have e : writeS 3 s W V = Lib.itoa W ++ [39, 104] ++ hexD V := by unfold writeS; rw [if_pos rfl, if_neg hW]
      rw [e]
      have hWn : (W == 0) = false := by rw [beq_eq_false_iff_ne]; exact hW
      have hai := Tryd.strconv_AppendInt_10 B n W (by omega) (by omega) sv xs _ own1 hB1 (by omega) tab1
      have hil := Lib.itoa_length_le W (by omega) (by omega)
      have HV := Lib.hid hV
      clear hV
      go_enter Tryd.func17, Tryd.ntmps17
      go_wp2_with fail
      refine hai.mono ?_
      rintro e1 w1 ⟨v1, rfl, o1, b1, ok1⟩
      have k1 : w1.heap[w.heap.size]? = some (.cells #[.int .i64 3, .string (bs s), .int .i64 W, .int .u64 (V : Int), .int .i64 at0] 32 (0, 0)) := ok1 _ _ (heap_alloc_new w _) (by simp) (by intro c fz h; injection h with _ h2 _; exact absurd h2 (by decide))
      clear hai own1 ok1
      have hB2 : B ≤ w1.heap.size := Nat.le_trans hB1 b1.size
      go_upto_region 7 with (at_builtin; go_loud (refine Lib.wpList_append_own_string _ rfl (.tmp 23) (.const (.string (bs [39, 104]))) 22 9 rfl B 5 i0 Tryd.underlying22 Tryd.underlying9 hi0 hz0 hz1 hz2 v1 (n + (Lib.itoa W).length) (xs ++ Lib.byteCells (Lib.itoa W)) rfl o1 (bs [39, 104]) rfl (by rw [bs_sz]; simp only [maxLen, List.length_cons, List.length_nil]; omega) (by rw [bs_sz]; simp only [List.length_cons, List.length_nil]; omega) hB2 ?_); intro v2 w2 o2 g2 _)
      have hb2 : Below B w1 w2 := below_own (Below.refl _ _) o1 g2 hB2
      have bb : RowKit.Below B (w.alloc (.cells #[.int .i64 3, .string (bs s), .int .i64 W, .int .u64 (V : Int), .int .i64 at0] 32)) w2 := b1.trans hb2
      have ht2 : w2.cell? ⟨4, 15, none⟩ = some (.int .u8 4) := by rw [bb.cell (p := ⟨4, 15, none⟩) h4]; exact ht1
      have h16 := su16 B (n + (Lib.itoa W).length + 2) V HV.out v2 (xs ++ Lib.byteCells (Lib.itoa W) ++ Lib.byteCells [39, 104]) w2 (by rw [← str_cells]; exact o2) (Nat.le_trans hB1 bb.size) (by omega) ht2
      have k2 : w2.heap[w.heap.size]? = some (.cells #[.int .i64 3, .string (bs s), .int .i64 W, .int .u64 (V : Int), .int .i64 at0] 32 (0, 0)) := row_kept o1 g2 k1 (by decide)
      have c2 : w2.cell? ⟨w.heap.size, 3, none⟩ = some (.int .u64 (V : Int)) := by rw [cell_of_row w2 w.heap.size 3 _ _ _ k2]; rfl
      clear o2 o1 g2 b1 k1 k2
      go_wp2_with fail
      refine h16.mono ?_
      rintro e3 w3 ⟨v3, rfl, o3, b3⟩
      clear h16
      go_wp2
      go_ret
      refine ⟨v3, rfl, ?_, hb1.trans (bb.trans b3)⟩
      have e1 : n + (Lib.itoa W ++ [39, 104] ++ hexD V).length = n + (Lib.itoa W).length + 2 + (hexD V).length := by simp only [List.length_append, List.length_cons, List.length_nil]; omega
      have e2 : xs ++ Lib.byteCells (Lib.itoa W ++ [39, 104] ++ hexD V) = xs ++ Lib.byteCells (Lib.itoa W) ++ Lib.byteCells [39, 104] ++ Lib.byteCells (hexD V) := by simp [Lib.byteCells]
      rw [e1, e2]
      exact o3
  · have e : writeS k s W V = s := by unfold writeS; rw [if_neg hk]
    rw [e]
    have hkn : (k == 3) = false := by rw [beq_eq_false_iff_ne]; exact hk
    have hkb : (k != 3) = true := by rw [bne_iff_ne]; exact hk
    go_enter Tryd.func17, Tryd.ntmps17
    go_wp2_with (at_builtin; go_loud (refine Lib.wpList_append_own_string _ rfl (.tmp 8) (.tmp 10) 22 9 rfl B 5 i0 Tryd.underlying22 Tryd.underlying9 hi0 hz0 hz1 hz2 sv n xs rfl own1 (bs s) rfl (by rw [bs_sz]; simp only [maxLen]; omega) (by rw [bs_sz]; omega) hB1 ?_); intro v2 w2 o2 g2 _)
    have hb2 := hb1.trans (below_own (Below.refl _ _) own1 g2 hB1)
    go_ret
    refine ⟨v2, rfl, ?_, hb2⟩
    rw [← str_cells, ← bs_sz]
    exact o2
end Go.Proofs.YtigdegjhajdmhaaDoor
