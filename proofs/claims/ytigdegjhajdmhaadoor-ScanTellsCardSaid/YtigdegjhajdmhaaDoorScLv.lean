/-
  The examples of the law.
-/
import Derived.Test.YtigdegjhajdmhaaDoorScEq
import Derived.Test.YtigdegjhajdmhaaDoorScEv
import Derived.Lib.SlBytesConst
import Derived.Lib.SmallJoins
import Derived.Lib.SlBytesRow
namespace Go.Proofs.YtigdegjhajdmhaaDoor
open Go Go.RowKit
set_option linter.unusedVariables false
set_option linter.unusedSimpArgs false
open Go.Sort

/-- A text laid in a new, marked row. -/
def rowOf (l : Bytes) : Array Value := (Lib.byteCells l).toArray
theorem rowOf_size (l : Bytes) : (rowOf l).size = l.length := by simp [rowOf, Lib.byteCells]
theorem row_bytes (w : World) (l : Bytes) (fr : Nat × Nat) : Lib.Bytes (w.alloc (.cells (rowOf l) 5 fr)) w.heap.size 0 (bs l) := by
  intro i h
  rw [World.cell?_alloc_mark]
  have hl : i < l.length := by simpa [bs, ByteArray.size] using h
  simp only [rowOf, Lib.byteCells, Nat.zero_add]
  rw [List.getElem?_toArray, List.getElem?_map, List.getElem?_eq_getElem hl]
  rfl
theorem row_conv (w : World) (l : Bytes) (fr : Nat × Nat) : (convert 22 9 (.slice (some ⟨w.heap.size, 0, none⟩) l.length l.length)).run Tryd.prog (w.alloc (.cells (rowOf l) 5 fr)) = .ok (.string (bs l)) (w.alloc (.cells (rowOf l) 5 fr)) := by
  have h := Lib.run_convert_whole (P := Tryd.prog) (w.alloc (.cells (rowOf l) 5 fr)) 22 5 9 Tryd.underlying22 Tryd.underlying5 Tryd.underlying9 w.heap.size 0 (bs l) (row_bytes w l fr) l.length
  rw [show (bs l).size = l.length by simp [bs, ByteArray.size]] at h
  exact h
theorem own_some {w : World} {B e size n : Nat} {v : Value} {xs : List Value} (h : w.ownsRow B e size v n xs) (hn : 0 < n) : ∃ g cap, v = .slice (some ⟨g, 0, none⟩) n cap := by
  rcases h.2 with ⟨_, h0⟩ | ⟨g, cap, _, hv, _⟩
  · omega
  · exact ⟨g, cap, hv⟩
def G5.cells (t : G5) : List Value := [.int .i64 t.k, .string (bs t.s), .int .i64 t.W, .int .u64 (t.V : Int), .int .i64 t.p]
def gCells (l : List G5) : List Value := l.flatMap G5.cells
theorem gCells_drop (t : G5) (l : List G5) (j : Nat) : (gCells (t :: l))[j + 5]? = (gCells l)[j]? := rfl
theorem lies_of {w : World} {b : Nat} : ∀ (l : List G5) (o : Nat), (∀ j u, (gCells l)[j]? = some u → w.cell? ⟨b, o + j, none⟩ = some u) → Lies w b o l
  | [], o, h => fun i hi => absurd hi (by simp)
  | t :: l, o, h => by
    intro i hi
    cases i with
    | zero =>
      simp only [Nat.zero_mul, Nat.add_zero]
      exact ⟨h 0 _ rfl, h 1 _ rfl, h 2 _ rfl, h 3 _ rfl, h 4 _ rfl⟩
    | succ i =>
      have := lies_of l (o + 5) (fun j u hj => by rw [show o + 5 + j = o + (j + 5) by omega]; exact h (j + 5) u (by rw [gCells_drop]; exact hj)) i (by simpa using hi)
      rw [show o + (i + 1) * 5 = o + 5 + i * 5 by omega]
      exact this
theorem Lies.on {w w' : World} {b o : Nat} {l : List G5} (h : Lies w b o l) (hk : ∀ f v, w.cell? ⟨b, f, none⟩ = some v → w'.cell? ⟨b, f, none⟩ = some v) : Lies w' b o l := fun i hi => by
  obtain ⟨h0, h1, h2, h3, h4⟩ := h i hi
  exact ⟨hk _ _ h0, hk _ _ h1, hk _ _ h2, hk _ _ h3, hk _ _ h4⟩
def W4 : List G5 := [⟨1, [97], 0, 0, 0⟩, ⟨4, [60, 61], 0, 0, 1⟩, ⟨3, [], 4, 15, 3⟩, ⟨4, [59], 0, 0, 7⟩]
def TXT : Bytes := [97, 32, 60, 61, 32, 52, 39, 104, 102, 32, 59]
structure Env2 (w : World) : Prop where
  env : Env w
  tz : w.cell? ⟨4, 15, none⟩ = some (.int .u8 4)
  tab : Lib.TabBelow Tryd.prog w.heap.size w "internal/strconv.uint64pow10" .u64 Lib.pow10Tab
set_option maxHeartbeats 4000000 in
set_option maxRecDepth 100000 in
theorem live_any (w : World) (he : Env2 w) : Calls Tryd.prog 4 #[] w fun e w' => e = .returned (.bool true) ∧ Below w.heap.size w w' := by
  obtain ⟨he, ht, htab⟩ := he
  have HTB := Lib.hid htab
  clear htab
  have hcv1 := Lib.run_convert_bytes_const (P := Tryd.prog) w 22 5 (#[.int .u8 97, .int .u8 60, .int .u8 61, .int .u8 52, .int .u8 39, .int .u8 104, .int .u8 70, .int .u8 59]) 8 8 Tryd.underlying22 Tryd.underlying5
  have hA1 : Env (w.alloc (.cells (rowOf [97, 60, 61, 52, 39, 104, 70, 59]) 5 (8, 9))) := he.alloc _
  have hs1 := scan_any (some ⟨w.heap.size, 0, none⟩) 8 [97, 60, 61, 52, 39, 104, 70, 59] (by decide) _ hA1 (row_conv w [97, 60, 61, 52, 39, 104, 70, 59] (8, 9))
  rw [ev_scan1] at hs1
  go_enter Tryd.func4, Tryd.ntmps4
  go_wp2_with fail
  refine hs1.mono ?_
  rintro e1 w1 ⟨v1, rfl, own1, nil1, b1⟩
  simp only at own1 b1
  obtain ⟨g1, cp1, rfl⟩ := own_some own1 (by decide)
  have ly1 : Lies w1 g1 0 W4 := lies_of W4 0 (fun j u hu => by rw [Nat.zero_add]; have := own1.cells (g := g1) rfl j u hu; rw [Addr.add_mid, Nat.zero_add] at this; exact this)
  have hb1 : Below w.heap.size w w1 := ((Below.refl _ _).alloc (Nat.le_refl _) _).trans (b1.mono (by simp))
  have hz1 := hb1.size
  clear hs1 hcv1 nil1 own1 b1 hA1
  have lyW : Lies (w1.alloc (.cells (gCells W4).toArray 32)) w1.heap.size 0 W4 := lies_of W4 0 (fun j u hu => by rw [World.cell?_alloc_mark, Nat.zero_add]; simpa using hu)
  have ly1' := ly1.on (w' := w1.alloc (.cells (gCells W4).toArray 32)) (fun f v h => alloc_cell h _)
  have heq := eq_any (some ⟨g1, 0, none⟩) (some ⟨w1.heap.size, 0, none⟩) cp1 4 W4 W4 (by decide) (by decide) _ (.inr ⟨_, _, rfl, ly1'⟩) (.inr ⟨_, _, rfl, lyW⟩)
  rw [show eqS W4 W4 = true by simp [eqS]] at heq
  have hb2 := hb1.alloc hz1 (.cells (gCells W4).toArray 32)
  clear ly1 ly1'
  go_wp2_with fail
  refine Calls.mono (R := fun e w' => e = .returned (.bool true) ∧ ∃ n, w' = (w1.alloc (.cells (gCells W4).toArray 32)).drewN n) heq ?_
  rintro e2 w2 ⟨rfl, n2, rfl⟩
  have hb3 : Below w.heap.size w ((w1.alloc (.cells (gCells W4).toArray 32)).drewN n2) := below_drewN hb2 _
  have hA2 : Env ((w1.alloc (.cells (gCells W4).toArray 32)).drewN n2) := he.keep hb3
  have lyT : Lies ((w1.alloc (.cells (gCells W4).toArray 32)).drewN n2) w1.heap.size 0 W4 := lyW.on (fun f v h => by simpa using h)
  have ht2 : ((w1.alloc (.cells (gCells W4).toArray 32)).drewN n2).cell? ⟨4, 15, none⟩ = some (.int .u8 4) := keep_cell hb3 ht
  have hz3 := hb3.size
  have htx := text_any w1.heap.size 0 4 W4 (by decide) (by decide) (by decide) (by decide) _ hA2 lyT ht2 (fun w' h => HTB.out w' (hb3.trans (h.mono hz3)))
  rw [show textS W4 = _ from ev_text] at htx
  clear heq lyW hb2 ht2 hA2
  generalize (w1.alloc (.cells (gCells W4).toArray 32)).drewN n2 = w2 at *
  have ltw : w1.heap.size < w2.heap.size := by have := (lyT 0 (by decide)).1; exact lt_cell this
  clear hb1 hz1
  go_wp2_with fail
  refine htx.mono ?_
  rintro e3 w3 ⟨v3, rfl, own3, _, b3⟩
  simp only at own3 b3
  obtain ⟨g3, cp3, rfl⟩ := own_some own3 (by decide)
  have hb4 := hb3.trans (b3.mono hz3)
  have hz4 := hb4.size
  have ly3 := lyT.on (w' := w3) (fun f v h => keep_cell b3 h)
  have ty3 : Lib.Bytes w3 g3 0 (bs TXT) := by
    intro i h
    have hl : i < TXT.length := by simpa [bs, ByteArray.size] using h
    have := own3.cells (g := g3) rfl i (.int .u8 (TXT[i].toNat : Int)) (by show (Lib.byteCells TXT)[i]? = _; simp only [Lib.byteCells, List.getElem?_map, List.getElem?_eq_getElem hl]; rfl)
    rw [Addr.add_mid] at this
    exact this
  clear htx lyT own3 b3 hb3 hz3
  have hcv2 := Lib.run_convert_bytes_const (P := Tryd.prog) w3 22 5 (#[.int .u8 97, .int .u8 32, .int .u8 36]) 3 3 Tryd.underlying22 Tryd.underlying5
  have hs2 := scan_any (some ⟨w3.heap.size, 0, none⟩) 3 [97, 32, 36] (by decide) _ ((he.keep hb4).alloc (.cells (rowOf [97, 32, 36]) 5 (3, 4))) (row_conv w3 [97, 32, 36] (3, 4))
  rw [ev_scan2] at hs2
  go_wp2_with fail
  refine hs2.mono ?_
  rintro e5 w5 ⟨v5, rfl, _, nil5, b5⟩
  obtain rfl := nil5 rfl
  have b35 : Below w3.heap.size w3 w5 := ((Below.refl _ _).alloc (Nat.le_refl _) _).trans (b5.mono (by simp))
  have hb5 := hb4.trans (b35.mono hz4)
  have hz5 := hb5.size
  have ty5 : Lib.Bytes w5 g3 0 (bs TXT) := fun i h => keep_cell b35 (ty3 i h)
  have ly5 := ly3.on (w' := w5) (fun f v h => keep_cell b35 h)
  have hA5 : Env w5 := he.keep hb5
  clear b5 b35 ly3 ty3 hb4 hz4
  have hcv3 : (convert 22 9 (.slice (some ⟨g3, 0, none⟩) 11 cp3)).run Tryd.prog w5 = .ok (.string (bs [97, 32, 60, 61, 32, 52, 39, 104, 102, 32, 59])) w5 := Lib.run_convert_whole (P := Tryd.prog) w5 22 5 9 Tryd.underlying22 Tryd.underlying5 Tryd.underlying9 g3 0 (bs TXT) ty5 cp3
  obtain ⟨mm, hmm⟩ := hA5.most
  have hwt := word_any [116, 105, 99, 107] (by decide) mm w5 hmm
  rw [ev_tick] at hwt
  have hwk := word_any [116, 111, 99, 107] (by decide) mm w5 hmm
  rw [ev_tock] at hwk
  have hc0 := check_any 1 [97] 0 0 0 (by decide) (by decide) w5 hA5
  rw [ev_c0] at hc0
  obtain ⟨d0, d1, d2, d3, d4⟩ := ly5 0 (by decide)
  simp only [Nat.zero_mul, Nat.add_zero, Nat.zero_add] at d0 d1 d2 d3 d4
  clear hs2 hcv2
  go_wp2_with fail
  refine hwt.mono ?_
  rintro e6 w6 ⟨rfl, rfl⟩
  go_wp2_with fail
  refine hwk.mono ?_
  rintro e7 w7 ⟨rfl, rfl⟩
  go_wp2_with fail
  refine hc0.mono ?_
  rintro e8 w8 ⟨rfl, b8⟩
  have hb8 := hb5.trans (b8.mono hz5)
  have hc1 := check_any 0 [] 0 0 0 (by decide) (by decide) w8 (hA5.keep b8)
  rw [ev_c1] at hc1
  go_wp2_with fail
  refine hc1.mono ?_
  rintro e9 w9 ⟨rfl, b9⟩
  go_wp2
  go_ret
  exact ⟨rfl, hb8.trans (b9.mono hb8.size)⟩
end Go.Proofs.YtigdegjhajdmhaaDoor
