/-
  Free: the names of an expression.
-/
import Derived.Test.YtlbjmnakiflfpaaGreatDoorKpAsG
import Derived.Maps.Views
import Derived.Carry
namespace Go.Proofs.YtlbjmnakiflfpaaGreatDoor
open Go Go.RowKit
set_option linter.unusedVariables false
set_option linter.unusedSimpArgs false
open Go.Sort

theorem seen_made (w : World) : SeenAt (w.alloc (.map #[] 0)) w.heap.size 0 [] := ⟨.map [], World.ownsMap_made w _ _ _, Maps.isMap_empty, fun s => by rfl⟩
theorem EnvA.size {w : World} (h : EnvA w) : 5 ≤ w.heap.size := by
  obtain ⟨he, h1⟩ := h
  obtain ⟨m, hm⟩ := he.most
  exact block_lt_of_cell hm
/-- What Free tells. -/
def ToldN (w : World) (N : List Bytes) (e : Ending) (w' : World) : Prop := ∃ v, e = .returned v ∧ w'.ownsRow w.heap.size 9 1 v N.length (strs N) ∧ (N = [] → v = .slice none 0 0) ∧ Below w.heap.size w w'
set_option maxHeartbeats 4000000 in
theorem free_any (x : XT) (hbk : x.bk ≤ 1500000) (n0 : Nat) (w : World) (hn0 : n0 ≤ w.heap.size) (he : EnvA w) (hx : x.In n0 w) : Calls Tryz.prog 14 #[x.val] w (ToldN w (freeX [] x)) := by
  have h5 := he.size
  have hsz := x.sz_bk
  have hl := fun W h1 h2 h3 h4 => look_any w.heap.size n0 (w.heap.size + 3) (w.heap.size + 2) (w.heap.size + 1) hn0 (fun b hb => by omega) (by omega) (by omega) (by omega) (by omega) (by omega) x hbk [] W h1 h2 h3 h4 (by simp; omega)
  obtain ⟨N, hN⟩ : ∃ N, freeX [] x = N := ⟨_, rfl⟩
  rw [hN] at hl ⊢
  have HL := Lib.hid hl
  clear hl hN hbk hsz
  have hx0 := hx
  obtain ⟨op, nm, xn, wd, v, xa, xc, xl⟩ := x
  simp only [XT.val, XT.cells] at HL ⊢
  clear hx
  have BX := World.alloc_heap_new w (.cells #[.int .i64 op, .string (bs nm), .int .i64 xn, .int .i64 wd, .int .u64 (v : Int), .slice xa xl.length xc] 25)
  have b1 : Below w.heap.size w (w.alloc (.cells #[.int .i64 op, .string (bs nm), .int .i64 xn, .int .i64 wd, .int .u64 (v : Int), .slice xa xl.length xc] 25)) := (Below.refl _ _).alloc (Nat.le_refl _) _
  have hs1 := seen_made (w.alloc (.cells #[.int .i64 op, .string (bs nm), .int .i64 xn, .int .i64 wd, .int .u64 (v : Int), .slice xa xl.length xc] 25))
  have b2 := b1.alloc b1.size (.map #[] 0)
  obtain ⟨w2, hw2⟩ : ∃ w2, (w.alloc (.cells #[.int .i64 op, .string (bs nm), .int .i64 xn, .int .i64 wd, .int .u64 (v : Int), .slice xa xl.length xc] 25)).alloc (.map #[] 0) = w2 := ⟨_, rfl⟩
  rw [hw2] at hs1 b2
  have hz2 : w2.heap.size = w.heap.size + 2 := by rw [← hw2]; simp
  have BX2 : w2.heap[w.heap.size]? = some (.cells #[.int .i64 op, .string (bs nm), .int .i64 xn, .int .i64 wd, .int .u64 (v : Int), .slice xa xl.length xc] 25) := by rw [← hw2]; exact block_alloc BX _
  have BF := World.alloc_heap_new w2 (.cells #[.map (some (w.heap.size + 1)), .slice none 0 0] 83)
  have b3 := b2.alloc b2.size (.cells #[.map (some (w.heap.size + 1)), .slice none 0 0] 83)
  have hs2 : SeenAt (w2.alloc (.cells #[.map (some (w.heap.size + 1)), .slice none 0 0] 83)) (w.heap.size + 1) 0 [] := by
    have := hs1
    rw [World.size_alloc] at this
    exact this.block (Below.heap_alloc w2 _ _ (by omega))
  have BX3 := block_alloc BX2 (.cells #[.map (some (w.heap.size + 1)), .slice none 0 0] 83)
  have hz3 : (w2.alloc (.cells #[.map (some (w.heap.size + 1)), .slice none 0 0] 83)).heap.size = w.heap.size + 3 := by simp [hz2]
  rw [hz2] at BF
  have HW2 := Lib.hid hw2
  rw [← hw2] at BX2
  obtain ⟨x0, x1, x2, x3, x4, x5⟩ := open6 BX2
  obtain ⟨z0, z1, z2, z3, z4, z5⟩ := open6 BX3
  rw [← hw2] at z0 z1 z2 z3 z4 z5
  clear hw2
  have hmm := @run_makeMap Tryz.prog
  go_enter Tryz.func14, Tryz.ntmps14
  go_upto_region 2 with (fail)
  clear hmm
  have e2 := HW2.out
  have hF : Finder (w2.alloc (.cells #[.map (some (w.heap.size + 1)), .slice none 0 0] 83)) (w.heap.size + 3) (w.heap.size + 2) (w.heap.size + 1) [] := ⟨.slice none 0 0, BF, ⟨rfl, .inl ⟨rfl, rfl⟩⟩, hs2, fun _ => rfl, Nat.le_of_eq hz3.symm⟩
  have hq := HL.out (w2.alloc (.cells #[.map (some (w.heap.size + 1)), .slice none 0 0] 83)) (he.keep b3) b3.size (XT.In.keep (Below.keptTo b3 hn0) _ hx0) hF
  rw [← e2] at hq b3
  clear HL he hx0 hF e2 hs1 hs2 BX BX3 BF b1 b2 hz2 hz3 BX2
  go_wp2_with fail
  refine hq.mono ?_
  rintro e w3 ⟨⟨v, rfl⟩, hF3, hb⟩
  obtain ⟨v3, hf3, ho3, hs3, hn3, hbz⟩ := hF3
  have y1 : w3.cell? ⟨w.heap.size + 2, 1, none⟩ = some v3 := by simp [World.cell?, hf3]
  have hB := b3.trans hb
  clear hq x0 x1 x2 x3 x4 x5 z0 z1 z2 z3 z4 z5
  have ho4 : w3.ownsRow w.heap.size 9 1 v3 N.length (strs N) := by
    refine ⟨ho3.1, ?_⟩
    rcases ho3.2 with h | ⟨g, cap, cur, h1, h2, h3⟩
    · exact .inl h
    · exact .inr ⟨g, cap, cur, h1, by omega, h3⟩
  clear hf3 ho3 hs3 hbz hb b3 h5 hn0
  go_wp2
  go_ret
  exact ⟨_, rfl, ho4, hn3, hB⟩
end Go.Proofs.YtlbjmnakiflfpaaGreatDoor
