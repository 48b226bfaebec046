/-
  live: the chapter's example.
-/
import Derived.Lib.QuietBelow
import Derived.BigQuiet
import Derived.Test.YtlbjmnakiflfpaaGreatDoorAsLt
import Derived.Deep.RegionWith
import Derived.Deep.DeepCutAuto
namespace Go.Proofs.YtlbjmnakiflfpaaGreatDoor
open Go Go.RowKit
set_option linter.unusedVariables false
set_option linter.unusedSimpArgs false
open Go.Sort
theorem frozen_of {W : World} {g : Nat} {cs : Array Value} {t : TypeId} (h : W.heap[g]? = some (.cells cs t (0, 0))) (j : Nat) : W.frozen? ⟨g, j, none⟩ = false := by simp [World.frozen?, h]
theorem below_undrew {W4 w9 : World} (h : Below W4.drew.heap.size W4.drew w9) : Below W4.heap.size W4 w9 := ⟨h.os, h.tape, h.output, h.size, h.block⟩
theorem lv_c1 {W4 w9 : World} {g : Nat} (hq : Below W4.drew.heap.size W4.drew w9) : ∃ gs ga : Nat, Value.pointer (some ⟨w9.heap.size + 1, 0, none⟩) = Value.pointer (some ⟨gs, 0, none⟩) ∧ ((w9.alloc (.cells #[.int .i64 2, .string (bs [121]), .int .i64 0, .int .i64 0, .int .u64 0, .slice none 0 0, .int .i64 6, .string ⟨#[]⟩, .int .i64 14, .int .i64 0, .int .u64 0, .slice (some ⟨g + 1, 0, none⟩) 2 2] 25)).alloc (.cells #[.int .i64 1, .string ⟨#[]⟩, .slice (some ⟨w9.heap.size, 0, none⟩) 2 2, .slice none 0 0] 28)).heap[gs]? = some (.cells #[.int .i64 1, .string ⟨#[]⟩, .slice (some ⟨ga, 0, none⟩) 2 2, .slice none 0 0] 28 (0, 0)) ∧ ((w9.alloc (.cells #[.int .i64 2, .string (bs [121]), .int .i64 0, .int .i64 0, .int .u64 0, .slice none 0 0, .int .i64 6, .string ⟨#[]⟩, .int .i64 14, .int .i64 0, .int .u64 0, .slice (some ⟨g + 1, 0, none⟩) 2 2] 25)).alloc (.cells #[.int .i64 1, .string ⟨#[]⟩, .slice (some ⟨w9.heap.size, 0, none⟩) 2 2, .slice none 0 0] 28)).heap[ga]? = some (.cells #[.int .i64 2, .string (bs [121]), .int .i64 0, .int .i64 0, .int .u64 0, .slice none 0 0, .int .i64 6, .string ⟨#[]⟩, .int .i64 14, .int .i64 0, .int .u64 0, .slice (some ⟨g + 1, 0, none⟩) 2 2] 25 (0, 0)) ∧ Below W4.heap.size W4 ((w9.alloc (.cells #[.int .i64 2, .string (bs [121]), .int .i64 0, .int .i64 0, .int .u64 0, .slice none 0 0, .int .i64 6, .string ⟨#[]⟩, .int .i64 14, .int .i64 0, .int .u64 0, .slice (some ⟨g + 1, 0, none⟩) 2 2] 25)).alloc (.cells #[.int .i64 1, .string ⟨#[]⟩, .slice (some ⟨w9.heap.size, 0, none⟩) 2 2, .slice none 0 0] 28)) := by
  have h1 := World.alloc_heap_new (w9.alloc (.cells #[.int .i64 2, .string (bs [121]), .int .i64 0, .int .i64 0, .int .u64 0, .slice none 0 0, .int .i64 6, .string ⟨#[]⟩, .int .i64 14, .int .i64 0, .int .u64 0, .slice (some ⟨g + 1, 0, none⟩) 2 2] 25)) (.cells #[.int .i64 1, .string ⟨#[]⟩, .slice (some ⟨w9.heap.size, 0, none⟩) 2 2, .slice none 0 0] 28)
  rw [World.size_alloc] at h1
  have hb := below_undrew hq
  exact ⟨_, _, rfl, h1, block_alloc (World.alloc_heap_new w9 (.cells #[.int .i64 2, .string (bs [121]), .int .i64 0, .int .i64 0, .int .u64 0, .slice none 0 0, .int .i64 6, .string ⟨#[]⟩, .int .i64 14, .int .i64 0, .int .u64 0, .slice (some ⟨g + 1, 0, none⟩) 2 2] 25)) _, (hb.alloc hb.size _).alloc (hb.alloc hb.size _).size _⟩
theorem lv_c2 {W4 w9 : World} {g : Nat} (hq : Below W4.drew.heap.size W4.drew w9) : ∃ gs ga : Nat, Value.pointer (some ⟨w9.heap.size, 0, none⟩) = Value.pointer (some ⟨gs, 0, none⟩) ∧ ((w9.alloc (.cells #[.int .i64 1, .string ⟨#[]⟩, .slice (some ⟨(w9.heap.size + 1), 0, none⟩) 2 2, .slice none 0 0] 28)).alloc (.cells #[.int .i64 2, .string (bs [121]), .int .i64 0, .int .i64 0, .int .u64 0, .slice none 0 0, .int .i64 6, .string ⟨#[]⟩, .int .i64 14, .int .i64 0, .int .u64 0, .slice (some ⟨g + 1, 0, none⟩) 2 2] 25)).heap[gs]? = some (.cells #[.int .i64 1, .string ⟨#[]⟩, .slice (some ⟨ga, 0, none⟩) 2 2, .slice none 0 0] 28 (0, 0)) ∧ ((w9.alloc (.cells #[.int .i64 1, .string ⟨#[]⟩, .slice (some ⟨(w9.heap.size + 1), 0, none⟩) 2 2, .slice none 0 0] 28)).alloc (.cells #[.int .i64 2, .string (bs [121]), .int .i64 0, .int .i64 0, .int .u64 0, .slice none 0 0, .int .i64 6, .string ⟨#[]⟩, .int .i64 14, .int .i64 0, .int .u64 0, .slice (some ⟨g + 1, 0, none⟩) 2 2] 25)).heap[ga]? = some (.cells #[.int .i64 2, .string (bs [121]), .int .i64 0, .int .i64 0, .int .u64 0, .slice none 0 0, .int .i64 6, .string ⟨#[]⟩, .int .i64 14, .int .i64 0, .int .u64 0, .slice (some ⟨g + 1, 0, none⟩) 2 2] 25 (0, 0)) ∧ Below W4.heap.size W4 ((w9.alloc (.cells #[.int .i64 1, .string ⟨#[]⟩, .slice (some ⟨(w9.heap.size + 1), 0, none⟩) 2 2, .slice none 0 0] 28)).alloc (.cells #[.int .i64 2, .string (bs [121]), .int .i64 0, .int .i64 0, .int .u64 0, .slice none 0 0, .int .i64 6, .string ⟨#[]⟩, .int .i64 14, .int .i64 0, .int .u64 0, .slice (some ⟨g + 1, 0, none⟩) 2 2] 25)) := by
  have h1 := World.alloc_heap_new (w9.alloc (.cells #[.int .i64 1, .string ⟨#[]⟩, .slice (some ⟨(w9.heap.size + 1), 0, none⟩) 2 2, .slice none 0 0] 28)) (.cells #[.int .i64 2, .string (bs [121]), .int .i64 0, .int .i64 0, .int .u64 0, .slice none 0 0, .int .i64 6, .string ⟨#[]⟩, .int .i64 14, .int .i64 0, .int .u64 0, .slice (some ⟨g + 1, 0, none⟩) 2 2] 25)
  rw [World.size_alloc] at h1
  have hb := below_undrew hq
  exact ⟨_, _, rfl, block_alloc (World.alloc_heap_new w9 (.cells #[.int .i64 1, .string ⟨#[]⟩, .slice (some ⟨(w9.heap.size + 1), 0, none⟩) 2 2, .slice none 0 0] 28)) _, h1, (hb.alloc hb.size _).alloc (hb.alloc hb.size _).size _⟩
theorem lv_c3 {W4 w9 : World} {g : Nat} (hq : Below (W4.drew.alloc (.cells #[.int .i64 0, .string ⟨#[]⟩, .slice none 0 0, .slice none 0 0] 28)).heap.size (W4.drew.alloc (.cells #[.int .i64 0, .string ⟨#[]⟩, .slice none 0 0, .slice none 0 0] 28)) w9) : ∃ gs ga : Nat, Value.pointer (some ⟨W4.heap.size, 0, none⟩) = Value.pointer (some ⟨gs, 0, none⟩) ∧ (((((w9.alloc (.cells #[.int .i64 2, .string (bs [121]), .int .i64 0, .int .i64 0, .int .u64 0, .slice none 0 0, .int .i64 6, .string ⟨#[]⟩, .int .i64 14, .int .i64 0, .int .u64 0, .slice (some ⟨g + 1, 0, none⟩) 2 2] 25)).setCell ⟨W4.heap.size, 0, none⟩ (.int .i64 1)).setCell ⟨W4.heap.size, 1, none⟩ (.string ⟨#[]⟩)).setCell ⟨W4.heap.size, 2, none⟩ (.slice (some ⟨w9.heap.size, 0, none⟩) 2 2)).setCell ⟨W4.heap.size, 3, none⟩ (.slice none 0 0)).heap[gs]? = some (.cells #[.int .i64 1, .string ⟨#[]⟩, .slice (some ⟨ga, 0, none⟩) 2 2, .slice none 0 0] 28 (0, 0)) ∧ (((((w9.alloc (.cells #[.int .i64 2, .string (bs [121]), .int .i64 0, .int .i64 0, .int .u64 0, .slice none 0 0, .int .i64 6, .string ⟨#[]⟩, .int .i64 14, .int .i64 0, .int .u64 0, .slice (some ⟨g + 1, 0, none⟩) 2 2] 25)).setCell ⟨W4.heap.size, 0, none⟩ (.int .i64 1)).setCell ⟨W4.heap.size, 1, none⟩ (.string ⟨#[]⟩)).setCell ⟨W4.heap.size, 2, none⟩ (.slice (some ⟨w9.heap.size, 0, none⟩) 2 2)).setCell ⟨W4.heap.size, 3, none⟩ (.slice none 0 0)).heap[ga]? = some (.cells #[.int .i64 2, .string (bs [121]), .int .i64 0, .int .i64 0, .int .u64 0, .slice none 0 0, .int .i64 6, .string ⟨#[]⟩, .int .i64 14, .int .i64 0, .int .u64 0, .slice (some ⟨g + 1, 0, none⟩) 2 2] 25 (0, 0)) ∧ Below W4.heap.size W4 (((((w9.alloc (.cells #[.int .i64 2, .string (bs [121]), .int .i64 0, .int .i64 0, .int .u64 0, .slice none 0 0, .int .i64 6, .string ⟨#[]⟩, .int .i64 14, .int .i64 0, .int .u64 0, .slice (some ⟨g + 1, 0, none⟩) 2 2] 25)).setCell ⟨W4.heap.size, 0, none⟩ (.int .i64 1)).setCell ⟨W4.heap.size, 1, none⟩ (.string ⟨#[]⟩)).setCell ⟨W4.heap.size, 2, none⟩ (.slice (some ⟨w9.heap.size, 0, none⟩) 2 2)).setCell ⟨W4.heap.size, 3, none⟩ (.slice none 0 0)) := by
  have hb0 : Below W4.heap.size W4 (W4.drew.alloc (.cells #[.int .i64 0, .string ⟨#[]⟩, .slice none 0 0, .slice none 0 0] 28)) := ((Below.refl _ _).drew).alloc (Nat.le_refl _) _
  have hb := hb0.trans (hq.mono hb0.size)
  have BZ : w9.heap[W4.heap.size]? = some (.cells #[.int .i64 0, .string ⟨#[]⟩, .slice none 0 0, .slice none 0 0] 28 (0, 0)) := block_kept (World.alloc_heap_new W4.drew (.cells #[.int .i64 0, .string ⟨#[]⟩, .slice none 0 0, .slice none 0 0] 28)) hq
  have hlt := (Array.getElem?_eq_some_iff.1 BZ).1
  have BZ2 := block_alloc BZ (.cells #[.int .i64 2, .string (bs [121]), .int .i64 0, .int .i64 0, .int .u64 0, .slice none 0 0, .int .i64 6, .string ⟨#[]⟩, .int .i64 14, .int .i64 0, .int .u64 0, .slice (some ⟨g + 1, 0, none⟩) 2 2] 25)
  have BA := World.alloc_heap_new w9 (.cells #[.int .i64 2, .string (bs [121]), .int .i64 0, .int .i64 0, .int .u64 0, .slice none 0 0, .int .i64 6, .string ⟨#[]⟩, .int .i64 14, .int .i64 0, .int .u64 0, .slice (some ⟨g + 1, 0, none⟩) 2 2] 25)
  have hne : w9.heap.size ≠ W4.heap.size := by omega
  refine ⟨_, _, rfl, ?_, (Below.heap_setCell _ ⟨W4.heap.size, 3, none⟩ _ w9.heap.size hne).trans ((Below.heap_setCell _ ⟨W4.heap.size, 2, none⟩ _ w9.heap.size hne).trans ((Below.heap_setCell _ ⟨W4.heap.size, 1, none⟩ _ w9.heap.size hne).trans ((Below.heap_setCell _ ⟨W4.heap.size, 0, none⟩ _ w9.heap.size hne).trans BA))), ((((hb.alloc hb.size _).setCell (p := ⟨W4.heap.size, 0, none⟩) (Nat.le_refl _) _).setCell (p := ⟨W4.heap.size, 1, none⟩) (Nat.le_refl _) _).setCell (p := ⟨W4.heap.size, 2, none⟩) (Nat.le_refl _) _).setCell (p := ⟨W4.heap.size, 3, none⟩) (Nat.le_refl _) _⟩
  simp [World.setCell, Array.getElem?_modify, BZ2]

set_option maxHeartbeats 8000000 in
set_option maxRecDepth 3000000 in
theorem live_any (w : World) (he : EnvA w) : Calls Tryz.prog 6 #[] w fun e w' => e = .returned (.bool true) ∧ Below w.heap.size w w' := by
  go_enter Tryz.func6, Tryz.ntmps6
  go_wp2_with fail
  refine (name_call [97] _).mono ?_
  rintro e w1 ⟨rfl, b1⟩
  go_wp2_with fail
  refine (name_call [98] _).mono ?_
  rintro e w2 ⟨rfl, b2⟩
  have hB := b1.trans (b2.mono b1.size)
  replace he := he.keep hB
  clear b1 b2
  go_upto_region 2 with (fail)
  have B1 := World.alloc_heap_new w2 (.cells #[.int .i64 1, .string ⟨#[]⟩, .int .i64 0, .int .i64 8, .int .u64 3, .slice none 0 0, .int .i64 2, .string (bs [98]), .int .i64 0, .int .i64 0, .int .u64 0, .slice none 0 0] 25)
  have B2 := World.alloc_heap_new (w2.alloc (.cells #[.int .i64 1, .string ⟨#[]⟩, .int .i64 0, .int .i64 8, .int .u64 3, .slice none 0 0, .int .i64 2, .string (bs [98]), .int .i64 0, .int .i64 0, .int .u64 0, .slice none 0 0] 25)) (.cells #[.int .i64 2, .string (bs [97]), .int .i64 0, .int .i64 0, .int .u64 0, .slice none 0 0, .int .i64 6, .string ⟨#[]⟩, .int .i64 16, .int .i64 0, .int .u64 0, .slice (some ⟨w2.heap.size, 0, none⟩) 2 2] 25)
  have B3 := World.alloc_heap_new ((w2.alloc (.cells #[.int .i64 1, .string ⟨#[]⟩, .int .i64 0, .int .i64 8, .int .u64 3, .slice none 0 0, .int .i64 2, .string (bs [98]), .int .i64 0, .int .i64 0, .int .u64 0, .slice none 0 0] 25)).alloc (.cells #[.int .i64 2, .string (bs [97]), .int .i64 0, .int .i64 0, .int .u64 0, .slice none 0 0, .int .i64 6, .string ⟨#[]⟩, .int .i64 16, .int .i64 0, .int .u64 0, .slice (some ⟨w2.heap.size, 0, none⟩) 2 2] 25)) (.cells #[.int .i64 6, .string ⟨#[]⟩, .int .i64 14, .int .i64 0, .int .u64 0, .slice (some ⟨w2.heap.size + 1, 0, none⟩) 2 2] 25)
  replace B1 := block_alloc (block_alloc B1 (.cells #[.int .i64 2, .string (bs [97]), .int .i64 0, .int .i64 0, .int .u64 0, .slice none 0 0, .int .i64 6, .string ⟨#[]⟩, .int .i64 16, .int .i64 0, .int .u64 0, .slice (some ⟨w2.heap.size, 0, none⟩) 2 2] 25)) (.cells #[.int .i64 6, .string ⟨#[]⟩, .int .i64 14, .int .i64 0, .int .u64 0, .slice (some ⟨w2.heap.size + 1, 0, none⟩) 2 2] 25)
  replace B2 := block_alloc B2 (.cells #[.int .i64 6, .string ⟨#[]⟩, .int .i64 14, .int .i64 0, .int .u64 0, .slice (some ⟨w2.heap.size + 1, 0, none⟩) 2 2] 25)
  simp only [World.size_alloc] at B2 B3
  have hB1 := ((hB.alloc hB.size (.cells #[.int .i64 1, .string ⟨#[]⟩, .int .i64 0, .int .i64 8, .int .u64 3, .slice none 0 0, .int .i64 2, .string (bs [98]), .int .i64 0, .int .i64 0, .int .u64 0, .slice none 0 0] 25)).alloc (hB.alloc hB.size (.cells #[.int .i64 1, .string ⟨#[]⟩, .int .i64 0, .int .i64 8, .int .u64 3, .slice none 0 0, .int .i64 2, .string (bs [98]), .int .i64 0, .int .i64 0, .int .u64 0, .slice none 0 0] 25)).size (.cells #[.int .i64 2, .string (bs [97]), .int .i64 0, .int .i64 0, .int .u64 0, .slice none 0 0, .int .i64 6, .string ⟨#[]⟩, .int .i64 16, .int .i64 0, .int .u64 0, .slice (some ⟨w2.heap.size, 0, none⟩) 2 2] 25)).alloc ((hB.alloc hB.size (.cells #[.int .i64 1, .string ⟨#[]⟩, .int .i64 0, .int .i64 8, .int .u64 3, .slice none 0 0, .int .i64 2, .string (bs [98]), .int .i64 0, .int .i64 0, .int .u64 0, .slice none 0 0] 25)).alloc (hB.alloc hB.size (.cells #[.int .i64 1, .string ⟨#[]⟩, .int .i64 0, .int .i64 8, .int .u64 3, .slice none 0 0, .int .i64 2, .string (bs [98]), .int .i64 0, .int .i64 0, .int .u64 0, .slice none 0 0] 25)).size (.cells #[.int .i64 2, .string (bs [97]), .int .i64 0, .int .i64 0, .int .u64 0, .slice none 0 0, .int .i64 6, .string ⟨#[]⟩, .int .i64 16, .int .i64 0, .int .u64 0, .slice (some ⟨w2.heap.size, 0, none⟩) 2 2] 25)).size (.cells #[.int .i64 6, .string ⟨#[]⟩, .int .i64 14, .int .i64 0, .int .u64 0, .slice (some ⟨w2.heap.size + 1, 0, none⟩) 2 2] 25)
  have he1 := ((he.alloc (.cells #[.int .i64 1, .string ⟨#[]⟩, .int .i64 0, .int .i64 8, .int .u64 3, .slice none 0 0, .int .i64 2, .string (bs [98]), .int .i64 0, .int .i64 0, .int .u64 0, .slice none 0 0] 25)).alloc (.cells #[.int .i64 2, .string (bs [97]), .int .i64 0, .int .i64 0, .int .u64 0, .slice none 0 0, .int .i64 6, .string ⟨#[]⟩, .int .i64 16, .int .i64 0, .int .u64 0, .slice (some ⟨w2.heap.size, 0, none⟩) 2 2] 25)).alloc (.cells #[.int .i64 6, .string ⟨#[]⟩, .int .i64 14, .int .i64 0, .int .u64 0, .slice (some ⟨w2.heap.size + 1, 0, none⟩) 2 2] 25)
  have hz : (((w2.alloc (.cells #[.int .i64 1, .string ⟨#[]⟩, .int .i64 0, .int .i64 8, .int .u64 3, .slice none 0 0, .int .i64 2, .string (bs [98]), .int .i64 0, .int .i64 0, .int .u64 0, .slice none 0 0] 25)).alloc (.cells #[.int .i64 2, .string (bs [97]), .int .i64 0, .int .i64 0, .int .u64 0, .slice none 0 0, .int .i64 6, .string ⟨#[]⟩, .int .i64 16, .int .i64 0, .int .u64 0, .slice (some ⟨w2.heap.size, 0, none⟩) 2 2] 25)).alloc (.cells #[.int .i64 6, .string ⟨#[]⟩, .int .i64 14, .int .i64 0, .int .u64 0, .slice (some ⟨w2.heap.size + 1, 0, none⟩) 2 2] 25)).heap.size = w2.heap.size + 3 := by simp
  clear hB he
  generalize ((w2.alloc (.cells #[.int .i64 1, .string ⟨#[]⟩, .int .i64 0, .int .i64 8, .int .u64 3, .slice none 0 0, .int .i64 2, .string (bs [98]), .int .i64 0, .int .i64 0, .int .u64 0, .slice none 0 0] 25)).alloc (.cells #[.int .i64 2, .string (bs [97]), .int .i64 0, .int .i64 0, .int .u64 0, .slice none 0 0, .int .i64 6, .string ⟨#[]⟩, .int .i64 16, .int .i64 0, .int .u64 0, .slice (some ⟨w2.heap.size, 0, none⟩) 2 2] 25)).alloc (.cells #[.int .i64 6, .string ⟨#[]⟩, .int .i64 14, .int .i64 0, .int .u64 0, .slice (some ⟨w2.heap.size + 1, 0, none⟩) 2 2] 25) = W at *
  generalize w2.heap.size = g at *
  have hx : (lx g).In (g + 3) W := lx_in (by omega) B1 B2
  have hn : g + 3 ≤ W.heap.size := by omega
  have BX : W.heap[g + 1 + 1]? = some (.cells #[.int .i64 6, .string ⟨#[]⟩, .int .i64 14, .int .i64 0, .int .u64 0, .slice (some ⟨g + 1, 0, none⟩) 2 2] 25 (0, 0)) := B3
  clear B1 B2 B3 hz
  obtain ⟨x0, x1, x2, x3, x4, x5⟩ := open6 BX
  go_wp2_with fail
  refine (lv_free hn he1 hx).mono ?_
  rintro e W4 ⟨v, rfl, ho, _, hb⟩
  have ho2 : W4.ownsRow W.heap.size 9 1 v 2 (strs [[97], [98]]) := ho
  obtain ⟨gl, cl, rfl⟩ := own_some ho2 (by decide)
  have hl0 : W4.cell? ⟨gl, 0, none⟩ = some (.string (bs [97])) := by
    have h := ho2.cells (g := gl) rfl 0 (.string (bs [97])) rfl
    rw [Addr.add_mid] at h
    simpa using h
  clear x0 x1 x2 x3 x4 x5 ho ho2
  replace BX := block_kept BX hb
  replace he1 := he1.keep hb
  replace hx := XT.In.keep (Below.keptTo hb hn) _ hx
  replace hn := Nat.le_trans hn hb.size
  replace hB1 := hB1.trans (hb.mono hB1.size)
  clear hb
  go_upto_region 3 with (fail)
  obtain ⟨x0, x1, x2, x3, x4, x5⟩ := open6 BX
  have BXd : W4.drew.heap[g + 1 + 1]? = some (.cells #[.int .i64 6, .string ⟨#[]⟩, .int .i64 14, .int .i64 0, .int .u64 0, .slice (some ⟨g + 1, 0, none⟩) 2 2] 25 (0, 0)) := BX
  obtain ⟨d0, d1, d2, d3, d4, d5⟩ := open6 BXd
  have x0A := fun O => alloc_cell x0 O
  have x1A := fun O => alloc_cell x1 O
  have x2A := fun O => alloc_cell x2 O
  have x3A := fun O => alloc_cell x3 O
  have x4A := fun O => alloc_cell x4 O
  have x5A := fun O => alloc_cell x5 O
  have d0A := fun O => alloc_cell d0 O
  have d1A := fun O => alloc_cell d1 O
  have d2A := fun O => alloc_cell d2 O
  have d3A := fun O => alloc_cell d3 O
  have d4A := fun O => alloc_cell d4 O
  have d5A := fun O => alloc_cell d5 O
  have HK := Lib.hid (And.intro hn (And.intro hx he1))
  clear hn hx he1
  go_cut [3] (fun p wx => ∃ gs ga : Nat, p = .pointer (some ⟨gs, 0, none⟩) ∧ wx.heap[gs]? = some (.cells #[.int .i64 1, .string ⟨#[]⟩, .slice (some ⟨ga, 0, none⟩) 2 2, .slice none 0 0] 28 (0, 0)) ∧ wx.heap[ga]? = some (.cells #[.int .i64 2, .string (bs [121]), .int .i64 0, .int .i64 0, .int .u64 0, .slice none 0 0, .int .i64 6, .string ⟨#[]⟩, .int .i64 14, .int .i64 0, .int .u64 0, .slice (some ⟨g + 1, 0, none⟩) 2 2] 25 (0, 0)) ∧ Below W4.heap.size W4 wx)
  case first =>
    go_region_with (first | (go_at_call 31; refine (name_call [121] _).mono ?_; rintro e w9 ⟨rfl, hb9⟩; refine (fun (hq : Below W4.drew.heap.size W4.drew w9) => ?_) hb9; have BX9 : w9.heap[g + 1 + 1]? = some (.cells #[.int .i64 6, .string ⟨#[]⟩, .int .i64 14, .int .i64 0, .int .u64 0, .slice (some ⟨g + 1, 0, none⟩) 2 2] 25 (0, 0)) := block_kept (w := W4.drew) BX hq; obtain ⟨x0, x1, x2, x3, x4, x5⟩ := open6 BX9; have x0A := fun O => alloc_cell x0 O; have x1A := fun O => alloc_cell x1 O; have x2A := fun O => alloc_cell x2 O; have x3A := fun O => alloc_cell x3 O; have x4A := fun O => alloc_cell x4 O; have x5A := fun O => alloc_cell x5 O) | (go_at_call 31; refine (name_call [121] _).mono ?_; rintro e w9 ⟨rfl, hb9⟩; refine (fun (hq : Below (W4.drew.alloc (.cells #[.int .i64 0, .string ⟨#[]⟩, .slice none 0 0, .slice none 0 0] 28)).heap.size (W4.drew.alloc (.cells #[.int .i64 0, .string ⟨#[]⟩, .slice none 0 0, .slice none 0 0] 28)) w9) => ?_) hb9; have BX9 : w9.heap[g + 1 + 1]? = some (.cells #[.int .i64 6, .string ⟨#[]⟩, .int .i64 14, .int .i64 0, .int .u64 0, .slice (some ⟨g + 1, 0, none⟩) 2 2] 25 (0, 0)) := block_kept (block_alloc (w := W4.drew) BX _) hq; obtain ⟨x0, x1, x2, x3, x4, x5⟩ := open6 BX9; have x0A := fun O => alloc_cell x0 O; have x1A := fun O => alloc_cell x1 O; have x2A := fun O => alloc_cell x2 O; have x3A := fun O => alloc_cell x3 O; have x4A := fun O => alloc_cell x4 O; have x5A := fun O => alloc_cell x5 O; have BZ9 : w9.heap[W4.heap.size]? = some (.cells #[.int .i64 0, .string ⟨#[]⟩, .slice none 0 0, .slice none 0 0] 28 (0, 0)) := block_kept (World.alloc_heap_new W4.drew (.cells #[.int .i64 0, .string ⟨#[]⟩, .slice none 0 0, .slice none 0 0] 28)) hq; obtain ⟨z0, z1, z2, z3⟩ := open4 BZ9; have f0 := frozen_of BZ9 0; have z0A := fun O => alloc_cell z0 O; have f0A := fun O => frozen_alloc_1 O z0 f0; have f1 := frozen_of BZ9 1; have z1A := fun O => alloc_cell z1 O; have f1A := fun O => frozen_alloc_1 O z1 f1; have f2 := frozen_of BZ9 2; have z2A := fun O => alloc_cell z2 O; have f2A := fun O => frozen_alloc_1 O z2 f2; have f3 := frozen_of BZ9 3; have z3A := fun O => alloc_cell z3 O; have f3A := fun O => frozen_alloc_1 O z3 f3))
    all_goals (go_wp2_with fail; go_meet; (first | (with_reducible exact lv_c1 hq) | (with_reducible exact lv_c2 hq) | (with_reducible exact lv_c3 hq) | (refine (True.intro : True))))
  case rest =>
    obtain ⟨gs, ga, rfl, BS, BA, hb⟩ := hcut
    obtain ⟨hn, hx, he1⟩ := HK.out
    have hn4 := hn
    replace BX := block_kept BX hb
    replace he1 := he1.keep hb
    replace hx := XT.In.keep (Below.keptTo hb hn) _ hx
    replace hn := Nat.le_trans hn hb.size
    replace hl0 := keep_cell hb hl0
    replace hB1 := hB1.trans (hb.mono hB1.size)
    clear HK d0 d1 d2 d3 d4 d5 d0A d1A d2A d3A d4A d5A x0 x1 x2 x3 x4 x5 x0A x1A x2A x3A x4A x5A BXd hb hn4
    have B1 := World.alloc_heap_new wc (.cells #[.int .i64 1, .string ⟨#[]⟩, .slice (some ⟨ga, 0, none⟩) 2 2, .slice none 0 0] 28)
    have B2 := World.alloc_heap_new (wc.alloc (.cells #[.int .i64 1, .string ⟨#[]⟩, .slice (some ⟨ga, 0, none⟩) 2 2, .slice none 0 0] 28)) (.cells #[.int .i64 5, .string ⟨#[]⟩, .string ⟨#[]⟩, .slice none 0 0, .slice (some ⟨wc.heap.size, 0, none⟩) 1 1, .slice none 0 0, .slice none 0 0, .slice none 0 0, .slice none 0 0] 60)
    have B3 := World.alloc_heap_new ((wc.alloc (.cells #[.int .i64 1, .string ⟨#[]⟩, .slice (some ⟨ga, 0, none⟩) 2 2, .slice none 0 0] 28)).alloc (.cells #[.int .i64 5, .string ⟨#[]⟩, .string ⟨#[]⟩, .slice none 0 0, .slice (some ⟨wc.heap.size, 0, none⟩) 1 1, .slice none 0 0, .slice none 0 0, .slice none 0 0, .slice none 0 0] 60)) (.cells #[.string ⟨#[109]⟩, .slice none 0 0, .slice none 0 0, .slice (some ⟨(wc.heap.size + 1), 0, none⟩) 1 1] 63)
    have BF := World.alloc_heap_new (((wc.alloc (.cells #[.int .i64 1, .string ⟨#[]⟩, .slice (some ⟨ga, 0, none⟩) 2 2, .slice none 0 0] 28)).alloc (.cells #[.int .i64 5, .string ⟨#[]⟩, .string ⟨#[]⟩, .slice none 0 0, .slice (some ⟨wc.heap.size, 0, none⟩) 1 1, .slice none 0 0, .slice none 0 0, .slice none 0 0, .slice none 0 0] 60)).alloc (.cells #[.string ⟨#[109]⟩, .slice none 0 0, .slice none 0 0, .slice (some ⟨(wc.heap.size + 1), 0, none⟩) 1 1] 63)) (.cells #[.slice (some ⟨(wc.heap.size + 1 + 1), 0, none⟩) 1 1] 41)
    simp only [World.size_alloc] at B2 B3 BF
    replace B1 := block_alloc (block_alloc (block_alloc B1 (.cells #[.int .i64 5, .string ⟨#[]⟩, .string ⟨#[]⟩, .slice none 0 0, .slice (some ⟨wc.heap.size, 0, none⟩) 1 1, .slice none 0 0, .slice none 0 0, .slice none 0 0, .slice none 0 0] 60)) (.cells #[.string ⟨#[109]⟩, .slice none 0 0, .slice none 0 0, .slice (some ⟨(wc.heap.size + 1), 0, none⟩) 1 1] 63)) (.cells #[.slice (some ⟨(wc.heap.size + 1 + 1), 0, none⟩) 1 1] 41)
    replace B2 := block_alloc (block_alloc B2 (.cells #[.string ⟨#[109]⟩, .slice none 0 0, .slice none 0 0, .slice (some ⟨(wc.heap.size + 1), 0, none⟩) 1 1] 63)) (.cells #[.slice (some ⟨(wc.heap.size + 1 + 1), 0, none⟩) 1 1] 41)
    replace B3 := block_alloc B3 (.cells #[.slice (some ⟨(wc.heap.size + 1 + 1), 0, none⟩) 1 1] 41)
    have k1 : Below wc.heap.size wc (wc.alloc (.cells #[.int .i64 1, .string ⟨#[]⟩, .slice (some ⟨ga, 0, none⟩) 2 2, .slice none 0 0] 28)) := (Below.refl _ _).alloc (Nat.le_refl _) _
    have k2 := k1.alloc k1.size (.cells #[.int .i64 5, .string ⟨#[]⟩, .string ⟨#[]⟩, .slice none 0 0, .slice (some ⟨wc.heap.size, 0, none⟩) 1 1, .slice none 0 0, .slice none 0 0, .slice none 0 0, .slice none 0 0] 60)
    have k3 := k2.alloc k2.size (.cells #[.string ⟨#[109]⟩, .slice none 0 0, .slice none 0 0, .slice (some ⟨(wc.heap.size + 1), 0, none⟩) 1 1] 63)
    have k4 := k3.alloc k3.size (.cells #[.slice (some ⟨(wc.heap.size + 1 + 1), 0, none⟩) 1 1] 41)
    have hz : ((((wc.alloc (.cells #[.int .i64 1, .string ⟨#[]⟩, .slice (some ⟨ga, 0, none⟩) 2 2, .slice none 0 0] 28)).alloc (.cells #[.int .i64 5, .string ⟨#[]⟩, .string ⟨#[]⟩, .slice none 0 0, .slice (some ⟨wc.heap.size, 0, none⟩) 1 1, .slice none 0 0, .slice none 0 0, .slice none 0 0, .slice none 0 0] 60)).alloc (.cells #[.string ⟨#[109]⟩, .slice none 0 0, .slice none 0 0, .slice (some ⟨(wc.heap.size + 1), 0, none⟩) 1 1] 63)).alloc (.cells #[.slice (some ⟨(wc.heap.size + 1 + 1), 0, none⟩) 1 1] 41)).heap.size = wc.heap.size + 4 := by simp
    obtain ⟨s0, s1, s2, s3⟩ := open4 BS
    replace BX := block_kept BX k4
    replace BS := block_kept BS k4
    replace BA := block_kept BA k4
    have hgs := (Array.getElem?_eq_some_iff.1 BS).1
    have hga := (Array.getElem?_eq_some_iff.1 BA).1
    replace he1 := he1.keep k4
    replace hx := XT.In.keep (Below.keptTo k4 hn) _ hx
    replace hl0 := keep_cell k4 hl0
    replace hB1 := hB1.trans (k4.mono hB1.size)
    have hx2 := XT.In.less (m := wc.heap.size + 4) (by omega) _ hx
    have hs := ls_in hx2 (by omega) BA
    have hf := lf_in hs (show wc.heap.size < wc.heap.size + 4 by omega) (show wc.heap.size + 1 < wc.heap.size + 4 by omega) (show wc.heap.size + 1 + 1 < wc.heap.size + 4 by omega) B1 B2 B3
    have hn5 := Nat.le_of_eq hz.symm
    have HZ := Lib.hid (And.intro hz (And.intro hgs (And.intro hga hn)))
    clear k1 k2 k3 k4 B1 B2 B3 BA hx hz hgs hga hn
    obtain ⟨x0, x1, x2, x3, x4, x5⟩ := open6 BX
    have HH := Lib.hid (And.intro hx2 (And.intro hs (And.intro hf (And.intro he1 hn5))))
    clear hx2 hs hf he1 hn5
    go_upto_region 5 with (fail)
    simp only [List.append_eq, List.cons_append, List.nil_append]
    obtain ⟨hx, hs, hf, he, hn⟩ := HH.out
    clear HH HZ s0 s1 s2 s3 x0 x1 x2 x3 x4 x5
    generalize (((wc.alloc (.cells #[.int .i64 1, .string ⟨#[]⟩, .slice (some ⟨ga, 0, none⟩) 2 2, .slice none 0 0] 28)).alloc (.cells #[.int .i64 5, .string ⟨#[]⟩, .string ⟨#[]⟩, .slice none 0 0, .slice (some ⟨wc.heap.size, 0, none⟩) 1 1, .slice none 0 0, .slice none 0 0, .slice none 0 0, .slice none 0 0] 60)).alloc (.cells #[.string ⟨#[109]⟩, .slice none 0 0, .slice none 0 0, .slice (some ⟨(wc.heap.size + 1), 0, none⟩) 1 1] 63)).alloc (.cells #[.slice (some ⟨(wc.heap.size + 1 + 1), 0, none⟩) 1 1] 41) = V at *
    generalize wc.heap.size = h at *
    generalize g + 1 + 1 = gx at *
    generalize h + 1 + 1 + 1 = gf at *
    obtain ⟨x0, x1, x2, x3, x4, x5⟩ := open6 BX
    obtain ⟨s0, s1, s2, s3⟩ := open4 BS
    have f0 := (cell_of_box_1 BF).1
    have x0R := cell_regrown x0
    have x1R := cell_regrown x1
    have x2R := cell_regrown x2
    have x3R := cell_regrown x3
    have x4R := cell_regrown x4
    have x5R := cell_regrown x5
    have s0R := cell_regrown s0
    have s1R := cell_regrown s1
    have s2R := cell_regrown s2
    have s3R := cell_regrown s3
    have f0R := cell_regrown f0
    have hl0R := cell_regrown hl0
    have bq := fun (dq : Nat) (os : Array Obj) => below_regrown V dq os
    have heq := fun (dq : Nat) (os : Array Obj) => he.keep (bq dq os)
    have hnq := fun (dq : Nat) (os : Array Obj) => Nat.le_trans hn (bq dq os).size
    have hxq := fun (dq : Nat) (os : Array Obj) => XT.In.keep (Below.keptTo (bq dq os) hn) _ hx
    have hsq := fun (dq : Nat) (os : Array Obj) => ST.In.keep (Below.keptTo (bq dq os) hn) _ hs
    have hfq := fun (dq : Nat) (os : Array Obj) => FT.In.keep (Below.keptTo (bq dq os) hn) _ hf
    have QcX := Lib.hid (fun (dq : Nat) (os : Array Obj) => lv_checkX (hnq dq os) (heq dq os) (hxq dq os))
    have QcN := Lib.hid (fun (dq : Nat) (os : Array Obj) => lv_checkN (heq dq os))
    have QcS := Lib.hid (fun (dq : Nat) (os : Array Obj) => lv_checkS (hnq dq os) (heq dq os) (hsq dq os))
    have QcA := Lib.hid (fun (dq : Nat) (os : Array Obj) => lv_checkA (heq dq os))
    have Qck := Lib.hid (fun (dq : Nat) (os : Array Obj) => lv_check (hnq dq os) (heq dq os) (hfq dq os))
    have Qsz := Lib.hid (fun (dq : Nat) (os : Array Obj) => lv_size (hnq dq os) (hfq dq os))
    have Qdp := Lib.hid (fun (dq : Nat) (os : Array Obj) => lv_deep (hnq dq os) (hfq dq os))
    have QsX := Lib.hid (fun (dq : Nat) (os : Array Obj) => lv_sameX (hnq dq os) (hxq dq os))
    have QsN := Lib.hid (fun (dq : Nat) (os : Array Obj) => lv_sameN (hnq dq os) (hxq dq os))
    have QsS := Lib.hid (fun (dq : Nat) (os : Array Obj) => lv_sameS (hnq dq os) (hsq dq os))
    have Qsm := Lib.hid (fun (dq : Nat) (os : Array Obj) => lv_same (hnq dq os) (hfq dq os))
    clear bq heq hnq hxq hsq hfq hx hs hf he hn
    refine wp_region_quiet_below (by kernel_rfl) (by kernel_rfl) ?_
    repeat (go_big_quiet_step (first | (go_at_call_of 31 (Value.string ⟨#[105, 102]⟩); exact Calls.regrown_of (name_call [105, 102] _)) | (go_at_call_of 31 (Value.string ⟨#[97]⟩); exact Calls.regrown_of (name_call [97] _)) | (go_at_call_of 9 (Value.agg #[.int .i64 2, .string (bs [105, 102]), .int .i64 0, .int .i64 0, .int .u64 0, .slice none 0 0]); exact Calls.regrown_of (QcN.out _ _)) | (go_at_call 9; exact Calls.regrown_of (QcX.out _ _)) | (go_at_call_of 11 (Value.agg #[.int .i64 1, .string ⟨#[]⟩, .slice (some ⟨ga, 0, none⟩) 2 2, .slice none 0 0]); exact Calls.regrown_of (QcS.out _ _)) | (go_at_call 11; exact Calls.regrown_of (QcA.out _ _)) | (go_at_call 32; exact Calls.regrown_of (Qck.out _ _)) | (go_at_call 33; exact Calls.regrown_of (Qsz.out _ _)) | (go_at_call 34; exact Calls.regrown_of (Qdp.out _ _)) | (go_at_call_of 19 (Value.agg #[.int .i64 2, .string (bs [97]), .int .i64 0, .int .i64 0, .int .u64 0, .slice none 0 0]); exact Calls.regrown_of (QsN.out _ _)) | (go_at_call 19; exact Calls.regrown_of (QsX.out _ _)) | (go_at_call 21; exact Calls.regrown_of (QsS.out _ _)) | (go_at_call 17; exact Calls.regrown_of (Qsm.out _ _))))
    refine wpQuiet_nil ?_
    intro _ hw'
    obtain ⟨⟨dq, osq⟩, hw''⟩ := hw'
    subst hw''
    have hB2 := hB1.trans ((below_regrown V dq osq).mono hB1.size)
    clear hB1 x0R x1R x2R x3R x4R x5R s0R s1R s2R s3R f0R hl0R
    go_wp2
    go_ret
    exact ⟨rfl, hB2⟩
end Go.Proofs.YtlbjmnakiflfpaaGreatDoor
