/-
  sized: a design without processes and checks, copied.
-/
import Derived.Test.YtbcgeglkmpcnpaaDoorEyA
import Derived.Test.YtbcgeglkmpcnpaaDoorEzV
import Derived.Test.YtbcgeglkmpcnpaaDoorEzY
namespace Go.Proofs.YtbcgeglkmpcnpaaDoor
open Go Go.RowKit
set_option linter.unusedVariables false
set_option linter.unusedSimpArgs false
open Go.Sort

set_option maxHeartbeats 8000000 in
set_option maxRecDepth 100000 in
theorem copyNilQ_any (w : World) : Calls Tryd.prog 79 #[.slice none 0 0, .func (.func 80) #[] #[]] w fun e w' => e = .returned (.slice none 0 0) ∧ w = w' := by
  go_enter Tryd.func79, Tryd.ntmps79
  go_wp2
  go_ret
  exact ⟨rfl, rfl⟩
set_option maxHeartbeats 8000000 in
set_option maxRecDepth 100000 in
theorem copyNilK_any (w : World) : Calls Tryd.prog 81 #[.slice none 0 0, .func (.func 82) #[] #[]] w fun e w' => e = .returned (.slice none 0 0) ∧ w = w' := by
  go_enter Tryd.func81, Tryd.ntmps81
  go_wp2
  go_ret
  exact ⟨rfl, rfl⟩
theorem gkeep {W W' : World} {gx : Nat} {gl : List GT} {u : Value} {k : Option Addr → Nat → Value} (h : ∃ (a : Option Addr) (c : Nat), u = k a c ∧ GsIn W.heap.size W gl a ∧ ∀ p, a = some p → gx + 2 ≤ p.block) (hb : Below W.heap.size W W') : ∃ (a : Option Addr) (c : Nat), u = k a c ∧ GsIn W'.heap.size W' gl a ∧ ∀ p, a = some p → gx + 2 ≤ p.block := by
  obtain ⟨a, c, h1, h2, h3⟩ := h
  exact ⟨a, c, h1, InRow.less hb.size (fun _ _ h => h) (h2.keep (Below.keptTo hb (Nat.le_refl _))), h3⟩
def CfP (gl : List GT) (w : World) : Ending → World → Prop := fun e w' => ∃ (a : Option Addr) (c : Nat), e = .returned (.agg #[.slice a gl.length c, .slice none 0 0, .slice none 0 0]) ∧ GsIn w'.heap.size w' gl a ∧ (∀ p, a = some p → w.heap.size ≤ p.block) ∧ Below w.heap.size w w'
theorem gother {W W' : World} {gx : Nat} {gl : List GT} {u : Value} {k : Option Addr → Nat → Value} (h : ∃ (a : Option Addr) (c : Nat), u = k a c ∧ GsIn W.heap.size W gl a ∧ ∀ p, a = some p → gx + 2 ≤ p.block) (ho : ∀ j, j ≠ gx + 1 → W'.heap[j]? = W.heap[j]?) (hs : W'.heap.size = W.heap.size) : ∃ (a : Option Addr) (c : Nat), u = k a c ∧ GsIn W'.heap.size W' gl a ∧ ∀ p, a = some p → gx + 2 ≤ p.block := by
  obtain ⟨a, c, h1, h2, h3⟩ := h
  exact ⟨a, c, h1, by rw [hs]; exact h2.other (B := gx + 1) (fun p hp => by have := h3 p hp; omega) ho, h3⟩
theorem thaw3 {w : World} {g : Nat} {v0 v1 v2 : Value} {t : TypeId} (h : w.heap[g]? = some (.cells #[v0, v1, v2] t (0, 0))) : w.frozen? ⟨g, 0, none⟩ = false ∧ w.frozen? ⟨g, 1, none⟩ = false ∧ w.frozen? ⟨g, 2, none⟩ = false := by
  simp [World.frozen?, h]
set_option maxHeartbeats 8000000 in
set_option maxRecDepth 100000 in
theorem copyFlat0_any (n0 : Nat) (gl : List GT) (hll : gl.length ≤ 12000000) (ga : Option Addr) (gc : Nat) (w : World) (hn0 : n0 ≤ w.heap.size) (hin : GsIn n0 w gl ga) :
    Calls Tryd.prog 38 #[.agg #[.slice ga gl.length gc, .slice none 0 0, .slice none 0 0]] w (CfP gl w) := by
  have cg := fun (W : World) (h : Below w.heap.size w W) => copyAllG_any n0 gl hll ga gc W (Nat.le_trans hn0 h.size) (hin.keep (Below.keptTo h hn0))
  have HG := Lib.hid cg
  clear cg
  obtain ⟨gx, hgx⟩ : ∃ gx, w.heap.size = gx := ⟨_, rfl⟩
  obtain ⟨wa, hwa⟩ : ∃ wa, w.alloc (.cells #[.slice ga gl.length gc, .slice none 0 0, .slice none 0 0] 26) = wa := ⟨_, rfl⟩
  have hba : Below w.heap.size w wa := by rw [← hwa]; exact (Below.refl _ _).alloc (Nat.le_refl _) _
  have hsa : wa.heap.size = gx + 1 := by rw [← hwa, World.size_alloc, hgx]
  have BX : wa.heap[gx]? = some (.cells #[.slice ga gl.length gc, .slice none 0 0, .slice none 0 0] 26 (0, 0)) := by rw [← hwa, ← hgx]; exact World.alloc_heap_new w _
  obtain ⟨w1, hw1⟩ : ∃ w1, wa.alloc (.cells #[.slice none 0 0, .slice none 0 0, .slice none 0 0] 26 (0, 0)) = w1 := ⟨_, rfl⟩
  have hb1 : Below wa.heap.size wa w1 := by rw [← hw1]; exact (Below.refl _ _).alloc (Nat.le_refl _) _
  have hbw : Below w.heap.size w w1 := hba.trans (hb1.mono hba.size)
  have BX1 := block_kept BX hb1
  have BY : w1.heap[gx + 1]? = some (.cells #[.slice none 0 0, .slice none 0 0, .slice none 0 0] 26 (0, 0)) := by rw [← hw1, ← hsa]; exact World.alloc_heap_new wa _
  have ckeep : ∀ {W W' : World} {b : Bool}, (Below w.heap.size w W ∧ W.heap[gx]? = some (.cells #[.slice ga gl.length gc, .slice none 0 0, .slice none 0 0] 26 (0, 0)) ∧ (b = false → W.heap[gx + 1]? = some (.cells #[.slice none 0 0, .slice none 0 0, .slice none 0 0] 26 (0, 0))) ∧ (b = true → ∃ a c, W.heap[gx + 1]? = some (.cells #[.slice a gl.length c, .slice none 0 0, .slice none 0 0] 26 (0, 0)) ∧ GsIn W.heap.size W gl a ∧ ∀ p, a = some p → gx + 2 ≤ p.block)) → Below W.heap.size W W' → (Below w.heap.size w W' ∧ W'.heap[gx]? = some (.cells #[.slice ga gl.length gc, .slice none 0 0, .slice none 0 0] 26 (0, 0)) ∧ (b = false → W'.heap[gx + 1]? = some (.cells #[.slice none 0 0, .slice none 0 0, .slice none 0 0] 26 (0, 0))) ∧ (b = true → ∃ a c, W'.heap[gx + 1]? = some (.cells #[.slice a gl.length c, .slice none 0 0, .slice none 0 0] 26 (0, 0)) ∧ GsIn W'.heap.size W' gl a ∧ ∀ p, a = some p → gx + 2 ≤ p.block)) := fun h hb => ⟨h.1.trans (hb.mono h.1.size), block_kept h.2.1 hb, fun q => block_kept (h.2.2.1 q) hb, fun q => by
    obtain ⟨a, c, h1, h2, h3⟩ := h.2.2.2 q
    exact ⟨a, c, block_kept h1 hb, InRow.less hb.size (fun _ _ h => h) (h2.keep (Below.keptTo hb (Nat.le_refl _))), h3⟩⟩
  have csize : ∀ {W : World} {b : Bool}, (Below w.heap.size w W ∧ W.heap[gx]? = some (.cells #[.slice ga gl.length gc, .slice none 0 0, .slice none 0 0] 26 (0, 0)) ∧ (b = false → W.heap[gx + 1]? = some (.cells #[.slice none 0 0, .slice none 0 0, .slice none 0 0] 26 (0, 0))) ∧ (b = true → ∃ a c, W.heap[gx + 1]? = some (.cells #[.slice a gl.length c, .slice none 0 0, .slice none 0 0] 26 (0, 0)) ∧ GsIn W.heap.size W gl a ∧ ∀ p, a = some p → gx + 2 ≤ p.block)) → gx + 2 ≤ W.heap.size := fun {W b} h => by
    cases b with
    | false => have h9 := (Array.getElem?_eq_some_iff.1 (h.2.2.1 rfl)).1; omega
    | true => obtain ⟨a, c, h1, _⟩ := h.2.2.2 rfl; have h9 := (Array.getElem?_eq_some_iff.1 h1).1; omega
  have cstore : ∀ {W : World} {b : Bool} {a : Option Addr} {c : Nat}, (Below w.heap.size w W ∧ W.heap[gx]? = some (.cells #[.slice ga gl.length gc, .slice none 0 0, .slice none 0 0] 26 (0, 0)) ∧ (b = false → W.heap[gx + 1]? = some (.cells #[.slice none 0 0, .slice none 0 0, .slice none 0 0] 26 (0, 0))) ∧ (b = true → ∃ a c, W.heap[gx + 1]? = some (.cells #[.slice a gl.length c, .slice none 0 0, .slice none 0 0] 26 (0, 0)) ∧ GsIn W.heap.size W gl a ∧ ∀ p, a = some p → gx + 2 ≤ p.block)) → b = false → GsIn W.heap.size W gl a → (∀ p, a = some p → gx + 2 ≤ p.block) → Below w.heap.size w (((W.setCell ⟨gx + 1, 0, none⟩ (.slice a gl.length c)).setCell ⟨gx + 1, 1, none⟩ (.slice none 0 0)).setCell ⟨gx + 1, 2, none⟩ (.slice none 0 0)) ∧ (((W.setCell ⟨gx + 1, 0, none⟩ (.slice a gl.length c)).setCell ⟨gx + 1, 1, none⟩ (.slice none 0 0)).setCell ⟨gx + 1, 2, none⟩ (.slice none 0 0)).heap[gx]? = some (.cells #[.slice ga gl.length gc, .slice none 0 0, .slice none 0 0] 26 (0, 0)) ∧ (((W.setCell ⟨gx + 1, 0, none⟩ (.slice a gl.length c)).setCell ⟨gx + 1, 1, none⟩ (.slice none 0 0)).setCell ⟨gx + 1, 2, none⟩ (.slice none 0 0)).heap[gx + 1]? = some (.cells #[.slice a gl.length c, .slice none 0 0, .slice none 0 0] 26 (0, 0)) ∧ GsIn (((W.setCell ⟨gx + 1, 0, none⟩ (.slice a gl.length c)).setCell ⟨gx + 1, 1, none⟩ (.slice none 0 0)).setCell ⟨gx + 1, 2, none⟩ (.slice none 0 0)).heap.size (((W.setCell ⟨gx + 1, 0, none⟩ (.slice a gl.length c)).setCell ⟨gx + 1, 1, none⟩ (.slice none 0 0)).setCell ⟨gx + 1, 2, none⟩ (.slice none 0 0)) gl a := fun {W b a c} h hb hi hf => by
    have h1 := h.2.2.1 hb
    have ho : ∀ k, k ≠ gx + 1 → (((W.setCell ⟨gx + 1, 0, none⟩ (.slice a gl.length c)).setCell ⟨gx + 1, 1, none⟩ (.slice none 0 0)).setCell ⟨gx + 1, 2, none⟩ (.slice none 0 0)).heap[k]? = W.heap[k]? := fun k hk => by rw [Below.heap_setCell _ _ _ k hk, Below.heap_setCell _ _ _ k hk, Below.heap_setCell _ _ _ k hk]
    refine ⟨((h.1.setCell (p := ⟨gx + 1, 0, none⟩) (show w.heap.size ≤ gx + 1 by omega) _).setCell (p := ⟨gx + 1, 1, none⟩) (show w.heap.size ≤ gx + 1 by omega) _).setCell (p := ⟨gx + 1, 2, none⟩) (show w.heap.size ≤ gx + 1 by omega) _, (ho gx (by omega)).trans h.2.1, ?_, ?_⟩
    · simp [World.setCell, Array.getElem?_modify, h1]
    · simp only [World.size_setCell]
      exact hi.other (B := gx + 1) (fun p hp => by have := hf p hp; omega) ho
  have HC0 : Hid (Below w.heap.size w w1.drew ∧ w1.drew.heap[gx]? = some (.cells #[.slice ga gl.length gc, .slice none 0 0, .slice none 0 0] 26 (0, 0)) ∧ (false = false → w1.drew.heap[gx + 1]? = some (.cells #[.slice none 0 0, .slice none 0 0, .slice none 0 0] 26 (0, 0))) ∧ (false = true → ∃ a c, w1.drew.heap[gx + 1]? = some (.cells #[.slice a gl.length c, .slice none 0 0, .slice none 0 0] 26 (0, 0)) ∧ GsIn w1.drew.heap.size w1.drew gl a ∧ ∀ p, a = some p → gx + 2 ≤ p.block)) := Lib.hid ⟨⟨hbw.os, hbw.tape, hbw.output, hbw.size, hbw.block⟩, BX1, fun _ => BY, fun h => by cases h⟩
  clear hba BX hb1 hbw BX1 BY hin
  go_enter Tryd.func38, Tryd.ntmps38
  go_upto_region 1 with (fail)
  (try rw [hwa])
  (try rw [hgx])
  (try rw [hw1])
  (try rw [hsa])
  clear hwa hw1 hsa
  refine wp_region_inv (fun (b : Nat → Bool) (a : Act) (W9 : World) => ∃ (u0 u1 u2 u3 u4 u5 u6 u7 u8 u9 u10 : Value), a = { tmps := #[.agg #[.slice ga gl.length gc, .slice none 0 0, .slice none 0 0], .pointer (some ⟨gx, 0, none⟩), .pointer (some ⟨gx + 1, 0, none⟩), u0, u1, u2, u3, u4, u5, u6, u7, u8, u9], defers := [] } ∧ (Below w.heap.size w W9 ∧ W9.heap[gx]? = some (.cells #[.slice ga gl.length gc, .slice none 0 0, .slice none 0 0] 26 (0, 0)) ∧ (b 10 = false → W9.heap[gx + 1]? = some (.cells #[.slice none 0 0, .slice none 0 0, .slice none 0 0] 26 (0, 0))) ∧ (b 10 = true → ∃ a c, W9.heap[gx + 1]? = some (.cells #[.slice a gl.length c, .slice none 0 0, .slice none 0 0] 26 (0, 0)) ∧ GsIn W9.heap.size W9 gl a ∧ ∀ p, a = some p → gx + 2 ≤ p.block)) ∧ (b 0 = true → u0 = .pointer (some ⟨gx, 0, none⟩)) ∧ (b 1 = true → u1 = .slice ga gl.length gc) ∧ (b 2 = true → (∃ (a : Option Addr) (c : Nat), u2 = .slice a gl.length c ∧ GsIn W9.heap.size W9 gl a ∧ ∀ p, a = some p → gx + 2 ≤ p.block)) ∧ (b 3 = true → u3 = .pointer (some ⟨gx, 1, none⟩)) ∧ (b 4 = true → u4 = .slice none 0 0) ∧ (b 5 = true → u5 = .slice none 0 0) ∧ (b 6 = true → u6 = .pointer (some ⟨gx, 2, none⟩)) ∧ (b 7 = true → u7 = .slice none 0 0) ∧ (b 8 = true → u8 = .slice none 0 0) ∧ (b 9 = true → (∃ (a : Option Addr) (c : Nat), u9 = .agg #[.slice a gl.length c, .slice none 0 0, .slice none 0 0] ∧ GsIn W9.heap.size W9 gl a ∧ ∀ p, a = some p → gx + 2 ≤ p.block)) ∧ (b 10 = true → True)) (by kernel_rfl) (by kernel_rfl) ?_ ?_ ?_
  · refine ⟨undef, undef, undef, undef, undef, undef, undef, undef, undef, undef, undef, rfl, HC0.out, fun h => (by cases h), fun h => (by cases h), fun h => (by cases h), fun h => (by cases h), fun h => (by cases h), fun h => (by cases h), fun h => (by cases h), fun h => (by cases h), fun h => (by cases h), fun h => (by cases h), fun h => (by cases h)⟩
  · refine ⟨⟨rfl, ?_⟩, ⟨⟨rfl, ?_⟩, ⟨⟨rfl, ?_⟩, ⟨⟨rfl, ?_⟩, ⟨⟨rfl, ?_⟩, ⟨⟨rfl, ?_⟩, ⟨⟨rfl, ?_⟩, ⟨⟨rfl, ?_⟩, ⟨⟨rfl, ?_⟩, ⟨⟨rfl, ?_⟩, ⟨⟨rfl, ?_⟩, trivial⟩⟩⟩⟩⟩⟩⟩⟩⟩⟩⟩
    · intro b a W9 hbk hd hcl hJ K hK
      obtain ⟨u0, u1, u2, u3, u4, u5, u6, u7, u8, u9, u10, rfl, hC, f0, f1, f2, f3, f4, f5, f6, f7, f8, f9, f10⟩ := hJ
      go_simp
      exact hK _ _ ⟨_, _, _, _, _, _, _, _, _, _, undef, rfl, hC, fun _ => rfl, f1, f2, f3, f4, f5, f6, f7, f8, f9, f10⟩
    · intro b a W9 hbk hd hcl hJ K hK
      obtain ⟨u0, u1, u2, u3, u4, u5, u6, u7, u8, u9, u10, rfl, hC, f0, f1, f2, f3, f4, f5, f6, f7, f8, f9, f10⟩ := hJ
      have d0 := f0 (hd ⟨0, .data⟩ (by simp) rfl)
      obtain ⟨z0, z1, z2⟩ := ope3 hC.2.1
      subst d0
      go_simp
      exact hK _ _ ⟨_, _, _, _, _, _, _, _, _, _, undef, rfl, hC, f0, fun _ => rfl, f2, f3, f4, f5, f6, f7, f8, f9, f10⟩
    · intro b a W9 hbk hd hcl hJ K hK
      obtain ⟨u0, u1, u2, u3, u4, u5, u6, u7, u8, u9, u10, rfl, hC, f0, f1, f2, f3, f4, f5, f6, f7, f8, f9, f10⟩ := hJ
      have d1 := f1 (hd ⟨1, .data⟩ (by simp) rfl)
      subst d1
      go_simp
      refine (HG.out W9 hC.1).mono ?_
      rintro e W8 ⟨a', c', rfl, hi, hf, hb⟩
      have hC' := ckeep hC hb
      exact hK _ _ ⟨_, _, _, _, _, _, _, _, _, _, undef, rfl, hC', f0, f1, fun _ => ⟨a', c', rfl, hi, fun p hp => Nat.le_trans (csize hC) (hf p hp)⟩, f3, f4, f5, f6, f7, f8, fun h => (gkeep (f9 h) hb), f10⟩
    · intro b a W9 hbk hd hcl hJ K hK
      obtain ⟨u0, u1, u2, u3, u4, u5, u6, u7, u8, u9, u10, rfl, hC, f0, f1, f2, f3, f4, f5, f6, f7, f8, f9, f10⟩ := hJ
      go_simp
      exact hK _ _ ⟨_, _, _, _, _, _, _, _, _, _, undef, rfl, hC, f0, f1, f2, fun _ => rfl, f4, f5, f6, f7, f8, f9, f10⟩
    · intro b a W9 hbk hd hcl hJ K hK
      obtain ⟨u0, u1, u2, u3, u4, u5, u6, u7, u8, u9, u10, rfl, hC, f0, f1, f2, f3, f4, f5, f6, f7, f8, f9, f10⟩ := hJ
      have d3 := f3 (hd ⟨3, .data⟩ (by simp) rfl)
      obtain ⟨z0, z1, z2⟩ := ope3 hC.2.1
      subst d3
      go_simp
      exact hK _ _ ⟨_, _, _, _, _, _, _, _, _, _, undef, rfl, hC, f0, f1, f2, f3, fun _ => rfl, f5, f6, f7, f8, f9, f10⟩
    · intro b a W9 hbk hd hcl hJ K hK
      obtain ⟨u0, u1, u2, u3, u4, u5, u6, u7, u8, u9, u10, rfl, hC, f0, f1, f2, f3, f4, f5, f6, f7, f8, f9, f10⟩ := hJ
      have d4 := f4 (hd ⟨4, .data⟩ (by simp) rfl)
      subst d4
      go_simp
      refine (copyNilQ_any W9).mono ?_
      rintro e W8 ⟨rfl, rfl⟩
      exact hK _ _ ⟨_, _, _, _, _, _, _, _, _, _, undef, rfl, hC, f0, f1, f2, f3, f4, fun _ => rfl, f6, f7, f8, f9, f10⟩
    · intro b a W9 hbk hd hcl hJ K hK
      obtain ⟨u0, u1, u2, u3, u4, u5, u6, u7, u8, u9, u10, rfl, hC, f0, f1, f2, f3, f4, f5, f6, f7, f8, f9, f10⟩ := hJ
      go_simp
      exact hK _ _ ⟨_, _, _, _, _, _, _, _, _, _, undef, rfl, hC, f0, f1, f2, f3, f4, f5, fun _ => rfl, f7, f8, f9, f10⟩
    · intro b a W9 hbk hd hcl hJ K hK
      obtain ⟨u0, u1, u2, u3, u4, u5, u6, u7, u8, u9, u10, rfl, hC, f0, f1, f2, f3, f4, f5, f6, f7, f8, f9, f10⟩ := hJ
      have d6 := f6 (hd ⟨6, .data⟩ (by simp) rfl)
      obtain ⟨z0, z1, z2⟩ := ope3 hC.2.1
      subst d6
      go_simp
      exact hK _ _ ⟨_, _, _, _, _, _, _, _, _, _, undef, rfl, hC, f0, f1, f2, f3, f4, f5, f6, fun _ => rfl, f8, f9, f10⟩
    · intro b a W9 hbk hd hcl hJ K hK
      obtain ⟨u0, u1, u2, u3, u4, u5, u6, u7, u8, u9, u10, rfl, hC, f0, f1, f2, f3, f4, f5, f6, f7, f8, f9, f10⟩ := hJ
      have d7 := f7 (hd ⟨7, .data⟩ (by simp) rfl)
      subst d7
      go_simp
      refine (copyNilK_any W9).mono ?_
      rintro e W8 ⟨rfl, rfl⟩
      exact hK _ _ ⟨_, _, _, _, _, _, _, _, _, _, undef, rfl, hC, f0, f1, f2, f3, f4, f5, f6, f7, fun _ => rfl, f9, f10⟩
    · intro b a W9 hbk hd hcl hJ K hK
      obtain ⟨u0, u1, u2, u3, u4, u5, u6, u7, u8, u9, u10, rfl, hC, f0, f1, f2, f3, f4, f5, f6, f7, f8, f9, f10⟩ := hJ
      have d2 := f2 (hd ⟨2, .data⟩ (by simp) rfl)
      have d5 := f5 (hd ⟨5, .data⟩ (by simp) rfl)
      have d8 := f8 (hd ⟨8, .data⟩ (by simp) rfl)
      obtain ⟨a', c', rfl, hi, hf⟩ := d2
      subst d5
      subst d8
      go_simp
      exact hK _ _ ⟨_, _, _, _, _, _, _, _, _, _, undef, rfl, hC, f0, f1, f2, f3, f4, f5, f6, f7, f8, fun _ => ⟨a', c', rfl, hi, hf⟩, f10⟩
    · intro b a W9 hbk hd hcl hJ K hK
      obtain ⟨u0, u1, u2, u3, u4, u5, u6, u7, u8, u9, u10, rfl, hC, f0, f1, f2, f3, f4, f5, f6, f7, f8, f9, f10⟩ := hJ
      have d9 := f9 (hd ⟨9, .data⟩ (by simp) rfl)
      obtain ⟨a', c', rfl, hi, hf⟩ := d9
      obtain ⟨z0, z1, z2⟩ := ope3 (hC.2.2.1 hbk)
      obtain ⟨p0, p1, p2⟩ := thaw3 (hC.2.2.1 hbk)
      have hC' := cstore (c := c') hC hbk hi hf
      have ho : ∀ k, k ≠ gx + 1 → (((W9.setCell ⟨gx + 1, 0, none⟩ (.slice a' gl.length c')).setCell ⟨gx + 1, 1, none⟩ (.slice none 0 0)).setCell ⟨gx + 1, 2, none⟩ (.slice none 0 0)).heap[k]? = W9.heap[k]? := fun k hk => by rw [Below.heap_setCell _ _ _ k hk, Below.heap_setCell _ _ _ k hk, Below.heap_setCell _ _ _ k hk]
      go_simp
      exact hK _ _ ⟨_, _, _, _, _, _, _, _, _, _, undef, rfl, ⟨hC'.1, hC'.2.1, fun h => (by cases h), fun _ => ⟨a', c', hC'.2.2.1, hC'.2.2.2, hf⟩⟩, f0, f1, fun h => (gother (f2 h) ho (by simp only [World.size_setCell])), f3, f4, f5, f6, f7, f8, fun h => (gother (f9 h) ho (by simp only [World.size_setCell])), fun _ => trivial⟩
  · intro b a W9 hb hJ
    obtain ⟨u0, u1, u2, u3, u4, u5, u6, u7, u8, u9, u10, rfl, hC, f0, f1, f2, f3, f4, f5, f6, f7, f8, f9, f10⟩ := hJ
    replace f0 := f0 (hb 0 (by decide))
    replace f1 := f1 (hb 1 (by decide))
    replace f2 := f2 (hb 2 (by decide))
    replace f3 := f3 (hb 3 (by decide))
    replace f4 := f4 (hb 4 (by decide))
    replace f5 := f5 (hb 5 (by decide))
    replace f6 := f6 (hb 6 (by decide))
    replace f7 := f7 (hb 7 (by decide))
    replace f8 := f8 (hb 8 (by decide))
    replace f9 := f9 (hb 9 (by decide))
    replace f10 := f10 (hb 10 (by decide))
    obtain ⟨a', c', h1, h2, h3⟩ := hC.2.2.2 (hb 10 (by decide))
    obtain ⟨t0, t1, t2⟩ := ope3 h1
    have HP : Hid (CfP gl w (.returned (.agg #[.slice a' gl.length c', .slice none 0 0, .slice none 0 0])) W9) := Lib.hid ⟨a', c', rfl, h2, fun p hp => by have := h3 p hp; omega, hC.1⟩
    clear hC f0 f1 f2 f3 f4 f5 f6 f7 f8 f9 f10 h1 h2 h3 ckeep csize cstore
    go_wp2
    have hu := Tryd.underlying26
    refine bodyPost_ret (v := .agg #[.slice a' gl.length c', .slice none 0 0, .slice none 0 0]) (by simp [results, Tryd.results38, go_sem, hu, t0, t1, t2]) rfl HP.out
end Go.Proofs.YtbcgeglkmpcnpaaDoor
