/-
  names: what the laws' walks have in common.
-/
import Derived.Test.YtbfhbblbjgkolaaGreatDoorNrE
namespace Go.Proofs.YtbfhbblbjgkolaaGreatDoor
open Go Go.RowKit
set_option linter.unusedVariables false
set_option linter.unusedSimpArgs false
open Go.Sort

/-- What is kept of the file while a law runs. -/
structure Wo2 (W V : World) (n0 g : Nat) (f : FT) : Prop where
  env : EnvA V
  low : Below W.heap.size W V
  hn : n0 ≤ V.heap.size
  fin : FT.In n0 V f
  box : V.heap[g]? = some (.cells #[.slice f.ma f.ml.length f.mc] 24 (0, 0))
theorem Wo2.keep {W V V' : World} {n0 g : Nat} {f : FT} (h : Wo2 W V n0 g f) (hb : Below V.heap.size V V') : Wo2 W V' n0 g f :=
  ⟨h.env.keep hb, h.low.trans (hb.mono h.low.size), Nat.le_trans h.hn hb.size, FT.In.keep (Below.keptTo hb h.hn) _ h.fin, block_kept h.box hb⟩
theorem checkP_zero {f : FT} (h0 : checkP f = 0) : checkF f = 0 ∧ twiceB [] f.ml = false ∧ hasAllB f.ml = true ∧ ∃ out, ordN f.ml f.ml.length [] = some out := by
  have hF : checkF f = 0 := by
    unfold checkP at h0
    by_cases e : checkF f = 0
    · exact e
    · rw [if_pos e] at h0; exact absurd h0 e
  have hN : checkN f.ml = 0 := by
    unfold checkP at h0
    rwa [if_neg (by rw [hF]; simp)] at h0
  unfold checkN at hN
  have hT : twiceB [] f.ml = false := by
    cases e : twiceB [] f.ml
    · rfl
    · rw [e, if_pos rfl] at hN; exact absurd hN (by decide)
  rw [hT, if_neg (by decide)] at hN
  have hA : hasAllB f.ml = true := by
    cases e : hasAllB f.ml
    · rw [e, if_pos rfl] at hN; exact absurd hN (by decide)
    · rfl
  rw [hA, if_neg (by decide)] at hN
  refine ⟨hF, hT, hA, ?_⟩
  cases e : ordN f.ml f.ml.length []
  · rw [e, if_pos (by rfl)] at hN; exact absurd hN (by decide)
  · exact ⟨_, rfl⟩
theorem lies_take7 {w : World} {a : Option Addr} {l : List Bytes} (h : LiesS w a l) (k : Nat) : LiesS w a (l.take k) := by
  rcases h with h | ⟨b, o, h1, h2⟩
  · exact .inl (by rw [h]; simp)
  · refine .inr ⟨b, o, h1, fun i hi => ?_⟩
    rw [List.length_take] at hi
    rw [List.getElem_take]
    exact h2 i (by omega)
theorem lies_drewN7 {w : World} {a : Option Addr} {l : List Bytes} (n : Nat) (h : LiesS w a l) : LiesS (w.drewN n) a l := by unfold LiesS at h ⊢; exact h
theorem lies_keep8 {n0 : Nat} {W W' : World} {a : Option Addr} {l : List Bytes} (h : LiesS W a l) (hb : Below n0 W W') (hn : n0 = W.heap.size := by rfl) : LiesS W' a l := by
  subst hn
  rcases h with h | ⟨b, o, h1, h2⟩
  · exact .inl h
  · refine .inr ⟨b, o, h1, fun i hi => ?_⟩
    have h3 := h2 i hi
    have hlt := cell_lt h3
    simp only [World.cell?] at h3 ⊢
    rw [hb.block b hlt]
    exact h3
theorem own_cap7 {w : World} {B e c n : Nat} {a : Option Addr} {xs : List Value} (h : w.ownsRow B e 1 (.slice a n c) n xs) : n ≤ c := by
  rcases h.2 with ⟨h1, h2⟩ | ⟨g, cap, cur, h1, hg, hh, h3, h4, h5, h6⟩
  · simp only [Value.slice.injEq] at h1; omega
  · simp only [Value.slice.injEq] at h1; omega
theorem lies_srow7 {lo : Nat} {W : World} {a : Option Addr} {c n : Nat} {l : List Bytes} (h : SRow lo W (.slice a n c) l) : n = l.length ∧ LiesS W a l := by
  obtain ⟨a', c', e1, e2⟩ := h
  injection e1 with e1 e3 e4
  subst e1
  exact ⟨e3, e2.imp id (fun ⟨b, o, x1, x2, x3, x4⟩ => ⟨b, o, x1, x4⟩)⟩
theorem box4 {w : World} {g : Nat} {v0 v1 v2 v3 : Value} {t : TypeId} (h : w.heap[g]? = some (.cells #[v0, v1, v2, v3] t (0, 0))) : (w.cell? ⟨g, 0, none⟩ = some v0 ∧ w.cell? ⟨g, 1, none⟩ = some v1 ∧ w.cell? ⟨g, 2, none⟩ = some v2 ∧ w.cell? ⟨g, 3, none⟩ = some v3) ∧ w.frozen? ⟨g, 0, none⟩ = false ∧ w.frozen? ⟨g, 1, none⟩ = false ∧ w.frozen? ⟨g, 2, none⟩ = false ∧ w.frozen? ⟨g, 3, none⟩ = false := by
  simp [World.cell?, World.frozen?, h]
/-- What is found, put into a variable that was made ahead of it. -/
theorem found_put {w V : World} {y : MT} {z : Nat} (hz : w.heap.size = z) (hb : Below (w.alloc (.cells #[.string ⟨#[]⟩, .slice none 0 0, .slice none 0 0, .slice none 0 0] 33)).heap.size (w.alloc (.cells #[.string ⟨#[]⟩, .slice none 0 0, .slice none 0 0, .slice none 0 0] 33)) V) (hy : y.In V.heap.size (frm V (w.alloc (.cells #[.string ⟨#[]⟩, .slice none 0 0, .slice none 0 0, .slice none 0 0] 33)).heap.size)) :
    (putC V z 0 y.cells).heap[z]? = some (.cells y.cells.toArray 33 (0, 0)) ∧ y.In (putC V z 0 y.cells).heap.size (putC V z 0 y.cells) ∧ Below w.heap.size w (putC V z 0 y.cells) := by
  have hs := hb.size
  rw [World.size_alloc] at hs
  have hbz : V.heap[z]? = some (.cells #[.string ⟨#[]⟩, .slice none 0 0, .slice none 0 0, .slice none 0 0] 33 (0, 0)) := by
    rw [← hz]
    exact (hb.block w.heap.size (by rw [World.size_alloc]; omega)).trans (World.alloc_heap_new w _)
  refine ⟨?_, ?_, ?_⟩
  · obtain ⟨nm, pa, pc, pl, ta, tc, tl, ia, ic, il⟩ := y
    simp only [MT.cells, putC]
    simp [World.setCell, Array.getElem?_modify, hbz]
  · rw [putC_size]
    refine MT.In.keep (fun b o v hbl hv => ?_) _ hy
    obtain ⟨h1, h2⟩ := frm_cell.1 hv
    rw [World.size_alloc] at h1
    have h3 := putC_other z b (by omega) y.cells V 0
    simp only [World.cell?, h3] at h2 ⊢
    exact h2
  · exact (((Below.refl _ _).alloc (Nat.le_refl _) _).trans (hb.mono (by rw [World.size_alloc]; omega))).trans (putC_below (by omega) _ _ _)
/-- What is found, in a variable made behind it. -/
theorem found_new {w V : World} {y : MT} (hb : Below w.heap.size w V) (hy : y.In V.heap.size (frm V w.heap.size)) :
    (V.alloc (.cells y.cells.toArray 33)).heap[V.heap.size]? = some (.cells y.cells.toArray 33 (0, 0)) ∧ y.In (V.alloc (.cells y.cells.toArray 33)).heap.size (V.alloc (.cells y.cells.toArray 33)) ∧ Below w.heap.size w (V.alloc (.cells y.cells.toArray 33)) := by
  have hs := hb.size
  refine ⟨World.alloc_heap_new V _, ?_, hb.alloc hs _⟩
  have h1 := MT.In.keep (frm_kept V.heap.size V w.heap.size) _ hy
  have hb2 : Below V.heap.size V (V.alloc (.cells y.cells.toArray 33)) := (Below.refl _ _).alloc (Nat.le_refl _) _
  exact MT.In.less hb2.size _ (MT.In.keep (Below.keptTo hb2 (Nat.le_refl _)) _ h1)
end Go.Proofs.YtbfhbblbjgkolaaGreatDoor
