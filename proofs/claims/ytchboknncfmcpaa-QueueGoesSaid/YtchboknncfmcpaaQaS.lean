/-
  Stores into blocks of four cells; an append of events, as an operation.
-/
import Derived.Test.YtchboknncfmcpaaQaG
import Derived.Laws.OwnMore
namespace Go.Proofs.Ytchboknncfmcpaa
open Go Go.RowKit
set_option linter.unusedVariables false
set_option linter.unusedSimpArgs false
open Go.Sort
theorem block_set {w : World} {g j : Nat} {v : Value} {cs : Array Value} {t : TypeId} (h : w.heap[g]? = some (.cells cs t (0, 0))) : (w.setCell ⟨g, j, none⟩ v).heap[g]? = some (.cells (cs.setIfInBounds j v) t (0, 0)) := by
  simp [World.setCell, Array.getElem?_modify, h]
theorem block_set_ne {w : World} {g g' j : Nat} {v : Value} {o : Obj} (h : w.heap[g]? = some o) (hn : g' ≠ g) : (w.setCell ⟨g', j, none⟩ v).heap[g]? = some o := by
  simp [World.setCell, Array.getElem?_modify, h, hn]
theorem froz {w : World} {g : Nat} {cs : Array Value} {t : TypeId} (h : w.heap[g]? = some (.cells cs t (0, 0))) (j : Nat) : w.frozen? ⟨g, j, none⟩ = false := by simp [World.frozen?, h]
theorem alloc_cell {w : World} {p : Addr} {v : Value} (h : w.cell? p = some v) (o : Obj) : (w.alloc o).cell? p = some v := by
  have hb := World.block_lt_of_cell? w p h
  rw [World.cell?_of_block (w := w) (w' := w.alloc o) (heap_alloc_old w o hb)]; exact h
theorem cell_set_ne {w : World} {p : Addr} {u v : Value} (h : w.cell? p = some u) {g j : Nat} (hn : p.block ≠ g) : (w.setCell ⟨g, j, none⟩ v).cell? p = some u := by
  simp only [World.cell?, World.setCell] at h ⊢
  rw [Array.getElem?_modify, if_neg (by simpa using Ne.symm hn)]
  exact h
theorem cell_set4 {w : World} {p : Addr} {u v0 v1 v2 v3 : Value} (h : w.cell? p = some u) {g : Nat} (hn : p.block ≠ g) : ((((w.setCell ⟨g, 0, none⟩ v0).setCell ⟨g, 1, none⟩ v1).setCell ⟨g, 2, none⟩ v2).setCell ⟨g, 3, none⟩ v3).cell? p = some u :=
  cell_set_ne (cell_set_ne (cell_set_ne (cell_set_ne h hn) hn) hn) hn
theorem below_set4 {n : Nat} {a w : World} (h : Below n a w) {g : Nat} (hg : n ≤ g) (v0 v1 v2 v3 : Value) : Below n a ((((w.setCell ⟨g, 0, none⟩ v0).setCell ⟨g, 1, none⟩ v1).setCell ⟨g, 2, none⟩ v2).setCell ⟨g, 3, none⟩ v3) :=
  (((h.setCell (p := ⟨g, 0, none⟩) hg _).setCell (p := ⟨g, 1, none⟩) hg _).setCell (p := ⟨g, 2, none⟩) hg _).setCell (p := ⟨g, 3, none⟩) hg _
theorem block_set4 {w : World} {g : Nat} {u0 u1 u2 u3 v0 v1 v2 v3 : Value} {t : TypeId} (h : w.heap[g]? = some (.cells #[u0, u1, u2, u3] t (0, 0))) : ((((w.setCell ⟨g, 0, none⟩ v0).setCell ⟨g, 1, none⟩ v1).setCell ⟨g, 2, none⟩ v2).setCell ⟨g, 3, none⟩ v3).heap[g]? = some (.cells #[v0, v1, v2, v3] t (0, 0)) := by
  have := block_set (j := 3) (v := v3) (block_set (j := 2) (v := v2) (block_set (j := 1) (v := v1) (block_set (j := 0) (v := v0) h)))
  simpa using this
theorem EvIn.set4 {n g : Nat} {v0 v1 v2 v3 : Value} {w : World} {l : List EV} {a : Option Addr} (h : EvIn n w l a) (hn : ∀ p, a = some p → p.block ≠ g) : EvIn n ((((w.setCell ⟨g, 0, none⟩ v0).setCell ⟨g, 1, none⟩ v1).setCell ⟨g, 2, none⟩ v2).setCell ⟨g, 3, none⟩ v3) l a :=
  (((h.set hn).set hn).set hn).set hn
theorem block_set4_ne {w : World} {g g' : Nat} {v0 v1 v2 v3 : Value} {o : Obj} (h : w.heap[g]? = some o) (hn : g' ≠ g) : ((((w.setCell ⟨g', 0, none⟩ v0).setCell ⟨g', 1, none⟩ v1).setCell ⟨g', 2, none⟩ v2).setCell ⟨g', 3, none⟩ v3).heap[g]? = some o :=
  block_set_ne (block_set_ne (block_set_ne (block_set_ne h hn) hn) hn) hn
theorem block_set5_ne {w : World} {g g' : Nat} {v0 v1 v2 v3 v4 : Value} {o : Obj} (h : w.heap[g]? = some o) (hn : g' ≠ g) : (((((w.setCell ⟨g', 0, none⟩ v0).setCell ⟨g', 1, none⟩ v1).setCell ⟨g', 2, none⟩ v2).setCell ⟨g', 3, none⟩ v3).setCell ⟨g', 4, none⟩ v4).heap[g]? = some o :=
  block_set_ne (block_set_ne (block_set_ne (block_set_ne (block_set_ne h hn) hn) hn) hn) hn
theorem below_set5 {n : Nat} {a w : World} (h : Below n a w) {g : Nat} (hg : n ≤ g) (v0 v1 v2 v3 v4 : Value) : Below n a (((((w.setCell ⟨g, 0, none⟩ v0).setCell ⟨g, 1, none⟩ v1).setCell ⟨g, 2, none⟩ v2).setCell ⟨g, 3, none⟩ v3).setCell ⟨g, 4, none⟩ v4) :=
  ((((h.setCell (p := ⟨g, 0, none⟩) hg _).setCell (p := ⟨g, 1, none⟩) hg _).setCell (p := ⟨g, 2, none⟩) hg _).setCell (p := ⟨g, 3, none⟩) hg _).setCell (p := ⟨g, 4, none⟩) hg _
theorem block_set5 {w : World} {g : Nat} {u0 u1 u2 u3 u4 v0 v1 v2 v3 v4 : Value} {t : TypeId} (h : w.heap[g]? = some (.cells #[u0, u1, u2, u3, u4] t (0, 0))) : (((((w.setCell ⟨g, 0, none⟩ v0).setCell ⟨g, 1, none⟩ v1).setCell ⟨g, 2, none⟩ v2).setCell ⟨g, 3, none⟩ v3).setCell ⟨g, 4, none⟩ v4).heap[g]? = some (.cells #[v0, v1, v2, v3, v4] t (0, 0)) := by
  have := block_set (j := 4) (v := v4) (block_set (j := 3) (v := v3) (block_set (j := 2) (v := v2) (block_set (j := 1) (v := v1) (block_set (j := 0) (v := v0) h))))
  simpa using this
theorem EvIn.set5 {n g : Nat} {v0 v1 v2 v3 v4 : Value} {w : World} {l : List EV} {a : Option Addr} (h : EvIn n w l a) (hn : ∀ p, a = some p → p.block ≠ g) : EvIn n (((((w.setCell ⟨g, 0, none⟩ v0).setCell ⟨g, 1, none⟩ v1).setCell ⟨g, 2, none⟩ v2).setCell ⟨g, 3, none⟩ v3).setCell ⟨g, 4, none⟩ v4) l a :=
  ((((h.set hn).set hn).set hn).set hn).set hn
theorem wp_append_row {w : World} {op : Oper} {a : Act} {K : Act → World → Prop} {Q : Exit → Act → World → Prop} (s x : Operand)
    (ho : op.op = .call { callee := .builtin .append, args := #[s, x], argTypes := #[22, 22] })
    (base : Nat) (v : Value) (n : Nat) (xs : List Value) (hs : a.eval s = v) (hown : w.ownsRow base 35 5 v n xs)
    (ad : Option Addr) (l : List EV) (m c : Nat) (hm : l.length = m) (hx : a.eval x = .slice ad m c) (hc : ad = none → c = 0) (n0 : Nat) (hl : EvIn n0 w l ad) (hn : n + m ≤ 1500000) (hbase : base ≤ w.heap.size)
    (h : ∀ v' w', w'.ownsRow base 35 5 v' (n + m) (xs ++ flatV l) → w.grownBy w' v.ownBlock → K (a.put op.dst v') w') : op.wp Try.prog a w K Q := by
  subst hm
  obtain ⟨i0, hi0, hz0, hz1, hz2⟩ := info_parts info_ev
  cases ad with
  | none =>
    obtain rfl := hl.isNil
    rw [hc rfl] at hx
    have hrun := run_append_owned_none (P := Try.prog) (w := w) base 22 op.type 35 i0 5 Try.underlying22 hi0 v n xs hown
    unfold Oper.wp
    simp [execOp, ho, resolve, invoke, builtin, hs, hx, hrun, Result.andThen]
    refine h v w ?_ ⟨rfl, rfl, rfl, Nat.le_refl _, fun _ _ _ => rfl⟩
    simpa [flatV] using hown
  | some ad =>
    have hnews : ∀ j u, (flatV l)[j]? = some u → w.cell? (ad.add j) = some u := by
      cases l with
      | nil => intro j u hu; simp [flatV] at hu
      | cons y r =>
        have hl2 := hl
        obtain ⟨⟨b, o, h, _⟩, _⟩ := hl
        have h2 := Option.some.inj h
        subst h2
        intro j u hu
        rw [Addr.add_mid]
        exact inrow_flat hl2 j u hu
    exact wp_append_own w s x 22 ho base 35 i0 _ 5 40 Try.underlying22 hi0 hz0 hz1 hz2 rfl (by decide) v n xs hs hown ad l.length c (flatV l) hx (by rw [flatV_len]) hnews (flat_ones l) (by simp only [maxLen]; omega) (by omega) hbase (fun v' w' h1 h2 _ => h v' w' h1 h2)
theorem step_append_row {w : World} {ops : Array Oper} {op : Oper} {a : Act} {K : Act → World → Prop} {Q : Exit → Act → World → Prop} {E : Prop} (hgd : op.guard = none) (s x : Operand)
    (ho : op.op = .call { callee := .builtin .append, args := #[s, x], argTypes := #[22, 22] })
    (base : Nat) (v : Value) (n : Nat) (xs : List Value) (hs : a.eval s = v) (hown : w.ownsRow base 35 5 v n xs)
    (ad : Option Addr) (l : List EV) (m c : Nat) (hm : l.length = m) (hx : a.eval x = .slice ad m c) (hc : ad = none → c = 0) (n0 : Nat) (hl : EvIn n0 w l ad) (hn : n + m ≤ 1500000) (hbase : base ≤ w.heap.size)
    (h : ∀ v' w', w'.ownsRow base 35 5 v' (n + m) (xs ++ flatV l) → w.grownBy w' v.ownBlock → K (a.put op.dst v') w') :
    if Region.wanted op (yielded ops a.tmps) = true then Oper.wp Try.prog op a w K Q else E := by
  have hw : Region.wanted op (yielded ops a.tmps) = true := by simp [Region.wanted, hgd]
  rw [if_pos hw]
  exact wp_append_row s x ho base v n xs hs hown ad l m c hm hx hc n0 hl hn hbase h
/-- All blocks of the one world but two are as they were in the other. -/
def Kx (r1 r2 : Nat) (A B : World) : Prop := A.heap.size ≤ B.heap.size ∧ ∀ k, k < A.heap.size → k ≠ r1 → k ≠ r2 → B.heap[k]? = A.heap[k]?
theorem Kx.refl (r1 r2 : Nat) (A : World) : Kx r1 r2 A A := ⟨Nat.le_refl _, fun _ _ _ _ => rfl⟩
theorem Kx.drew {r1 r2 : Nat} {A B : World} (h : Kx r1 r2 A B) : Kx r1 r2 A B.drew := h
theorem Kx.below {r1 r2 : Nat} {A B C : World} (h : Kx r1 r2 A B) (hb : Below B.heap.size B C) : Kx r1 r2 A C := ⟨Nat.le_trans h.1 hb.size, fun k hk h1 h2 => (hb.block k (Nat.lt_of_lt_of_le hk h.1)).trans (h.2 k hk h1 h2)⟩
theorem Kx.low {r1 r2 n : Nat} {A B C : World} (h : Kx r1 r2 A B) (hn : A.heap.size ≤ n) (hb : Below n B C) : Kx r1 r2 A C := ⟨Nat.le_trans h.1 hb.size, fun k hk h1 h2 => (hb.block k (Nat.lt_of_lt_of_le hk hn)).trans (h.2 k hk h1 h2)⟩
theorem Kx.set1 {r1 r2 j : Nat} {A B : World} {v : Value} (h : Kx r1 r2 A B) : Kx r1 r2 A (B.setCell ⟨r1, j, none⟩ v) := ⟨by rw [World.size_setCell]; exact h.1, fun k hk h1 h2 => by
  rw [← h.2 k hk h1 h2]
  simp [World.setCell, Array.getElem?_modify, Ne.symm h1]⟩
theorem Kx.set2 {r1 r2 j : Nat} {A B : World} {v : Value} (h : Kx r1 r2 A B) : Kx r1 r2 A (B.setCell ⟨r2, j, none⟩ v) := ⟨by rw [World.size_setCell]; exact h.1, fun k hk h1 h2 => by
  rw [← h.2 k hk h1 h2]
  simp [World.setCell, Array.getElem?_modify, Ne.symm h2]⟩
theorem Kx.block {r1 r2 k : Nat} {A B : World} {o : Obj} (h : Kx r1 r2 A B) (hk : A.heap[k]? = some o) (h1 : k ≠ r1) (h2 : k ≠ r2) : B.heap[k]? = some o := (h.2 k (Array.getElem?_eq_some_iff.1 hk).1 h1 h2).trans hk
theorem Kx.ev {r1 r2 n : Nat} {A B : World} {l : List EV} {a : Option Addr} (h : Kx r1 r2 A B) (hn : n ≤ A.heap.size) (h1 : n ≤ r1) (h2 : n ≤ r2) (hi : EvIn n A l a) : EvIn n B l a :=
  InRow.keep (fun b o v hb hv => by
    have e := h.2 b (by omega) (by omega) (by omega)
    simp only [World.cell?, e] at hv ⊢
    exact hv) (fun _ _ h => h) hi
theorem own_below {w w' : World} {B n : Nat} {v : Value} {xs : List Value} (h : w.ownsRow B 35 5 v n xs) (hb : Below w.heap.size w w') : w'.ownsRow B 35 5 v n xs := by
  refine ⟨h.1, ?_⟩
  rcases h.2 with h2 | ⟨g, cap, cur, e, hg, hh, h3⟩
  · exact .inl h2
  · exact .inr ⟨g, cap, cur, e, hg, (hb.block g (Array.getElem?_eq_some_iff.1 hh).1).trans hh, h3⟩
/-- A row elsewhere stays over an append onto an own row. -/
theorem ev_grown {w w' : World} {n : Nat} {l : List EV} {a : Option Addr} {row : Option Nat} (h : EvIn n w l a) (hn : n ≤ w.heap.size) (hg : w.grownBy w' row) (hne : ∀ p, a = some p → some p.block ≠ row) : EvIn n w' l a := by
  cases l with
  | nil => exact trivial
  | cons x r =>
    have h0 := h
    obtain ⟨⟨b, o, ha, hb, _⟩, _⟩ := h0
    subst ha
    have hbk := hg.block b (by omega) (hne _ rfl)
    have key : ∀ (m : List EV) (o : Nat), EvIn n w m (some ⟨b, o, none⟩) → EvIn n w' m (some ⟨b, o, none⟩) := by
      intro m
      induction m with
      | nil => intro o _; exact trivial
      | cons y q ih =>
        intro o hm
        obtain ⟨⟨b2, o2, e, hb2, hr⟩, hw, ht⟩ := hm
        injection e with e
        injection e with e1 e2
        subst e1
        subst e2
        refine ⟨⟨b, o, rfl, hb2, fun j v hv => ?_⟩, hw, ?_⟩
        · have := hr j v hv
          simp only [World.cell?, hbk] at this ⊢
          exact this
        · rw [Option.map_some, show (⟨b, o, none⟩ : Addr).add 5 = ⟨b, o + 5, none⟩ by simp [Addr.add]] at ht ⊢
          exact ih _ ht
    exact key _ _ h
theorem own_in' {w : World} {B : Nat} {a : Option Addr} {m c : Nat} {l : List EV} (hm : l.length = m) (h : w.ownsRow B 35 5 (.slice a m c) m (flatV l)) (hw : ∀ e ∈ l, e.Wf) : EvIn w.heap.size w l a := by
  subst hm
  exact own_in h hw
theorem own_empty (w : World) : (w.alloc (.cells #[] 35)).ownsRow w.heap.size 35 5 (.slice (some ⟨w.heap.size, 0, none⟩) 0 0) 0 [] := ⟨rfl, .inr ⟨w.heap.size, 0, #[], rfl, Nat.le_refl _, World.alloc_heap_new w _, Nat.le_refl _, by decide, rfl, rfl⟩⟩
theorem own_empty_at (w : World) {B : Nat} (h : B ≤ w.heap.size) : (w.alloc (.cells #[] 35)).ownsRow B 35 5 (.slice (some ⟨w.heap.size, 0, none⟩) 0 0) 0 [] := ⟨rfl, .inr ⟨w.heap.size, 0, #[], rfl, h, World.alloc_heap_new w _, Nat.le_refl _, by decide, rfl, rfl⟩⟩
theorem own_empty_drew (w : World) : (w.alloc (.cells #[] 35)).drew.ownsRow w.heap.size 35 5 (.slice (some ⟨w.heap.size, 0, none⟩) 0 0) 0 [] := own_empty w
end Go.Proofs.Ytchboknncfmcpaa
