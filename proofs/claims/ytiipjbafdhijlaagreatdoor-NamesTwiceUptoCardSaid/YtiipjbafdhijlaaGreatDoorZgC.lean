/-
  NgC, in one text.
-/
import Derived.Test.YtiipjbafdhijlaaGreatDoorZgA
namespace Go.Proofs.YtiipjbafdhijlaaGreatDoor
open Go Go.RowKit
set_option linter.unusedVariables false
set_option linter.unusedSimpArgs false
open Go.Sort
theorem alloc_at8 {W : World} {b : Nat} {O : Obj} (h : b = W.heap.size) : (W.alloc O).heap[b]? = some O := by subst h; exact World.alloc_heap_new W O
/-- A block that holds slices alone, and whose cells may change, lies in no tree. -/
def Slim (W : World) (gm : Nat) : Prop := ∀ s v, W.cell? ⟨gm, s, none⟩ = some v → ∃ a n c, v = .slice a n c
theorem slim_of {W : World} {gm : Nat} {a : Option Addr} {n c : Nat} {t : TypeId} (h : W.heap[gm]? = some (.cells #[.slice a n c] t (0, 0))) : Slim W gm := fun s v hv => by
 simp only [World.cell?, h] at hv
 cases s with
 | zero => simp at hv; exact ⟨a, n, c, hv.symm⟩
 | succ s => simp at hv
theorem inrow_skip {α : Type} {k : Nat} {cells : α → List Value} {inn inn' : α → Prop} {n gm : Nat} {W W' : World} (hs : Slim W gm) (hk : ∀ b, b ≠ gm → W'.heap[b]? = W.heap[b]?) (h0 : ∀ x : α, ∃ v0, (cells x)[0]? = some v0 ∧ ∀ a n c, v0 ≠ .slice a n c) : ∀ (l : List α) (a : Option Addr), (∀ x ∈ l, inn x → inn' x) → InRow k cells inn n W l a → InRow k cells inn' n W' l a
 | [], _, _, _ => trivial
 | x :: r, a, hx, h => by
  obtain ⟨⟨b, o, ha, hb, hr⟩, hi, ht⟩ := h
  obtain ⟨v0, e0, e1⟩ := h0 x
  have hne : b ≠ gm := fun e => by
   subst e
   obtain ⟨p, q, c, e2⟩ := hs _ _ (hr 0 v0 e0)
   exact e1 p q c e2
  refine ⟨⟨b, o, ha, hb, fun j v hv => ?_⟩, hx x (by simp) hi, inrow_skip hs hk h0 r _ (fun y hy => hx y (by simp [hy])) ht⟩
  rw [World.cell?_of_block (w := W) (hk b hne)]
  exact hr j v hv
section
variable {n gm : Nat} {W W' : World} (hs : Slim W gm) (hk : ∀ b, b ≠ gm → W'.heap[b]? = W.heap[b]?)
include hs hk
theorem XT.In.skip : ∀ x : XT, x.In n W → x.In n W' := XT.ind fun op nm m wd v a c l ih h => by
 rw [XT.In_mk] at *
 exact inrow_skip hs hk (fun x => by cases x; exact ⟨_, rfl, fun _ _ _ h => by cases h⟩) l a ih h
theorem xrow_skip (l : List XT) (a : Option Addr) (h : InRow 6 XT.cells (XT.In n W) n W l a) : InRow 6 XT.cells (XT.In n W') n W' l a := inrow_skip hs hk (fun x => by cases x; exact ⟨_, rfl, fun _ _ _ h => by cases h⟩) l a (fun x _ => XT.In.skip hs hk x) h
theorem ST.In.skip : ∀ x : ST, x.In n W → x.In n W' := ST.ind fun op nm xa xc xl sa sc sl ih h => by
 rw [ST.In_mk] at *
 exact ⟨xrow_skip hs hk _ _ h.1, inrow_skip hs hk (fun x => by cases x; exact ⟨_, rfl, fun _ _ _ h => by cases h⟩) sl sa ih h.2⟩
theorem srow_skip (l : List ST) (a : Option Addr) (h : InRow 4 ST.cells (ST.In n W) n W l a) : InRow 4 ST.cells (ST.In n W') n W' l a := inrow_skip hs hk (fun x => by cases x; exact ⟨_, rfl, fun _ _ _ h => by cases h⟩) l a (fun x _ => ST.In.skip hs hk x) h
theorem brow_skip (l : List BT) (a : Option Addr) (h : InRow 7 BT.cells (BT.In n W) n W l a) : InRow 7 BT.cells (BT.In n W') n W' l a := inrow_skip hs hk (fun x => by obtain ⟨m, y⟩ := x; exact ⟨_, rfl, fun _ _ _ h => by cases h⟩) l a (fun x _ h => XT.In.skip hs hk x.x h) h
theorem prow_skip (l : List PT) (a : Option Addr) (h : InRow 8 PT.cells (PT.In n W) n W l a) : InRow 8 PT.cells (PT.In n W') n W' l a := inrow_skip hs hk (fun x => by obtain ⟨m, o, y⟩ := x; exact ⟨_, rfl, fun _ _ _ h => by cases h⟩) l a (fun x _ h => XT.In.skip hs hk x.x h) h
theorem IT.In.skip : ∀ x : IT, x.In n W → x.In n W' := IT.ind fun op nm nf xa xc xl sa sc sl la lc ll ea ec el pa pc pl ba bc bl ih0 ih1 h => by
 rw [IT.In_mk] at *
 obtain ⟨h0, h1, h2, h3, h4, h5⟩ := h
 exact ⟨xrow_skip hs hk _ _ h0, srow_skip hs hk _ _ h1, inrow_skip hs hk (fun x => by cases x; exact ⟨_, rfl, fun _ _ _ h => by cases h⟩) ll la ih0 h2, inrow_skip hs hk (fun x => by cases x; exact ⟨_, rfl, fun _ _ _ h => by cases h⟩) el ea ih1 h3, brow_skip hs hk _ _ h4, brow_skip hs hk _ _ h5⟩
theorem MT.In.skip (x : MT) (h : x.In n W) : x.In n W' := ⟨brow_skip hs hk _ _ h.1, prow_skip hs hk _ _ h.2.1, inrow_skip hs hk (fun x => by cases x; exact ⟨_, rfl, fun _ _ _ h => by cases h⟩) x.il x.ia (fun x _ => IT.In.skip hs hk x) h.2.2⟩
theorem FT.In.skip (x : FT) (h : x.In n W) : x.In n W' := inrow_skip hs hk (fun x => by cases x; exact ⟨_, rfl, fun _ _ _ h => by cases h⟩) x.ml x.ma (fun x _ => MT.In.skip hs hk x) h
end
/-- What put told, and what Check will say of it. -/
structure FI (W : World) (a : Option Addr) (n c : Nat) (cv : Int) : Prop where
 ex : ∃ M : List MT, M.length = n ∧ FT.In W.heap.size W ⟨a, c, M⟩ ∧ MT.WfL M ∧ FT.bk ⟨a, c, M⟩ ≤ 4500000 ∧ checkP ⟨a, c, M⟩ = cv
theorem FI.check {W V : World} {a : Option Addr} {n c : Nat} {cv : Int} (h : FI W a n c cv) (hb : Below W.heap.size W V) (he : EnvA V) : Calls Tryz.prog 10 #[.agg #[.slice a n c]] V fun e V' => e = .returned (.int .i64 cv) ∧ Below V.heap.size V V' := by
 obtain ⟨M, h1, h2, h3, h4, h5⟩ := h.ex
 have h6 := namesCheck_any V W.heap.size ⟨a, c, M⟩ hb.size he h3 (FT.In.keep (Below.keptTo hb (Nat.le_refl _)) _ h2) h4
 simp only [FT.val, FT.cells, h1, h5] at h6
 exact h6
theorem FI.skip {W W' : World} {a a' : Option Addr} {n c n' c' : Nat} {t : TypeId} {cv : Int} {gm : Nat} (h : FI W a n c cv) (hb : W.heap[gm]? = some (.cells #[.slice a' n' c'] t (0, 0))) (hk : ∀ b, b ≠ gm → W'.heap[b]? = W.heap[b]?) (hz : W'.heap.size = W.heap.size) : FI W' a n c cv := by
 obtain ⟨M, h1, h2, h3, h4, h5⟩ := h.ex
 exact ⟨M, h1, by rw [hz]; exact FT.In.skip (slim_of hb) hk _ h2, h3, h4, h5⟩
theorem FI.keep {W W' : World} {a : Option Addr} {n c : Nat} {cv : Int} (h : FI W a n c cv) (hb : Below W.heap.size W W') : FI W' a n c cv := by
 obtain ⟨M, h1, h2, h3, h4, h5⟩ := h.ex
 exact ⟨M, h1, FT.In.less hb.size _ (FT.In.keep (Below.keptTo hb (Nat.le_refl _)) _ h2), h3, h4, h5⟩
/-- A variable that holds such a file. -/
structure PutAt (w0 wx : World) (gm n : Nat) (P : Int → Prop) : Prop where
 low : Below w0.heap.size w0 wx
 ex : ∃ a c cv, P cv ∧ wx.heap[gm]? = some (.cells #[.slice a n c] 24 (0, 0)) ∧ FI wx a n c cv
theorem PutAt.put {w0 w : World} {gm n c cv a'} {a : Option Addr} {n' c' : Nat} {P : Int → Prop} (hg : w0.heap.size ≤ gm) (hb : Below w0.heap.size w0 w) (hp : P cv) (h : FI w a n c cv) (hh : w.heap[gm]? = some (.cells #[.slice a' n' c'] 24 (0, 0))) : PutAt w0 (w.setCell ⟨gm, 0, none⟩ (.slice a n c)) gm n P :=
 ⟨hb.setCell (p := ⟨gm, 0, none⟩) hg _, a, c, cv, hp, by simp [World.setCell, Array.getElem?_modify, hh], h.skip hh (fun b hne => Below.heap_setCell w ⟨gm, 0, none⟩ _ b hne) (by simp)⟩
theorem PutAt.new {w0 w : World} {n c cv} {a : Option Addr} {P : Int → Prop} (hb : Below w0.heap.size w0 w) (hp : P cv) (h : FI w a n c cv) : PutAt w0 (w.alloc (.cells #[.slice a n c] 24)) w.heap.size n P :=
 ⟨hb.alloc hb.size _, a, c, cv, hp, World.alloc_heap_new w _, h.keep ((Below.refl _ _).alloc (Nat.le_refl _) _)⟩
theorem PutAt.keep {w0 wx V : World} {gm n : Nat} {P : Int → Prop} (h : PutAt w0 wx gm n P) (hb : Below wx.heap.size wx V) : PutAt w0 V gm n P := by
 obtain ⟨a, c, cv, h1, h2, h3⟩ := h.ex
 exact ⟨h.low.trans (hb.mono h.low.size), a, c, cv, h1, (hb.block gm (Array.getElem?_eq_some_iff.1 h2).1).trans h2, h3.keep hb⟩
/-- put, with one item more. -/
theorem put_call8 (V : World) (n0 : Nat) (f : FT) (k : Nat) (hk : k < f.ml.length) (x : IT) (p : Nat) (hn0 : n0 ≤ V.heap.size) (hwf : f.Wf) (hin : f.In n0 V) (hbk : f.bk ≤ 4200000) (hcaps : ∀ m ∈ f.ml, m.ia = none → m.ic = 0) (hxw : x.Wf) (hxb : x.bk ≤ 1000) (hx : InRow 9 IT.cells (IT.In V.heap.size V) V.heap.size V [x] (some ⟨p, 0, none⟩)) (P : Int → Prop) (hP : ∀ a c ia ic, P (checkP ⟨a, c, f.ml.set k (addI f.ml[k] [x] ia ic)⟩)) :
  Calls Tryz.prog 19 #[.agg #[.slice f.ma f.ml.length f.mc], .int .i64 (k : Int), .slice (some ⟨p, 0, none⟩) 1 1] V fun e W' => Below V.heap.size V W' ∧ ∃ a c cv, e = .returned (.agg #[.slice a f.ml.length c]) ∧ P cv ∧ FI W' a f.ml.length c cv := by
 have h := put_any V V.heap.size f k hk [x] (by simp) (by simp) (some ⟨p, 0, none⟩) 1 (Nat.le_refl _) (FT.In.less hn0 _ hin) (by omega) hcaps (by intro h; cases h) hx
 refine h.mono ?_
 rintro e W' ⟨hB, a, c, b, ic, rfl, hf⟩
 refine ⟨hB, a, c, checkP ⟨a, c, f.ml.set k (addI f.ml[k] [x] (some ⟨b, 0, none⟩) ic)⟩, by simp [FT.val, FT.cells], hP _ _ _ _, ?_⟩
 refine ⟨f.ml.set k (addI f.ml[k] [x] (some ⟨b, 0, none⟩) ic), by simp, hf, ?_, ?_, rfl⟩
 ·have h : MT.WfL f.ml := hwf
  rw [MT.wfL_iff] at h ⊢
  intro m hm
  rcases List.mem_or_eq_of_mem_set hm with h1 | h1
  ·exact h m h1
  ·rw [h1]
   have h2 := h _ (List.getElem_mem hk)
   generalize f.ml[k] = mk at h2 ⊢
   obtain ⟨mn, pa, pc, pl, ta, tc, tl, ja, jc, il⟩ := mk
   obtain ⟨g1, g2, g3⟩ := h2
   refine ⟨g1, g2, ?_⟩
   rw [IT.wfL_iff] at g3 ⊢
   intro y hy
   rcases List.mem_append.1 hy with h4 | h4
   ·exact g3 y h4
   ·rw [List.mem_singleton.1 h4]; exact hxw
 ·have h1 := bkL_set7 (m' := addI f.ml[k] [x] (some ⟨b, 0, none⟩) ic) 1000 f.ml k hk (by rw [addI_bk7]; omega)
  have h2 : 1 + MT.bkL f.ml ≤ 4200000 := hbk
  show 1 + MT.bkL (f.ml.set k (addI f.ml[k] [x] (some ⟨b, 0, none⟩) ic)) ≤ _
  omega
theorem numT_wf8 : numT.Wf := by unfold numT; rw [XT.wf_mk]; exact ⟨by decide, fun x h => by cases h⟩
theorem wire_row8 {V : World} {nm : Bytes} {p z : Nat} (hp : V.heap[p]? = some (.cells #[.int .i64 2, .string (bs nm), .string ⟨#[]⟩, .slice (some ⟨z, 0, none⟩) 1 1, .slice none 0 0, .slice none 0 0, .slice none 0 0, .slice none 0 0, .slice none 0 0] 48 (0, 0))) (hz : V.heap[z]? = some (.cells #[.int .i64 1, .string ⟨#[]⟩, .int .i64 0, .int .i64 0, .int .u64 1, .slice none 0 0] 54 (0, 0))) : InRow 9 IT.cells (IT.In V.heap.size V) V.heap.size V [wireT nm z] (some ⟨p, 0, none⟩) := by
 refine ⟨⟨p, 0, rfl, (Array.getElem?_eq_some_iff.1 hp).1, fun j v hv => ?_⟩, wireT_in (Array.getElem?_eq_some_iff.1 hz).1 hz, trivial⟩
 simp only [World.cell?, hp]
 simpa [wireT, IT.cells, show bs [] = ⟨#[]⟩ from rfl] using hv
theorem loop_row8 {V : World} {a b : Bytes} {p z : Nat} {la : Option Addr} {lc : Nat} (hp : V.heap[p]? = some (.cells #[.int .i64 9, .string (bs a), .string (bs b), .slice (some ⟨z, 0, none⟩) 2 2, .slice none 0 0, .slice la 0 lc, .slice none 0 0, .slice none 0 0, .slice none 0 0] 48 (0, 0))) (hz : V.heap[z]? = some (.cells #[.int .i64 1, .string ⟨#[]⟩, .int .i64 0, .int .i64 0, .int .u64 1, .slice none 0 0, .int .i64 1, .string ⟨#[]⟩, .int .i64 0, .int .i64 0, .int .u64 1, .slice none 0 0] 54 (0, 0))) : InRow 9 IT.cells (IT.In V.heap.size V) V.heap.size V [loopT8 a b z la lc] (some ⟨p, 0, none⟩) := by
 have hzl := (Array.getElem?_eq_some_iff.1 hz).1
 refine ⟨⟨p, 0, rfl, (Array.getElem?_eq_some_iff.1 hp).1, fun j v hv => ?_⟩, ?_, trivial⟩
 ·simp only [World.cell?, hp]
  simpa [loopT8, IT.cells] using hv
 ·unfold loopT8
  rw [IT.In_mk]
  refine ⟨⟨⟨z, 0, rfl, hzl, fun j v hv => ?_⟩, numT_in _ _, ⟨z, 6, rfl, hzl, fun j v hv => ?_⟩, numT_in _ _, trivial⟩, trivial, trivial, trivial, trivial, trivial⟩
  ·simp only [World.cell?, hz]
   have hj : j < 6 := by have := (List.getElem?_eq_some_iff.1 hv).1; simpa [numT, XT.cells] using this
   match j, hj with
   | 0, _ => simpa [numT, XT.cells, show bs [] = ⟨#[]⟩ from rfl] using hv
   | 1, _ => simpa [numT, XT.cells, show bs [] = ⟨#[]⟩ from rfl] using hv
   | 2, _ => simpa [numT, XT.cells, show bs [] = ⟨#[]⟩ from rfl] using hv
   | 3, _ => simpa [numT, XT.cells, show bs [] = ⟨#[]⟩ from rfl] using hv
   | 4, _ => simpa [numT, XT.cells, show bs [] = ⟨#[]⟩ from rfl] using hv
   | 5, _ => simpa [numT, XT.cells, show bs [] = ⟨#[]⟩ from rfl] using hv
  ·simp only [World.cell?, hz]
   have hj : j < 6 := by have := (List.getElem?_eq_some_iff.1 hv).1; simpa [numT, XT.cells] using this
   match j, hj with
   | 0, _ => simpa [numT, XT.cells, show bs [] = ⟨#[]⟩ from rfl] using hv
   | 1, _ => simpa [numT, XT.cells, show bs [] = ⟨#[]⟩ from rfl] using hv
   | 2, _ => simpa [numT, XT.cells, show bs [] = ⟨#[]⟩ from rfl] using hv
   | 3, _ => simpa [numT, XT.cells, show bs [] = ⟨#[]⟩ from rfl] using hv
   | 4, _ => simpa [numT, XT.cells, show bs [] = ⟨#[]⟩ from rfl] using hv
   | 5, _ => simpa [numT, XT.cells, show bs [] = ⟨#[]⟩ from rfl] using hv
end Go.Proofs.YtiipjbafdhijlaaGreatDoor
