/-
  An expression with a new list of what becomes of its parts; Subst.
-/
import Derived.Test.YtlbjmnakiflfpaaGreatDoorKpKsH
import Derived.Deep.RegionHeld3
namespace Go.Proofs.YtlbjmnakiflfpaaGreatDoor
open Go Go.RowKit
set_option linter.unusedVariables false
set_option linter.unusedSimpArgs false
open Go.Sort
mutual
def XT.nrm : XT → XT | .mk op nm n wd v _ _ l => .mk op nm n wd v none 0 (XT.nrmL l)
def XT.nrmL : List XT → List XT | [] => [] | x :: r => XT.nrm x :: XT.nrmL r
end
theorem XT.nrmL_map : ∀ l, XT.nrmL l = l.map XT.nrm
  | [] => rfl
  | x :: r => by rw [XT.nrmL, XT.nrmL_map r]; rfl
mutual
/-- No row of it lies in block g. -/
def XT.Av (g : Nat) : XT → Prop | .mk _ _ _ _ _ a _ l => (l = [] ∨ ∀ p, a = some p → p.block ≠ g) ∧ XT.AvL g l
def XT.AvL (g : Nat) : List XT → Prop | [] => True | x :: r => XT.Av g x ∧ XT.AvL g r
end
theorem XT.avL_iff (g : Nat) : ∀ l : List XT, XT.AvL g l ↔ ∀ x ∈ l, x.Av g
  | [] => by simp [XT.AvL]
  | x :: r => by simp [XT.AvL, XT.avL_iff g r]
theorem InRow.keepNe {α : Type} {k : Nat} {cells : α → List Value} {inn inn' : α → Prop} {n g : Nat} {W W' : World} (hk : ∀ b o v, b < n → b ≠ g → W.cell? ⟨b, o, none⟩ = some v → W'.cell? ⟨b, o, none⟩ = some v) : ∀ {l : List α} {a : Option Addr}, (l = [] ∨ ∀ p, a = some p → p.block ≠ g) → (∀ x ∈ l, inn x → inn' x) → InRow k cells inn n W l a → InRow k cells inn' n W' l a
  | [], _, _, _, _ => trivial
  | x :: r, a, hne, hi, h => by
    obtain ⟨⟨b, o, ha, hb, hr⟩, hx, ht⟩ := h
    have hb2 : b ≠ g := by
      rcases hne with h | h
      · cases h
      · exact h _ ha
    refine ⟨⟨b, o, ha, hb, fun j v hv => hk b _ v hb hb2 (hr j v hv)⟩, hi x (by simp) hx, InRow.keepNe hk (.inr ?_) (fun y hy => hi y (by simp [hy])) ht⟩
    intro p hp
    rw [ha, Option.map_some] at hp
    have := Option.some.inj hp
    rw [← this]
    have e : ((⟨b, o, none⟩ : Addr).add k).block = b := by simp [Addr.add]; split <;> rfl
    rw [e]
    exact hb2
theorem XT.In.keepNe {n g : Nat} {W W' : World} (hk : ∀ b o v, b < n → b ≠ g → W.cell? ⟨b, o, none⟩ = some v → W'.cell? ⟨b, o, none⟩ = some v) : ∀ x : XT, x.Av g → x.In n W → x.In n W' := XT.ind fun op nm m wd v a c l ih hav h => by
  rw [XT.In_mk] at *
  rw [XT.Av, XT.avL_iff] at hav
  exact h.keepNe hk hav.1 (fun x hx hi => ih x hx (hav.2 x hx) hi)

/-- The cells of a block of expressions begin with these. -/
def CellsG (W : World) (g : Nat) (L : List Value) : Prop := ∃ cur, W.heap[g]? = some (.cells cur 25 (0, 0)) ∧ cur.toList.take L.length = L
theorem CellsG.at {W : World} {g : Nat} {L : List Value} (h : CellsG W g L) {j : Nat} {u : Value} (hu : L[j]? = some u) : W.cell? ⟨g, j, none⟩ = some u := by
  obtain ⟨cur, h1, h2⟩ := h
  have hj := (List.getElem?_eq_some_iff.1 hu).1
  have h3 : cur.toList[j]? = some u := by rw [← hu, ← h2, List.getElem?_take_of_lt hj]
  simp only [World.cell?, h1]
  simpa using h3
theorem CellsG.frozen {W : World} {g : Nat} {L : List Value} (h : CellsG W g L) (j : Nat) : W.frozen? ⟨g, j, none⟩ = false := by
  obtain ⟨cur, h1, h2⟩ := h
  simp [World.frozen?, h1]
theorem CellsG.block {W W' : World} {g : Nat} {L : List Value} (h : CellsG W g L) (hb : W'.heap[g]? = W.heap[g]?) : CellsG W' g L := by
  obtain ⟨cur, h1, h2⟩ := h
  exact ⟨cur, hb.trans h1, h2⟩
theorem CellsG.lt {W : World} {g : Nat} {L : List Value} (h : CellsG W g L) : g < W.heap.size := by
  obtain ⟨cur, h1, h2⟩ := h
  exact (Array.getElem?_eq_some_iff.1 h1).1
theorem CellsG.set {W : World} {g : Nat} {L : List Value} (h : CellsG W g L) {j : Nat} (hj : j < L.length) (v : Value) : CellsG (W.setCell ⟨g, j, none⟩ v) g (L.set j v) := by
  obtain ⟨cur, h1, h2⟩ := h
  refine ⟨cur.setIfInBounds j v, ?_, ?_⟩
  · simp only [World.setCell, Array.getElem?_modify, ↓reduceIte]
    rw [h1]
    rfl
  · rw [List.length_set, Array.toList_setIfInBounds, List.take_set, h2]
theorem set6 (A B : List Value) (x y : XT) : ((((((A ++ (x.cells ++ B)).set A.length (y.cells.getD 0 .nilFunc)).set (A.length + 1) (y.cells.getD 1 .nilFunc)).set (A.length + 2) (y.cells.getD 2 .nilFunc)).set (A.length + 3) (y.cells.getD 3 .nilFunc)).set (A.length + 4) (y.cells.getD 4 .nilFunc)).set (A.length + 5) (y.cells.getD 5 .nilFunc) = A ++ (y.cells ++ B) := by
  obtain ⟨op, nm, n, wd, v, a, c, l⟩ := x
  obtain ⟨op2, nm2, n2, wd2, v2, a2, c2, l2⟩ := y
  simp [XT.cells, List.set_append, List.set_cons_succ, List.set_cons_zero]
theorem cell_far6 {W : World} {g o b p : Nat} {v0 v1 v2 v3 v4 v5 u : Value} (h : W.cell? ⟨b, p, none⟩ = some u) (hb : b ≠ g) : ((((((W.setCell ⟨g, o, none⟩ v0).setCell ⟨g, o + 1, none⟩ v1).setCell ⟨g, o + 2, none⟩ v2).setCell ⟨g, o + 3, none⟩ v3).setCell ⟨g, o + 4, none⟩ v4).setCell ⟨g, o + 5, none⟩ v5).cell? ⟨b, p, none⟩ = some u := by
  have k : ∀ (X : World) (i : Nat) (v : Value), X.cell? ⟨b, p, none⟩ = some u → (X.setCell ⟨g, i, none⟩ v).cell? ⟨b, p, none⟩ = some u := fun X i v hx => by rw [← hx]; exact World.cell?_of_block (a := ⟨b, p, none⟩) (Below.heap_setCell X ⟨g, i, none⟩ v b hb)
  exact k _ _ _ (k _ _ _ (k _ _ _ (k _ _ _ (k _ _ _ (k _ _ _ h)))))
theorem XT.In.kp {H B n : Nat} {W W' : World} (hk : Kp H B W W') {x : XT} (ha : x.Av B) (hx : x.In n W) (hn : n ≤ W'.heap.size) : x.In W'.heap.size W' := XT.In.less hn _ (XT.In.keepNe (fun b o v _ hb hv => hk.cell hb hv) x ha hx)
theorem XT.In.setC {g n j : Nat} {W : World} {x : XT} (ha : x.Av g) (hx : x.In n W) (v : Value) : x.In n (W.setCell ⟨g, j, none⟩ v) := XT.In.keepNe (fun b o u _ hb hv => by rw [World.cell?_of_block (a := ⟨b, o, none⟩) (Below.heap_setCell W ⟨g, j, none⟩ v b hb)]; exact hv) x ha hx

/-- What is told of an expression: one that is F of it, but for where it lies. -/
def SubPost (F : XT → XT) (x : XT) (H B : Nat) (Inv : World → Prop) (W : World) (e : Ending) (W' : World) : Prop := ∃ y : XT, e = .returned y.val ∧ y.nrm = F x ∧ y.In W'.heap.size W' ∧ (∀ b, b < W.heap.size → y.Av b) ∧ Inv W' ∧ Kp H B W W'
/-- What is left alone by all but block B, and by new ones. -/
structure Stays (B : Nat) (Inv : World → Prop) : Prop where
  below : ∀ W W', Below W.heap.size W W' → Inv W → Inv W'
  set : ∀ W g j v cs, Inv W → B < g → W.heap[g]? = some (.cells cs 25 (0, 0)) → Inv (W.setCell ⟨g, j, none⟩ v)
/-- A round's state. -/
structure WInv (F : XT → XT) (H B gX gR gT : Nat) (Inv : World → Prop) (w : World) (l : List XT) (bx : Obj) (a : Option Addr) (k : Nat) (ys : List XT) (wr : World) : Prop where
  len : ys.length = k
  cells : ∀ g, a = some ⟨g, 0, none⟩ → CellsG wr g ((ys ++ l.drop k).flatMap XT.cells)
  ins : ∀ y ∈ ys, y.In wr.heap.size wr ∧ ∀ b, b < gT → y.Av b
  nrm : ys.map XT.nrm = (l.take k).map F
  box : wr.heap[gX]? = some bx
  res : wr.heap[gR]? = some (.cells #[.int .i64 0, .string ⟨#[]⟩, .int .i64 0, .int .i64 0, .int .u64 0, .slice none 0 0] 25 (0, 0))
  inv : Inv wr
  kp : Kp H B w wr
  top : gT ≤ wr.heap.size

/-- Six cells of an expression, put at a place of a block. -/
def put6 (W : World) (g o : Nat) (x : XT) : World := (((((W.setCell ⟨g, o, none⟩ (x.cells.getD 0 .nilFunc)).setCell ⟨g, o + 1, none⟩ (x.cells.getD 1 .nilFunc)).setCell ⟨g, o + 2, none⟩ (x.cells.getD 2 .nilFunc)).setCell ⟨g, o + 3, none⟩ (x.cells.getD 3 .nilFunc)).setCell ⟨g, o + 4, none⟩ (x.cells.getD 4 .nilFunc)).setCell ⟨g, o + 5, none⟩ (x.cells.getD 5 .nilFunc)
theorem put6_size (W : World) (g o : Nat) (x : XT) : (put6 W g o x).heap.size = W.heap.size := by simp [put6]
theorem put6_other (W : World) (g o : Nat) (x : XT) (b : Nat) (hb : b ≠ g) : (put6 W g o x).heap[b]? = W.heap[b]? := by
  unfold put6
  rw [Below.heap_setCell _ ⟨g, _, none⟩ _ b hb, Below.heap_setCell _ ⟨g, _, none⟩ _ b hb, Below.heap_setCell _ ⟨g, _, none⟩ _ b hb, Below.heap_setCell _ ⟨g, _, none⟩ _ b hb, Below.heap_setCell _ ⟨g, _, none⟩ _ b hb, Below.heap_setCell _ ⟨g, _, none⟩ _ b hb]
theorem put6_below {n g : Nat} (W : World) (o : Nat) (x : XT) (h : n ≤ g) : Below n W (put6 W g o x) := by
  unfold put6
  exact ((((((Below.refl _ _).setCell (p := ⟨g, _, none⟩) h _).setCell (p := ⟨g, _, none⟩) h _).setCell (p := ⟨g, _, none⟩) h _).setCell (p := ⟨g, _, none⟩) h _).setCell (p := ⟨g, _, none⟩) h _).setCell (p := ⟨g, _, none⟩) h _
theorem put6_in {n g o : Nat} {W : World} {x y : XT} (ha : y.Av g) (hy : y.In n W) : y.In n (put6 W g o x) := by
  unfold put6
  exact XT.In.setC ha (XT.In.setC ha (XT.In.setC ha (XT.In.setC ha (XT.In.setC ha (XT.In.setC ha hy _) _) _) _) _) _
theorem put6_kp {H B g : Nat} {w W : World} (o : Nat) (x : XT) (h : Kp H B w W) (hg : w.heap.size ≤ g) (hH : H ≤ g) : Kp H B w (put6 W g o x) := ⟨h.low.trans (put6_below W o x hH), fun b hb hn => (put6_other W g o x b (by omega)).trans (h.same b hb hn)⟩
theorem put6_cells {W : World} {g : Nat} {A C : List Value} {x y : XT} (h : CellsG W g (A ++ (x.cells ++ C))) : CellsG (put6 W g A.length y) g (A ++ (y.cells ++ C)) := by
  have hl : x.cells.length = 6 := by cases x; rfl
  unfold put6
  rw [← set6 A C x y]
  have hlen : (A ++ (x.cells ++ C)).length = A.length + 6 + C.length := by simp [hl]; omega
  exact (((((h.set (j := A.length) (by omega) _).set (j := A.length + 1) (by rw [List.length_set]; omega) _).set (j := A.length + 2) (by simp only [List.length_set]; omega) _).set (j := A.length + 3) (by simp only [List.length_set]; omega) _).set (j := A.length + 4) (by simp only [List.length_set]; omega) _).set (j := A.length + 5) (by simp only [List.length_set]; omega) _
theorem put6_inv {B g o : Nat} {Inv : World → Prop} (hS : Stays B Inv) {W : World} {L : List Value} (hI : Inv W) (hg : B < g) (hc : CellsG W g L) (x : XT) : Inv (put6 W g o x) := by
  have k : ∀ (X : World) (j : Nat) (v : Value), Inv X ∧ (∃ cs, X.heap[g]? = some (.cells cs 25 (0, 0))) → Inv (X.setCell ⟨g, j, none⟩ v) ∧ (∃ cs, (X.setCell ⟨g, j, none⟩ v).heap[g]? = some (.cells cs 25 (0, 0))) := fun X j v ⟨h1, cs, h2⟩ =>
    ⟨hS.set X g j v cs h1 hg h2, _, by simp only [World.setCell, Array.getElem?_modify, ↓reduceIte]; rw [h2]; rfl⟩
  unfold put6
  obtain ⟨cur, h1, _⟩ := hc
  exact (k _ _ _ (k _ _ _ (k _ _ _ (k _ _ _ (k _ _ _ (k _ _ _ ⟨hI, cur, h1⟩)))))).1
attribute [local irreducible] put6
set_option maxHeartbeats 1000000 in
theorem winv_step {F : XT → XT} {H B gX gR gT g k : Nat} {Inv : World → Prop} {w wr w1 w2 : World} {l : List XT} {bx : Obj} {ys : List XT} {x y : XT} (hS : Stays B Inv) (hHB : H ≤ B) (hBw : B < w.heap.size) (hX1 : w.heap.size ≤ gX) (hX : gX < g) (hR1 : w.heap.size ≤ gR) (hR : gR < g) (hgT : g < gT)
    (hw : WInv F H B gX gR gT Inv w l bx (some ⟨g, 0, none⟩) k ys wr) (hlt : k < l.length) (hx : l[k] = x) (hb1 : Below wr.heap.size wr w1)
    (hyn : y.nrm = F x) (hyi : y.In w2.heap.size w2) (hya : ∀ b, b < w1.heap.size → y.Av b) (hyI : Inv w2) (hyk : Kp H B w1 w2) :
    WInv F H B gX gR gT Inv w l bx (some ⟨g, 0, none⟩) (k + 1) (ys ++ [y]) (put6 w2 g (k * 6) y) := by
  have h1 := hw.kp.size
  have h2 := hb1.size
  have h3 := hw.top
  have hk1 : Kp H B wr w2 := (Kp.of (B := B) hb1 (by omega)).trans hyk
  have hc0 := hw.cells g rfl
  have hdr : l.drop k = x :: l.drop (k + 1) := by rw [← hx]; exact (List.getElem_cons_drop hlt).symm
  rw [hdr, List.flatMap_append, List.flatMap_cons] at hc0
  have hyl : (ys.flatMap XT.cells).length = k * 6 := by rw [flat_len6, hw.len]
  have hc1 := hc0.block (hk1.same g (by omega) (by omega))
  have hc2 := put6_cells (W := w2) (g := g) (A := ys.flatMap XT.cells) (C := (l.drop (k + 1)).flatMap XT.cells) (x := x) (y := y) hc1
  rw [hyl] at hc2
  refine ⟨by simp [hw.len], fun g' hg' => ?_, fun z hz => ?_, ?_, ?_, ?_, put6_inv hS hyI (by omega) hc1 y, put6_kp (k * 6) y (hw.kp.trans hk1) (by omega) (by omega), by rw [put6_size]; have := hk1.size; omega⟩
  · have hg2 := Option.some.inj hg'
    injection hg2 with hg3
    subst hg3
    rw [show ((ys ++ [y]) ++ l.drop (k + 1)).flatMap XT.cells = ys.flatMap XT.cells ++ (y.cells ++ (l.drop (k + 1)).flatMap XT.cells) by simp [List.flatMap_append]]
    exact hc2
  · rw [put6_size]
    rcases List.mem_append.1 hz with hz | hz
    · obtain ⟨i1, i2⟩ := hw.ins z hz
      exact ⟨put6_in (x := y) (o := k * 6) (i2 g hgT) (XT.In.kp hk1 (i2 B (by omega)) i1 hk1.size), i2⟩
    · rw [List.mem_singleton.1 hz]
      exact ⟨put6_in (x := y) (o := k * 6) (hya g (by omega)) hyi, fun b hb => hya b (by omega)⟩
  · rw [List.map_append, hw.nrm, List.take_succ_eq_append_getElem hlt, List.map_append, hx]
    simp [hyn]
  · rw [put6_other _ _ _ _ _ (by omega)]
    exact hk1.block hw.box (by omega)
  · rw [put6_other _ _ _ _ _ (by omega)]
    exact hk1.block hw.res (by omega)

theorem set6full {W : World} {g : Nat} {u0 u1 u2 u3 u4 u5 v0 v1 v2 v3 v4 v5 : Value} {t : TypeId} (h : W.heap[g]? = some (.cells #[u0, u1, u2, u3, u4, u5] t (0, 0))) : ((((((W.setCell ⟨g, 0, none⟩ v0).setCell ⟨g, 1, none⟩ v1).setCell ⟨g, 2, none⟩ v2).setCell ⟨g, 3, none⟩ v3).setCell ⟨g, 4, none⟩ v4).setCell ⟨g, 5, none⟩ v5).heap[g]? = some (.cells #[v0, v1, v2, v3, v4, v5] t (0, 0)) := by
  simp [World.setCell, Array.getElem?_modify, h]
set_option maxHeartbeats 1000000 in
theorem winv_end {F : XT → XT} {H B gR gT z2 : Nat} {Inv : World → Prop} {w wr : World} {l : List XT} {bx : Obj} {ys : List XT} {a : Option Addr} {y : XT} {op : Int} {nm : Bytes} {xn wd : Int} {v c : Nat} (hS : Stays B Inv) (hHB : H ≤ B) (hBw : B < w.heap.size) (hR1 : w.heap.size < gR) (hz2 : z2 = w.heap.size + 2) (hz3 : z2 ≤ gT) (hgt : ∀ g, a = some ⟨g, 0, none⟩ → gR + 1 ≤ g ∧ g < gT) (hsome : 0 < l.length → ∃ g, a = some ⟨g, 0, none⟩)
    (hw : WInv F H B w.heap.size gR gT Inv w l bx a l.length ys wr) (hy : y = .mk op nm xn wd v a c ys) (hgR : gR = w.heap.size + 1 := by rfl) :
    ys.map XT.nrm = l.map F ∧ y.In (put6 wr gR 0 y).heap.size (put6 wr gR 0 y) ∧ (∀ b, b < w.heap.size → y.Av b) ∧ Inv (put6 wr gR 0 y) ∧ Kp H B w (put6 wr gR 0 y) := by
  have h3 := hw.top
  have hlen := hw.len
  have hcr : CellsG wr gR [] := ⟨_, hw.res, rfl⟩
  refine ⟨by rw [hw.nrm, List.take_length], ?_, ?_, put6_inv hS hw.inv (by omega) hcr y, put6_kp _ _ hw.kp (by omega) (by omega)⟩
  · rw [put6_size]
    have hsub : ∀ z ∈ ys, z.In wr.heap.size (put6 wr gR 0 y) := fun z hz => put6_in (x := y) (o := 0) ((hw.ins z hz).2 gR (by omega)) (hw.ins z hz).1
    rw [hy, XT.In_mk]
    rw [hy] at hsub
    cases ys with
    | nil => trivial
    | cons z r =>
      have hpos : 0 < l.length := by rw [← hlen]; simp
      obtain ⟨g, rfl⟩ := hsome hpos
      obtain ⟨g1, g2⟩ := hgt g rfl
      have hc0 := hw.cells g rfl
      rw [List.drop_length, List.append_nil] at hc0
      refine inrow_of_flat (by omega) (fun j u hu => ?_) hsub
      have := (hc0.block (put6_other wr gR 0 (.mk op nm xn wd v (some ⟨g, 0, none⟩) c (z :: r)) g (by omega))).at hu
      rw [Nat.zero_add]
      exact this
  · intro b hb
    rw [hy, XT.Av, XT.avL_iff]
    refine ⟨?_, fun z hz => (hw.ins z hz).2 b (by omega)⟩
    cases ys with
    | nil => exact .inl rfl
    | cons z r =>
      refine .inr fun p hp => ?_
      obtain ⟨g, rfl⟩ := hsome (by rw [← hlen]; simp)
      obtain ⟨g1, g2⟩ := hgt g rfl
      cases hp
      show g ≠ b
      omega
attribute [local semireducible] put6

set_option maxHeartbeats 8000000 in
set_option maxRecDepth 3000000 in
theorem withParts_C (F : XT → XT) (H B n0 : Nat) (hnH : n0 ≤ H) (hHB : H ≤ B) (Inv : World → Prop) (hS : Stays B Inv) (op : Int) (nm : Bytes) (xn wd : Int) (v : Nat) (xa : Option Addr) (xc : Nat) (xl : List XT) (hbk : xl.length ≤ 1400000)
    (hc : ∀ x ∈ xl, ∀ W, Inv W → B < W.heap.size → x.In n0 W → Calls Tryz.prog 114 #[x.val] W (SubPost F x H B Inv W)) (w : World) (hBw : B < w.heap.size) (hI : Inv w) (hin : InRow 6 XT.cells (XT.In n0 w) n0 w xl xa) :
    Calls Tryz.prog 111 #[.agg #[.int .i64 op, .string (bs nm), .int .i64 xn, .int .i64 wd, .int .u64 (v : Int), .slice xa xl.length xc], .func (.func 114) #[] #[]] w fun e W' => ∃ (a1 : Option Addr) (c1 : Nat) (ys : List XT), e = .returned (.agg #[.int .i64 op, .string (bs nm), .int .i64 xn, .int .i64 wd, .int .u64 (v : Int), .slice a1 ys.length c1]) ∧ ys.map XT.nrm = xl.map F ∧ (XT.mk op nm xn wd v a1 c1 ys).In W'.heap.size W' ∧ (∀ b, b < w.heap.size → (XT.mk op nm xn wd v a1 c1 ys).Av b) ∧ Inv W' ∧ Kp H B w W' := by
  have BX := block_alloc (World.alloc_heap_new w (.cells #[.int .i64 op, .string (bs nm), .int .i64 xn, .int .i64 wd, .int .u64 (v : Int), .slice xa xl.length xc] 25)) (.cells #[.int .i64 0, .string ⟨#[]⟩, .int .i64 0, .int .i64 0, .int .u64 0, .slice none 0 0] 25)
  have BR := World.alloc_heap_new (w.alloc (.cells #[.int .i64 op, .string (bs nm), .int .i64 xn, .int .i64 wd, .int .u64 (v : Int), .slice xa xl.length xc] 25)) (.cells #[.int .i64 0, .string ⟨#[]⟩, .int .i64 0, .int .i64 0, .int .u64 0, .slice none 0 0] 25)
  rw [World.size_alloc] at BR
  have hB2 : Below w.heap.size w ((w.alloc (.cells #[.int .i64 op, .string (bs nm), .int .i64 xn, .int .i64 wd, .int .u64 (v : Int), .slice xa xl.length xc] 25)).alloc (.cells #[.int .i64 0, .string ⟨#[]⟩, .int .i64 0, .int .i64 0, .int .u64 0, .slice none 0 0] 25)) := ((Below.refl _ _).alloc (Nat.le_refl _) _).alloc (by simp) _
  have hz2 : ((w.alloc (.cells #[.int .i64 op, .string (bs nm), .int .i64 xn, .int .i64 wd, .int .u64 (v : Int), .slice xa xl.length xc] 25)).alloc (.cells #[.int .i64 0, .string ⟨#[]⟩, .int .i64 0, .int .i64 0, .int .u64 0, .slice none 0 0] 25)).heap.size = w.heap.size + 2 := by simp
  have hin2 := hin.keep (Below.keptTo hB2 (by omega)) (fun x _ => XT.In.keep (Below.keptTo hB2 (by omega)) x)
  have hI2 := hS.below _ _ hB2 hI
  go_enter Tryz.func111, Tryz.ntmps111
  go_upto_region 1 with (fail)
  generalize (w.alloc (.cells #[.int .i64 op, .string (bs nm), .int .i64 xn, .int .i64 wd, .int .u64 (v : Int), .slice xa xl.length xc] 25)).alloc (.cells #[.int .i64 0, .string ⟨#[]⟩, .int .i64 0, .int .i64 0, .int .u64 0, .slice none 0 0] 25) = w2 at *
  obtain ⟨x0, x1, x2, x3, x4, x5⟩ := open6 BX
  go_wp2_with fail
  refine (clone_any xl hbk xa xc (XT.In n0 w2) n0 w2 (by omega) hin2).mono ?_
  rintro e w3 ⟨a1, c1, rfl, hown, hb3⟩
  clear x0 x1 x2 x3 x4 x5
  have BX3 := block_kept BX hb3
  have BR3 := block_kept BR hb3
  have hI3 := hS.below _ _ hb3 hI2
  have hz3 := hb3.size
  have hB3 := hB2.trans (hb3.mono (by omega))
  have hK3 : Kp H B w w3 := Kp.of hB3 (by omega)
  have hsome : 0 < xl.length → ∃ g, a1 = some ⟨g, 0, none⟩ := fun h => by
    obtain ⟨g, cap, h2⟩ := own_some hown h
    injection h2 with h3
    exact ⟨g, h3⟩
  have hcel : ∀ g, a1 = some ⟨g, 0, none⟩ → w2.heap.size ≤ g ∧ CellsG w3 g (xl.flatMap XT.cells) := fun g hg => by
    rcases hown.2 with ⟨h, _⟩ | ⟨g2, cap, cur, h2, h3, h4, h5, h6, h7, h8⟩
    · injection h with h1; rw [hg] at h1; cases h1
    · injection h2 with h9
      rw [hg] at h9
      injection h9 with h9
      injection h9 with h10
      subst h10
      exact ⟨h3, cur, h4, by rw [flat_len6]; exact h8⟩
  clear BX BR hI2 hB2 hin2 hown hb3
  obtain ⟨x0, x1, x2, x3, x4, x5⟩ := open6 BX3
  have f5 : w3.frozen? ⟨w.heap.size, 5, none⟩ = false := by simp [World.frozen?, BX3]
  have BX4 : (w3.setCell ⟨w.heap.size, 5, none⟩ (.slice a1 xl.length c1)).heap[w.heap.size]? = some (.cells #[.int .i64 op, .string (bs nm), .int .i64 xn, .int .i64 wd, .int .u64 (v : Int), .slice a1 xl.length c1] 25 (0, 0)) := by simp only [World.setCell, Array.getElem?_modify, ↓reduceIte]; rw [BX3]; rfl
  have BR4 : (w3.setCell ⟨w.heap.size, 5, none⟩ (.slice a1 xl.length c1)).heap[w.heap.size + 1]? = _ := (Below.heap_setCell w3 ⟨w.heap.size, 5, none⟩ _ (w.heap.size + 1) (by show w.heap.size + 1 ≠ w.heap.size; omega)).trans BR3
  have hI4 := hS.set w3 w.heap.size 5 (.slice a1 xl.length c1) _ hI3 (by omega) BX3
  have hW0 : WInv F H B w.heap.size (w.heap.size + 1) w3.heap.size Inv w xl (.cells #[.int .i64 op, .string (bs nm), .int .i64 xn, .int .i64 wd, .int .u64 (v : Int), .slice a1 xl.length c1] 25) a1 0 [] (w3.setCell ⟨w.heap.size, 5, none⟩ (.slice a1 xl.length c1)) :=
    ⟨rfl, fun g hg => (hcel g hg).2.block (Below.heap_setCell w3 ⟨w.heap.size, 5, none⟩ _ g (by show g ≠ w.heap.size; have := (hcel g hg).1; omega)), (fun y hy => by cases hy), rfl, BX4, BR4, hI4, ⟨hB3.setCell (p := ⟨w.heap.size, 5, none⟩) (Nat.le_refl _) _ |>.mono (by omega), fun b hb hn => (Below.heap_setCell w3 ⟨w.heap.size, 5, none⟩ _ b (by show b ≠ w.heap.size; omega)).trans (hB3.block b hb)⟩, by simp⟩
  have hz4 : (w3.setCell ⟨w.heap.size, 5, none⟩ (.slice a1 xl.length c1)).heap.size = w3.heap.size := by simp
  have y5 := (open6 BX4).2.2.2.2.2
  have hgt : ∀ g, a1 = some ⟨g, 0, none⟩ → w.heap.size + 2 ≤ g ∧ g < w3.heap.size := fun g hg => ⟨by have := (hcel g hg).1; omega, (hcel g hg).2.lt⟩
  clear BX3 BR3 BX4 BR4 hI3 hI4 hcel
  go_upto_region 2 with (fail)
  clear x0 x1 x2 x3 x4 x5 f5
  generalize hw4 : w3.setCell ⟨w.heap.size, 5, none⟩ (.slice a1 xl.length c1) = w4 at *
  clear hw4
  go_wp2
  go_loopw [14] (fun u wr => ∃ (k : Nat) (ys : List XT), u = .int .i64 (k : Int) ∧ k ≤ xl.length ∧ WInv F H B w.heap.size (w.heap.size + 1) w3.heap.size Inv w xl (.cells #[.int .i64 op, .string (bs nm), .int .i64 xn, .int .i64 wd, .int .u64 (v : Int), .slice a1 xl.length c1] 25) a1 k ys wr) (fun u _ => xl.length - (intOf u).toNat)
  case atStart => exact ⟨0, [], rfl, Nat.zero_le _, hW0⟩
  case round =>
    obtain ⟨k, ys, rfl, hk, hw⟩ := hrel
    clear hW0 y5
    by_cases hlt : k < xl.length
    · have d1 : decide (k < xl.length) = true := by simpa using hlt
      have d2 : decide ((k : Int) < (xl.length : Int)) = true := by rw [decide_eq_true_eq]; omega
      have x1 : (k : Int) < (xl.length : Int) := by omega
      obtain ⟨g, rfl⟩ := hsome (by omega)
      obtain ⟨hg1, hg2⟩ := hgt g rfl
      obtain ⟨b0, o0, he0, hb0, hr0, hx0⟩ := hin.at (i := k) hlt
      have hcx := hc xl[k] (List.getElem_mem hlt)
      have hdr : xl.drop k = xl[k] :: xl.drop (k + 1) := (List.getElem_cons_drop hlt).symm
      have HTK := Lib.hid (List.take_succ_eq_append_getElem hlt)
      have hcs := hw.cells g rfl
      rw [hdr, List.flatMap_append, List.flatMap_cons] at hcs
      have hyl : (ys.flatMap XT.cells).length = k * 6 := by rw [flat_len6, hw.len]
      generalize hgx : xl[k] = x at *
      have HGX := Lib.hid hgx
      have hxl6 : x.cells.length = 6 := by cases x; rfl
      have hpc : ∀ j u, x.cells[j]? = some u → wr.cell? ⟨g, k * 6 + j, none⟩ = some u := fun j u hu => hcs.at (by
        have hj := (List.getElem?_eq_some_iff.1 hu).1
        rw [List.getElem?_append_right (by omega), hyl, show k * 6 + j - k * 6 = j by omega, List.getElem?_append_left hj]; exact hu)
      have hxin := XT.In.keep (hw.kp.keptTo hnH) _ hx0
      have hzr := hw.top
      have hIn := hw.inv
      obtain ⟨op2, nm2, xn2, wd2, v2, xa2, xc2, xl2⟩ := x
      have r0 : wr.cell? ⟨g, k * 6, none⟩ = some (.int .i64 op2) := hpc 0 _ rfl
      have r1 : wr.cell? ⟨g, k * 6 + 1, none⟩ = some (.string (bs nm2)) := hpc 1 _ rfl
      have r2 : wr.cell? ⟨g, k * 6 + 2, none⟩ = some (.int .i64 xn2) := hpc 2 _ rfl
      have r3 : wr.cell? ⟨g, k * 6 + 3, none⟩ = some (.int .i64 wd2) := hpc 3 _ rfl
      have r4 : wr.cell? ⟨g, k * 6 + 4, none⟩ = some (.int .u64 (v2 : Int)) := hpc 4 _ rfl
      have r5 : wr.cell? ⟨g, k * 6 + 5, none⟩ = some (.slice xa2 xl2.length xc2) := hpc 5 _ rfl
      have y5 := (open6 hw.box).2.2.2.2.2
      have hcc := fun (w1 : World) (hb1 : Below (wr.alloc (.cells #[.int .i64 op2, .string (bs nm2), .int .i64 xn2, .int .i64 wd2, .int .u64 (v2 : Int), .slice xa2 xl2.length xc2] 25)).heap.size (wr.alloc (.cells #[.int .i64 op2, .string (bs nm2), .int .i64 xn2, .int .i64 wd2, .int .u64 (v2 : Int), .slice xa2 xl2.length xc2] 25)) w1) => hcx w1 (hS.below _ _ (((Below.refl _ _).alloc (Nat.le_refl _) _).trans (hb1.mono (by simp))) hIn) (by have := hb1.size; simp at this; omega) (XT.In.keep (Below.keptTo (((Below.refl _ _).alloc (Nat.le_refl _) _).trans (hb1.mono (by simp))) (by omega)) _ hxin)
      simp only [XT.val, XT.cells] at hcc
      have HW := Lib.hid hw
      have HCS := Lib.hid hcs
      have HC := Lib.hid (And.intro hyl hIn)
      have BP := World.alloc_heap_new wr (.cells #[.int .i64 op2, .string (bs nm2), .int .i64 xn2, .int .i64 wd2, .int .u64 (v2 : Int), .slice xa2 xl2.length xc2] 25)
      clear hw hcs hyl hcx hpc hr0 hx0 hxin he0 hdr hgx hc hin hgt hsome hxl6 hIn
      have y5A := alloc_cell y5 (.cells #[.int .i64 op2, .string (bs nm2), .int .i64 xn2, .int .i64 wd2, .int .u64 (v2 : Int), .slice xa2 xl2.length xc2] 25)
      obtain ⟨z0, z1, z2, z3, z4, z5⟩ := open6 BP
      have hzw := hg2
      clear y5
      go_upto_region 5 with (fail)
      have hcsA := HCS.out.block (Below.heap_alloc wr (.cells #[.int .i64 op2, .string (bs nm2), .int .i64 xn2, .int .i64 wd2, .int .u64 (v2 : Int), .slice xa2 xl2.length xc2] 25) g (by omega))
      have r0A := alloc_cell r0 (.cells #[.int .i64 op2, .string (bs nm2), .int .i64 xn2, .int .i64 wd2, .int .u64 (v2 : Int), .slice xa2 xl2.length xc2] 25)
      have r1A := alloc_cell r1 (.cells #[.int .i64 op2, .string (bs nm2), .int .i64 xn2, .int .i64 wd2, .int .u64 (v2 : Int), .slice xa2 xl2.length xc2] 25)
      have r2A := alloc_cell r2 (.cells #[.int .i64 op2, .string (bs nm2), .int .i64 xn2, .int .i64 wd2, .int .u64 (v2 : Int), .slice xa2 xl2.length xc2] 25)
      have r3A := alloc_cell r3 (.cells #[.int .i64 op2, .string (bs nm2), .int .i64 xn2, .int .i64 wd2, .int .u64 (v2 : Int), .slice xa2 xl2.length xc2] 25)
      have r4A := alloc_cell r4 (.cells #[.int .i64 op2, .string (bs nm2), .int .i64 xn2, .int .i64 wd2, .int .u64 (v2 : Int), .slice xa2 xl2.length xc2] 25)
      have r5A := alloc_cell r5 (.cells #[.int .i64 op2, .string (bs nm2), .int .i64 xn2, .int .i64 wd2, .int .u64 (v2 : Int), .slice xa2 xl2.length xc2] 25)
      go_region_held3 (fun u1 => u1.cell? ⟨w.heap.size, 5, none⟩ = some (.slice (some ⟨g, 0, none⟩) xl.length c1) ∧ u1.cell? ⟨wr.heap.size, 0, none⟩ = some (.int .i64 op2) ∧ u1.cell? ⟨wr.heap.size, 1, none⟩ = some (.string (bs nm2)) ∧ u1.cell? ⟨wr.heap.size, 2, none⟩ = some (.int .i64 xn2) ∧ u1.cell? ⟨wr.heap.size, 3, none⟩ = some (.int .i64 wd2) ∧ u1.cell? ⟨wr.heap.size, 4, none⟩ = some (.int .u64 (v2 : Int)) ∧ u1.cell? ⟨wr.heap.size, 5, none⟩ = some (.slice xa2 xl2.length xc2)) (first | (with_reducible exact ⟨cell_far6 y5AN (by omega), cell_far6 z0N (by omega), cell_far6 z1N (by omega), cell_far6 z2N (by omega), cell_far6 z3N (by omega), cell_far6 z4N (by omega), cell_far6 z5N (by omega)⟩) | (with_reducible exact ⟨y5A, z0, z1, z2, z3, z4, z5⟩) | (with_reducible exact ⟨y5AN, z0N, z1N, z2N, z3N, z4N, z5N⟩) | exact ⟨y5A, z0, z1, z2, z3, z4, z5⟩) (first | (go_at_call 114; refine (hcc _ (by first | exact Below.refl _ _ | exact (Below.refl _ _).drew | exact below_drawn2 (Below.refl _ _) _)).mono ?_; rintro e w' ⟨y, rfl, hyn, hyi, hya, hyI, hyk⟩; obtain ⟨op3, nm3, xn3, wd3, v3, xa3, xc3, xl3⟩ := y; simp only [XT.val, XT.cells]; have y5AN := hyk.cell (by simp; omega) y5A; have z0N := hyk.cell (by simp; omega) z0; have z1N := hyk.cell (by simp; omega) z1; have z2N := hyk.cell (by simp; omega) z2; have z3N := hyk.cell (by simp; omega) z3; have z4N := hyk.cell (by simp; omega) z4; have z5N := hyk.cell (by simp; omega) z5; have hcsN := hcsA.block (hyk.same g (by simp; omega) (by omega)); have r0N := hyk.cell (by omega) r0A; have f0N := hcsN.frozen (k * 6); have r1N := hyk.cell (by omega) r1A; have f1N := hcsN.frozen (k * 6 + 1); have r2N := hyk.cell (by omega) r2A; have f2N := hcsN.frozen (k * 6 + 2); have r3N := hyk.cell (by omega) r3A; have f3N := hcsN.frozen (k * 6 + 3); have r4N := hyk.cell (by omega) r4A; have f4N := hcsN.frozen (k * 6 + 4); have r5N := hyk.cell (by omega) r5A; have f5N := hcsN.frozen (k * 6 + 5)))
      have hst := winv_step (w := w) (y := .mk op3 nm3 xn3 wd3 v3 xa3 xc3 xl3) (x := .mk op2 nm2 xn2 wd2 v2 xa2 xc2 xl2) hS hHB hBw (Nat.le_refl _) (by omega) (Nat.le_succ _) (by omega) hg2 HW.out hlt HGX.out (((Below.refl wr.heap.size wr).alloc (Nat.le_refl _) (.cells #[.int .i64 op2, .string (bs nm2), .int .i64 xn2, .int .i64 wd2, .int .u64 (v2 : Int), .slice xa2 xl2.length xc2] 25)).trans (by first | exact Below.refl _ _ | exact (Below.refl _ _).drew | exact below_drawn2 (Below.refl _ _) _)) hyn hyi hya hyI hyk
      go_wp2
      go_roundw
      case rel => exact ⟨k + 1, _, by simp; first | done | rfl | omega, by omega, hst⟩
      case measure => simp [intOf]; omega
    · have d1 : decide (k < xl.length) = false := by simpa using hlt
      have d2 : decide ((k : Int) < (xl.length : Int)) = false := by rw [decide_eq_false_iff_not]; omega
      obtain rfl : k = xl.length := by omega
      obtain ⟨x0, x1, x2, x3, x4, x5⟩ := open6 hw.box
      obtain ⟨q0, q1, q2, q3, q4, q5⟩ := open6 hw.res
      have fr : ∀ j, wr.frozen? ⟨w.heap.size + 1, j, none⟩ = false := fun j => by simp [World.frozen?, hw.res]
      have f0 := fr 0
      have f1 := fr 1
      have f2 := fr 2
      have f3 := fr 3
      have f4 := fr 4
      have f5 := fr 5
      have hfull := set6full (v0 := .int .i64 op) (v1 := .string (bs nm)) (v2 := .int .i64 xn) (v3 := .int .i64 wd) (v4 := .int .u64 (v : Int)) (v5 := .slice a1 xl.length c1) hw.res
      obtain ⟨s0, s1, s2, s3, s4, s5⟩ := open6 hfull
      have hlen := hw.len
      have hend := winv_end (gR := w.heap.size + 1) (y := .mk op nm xn wd v a1 c1 ys) hS hHB hBw (Nat.lt_succ_self _) hz2 hz3 hgt hsome hw rfl rfl
      have hp : put6 wr (w.heap.size + 1) 0 (.mk op nm xn wd v a1 c1 ys) = (((((wr.setCell ⟨w.heap.size + 1, 0, none⟩ (.int .i64 op)).setCell ⟨w.heap.size + 1, 1, none⟩ (.string (bs nm))).setCell ⟨w.heap.size + 1, 2, none⟩ (.int .i64 xn)).setCell ⟨w.heap.size + 1, 3, none⟩ (.int .i64 wd)).setCell ⟨w.heap.size + 1, 4, none⟩ (.int .u64 (v : Int))).setCell ⟨w.heap.size + 1, 5, none⟩ (.slice a1 xl.length c1) := by
        simp [put6, XT.cells, hlen]
      rw [hp] at hend
      have HE := Lib.hid hend
      have HS := Lib.hid (And.intro s0 (And.intro s1 (And.intro s2 (And.intro s3 (And.intro s4 s5)))))
      clear hlt hfull hend hp s0 s1 s2 s3 s4 s5 hc hin hgt hsome fr hw
      go_wp2
      obtain ⟨s0, s1, s2, s3, s4, s5⟩ := HS.out
      exact bodyPost_ret (v := .agg #[.int .i64 op, .string (bs nm), .int .i64 xn, .int .i64 wd, .int .u64 (v : Int), .slice a1 xl.length c1]) (by simp [results, Tryz.results111, go_sem, s0, s1, s2, s3, s4, s5]) rfl ⟨a1, c1, ys, by rw [hlen], HE.out⟩

set_option maxHeartbeats 4000000 in
set_option maxRecDepth 3000000 in
theorem copied_any (H B n0 : Nat) (hnH : n0 ≤ H) (hHB : H ≤ B) (Inv : World → Prop) (hS : Stays B Inv) : ∀ x : XT, x.bk ≤ 1400000 → ∀ W, Inv W → B < W.heap.size → x.In n0 W → Calls Tryz.prog 114 #[x.val] W (SubPost XT.nrm x H B Inv W) := by
  refine XT.ind ?_
  intro op nm xn wd v xa xc xl ih hbk W hI hBW hin
  rw [XT.In_mk] at hin
  simp only [XT.bk] at hbk
  have hlen := XT.bkL_len xl
  have hB2 : Below W.heap.size W ((W.alloc (.cells #[.int .i64 op, .string (bs nm), .int .i64 xn, .int .i64 wd, .int .u64 (v : Int), .slice xa xl.length xc] 25)).alloc (.cells #[.int .i64 0, .string ⟨#[]⟩, .int .i64 0, .int .i64 0, .int .u64 0, .slice none 0 0] 25)) := ((Below.refl _ _).alloc (Nat.le_refl _) _).alloc (by simp) _
  have hz2 : ((W.alloc (.cells #[.int .i64 op, .string (bs nm), .int .i64 xn, .int .i64 wd, .int .u64 (v : Int), .slice xa xl.length xc] 25)).alloc (.cells #[.int .i64 0, .string ⟨#[]⟩, .int .i64 0, .int .i64 0, .int .u64 0, .slice none 0 0] 25)).heap.size = W.heap.size + 2 := by simp
  have BX := block_alloc (World.alloc_heap_new W (.cells #[.int .i64 op, .string (bs nm), .int .i64 xn, .int .i64 wd, .int .u64 (v : Int), .slice xa xl.length xc] 25)) (.cells #[.int .i64 0, .string ⟨#[]⟩, .int .i64 0, .int .i64 0, .int .u64 0, .slice none 0 0] 25)
  have BR := World.alloc_heap_new (W.alloc (.cells #[.int .i64 op, .string (bs nm), .int .i64 xn, .int .i64 wd, .int .u64 (v : Int), .slice xa xl.length xc] 25)) (.cells #[.int .i64 0, .string ⟨#[]⟩, .int .i64 0, .int .i64 0, .int .u64 0, .slice none 0 0] 25)
  rw [World.size_alloc] at BR
  have hI2 := hS.below _ _ hB2 hI
  have hK2 := Kp.of (H := H) (B := B) hB2 (by omega)
  have hin2 := hin.keep (Below.keptTo hB2 (by omega)) (fun x _ => XT.In.keep (Below.keptTo hB2 (by omega)) x)
  have hw := withParts_C XT.nrm H B n0 hnH hHB Inv hS op nm xn wd v xa xc xl (by omega) (fun x hx W1 h1 h2 h3 => ih x hx (by have := XT.bkL_mem hx; omega) W1 h1 h2 h3) ((W.alloc (.cells #[.int .i64 op, .string (bs nm), .int .i64 xn, .int .i64 wd, .int .u64 (v : Int), .slice xa xl.length xc] 25)).alloc (.cells #[.int .i64 0, .string ⟨#[]⟩, .int .i64 0, .int .i64 0, .int .u64 0, .slice none 0 0] 25)) (by omega) hI2 hin2
  simp only [XT.val, XT.cells]
  clear ih hin hin2 hI2 hI
  go_enter Tryz.func114, Tryz.ntmps114
  go_upto_region 1 with (fail)
  generalize ((W.alloc (.cells #[.int .i64 op, .string (bs nm), .int .i64 xn, .int .i64 wd, .int .u64 (v : Int), .slice xa xl.length xc] 25)).alloc (.cells #[.int .i64 0, .string ⟨#[]⟩, .int .i64 0, .int .i64 0, .int .u64 0, .slice none 0 0] 25)) = w2 at *
  obtain ⟨x0, x1, x2, x3, x4, x5⟩ := open6 BX
  go_wp2_with fail
  refine hw.mono ?_
  rintro e w3 ⟨a1, c1, ys, rfl, hn, hyi, hav, hIn, hk⟩
  clear hw x0 x1 x2 x3 x4 x5
  have hkn := hK2.trans hk
  have BRn := hk.block BR (by omega)
  have hz3 := hk.size
  have hp : put6 w3 (W.heap.size + 1) 0 (.mk op nm xn wd v a1 c1 ys) = ((((((w3.setCell ⟨W.heap.size + 1, 0, none⟩ (.int .i64 op)).setCell ⟨W.heap.size + 1, 1, none⟩ (.string (bs nm))).setCell ⟨W.heap.size + 1, 2, none⟩ (.int .i64 xn)).setCell ⟨W.heap.size + 1, 3, none⟩ (.int .i64 wd)).setCell ⟨W.heap.size + 1, 4, none⟩ (.int .u64 (v : Int))).setCell ⟨W.heap.size + 1, 5, none⟩ (.slice a1 ys.length c1)) := by simp [put6, XT.cells, bs]
  have hi9 := put6_in (x := (.mk op nm xn wd v a1 c1 ys)) (o := 0) (hav (W.heap.size + 1) (by first | omega | (simp; omega) | (simp; done))) hyi
  have hI9 := put6_inv (o := 0) hS hIn (by omega) (⟨_, BRn, rfl⟩ : CellsG w3 (W.heap.size + 1) []) (.mk op nm xn wd v a1 c1 ys)
  have hk9 := put6_kp 0 (.mk op nm xn wd v a1 c1 ys) hkn (show W.heap.size ≤ W.heap.size + 1 by omega) (by omega)
  have hz9 := put6_size w3 (W.heap.size + 1) 0 (.mk op nm xn wd v a1 c1 ys)
  rw [hp] at hi9 hI9 hk9 hz9
  have hfull := set6full (v0 := .int .i64 op) (v1 := .string (bs nm)) (v2 := .int .i64 xn) (v3 := .int .i64 wd) (v4 := .int .u64 (v : Int)) (v5 := .slice a1 ys.length c1) BRn
  obtain ⟨s0, s1, s2, s3, s4, s5⟩ := open6 hfull
  obtain ⟨q0, q1, q2, q3, q4, q5⟩ := open6 BRn
  have fr : ∀ j, w3.frozen? ⟨W.heap.size + 1, j, none⟩ = false := fun j => by simp [World.frozen?, BRn]
  have f0 := fr 0
  have f1 := fr 1
  have f2 := fr 2
  have f3 := fr 3
  have f4 := fr 4
  have f5 := fr 5
  have HS := Lib.hid (And.intro s0 (And.intro s1 (And.intro s2 (And.intro s3 (And.intro s4 s5)))))
  have HE := Lib.hid (And.intro hi9 (And.intro hI9 (And.intro hk9 (And.intro hav hz9))))
  clear hp hi9 hI9 hk9 hz9 hfull fr s0 s1 s2 s3 s4 s5 hyi hIn hkn BRn
  go_wp2
  obtain ⟨s0, s1, s2, s3, s4, s5⟩ := HS.out
  refine bodyPost_ret (v := .agg #[.int .i64 op, .string (bs nm), .int .i64 xn, .int .i64 wd, .int .u64 (v : Int), .slice a1 ys.length c1]) (by simp [results, Tryz.results114, go_sem, s0, s1, s2, s3, s4, s5]) rfl ⟨(.mk op nm xn wd v a1 c1 ys), rfl, by rw [XT.nrm, XT.nrm, XT.nrmL_map, XT.nrmL_map, hn], by have h := HE.out.1; rw [← HE.out.2.2.2.2] at h; exact h, fun b hb => HE.out.2.2.2.1 b (by first | omega | (simp; omega)), HE.out.2.1, HE.out.2.2.1⟩

set_option maxHeartbeats 8000000 in
set_option maxRecDepth 3000000 in
theorem withParts_P (F : XT → XT) (H B n0 : Nat) (hnH : n0 ≤ H) (hHB : H ≤ B) (Inv : World → Prop) (hS : Stays B Inv) (op : Int) (nm : Bytes) (xn wd : Int) (v : Nat) (xa : Option Addr) (xc : Nat) (xl : List XT) (hbk : xl.length ≤ 1400000)
    (hc : ∀ x ∈ xl, ∀ W, Inv W → B < W.heap.size → x.In n0 W → Calls Tryz.prog 68 #[.pointer (some ⟨B, 0, none⟩), x.val] W (SubPost F x H B Inv W)) (w : World) (hBw : B < w.heap.size) (hI : Inv w) (hin : InRow 6 XT.cells (XT.In n0 w) n0 w xl xa) :
    Calls Tryz.prog 111 #[.agg #[.int .i64 op, .string (bs nm), .int .i64 xn, .int .i64 wd, .int .u64 (v : Int), .slice xa xl.length xc], .func (.func 68) #[.pointer (some ⟨B, 0, none⟩)] #[]] w fun e W' => ∃ (a1 : Option Addr) (c1 : Nat) (ys : List XT), e = .returned (.agg #[.int .i64 op, .string (bs nm), .int .i64 xn, .int .i64 wd, .int .u64 (v : Int), .slice a1 ys.length c1]) ∧ ys.map XT.nrm = xl.map F ∧ (XT.mk op nm xn wd v a1 c1 ys).In W'.heap.size W' ∧ (∀ b, b < w.heap.size → (XT.mk op nm xn wd v a1 c1 ys).Av b) ∧ Inv W' ∧ Kp H B w W' := by
  have BX := block_alloc (World.alloc_heap_new w (.cells #[.int .i64 op, .string (bs nm), .int .i64 xn, .int .i64 wd, .int .u64 (v : Int), .slice xa xl.length xc] 25)) (.cells #[.int .i64 0, .string ⟨#[]⟩, .int .i64 0, .int .i64 0, .int .u64 0, .slice none 0 0] 25)
  have BR := World.alloc_heap_new (w.alloc (.cells #[.int .i64 op, .string (bs nm), .int .i64 xn, .int .i64 wd, .int .u64 (v : Int), .slice xa xl.length xc] 25)) (.cells #[.int .i64 0, .string ⟨#[]⟩, .int .i64 0, .int .i64 0, .int .u64 0, .slice none 0 0] 25)
  rw [World.size_alloc] at BR
  have hB2 : Below w.heap.size w ((w.alloc (.cells #[.int .i64 op, .string (bs nm), .int .i64 xn, .int .i64 wd, .int .u64 (v : Int), .slice xa xl.length xc] 25)).alloc (.cells #[.int .i64 0, .string ⟨#[]⟩, .int .i64 0, .int .i64 0, .int .u64 0, .slice none 0 0] 25)) := ((Below.refl _ _).alloc (Nat.le_refl _) _).alloc (by simp) _
  have hz2 : ((w.alloc (.cells #[.int .i64 op, .string (bs nm), .int .i64 xn, .int .i64 wd, .int .u64 (v : Int), .slice xa xl.length xc] 25)).alloc (.cells #[.int .i64 0, .string ⟨#[]⟩, .int .i64 0, .int .i64 0, .int .u64 0, .slice none 0 0] 25)).heap.size = w.heap.size + 2 := by simp
  have hin2 := hin.keep (Below.keptTo hB2 (by omega)) (fun x _ => XT.In.keep (Below.keptTo hB2 (by omega)) x)
  have hI2 := hS.below _ _ hB2 hI
  go_enter Tryz.func111, Tryz.ntmps111
  go_upto_region 1 with (fail)
  generalize (w.alloc (.cells #[.int .i64 op, .string (bs nm), .int .i64 xn, .int .i64 wd, .int .u64 (v : Int), .slice xa xl.length xc] 25)).alloc (.cells #[.int .i64 0, .string ⟨#[]⟩, .int .i64 0, .int .i64 0, .int .u64 0, .slice none 0 0] 25) = w2 at *
  obtain ⟨x0, x1, x2, x3, x4, x5⟩ := open6 BX
  go_wp2_with fail
  refine (clone_any xl hbk xa xc (XT.In n0 w2) n0 w2 (by omega) hin2).mono ?_
  rintro e w3 ⟨a1, c1, rfl, hown, hb3⟩
  clear x0 x1 x2 x3 x4 x5
  have BX3 := block_kept BX hb3
  have BR3 := block_kept BR hb3
  have hI3 := hS.below _ _ hb3 hI2
  have hz3 := hb3.size
  have hB3 := hB2.trans (hb3.mono (by omega))
  have hK3 : Kp H B w w3 := Kp.of hB3 (by omega)
  have hsome : 0 < xl.length → ∃ g, a1 = some ⟨g, 0, none⟩ := fun h => by
    obtain ⟨g, cap, h2⟩ := own_some hown h
    injection h2 with h3
    exact ⟨g, h3⟩
  have hcel : ∀ g, a1 = some ⟨g, 0, none⟩ → w2.heap.size ≤ g ∧ CellsG w3 g (xl.flatMap XT.cells) := fun g hg => by
    rcases hown.2 with ⟨h, _⟩ | ⟨g2, cap, cur, h2, h3, h4, h5, h6, h7, h8⟩
    · injection h with h1; rw [hg] at h1; cases h1
    · injection h2 with h9
      rw [hg] at h9
      injection h9 with h9
      injection h9 with h10
      subst h10
      exact ⟨h3, cur, h4, by rw [flat_len6]; exact h8⟩
  clear BX BR hI2 hB2 hin2 hown hb3
  obtain ⟨x0, x1, x2, x3, x4, x5⟩ := open6 BX3
  have f5 : w3.frozen? ⟨w.heap.size, 5, none⟩ = false := by simp [World.frozen?, BX3]
  have BX4 : (w3.setCell ⟨w.heap.size, 5, none⟩ (.slice a1 xl.length c1)).heap[w.heap.size]? = some (.cells #[.int .i64 op, .string (bs nm), .int .i64 xn, .int .i64 wd, .int .u64 (v : Int), .slice a1 xl.length c1] 25 (0, 0)) := by simp only [World.setCell, Array.getElem?_modify, ↓reduceIte]; rw [BX3]; rfl
  have BR4 : (w3.setCell ⟨w.heap.size, 5, none⟩ (.slice a1 xl.length c1)).heap[w.heap.size + 1]? = _ := (Below.heap_setCell w3 ⟨w.heap.size, 5, none⟩ _ (w.heap.size + 1) (by show w.heap.size + 1 ≠ w.heap.size; omega)).trans BR3
  have hI4 := hS.set w3 w.heap.size 5 (.slice a1 xl.length c1) _ hI3 (by omega) BX3
  have hW0 : WInv F H B w.heap.size (w.heap.size + 1) w3.heap.size Inv w xl (.cells #[.int .i64 op, .string (bs nm), .int .i64 xn, .int .i64 wd, .int .u64 (v : Int), .slice a1 xl.length c1] 25) a1 0 [] (w3.setCell ⟨w.heap.size, 5, none⟩ (.slice a1 xl.length c1)) :=
    ⟨rfl, fun g hg => (hcel g hg).2.block (Below.heap_setCell w3 ⟨w.heap.size, 5, none⟩ _ g (by show g ≠ w.heap.size; have := (hcel g hg).1; omega)), (fun y hy => by cases hy), rfl, BX4, BR4, hI4, ⟨hB3.setCell (p := ⟨w.heap.size, 5, none⟩) (Nat.le_refl _) _ |>.mono (by omega), fun b hb hn => (Below.heap_setCell w3 ⟨w.heap.size, 5, none⟩ _ b (by show b ≠ w.heap.size; omega)).trans (hB3.block b hb)⟩, by simp⟩
  have hz4 : (w3.setCell ⟨w.heap.size, 5, none⟩ (.slice a1 xl.length c1)).heap.size = w3.heap.size := by simp
  have y5 := (open6 BX4).2.2.2.2.2
  have hgt : ∀ g, a1 = some ⟨g, 0, none⟩ → w.heap.size + 2 ≤ g ∧ g < w3.heap.size := fun g hg => ⟨by have := (hcel g hg).1; omega, (hcel g hg).2.lt⟩
  clear BX3 BR3 BX4 BR4 hI3 hI4 hcel
  go_upto_region 2 with (fail)
  clear x0 x1 x2 x3 x4 x5 f5
  generalize hw4 : w3.setCell ⟨w.heap.size, 5, none⟩ (.slice a1 xl.length c1) = w4 at *
  clear hw4
  go_wp2
  go_loopw [14] (fun u wr => ∃ (k : Nat) (ys : List XT), u = .int .i64 (k : Int) ∧ k ≤ xl.length ∧ WInv F H B w.heap.size (w.heap.size + 1) w3.heap.size Inv w xl (.cells #[.int .i64 op, .string (bs nm), .int .i64 xn, .int .i64 wd, .int .u64 (v : Int), .slice a1 xl.length c1] 25) a1 k ys wr) (fun u _ => xl.length - (intOf u).toNat)
  case atStart => exact ⟨0, [], rfl, Nat.zero_le _, hW0⟩
  case round =>
    obtain ⟨k, ys, rfl, hk, hw⟩ := hrel
    clear hW0 y5
    by_cases hlt : k < xl.length
    · have d1 : decide (k < xl.length) = true := by simpa using hlt
      have d2 : decide ((k : Int) < (xl.length : Int)) = true := by rw [decide_eq_true_eq]; omega
      have x1 : (k : Int) < (xl.length : Int) := by omega
      obtain ⟨g, rfl⟩ := hsome (by omega)
      obtain ⟨hg1, hg2⟩ := hgt g rfl
      obtain ⟨b0, o0, he0, hb0, hr0, hx0⟩ := hin.at (i := k) hlt
      have hcx := hc xl[k] (List.getElem_mem hlt)
      have hdr : xl.drop k = xl[k] :: xl.drop (k + 1) := (List.getElem_cons_drop hlt).symm
      have HTK := Lib.hid (List.take_succ_eq_append_getElem hlt)
      have hcs := hw.cells g rfl
      rw [hdr, List.flatMap_append, List.flatMap_cons] at hcs
      have hyl : (ys.flatMap XT.cells).length = k * 6 := by rw [flat_len6, hw.len]
      generalize hgx : xl[k] = x at *
      have HGX := Lib.hid hgx
      have hxl6 : x.cells.length = 6 := by cases x; rfl
      have hpc : ∀ j u, x.cells[j]? = some u → wr.cell? ⟨g, k * 6 + j, none⟩ = some u := fun j u hu => hcs.at (by
        have hj := (List.getElem?_eq_some_iff.1 hu).1
        rw [List.getElem?_append_right (by omega), hyl, show k * 6 + j - k * 6 = j by omega, List.getElem?_append_left hj]; exact hu)
      have hxin := XT.In.keep (hw.kp.keptTo hnH) _ hx0
      have hzr := hw.top
      have hIn := hw.inv
      obtain ⟨op2, nm2, xn2, wd2, v2, xa2, xc2, xl2⟩ := x
      have r0 : wr.cell? ⟨g, k * 6, none⟩ = some (.int .i64 op2) := hpc 0 _ rfl
      have r1 : wr.cell? ⟨g, k * 6 + 1, none⟩ = some (.string (bs nm2)) := hpc 1 _ rfl
      have r2 : wr.cell? ⟨g, k * 6 + 2, none⟩ = some (.int .i64 xn2) := hpc 2 _ rfl
      have r3 : wr.cell? ⟨g, k * 6 + 3, none⟩ = some (.int .i64 wd2) := hpc 3 _ rfl
      have r4 : wr.cell? ⟨g, k * 6 + 4, none⟩ = some (.int .u64 (v2 : Int)) := hpc 4 _ rfl
      have r5 : wr.cell? ⟨g, k * 6 + 5, none⟩ = some (.slice xa2 xl2.length xc2) := hpc 5 _ rfl
      have y5 := (open6 hw.box).2.2.2.2.2
      have hcc := fun (w1 : World) (hb1 : Below (wr.alloc (.cells #[.int .i64 op2, .string (bs nm2), .int .i64 xn2, .int .i64 wd2, .int .u64 (v2 : Int), .slice xa2 xl2.length xc2] 25)).heap.size (wr.alloc (.cells #[.int .i64 op2, .string (bs nm2), .int .i64 xn2, .int .i64 wd2, .int .u64 (v2 : Int), .slice xa2 xl2.length xc2] 25)) w1) => hcx w1 (hS.below _ _ (((Below.refl _ _).alloc (Nat.le_refl _) _).trans (hb1.mono (by simp))) hIn) (by have := hb1.size; simp at this; omega) (XT.In.keep (Below.keptTo (((Below.refl _ _).alloc (Nat.le_refl _) _).trans (hb1.mono (by simp))) (by omega)) _ hxin)
      simp only [XT.val, XT.cells] at hcc
      have HW := Lib.hid hw
      have HCS := Lib.hid hcs
      have HC := Lib.hid (And.intro hyl hIn)
      have BP := World.alloc_heap_new wr (.cells #[.int .i64 op2, .string (bs nm2), .int .i64 xn2, .int .i64 wd2, .int .u64 (v2 : Int), .slice xa2 xl2.length xc2] 25)
      clear hw hcs hyl hcx hpc hr0 hx0 hxin he0 hdr hgx hc hin hgt hsome hxl6 hIn
      have y5A := alloc_cell y5 (.cells #[.int .i64 op2, .string (bs nm2), .int .i64 xn2, .int .i64 wd2, .int .u64 (v2 : Int), .slice xa2 xl2.length xc2] 25)
      obtain ⟨z0, z1, z2, z3, z4, z5⟩ := open6 BP
      have hzw := hg2
      clear y5
      go_upto_region 5 with (fail)
      have hcsA := HCS.out.block (Below.heap_alloc wr (.cells #[.int .i64 op2, .string (bs nm2), .int .i64 xn2, .int .i64 wd2, .int .u64 (v2 : Int), .slice xa2 xl2.length xc2] 25) g (by omega))
      have r0A := alloc_cell r0 (.cells #[.int .i64 op2, .string (bs nm2), .int .i64 xn2, .int .i64 wd2, .int .u64 (v2 : Int), .slice xa2 xl2.length xc2] 25)
      have r1A := alloc_cell r1 (.cells #[.int .i64 op2, .string (bs nm2), .int .i64 xn2, .int .i64 wd2, .int .u64 (v2 : Int), .slice xa2 xl2.length xc2] 25)
      have r2A := alloc_cell r2 (.cells #[.int .i64 op2, .string (bs nm2), .int .i64 xn2, .int .i64 wd2, .int .u64 (v2 : Int), .slice xa2 xl2.length xc2] 25)
      have r3A := alloc_cell r3 (.cells #[.int .i64 op2, .string (bs nm2), .int .i64 xn2, .int .i64 wd2, .int .u64 (v2 : Int), .slice xa2 xl2.length xc2] 25)
      have r4A := alloc_cell r4 (.cells #[.int .i64 op2, .string (bs nm2), .int .i64 xn2, .int .i64 wd2, .int .u64 (v2 : Int), .slice xa2 xl2.length xc2] 25)
      have r5A := alloc_cell r5 (.cells #[.int .i64 op2, .string (bs nm2), .int .i64 xn2, .int .i64 wd2, .int .u64 (v2 : Int), .slice xa2 xl2.length xc2] 25)
      go_region_held3 (fun u1 => u1.cell? ⟨w.heap.size, 5, none⟩ = some (.slice (some ⟨g, 0, none⟩) xl.length c1) ∧ u1.cell? ⟨wr.heap.size, 0, none⟩ = some (.int .i64 op2) ∧ u1.cell? ⟨wr.heap.size, 1, none⟩ = some (.string (bs nm2)) ∧ u1.cell? ⟨wr.heap.size, 2, none⟩ = some (.int .i64 xn2) ∧ u1.cell? ⟨wr.heap.size, 3, none⟩ = some (.int .i64 wd2) ∧ u1.cell? ⟨wr.heap.size, 4, none⟩ = some (.int .u64 (v2 : Int)) ∧ u1.cell? ⟨wr.heap.size, 5, none⟩ = some (.slice xa2 xl2.length xc2)) (first | (with_reducible exact ⟨cell_far6 y5AN (by omega), cell_far6 z0N (by omega), cell_far6 z1N (by omega), cell_far6 z2N (by omega), cell_far6 z3N (by omega), cell_far6 z4N (by omega), cell_far6 z5N (by omega)⟩) | (with_reducible exact ⟨y5A, z0, z1, z2, z3, z4, z5⟩) | (with_reducible exact ⟨y5AN, z0N, z1N, z2N, z3N, z4N, z5N⟩) | exact ⟨y5A, z0, z1, z2, z3, z4, z5⟩) (first | (go_at_call 68; refine (hcc _ (by first | exact Below.refl _ _ | exact (Below.refl _ _).drew | exact below_drawn2 (Below.refl _ _) _)).mono ?_; rintro e w' ⟨y, rfl, hyn, hyi, hya, hyI, hyk⟩; obtain ⟨op3, nm3, xn3, wd3, v3, xa3, xc3, xl3⟩ := y; simp only [XT.val, XT.cells]; have y5AN := hyk.cell (by simp; omega) y5A; have z0N := hyk.cell (by simp; omega) z0; have z1N := hyk.cell (by simp; omega) z1; have z2N := hyk.cell (by simp; omega) z2; have z3N := hyk.cell (by simp; omega) z3; have z4N := hyk.cell (by simp; omega) z4; have z5N := hyk.cell (by simp; omega) z5; have hcsN := hcsA.block (hyk.same g (by simp; omega) (by omega)); have r0N := hyk.cell (by omega) r0A; have f0N := hcsN.frozen (k * 6); have r1N := hyk.cell (by omega) r1A; have f1N := hcsN.frozen (k * 6 + 1); have r2N := hyk.cell (by omega) r2A; have f2N := hcsN.frozen (k * 6 + 2); have r3N := hyk.cell (by omega) r3A; have f3N := hcsN.frozen (k * 6 + 3); have r4N := hyk.cell (by omega) r4A; have f4N := hcsN.frozen (k * 6 + 4); have r5N := hyk.cell (by omega) r5A; have f5N := hcsN.frozen (k * 6 + 5)))
      have hst := winv_step (w := w) (y := .mk op3 nm3 xn3 wd3 v3 xa3 xc3 xl3) (x := .mk op2 nm2 xn2 wd2 v2 xa2 xc2 xl2) hS hHB hBw (Nat.le_refl _) (by omega) (Nat.le_succ _) (by omega) hg2 HW.out hlt HGX.out (((Below.refl wr.heap.size wr).alloc (Nat.le_refl _) (.cells #[.int .i64 op2, .string (bs nm2), .int .i64 xn2, .int .i64 wd2, .int .u64 (v2 : Int), .slice xa2 xl2.length xc2] 25)).trans (by first | exact Below.refl _ _ | exact (Below.refl _ _).drew | exact below_drawn2 (Below.refl _ _) _)) hyn hyi hya hyI hyk
      go_wp2
      go_roundw
      case rel => exact ⟨k + 1, _, by simp; first | done | rfl | omega, by omega, hst⟩
      case measure => simp [intOf]; omega
    · have d1 : decide (k < xl.length) = false := by simpa using hlt
      have d2 : decide ((k : Int) < (xl.length : Int)) = false := by rw [decide_eq_false_iff_not]; omega
      obtain rfl : k = xl.length := by omega
      obtain ⟨x0, x1, x2, x3, x4, x5⟩ := open6 hw.box
      obtain ⟨q0, q1, q2, q3, q4, q5⟩ := open6 hw.res
      have fr : ∀ j, wr.frozen? ⟨w.heap.size + 1, j, none⟩ = false := fun j => by simp [World.frozen?, hw.res]
      have f0 := fr 0
      have f1 := fr 1
      have f2 := fr 2
      have f3 := fr 3
      have f4 := fr 4
      have f5 := fr 5
      have hfull := set6full (v0 := .int .i64 op) (v1 := .string (bs nm)) (v2 := .int .i64 xn) (v3 := .int .i64 wd) (v4 := .int .u64 (v : Int)) (v5 := .slice a1 xl.length c1) hw.res
      obtain ⟨s0, s1, s2, s3, s4, s5⟩ := open6 hfull
      have hlen := hw.len
      have hend := winv_end (gR := w.heap.size + 1) (y := .mk op nm xn wd v a1 c1 ys) hS hHB hBw (Nat.lt_succ_self _) hz2 hz3 hgt hsome hw rfl rfl
      have hp : put6 wr (w.heap.size + 1) 0 (.mk op nm xn wd v a1 c1 ys) = (((((wr.setCell ⟨w.heap.size + 1, 0, none⟩ (.int .i64 op)).setCell ⟨w.heap.size + 1, 1, none⟩ (.string (bs nm))).setCell ⟨w.heap.size + 1, 2, none⟩ (.int .i64 xn)).setCell ⟨w.heap.size + 1, 3, none⟩ (.int .i64 wd)).setCell ⟨w.heap.size + 1, 4, none⟩ (.int .u64 (v : Int))).setCell ⟨w.heap.size + 1, 5, none⟩ (.slice a1 xl.length c1) := by
        simp [put6, XT.cells, hlen]
      rw [hp] at hend
      have HE := Lib.hid hend
      have HS := Lib.hid (And.intro s0 (And.intro s1 (And.intro s2 (And.intro s3 (And.intro s4 s5)))))
      clear hlt hfull hend hp s0 s1 s2 s3 s4 s5 hc hin hgt hsome fr hw
      go_wp2
      obtain ⟨s0, s1, s2, s3, s4, s5⟩ := HS.out
      exact bodyPost_ret (v := .agg #[.int .i64 op, .string (bs nm), .int .i64 xn, .int .i64 wd, .int .u64 (v : Int), .slice a1 xl.length c1]) (by simp [results, Tryz.results111, go_sem, s0, s1, s2, s3, s4, s5]) rfl ⟨a1, c1, ys, by rw [hlen], HE.out⟩

mutual
/-- An expression with its constants put in, but for where it lies. -/
def substX (l : List NT) : XT → XT
  | .mk op nm n wd v _ _ xs => if op = 2 then (match findN l nm with | some k => if kMay k = true then .mk 1 [] 0 0 k.toNat none 0 [] else .mk op nm n wd v none 0 (XT.nrmL xs) | none => .mk op nm n wd v none 0 (XT.nrmL xs)) else .mk op nm n wd v none 0 (substL l xs)
def substL (l : List NT) : List XT → List XT
  | [] => []
  | x :: r => substX l x :: substL l r
end
theorem substL_map (l : List NT) : ∀ xs, substL l xs = xs.map (substX l)
  | [] => rfl
  | x :: r => by rw [substL, substL_map l r]; rfl
/-- The finder of constants, by itself. -/
def InvP (B n0 : Nat) (l : List NT) (a : Option Addr) (c : Nat) (W : World) : Prop := ConAt W B l a c 104 [] ∧ NRow n0 W l a
theorem stays_P (B n0 : Nat) (l : List NT) (a : Option Addr) (c : Nat) (hn : n0 ≤ B) : Stays B (fun W => InvP B n0 l a c W ∧ B < W.heap.size) := ⟨fun W W' hb ⟨⟨h1, h2⟩, h3⟩ => ⟨⟨h1.keep hb, h2.keep (Below.keptTo hb (by omega))⟩, Nat.lt_of_lt_of_le h3 hb.size⟩, fun W g j v cs ⟨⟨⟨k, vm, h1, h2, h3⟩, h4⟩, h5⟩ hg hgc => by
  refine ⟨⟨⟨k, vm, (Below.heap_setCell W ⟨g, j, none⟩ v B (by show B ≠ g; omega)).trans h1, h2, fun q e => (h3 q e).block (Below.heap_setCell W ⟨g, j, none⟩ v q ((h3 q e).ne hgc))⟩, h4.keep (fun b o u hb hu => by rw [World.cell?_of_block (a := ⟨b, o, none⟩) (Below.heap_setCell W ⟨g, j, none⟩ v b (by show b ≠ g; omega))]; exact hu)⟩, by rw [World.size_setCell]; exact h5⟩⟩

set_option maxHeartbeats 8000000 in
set_option maxRecDepth 3000000 in
theorem putIn_any (H B n0 : Nat) (hnH : n0 ≤ H) (hHB : H ≤ B) (l : List NT) (hlk : NT.bkL l ≤ 1500000) (a : Option Addr) (c : Nat) : ∀ x : XT, x.bk ≤ 1400000 → ∀ W, (InvP B n0 l a c W ∧ B < W.heap.size) → B < W.heap.size → x.In n0 W → Calls Tryz.prog 68 #[.pointer (some ⟨B, 0, none⟩), x.val] W (SubPost (substX l) x H B (fun W => InvP B n0 l a c W ∧ B < W.heap.size) W) := by
  have hS := stays_P B n0 l a c (by omega)
  refine XT.ind ?_
  intro op nm xn wd v xa xc xl ih hbk W hI hBW hin
  rw [XT.In_mk] at hin
  simp only [XT.bk] at hbk
  have hlen := XT.bkL_len xl
  simp only [XT.val, XT.cells]
  by_cases hop : op = 2
  · subst hop
    clear ih
    cases hF : findN l nm with
    | none =>
      have HN : Hid (substX l (.mk 2 nm xn wd v xa xc xl) = (XT.mk 2 nm xn wd v xa xc xl).nrm) := Lib.hid (by rw [substX, if_pos rfl, hF, XT.nrm])
      have hB2 : Below W.heap.size W ((W.alloc (.cells #[.int .i64 2, .string (bs nm), .int .i64 xn, .int .i64 wd, .int .u64 (v : Int), .slice xa xl.length xc] 25)).alloc (.cells #[.int .i64 0, .string ⟨#[]⟩, .int .i64 0, .int .i64 0, .int .u64 0, .slice none 0 0] 25)) := ((Below.refl _ _).alloc (Nat.le_refl _) _).alloc (by simp) _
      have hz2 : ((W.alloc (.cells #[.int .i64 2, .string (bs nm), .int .i64 xn, .int .i64 wd, .int .u64 (v : Int), .slice xa xl.length xc] 25)).alloc (.cells #[.int .i64 0, .string ⟨#[]⟩, .int .i64 0, .int .i64 0, .int .u64 0, .slice none 0 0] 25)).heap.size = W.heap.size + 2 := by simp
      have BX := block_alloc (World.alloc_heap_new W (.cells #[.int .i64 2, .string (bs nm), .int .i64 xn, .int .i64 wd, .int .u64 (v : Int), .slice xa xl.length xc] 25)) (.cells #[.int .i64 0, .string ⟨#[]⟩, .int .i64 0, .int .i64 0, .int .u64 0, .slice none 0 0] 25)
      have BR := World.alloc_heap_new (W.alloc (.cells #[.int .i64 2, .string (bs nm), .int .i64 xn, .int .i64 wd, .int .u64 (v : Int), .slice xa xl.length xc] 25)) (.cells #[.int .i64 0, .string ⟨#[]⟩, .int .i64 0, .int .i64 0, .int .u64 0, .slice none 0 0] 25)
      rw [World.size_alloc] at BR
      have hI2 := hS.below _ _ hB2 hI
      have hK2 := Kp.of (H := H) (B := B) hB2 (by omega)
      have hin2 := hin.keep (Below.keptTo hB2 (by omega)) (fun x _ => XT.In.keep (Below.keptTo hB2 (by omega)) x)
      have hf := find_any H B n0 hnH hHB l hlk nm (by omega) a c _ _ ((W.alloc (.cells #[.int .i64 2, .string (bs nm), .int .i64 xn, .int .i64 wd, .int .u64 (v : Int), .slice xa xl.length xc] 25)).alloc (.cells #[.int .i64 0, .string ⟨#[]⟩, .int .i64 0, .int .i64 0, .int .u64 0, .slice none 0 0] 25)) hI2.1.2 hI2.1.1
      rw [hF] at hf
      simp only [Option.getD_none, Option.isSome_none] at hf
      clear hI
      have hcp := fun (W1 : World) h1 h2 h3 => copied_any H B n0 hnH hHB _ hS (.mk 2 nm xn wd v xa xc xl) (by simp only [XT.bk]; omega) W1 h1 h2 h3
      have hx2 : XT.In n0 ((W.alloc (.cells #[.int .i64 2, .string (bs nm), .int .i64 xn, .int .i64 wd, .int .u64 (v : Int), .slice xa xl.length xc] 25)).alloc (.cells #[.int .i64 0, .string ⟨#[]⟩, .int .i64 0, .int .i64 0, .int .u64 0, .slice none 0 0] 25)) (.mk 2 nm xn wd v xa xc xl) := by rw [XT.In_mk]; exact hin2
      simp only [XT.val, XT.cells] at hcp
      clear hin2
      go_enter Tryz.func68, Tryz.ntmps68
      go_wp2_with fail
      refine hf.mono ?_
      rintro e w3 ⟨rfl, hC3, hk⟩
      clear hf
      have hkn := hK2.trans hk
      have BRn := hk.block BR (by omega)
      have BXn := hk.block BX (by omega)
      have hz3 := hk.size
      have hIn : InvP B n0 l a c w3 ∧ B < w3.heap.size := ⟨⟨hC3, hI2.1.2.keep (hk.keptTo hnH)⟩, by omega⟩
      clear hI2 hC3
      have hcp3 := hcp w3 hIn (by omega) (XT.In.keep (hk.keptTo hnH) _ hx2)
      obtain ⟨x0, x1, x2, x3, x4, x5⟩ := open6 BXn
      clear hcp hx2
      go_wp2_with fail
      refine hcp3.mono ?_
      rintro e w5 ⟨y, rfl, hyn, hyi, hav, hIn5, hk5⟩
      clear hcp3 x0 x1 x2 x3 x4 x5 hIn
      obtain ⟨op2, nm2, xn2, wd2, v2, xa2, xc2, xl2⟩ := y
      simp only [XT.val, XT.cells]
      have BRn := hk5.block BRn (by omega)
      have hkn := hkn.trans hk5
      have hIn := hIn5
      have hz5 := hk5.size
      clear hIn5
      have hp : put6 w5 (W.heap.size + 1) 0 (.mk op2 nm2 xn2 wd2 v2 xa2 xc2 xl2) = ((((((w5.setCell ⟨W.heap.size + 1, 0, none⟩ (.int .i64 op2)).setCell ⟨W.heap.size + 1, 1, none⟩ (.string (bs nm2))).setCell ⟨W.heap.size + 1, 2, none⟩ (.int .i64 xn2)).setCell ⟨W.heap.size + 1, 3, none⟩ (.int .i64 wd2)).setCell ⟨W.heap.size + 1, 4, none⟩ (.int .u64 (v2 : Int))).setCell ⟨W.heap.size + 1, 5, none⟩ (.slice xa2 xl2.length xc2)) := by simp [put6, XT.cells, bs]
      have hi9 := put6_in (x := (.mk op2 nm2 xn2 wd2 v2 xa2 xc2 xl2)) (o := 0) (hav (W.heap.size + 1) (by first | omega | (simp; omega) | (simp; done))) hyi
      have hI9 := put6_inv (o := 0) hS hIn (by omega) (⟨_, BRn, rfl⟩ : CellsG w5 (W.heap.size + 1) []) (.mk op2 nm2 xn2 wd2 v2 xa2 xc2 xl2)
      have hk9 := put6_kp 0 (.mk op2 nm2 xn2 wd2 v2 xa2 xc2 xl2) hkn (show W.heap.size ≤ W.heap.size + 1 by omega) (by omega)
      have hz9 := put6_size w5 (W.heap.size + 1) 0 (.mk op2 nm2 xn2 wd2 v2 xa2 xc2 xl2)
      rw [hp] at hi9 hI9 hk9 hz9
      have hfull := set6full (v0 := .int .i64 op2) (v1 := .string (bs nm2)) (v2 := .int .i64 xn2) (v3 := .int .i64 wd2) (v4 := .int .u64 (v2 : Int)) (v5 := .slice xa2 xl2.length xc2) BRn
      obtain ⟨s0, s1, s2, s3, s4, s5⟩ := open6 hfull
      obtain ⟨q0, q1, q2, q3, q4, q5⟩ := open6 BRn
      have fr : ∀ j, w5.frozen? ⟨W.heap.size + 1, j, none⟩ = false := fun j => by simp [World.frozen?, BRn]
      have f0 := fr 0
      have f1 := fr 1
      have f2 := fr 2
      have f3 := fr 3
      have f4 := fr 4
      have f5 := fr 5
      have HS := Lib.hid (And.intro s0 (And.intro s1 (And.intro s2 (And.intro s3 (And.intro s4 s5)))))
      have HE := Lib.hid (And.intro hi9 (And.intro hI9 (And.intro hk9 (And.intro hav hz9))))
      clear hp hi9 hI9 hk9 hz9 hfull fr s0 s1 s2 s3 s4 s5 hyi hIn hkn BRn
      go_wp2
      obtain ⟨s0, s1, s2, s3, s4, s5⟩ := HS.out
      refine bodyPost_ret (v := .agg #[.int .i64 op2, .string (bs nm2), .int .i64 xn2, .int .i64 wd2, .int .u64 (v2 : Int), .slice xa2 xl2.length xc2]) (by simp [results, Tryz.results68, go_sem, s0, s1, s2, s3, s4, s5]) rfl ⟨(.mk op2 nm2 xn2 wd2 v2 xa2 xc2 xl2), rfl, by rw [hyn, HN.out], by have h := HE.out.1; rw [← HE.out.2.2.2.2] at h; exact h, fun b hb => HE.out.2.2.2.1 b (by first | omega | (simp; omega)), HE.out.2.1, HE.out.2.2.1⟩
    | some z =>
      cases hM : kMay z with
      | true =>
        obtain ⟨k, rfl⟩ : ∃ k : Nat, z = (k : Int) := ⟨z.toNat, by unfold kMay at hM; simp at hM; omega⟩
        have HN : Hid (substX l (.mk 2 nm xn wd v xa xc xl) = .mk 1 [] 0 0 k none 0 []) := Lib.hid (by rw [substX, if_pos rfl, hF]; simp [hM])
        have hB2 : Below W.heap.size W ((W.alloc (.cells #[.int .i64 2, .string (bs nm), .int .i64 xn, .int .i64 wd, .int .u64 (v : Int), .slice xa xl.length xc] 25)).alloc (.cells #[.int .i64 0, .string ⟨#[]⟩, .int .i64 0, .int .i64 0, .int .u64 0, .slice none 0 0] 25)) := ((Below.refl _ _).alloc (Nat.le_refl _) _).alloc (by simp) _
        have hz2 : ((W.alloc (.cells #[.int .i64 2, .string (bs nm), .int .i64 xn, .int .i64 wd, .int .u64 (v : Int), .slice xa xl.length xc] 25)).alloc (.cells #[.int .i64 0, .string ⟨#[]⟩, .int .i64 0, .int .i64 0, .int .u64 0, .slice none 0 0] 25)).heap.size = W.heap.size + 2 := by simp
        have BX := block_alloc (World.alloc_heap_new W (.cells #[.int .i64 2, .string (bs nm), .int .i64 xn, .int .i64 wd, .int .u64 (v : Int), .slice xa xl.length xc] 25)) (.cells #[.int .i64 0, .string ⟨#[]⟩, .int .i64 0, .int .i64 0, .int .u64 0, .slice none 0 0] 25)
        have BR := World.alloc_heap_new (W.alloc (.cells #[.int .i64 2, .string (bs nm), .int .i64 xn, .int .i64 wd, .int .u64 (v : Int), .slice xa xl.length xc] 25)) (.cells #[.int .i64 0, .string ⟨#[]⟩, .int .i64 0, .int .i64 0, .int .u64 0, .slice none 0 0] 25)
        rw [World.size_alloc] at BR
        have hI2 := hS.below _ _ hB2 hI
        have hK2 := Kp.of (H := H) (B := B) hB2 (by omega)
        have hin2 := hin.keep (Below.keptTo hB2 (by omega)) (fun x _ => XT.In.keep (Below.keptTo hB2 (by omega)) x)
        have hf := find_any H B n0 hnH hHB l hlk nm (by omega) a c _ _ ((W.alloc (.cells #[.int .i64 2, .string (bs nm), .int .i64 xn, .int .i64 wd, .int .u64 (v : Int), .slice xa xl.length xc] 25)).alloc (.cells #[.int .i64 0, .string ⟨#[]⟩, .int .i64 0, .int .i64 0, .int .u64 0, .slice none 0 0] 25)) hI2.1.2 hI2.1.1
        rw [hF] at hf
        simp only [Option.getD_some, Option.isSome_some] at hf
        clear hin hI
        clear hin2
        go_enter Tryz.func68, Tryz.ntmps68
        go_wp2_with fail
        refine hf.mono ?_
        rintro e w3 ⟨rfl, hC3, hk⟩
        clear hf
        have hkn := hK2.trans hk
        have BRn := hk.block BR (by omega)
        have BXn := hk.block BX (by omega)
        have hz3 := hk.size
        have hIn : InvP B n0 l a c w3 ∧ B < w3.heap.size := ⟨⟨hC3, hI2.1.2.keep (hk.keptTo hnH)⟩, by omega⟩
        clear hI2 hC3
        have hm := fun w => kmay_any (k : Int) w
        rw [hM] at hm
        have x7 : (0 : Int) ≤ (k : Int) := by omega
        have x8 : (k : Int) ≤ 2147483647 := by unfold kMay at hM; simp at hM; omega
        go_wp2_with fail
        refine (hm _).mono ?_
        rintro e w4 ⟨rfl, rfl⟩
        have hyi : XT.In w3.heap.size w3 (.mk 1 [] 0 0 k none 0 []) := by rw [XT.In_mk]; trivial
        have hav : ∀ b, b < w3.heap.size → XT.Av b (.mk 1 [] 0 0 k none 0 []) := fun b _ => by rw [XT.Av, XT.avL_iff]; exact ⟨.inl rfl, fun x hx => by cases hx⟩
        have hp : put6 w3 (W.heap.size + 1) 0 (.mk 1 [] 0 0 k none 0 []) = ((((((w3.setCell ⟨W.heap.size + 1, 0, none⟩ (.int .i64 1)).setCell ⟨W.heap.size + 1, 1, none⟩ (.string ⟨#[]⟩)).setCell ⟨W.heap.size + 1, 2, none⟩ (.int .i64 0)).setCell ⟨W.heap.size + 1, 3, none⟩ (.int .i64 0)).setCell ⟨W.heap.size + 1, 4, none⟩ (.int .u64 (k : Int))).setCell ⟨W.heap.size + 1, 5, none⟩ (.slice none 0 0)) := by simp [put6, XT.cells, bs]
        have hi9 := put6_in (x := (.mk 1 [] 0 0 k none 0 [])) (o := 0) (hav (W.heap.size + 1) (by first | omega | (simp; omega) | (simp; done))) hyi
        have hI9 := put6_inv (o := 0) hS hIn (by omega) (⟨_, BRn, rfl⟩ : CellsG w3 (W.heap.size + 1) []) (.mk 1 [] 0 0 k none 0 [])
        have hk9 := put6_kp 0 (.mk 1 [] 0 0 k none 0 []) hkn (show W.heap.size ≤ W.heap.size + 1 by omega) (by omega)
        have hz9 := put6_size w3 (W.heap.size + 1) 0 (.mk 1 [] 0 0 k none 0 [])
        rw [hp] at hi9 hI9 hk9 hz9
        have hfull := set6full (v0 := .int .i64 1) (v1 := .string ⟨#[]⟩) (v2 := .int .i64 0) (v3 := .int .i64 0) (v4 := .int .u64 (k : Int)) (v5 := .slice none 0 0) BRn
        obtain ⟨s0, s1, s2, s3, s4, s5⟩ := open6 hfull
        obtain ⟨q0, q1, q2, q3, q4, q5⟩ := open6 BRn
        have fr : ∀ j, w3.frozen? ⟨W.heap.size + 1, j, none⟩ = false := fun j => by simp [World.frozen?, BRn]
        have f0 := fr 0
        have f1 := fr 1
        have f2 := fr 2
        have f3 := fr 3
        have f4 := fr 4
        have f5 := fr 5
        have HS := Lib.hid (And.intro s0 (And.intro s1 (And.intro s2 (And.intro s3 (And.intro s4 s5)))))
        have HE := Lib.hid (And.intro hi9 (And.intro hI9 (And.intro hk9 (And.intro hav hz9))))
        clear hp hi9 hI9 hk9 hz9 hfull fr s0 s1 s2 s3 s4 s5 hyi hIn hkn BRn
        go_wp2
        obtain ⟨s0, s1, s2, s3, s4, s5⟩ := HS.out
        refine bodyPost_ret (v := .agg #[.int .i64 1, .string ⟨#[]⟩, .int .i64 0, .int .i64 0, .int .u64 (k : Int), .slice none 0 0]) (by simp [results, Tryz.results68, go_sem, s0, s1, s2, s3, s4, s5]) rfl ⟨(.mk 1 [] 0 0 k none 0 []), rfl, by rw [HN.out]; rfl, by have h := HE.out.1; rw [← HE.out.2.2.2.2] at h; exact h, fun b hb => HE.out.2.2.2.1 b (by first | omega | (simp; omega)), HE.out.2.1, HE.out.2.2.1⟩
      | false =>
        have HN : Hid (substX l (.mk 2 nm xn wd v xa xc xl) = (XT.mk 2 nm xn wd v xa xc xl).nrm) := Lib.hid (by rw [substX, if_pos rfl, hF]; simp [hM, XT.nrm])
        have hB2 : Below W.heap.size W ((W.alloc (.cells #[.int .i64 2, .string (bs nm), .int .i64 xn, .int .i64 wd, .int .u64 (v : Int), .slice xa xl.length xc] 25)).alloc (.cells #[.int .i64 0, .string ⟨#[]⟩, .int .i64 0, .int .i64 0, .int .u64 0, .slice none 0 0] 25)) := ((Below.refl _ _).alloc (Nat.le_refl _) _).alloc (by simp) _
        have hz2 : ((W.alloc (.cells #[.int .i64 2, .string (bs nm), .int .i64 xn, .int .i64 wd, .int .u64 (v : Int), .slice xa xl.length xc] 25)).alloc (.cells #[.int .i64 0, .string ⟨#[]⟩, .int .i64 0, .int .i64 0, .int .u64 0, .slice none 0 0] 25)).heap.size = W.heap.size + 2 := by simp
        have BX := block_alloc (World.alloc_heap_new W (.cells #[.int .i64 2, .string (bs nm), .int .i64 xn, .int .i64 wd, .int .u64 (v : Int), .slice xa xl.length xc] 25)) (.cells #[.int .i64 0, .string ⟨#[]⟩, .int .i64 0, .int .i64 0, .int .u64 0, .slice none 0 0] 25)
        have BR := World.alloc_heap_new (W.alloc (.cells #[.int .i64 2, .string (bs nm), .int .i64 xn, .int .i64 wd, .int .u64 (v : Int), .slice xa xl.length xc] 25)) (.cells #[.int .i64 0, .string ⟨#[]⟩, .int .i64 0, .int .i64 0, .int .u64 0, .slice none 0 0] 25)
        rw [World.size_alloc] at BR
        have hI2 := hS.below _ _ hB2 hI
        have hK2 := Kp.of (H := H) (B := B) hB2 (by omega)
        have hin2 := hin.keep (Below.keptTo hB2 (by omega)) (fun x _ => XT.In.keep (Below.keptTo hB2 (by omega)) x)
        have hf := find_any H B n0 hnH hHB l hlk nm (by omega) a c _ _ ((W.alloc (.cells #[.int .i64 2, .string (bs nm), .int .i64 xn, .int .i64 wd, .int .u64 (v : Int), .slice xa xl.length xc] 25)).alloc (.cells #[.int .i64 0, .string ⟨#[]⟩, .int .i64 0, .int .i64 0, .int .u64 0, .slice none 0 0] 25)) hI2.1.2 hI2.1.1
        rw [hF] at hf
        simp only [Option.getD_some, Option.isSome_some] at hf
        clear hI
        have hcp := fun (W1 : World) h1 h2 h3 => copied_any H B n0 hnH hHB _ hS (.mk 2 nm xn wd v xa xc xl) (by simp only [XT.bk]; omega) W1 h1 h2 h3
        have hx2 : XT.In n0 ((W.alloc (.cells #[.int .i64 2, .string (bs nm), .int .i64 xn, .int .i64 wd, .int .u64 (v : Int), .slice xa xl.length xc] 25)).alloc (.cells #[.int .i64 0, .string ⟨#[]⟩, .int .i64 0, .int .i64 0, .int .u64 0, .slice none 0 0] 25)) (.mk 2 nm xn wd v xa xc xl) := by rw [XT.In_mk]; exact hin2
        simp only [XT.val, XT.cells] at hcp
        clear hin2
        go_enter Tryz.func68, Tryz.ntmps68
        go_wp2_with fail
        refine hf.mono ?_
        rintro e w3 ⟨rfl, hC3, hk⟩
        clear hf
        have hkn := hK2.trans hk
        have BRn := hk.block BR (by omega)
        have BXn := hk.block BX (by omega)
        have hz3 := hk.size
        have hIn : InvP B n0 l a c w3 ∧ B < w3.heap.size := ⟨⟨hC3, hI2.1.2.keep (hk.keptTo hnH)⟩, by omega⟩
        clear hI2 hC3
        have hm := fun w => kmay_any z w
        rw [hM] at hm
        go_wp2_with fail
        refine (hm _).mono ?_
        rintro e w4 ⟨rfl, rfl⟩
        have hcp3 := hcp w3 hIn (by omega) (XT.In.keep (hk.keptTo hnH) _ hx2)
        obtain ⟨x0, x1, x2, x3, x4, x5⟩ := open6 BXn
        clear hcp hx2
        go_wp2_with fail
        refine hcp3.mono ?_
        rintro e w5 ⟨y, rfl, hyn, hyi, hav, hIn5, hk5⟩
        clear hcp3 x0 x1 x2 x3 x4 x5 hIn
        obtain ⟨op2, nm2, xn2, wd2, v2, xa2, xc2, xl2⟩ := y
        simp only [XT.val, XT.cells]
        have BRn := hk5.block BRn (by omega)
        have hkn := hkn.trans hk5
        have hIn := hIn5
        have hz5 := hk5.size
        clear hIn5
        have hp : put6 w5 (W.heap.size + 1) 0 (.mk op2 nm2 xn2 wd2 v2 xa2 xc2 xl2) = ((((((w5.setCell ⟨W.heap.size + 1, 0, none⟩ (.int .i64 op2)).setCell ⟨W.heap.size + 1, 1, none⟩ (.string (bs nm2))).setCell ⟨W.heap.size + 1, 2, none⟩ (.int .i64 xn2)).setCell ⟨W.heap.size + 1, 3, none⟩ (.int .i64 wd2)).setCell ⟨W.heap.size + 1, 4, none⟩ (.int .u64 (v2 : Int))).setCell ⟨W.heap.size + 1, 5, none⟩ (.slice xa2 xl2.length xc2)) := by simp [put6, XT.cells, bs]
        have hi9 := put6_in (x := (.mk op2 nm2 xn2 wd2 v2 xa2 xc2 xl2)) (o := 0) (hav (W.heap.size + 1) (by first | omega | (simp; omega) | (simp; done))) hyi
        have hI9 := put6_inv (o := 0) hS hIn (by omega) (⟨_, BRn, rfl⟩ : CellsG w5 (W.heap.size + 1) []) (.mk op2 nm2 xn2 wd2 v2 xa2 xc2 xl2)
        have hk9 := put6_kp 0 (.mk op2 nm2 xn2 wd2 v2 xa2 xc2 xl2) hkn (show W.heap.size ≤ W.heap.size + 1 by omega) (by omega)
        have hz9 := put6_size w5 (W.heap.size + 1) 0 (.mk op2 nm2 xn2 wd2 v2 xa2 xc2 xl2)
        rw [hp] at hi9 hI9 hk9 hz9
        have hfull := set6full (v0 := .int .i64 op2) (v1 := .string (bs nm2)) (v2 := .int .i64 xn2) (v3 := .int .i64 wd2) (v4 := .int .u64 (v2 : Int)) (v5 := .slice xa2 xl2.length xc2) BRn
        obtain ⟨s0, s1, s2, s3, s4, s5⟩ := open6 hfull
        obtain ⟨q0, q1, q2, q3, q4, q5⟩ := open6 BRn
        have fr : ∀ j, w5.frozen? ⟨W.heap.size + 1, j, none⟩ = false := fun j => by simp [World.frozen?, BRn]
        have f0 := fr 0
        have f1 := fr 1
        have f2 := fr 2
        have f3 := fr 3
        have f4 := fr 4
        have f5 := fr 5
        have HS := Lib.hid (And.intro s0 (And.intro s1 (And.intro s2 (And.intro s3 (And.intro s4 s5)))))
        have HE := Lib.hid (And.intro hi9 (And.intro hI9 (And.intro hk9 (And.intro hav hz9))))
        clear hp hi9 hI9 hk9 hz9 hfull fr s0 s1 s2 s3 s4 s5 hyi hIn hkn BRn
        go_wp2
        obtain ⟨s0, s1, s2, s3, s4, s5⟩ := HS.out
        refine bodyPost_ret (v := .agg #[.int .i64 op2, .string (bs nm2), .int .i64 xn2, .int .i64 wd2, .int .u64 (v2 : Int), .slice xa2 xl2.length xc2]) (by simp [results, Tryz.results68, go_sem, s0, s1, s2, s3, s4, s5]) rfl ⟨(.mk op2 nm2 xn2 wd2 v2 xa2 xc2 xl2), rfl, by rw [hyn, HN.out], by have h := HE.out.1; rw [← HE.out.2.2.2.2] at h; exact h, fun b hb => HE.out.2.2.2.1 b (by first | omega | (simp; omega)), HE.out.2.1, HE.out.2.2.1⟩
  · have d1 : (op != 2) = true := by simpa using hop
    have hB2 : Below W.heap.size W ((W.alloc (.cells #[.int .i64 op, .string (bs nm), .int .i64 xn, .int .i64 wd, .int .u64 (v : Int), .slice xa xl.length xc] 25)).alloc (.cells #[.int .i64 0, .string ⟨#[]⟩, .int .i64 0, .int .i64 0, .int .u64 0, .slice none 0 0] 25)) := ((Below.refl _ _).alloc (Nat.le_refl _) _).alloc (by simp) _
    have hz2 : ((W.alloc (.cells #[.int .i64 op, .string (bs nm), .int .i64 xn, .int .i64 wd, .int .u64 (v : Int), .slice xa xl.length xc] 25)).alloc (.cells #[.int .i64 0, .string ⟨#[]⟩, .int .i64 0, .int .i64 0, .int .u64 0, .slice none 0 0] 25)).heap.size = W.heap.size + 2 := by simp
    have BX := block_alloc (World.alloc_heap_new W (.cells #[.int .i64 op, .string (bs nm), .int .i64 xn, .int .i64 wd, .int .u64 (v : Int), .slice xa xl.length xc] 25)) (.cells #[.int .i64 0, .string ⟨#[]⟩, .int .i64 0, .int .i64 0, .int .u64 0, .slice none 0 0] 25)
    have BR := World.alloc_heap_new (W.alloc (.cells #[.int .i64 op, .string (bs nm), .int .i64 xn, .int .i64 wd, .int .u64 (v : Int), .slice xa xl.length xc] 25)) (.cells #[.int .i64 0, .string ⟨#[]⟩, .int .i64 0, .int .i64 0, .int .u64 0, .slice none 0 0] 25)
    rw [World.size_alloc] at BR
    have hI2 := hS.below _ _ hB2 hI
    have hK2 := Kp.of (H := H) (B := B) hB2 (by omega)
    have hin2 := hin.keep (Below.keptTo hB2 (by omega)) (fun x _ => XT.In.keep (Below.keptTo hB2 (by omega)) x)
    have hw := withParts_P (substX l) H B n0 hnH hHB _ hS op nm xn wd v xa xc xl (by omega) (fun x hx W1 h1 h2 h3 => ih x hx (by have := XT.bkL_mem hx; omega) W1 h1 h2 h3) ((W.alloc (.cells #[.int .i64 op, .string (bs nm), .int .i64 xn, .int .i64 wd, .int .u64 (v : Int), .slice xa xl.length xc] 25)).alloc (.cells #[.int .i64 0, .string ⟨#[]⟩, .int .i64 0, .int .i64 0, .int .u64 0, .slice none 0 0] 25)) (by omega) hI2 hin2
    have HN : Hid (∀ ys : List XT, ∀ a1 c1, ys.map XT.nrm = xl.map (substX l) → (XT.mk op nm xn wd v a1 c1 ys).nrm = substX l (.mk op nm xn wd v xa xc xl)) := Lib.hid (fun ys a1 c1 h => by rw [XT.nrm, substX, if_neg hop, XT.nrmL_map, substL_map, h])
    clear ih hin hin2 hI2 hI hop
    go_enter Tryz.func68, Tryz.ntmps68
    go_upto_region 1 with (fail)
    generalize ((W.alloc (.cells #[.int .i64 op, .string (bs nm), .int .i64 xn, .int .i64 wd, .int .u64 (v : Int), .slice xa xl.length xc] 25)).alloc (.cells #[.int .i64 0, .string ⟨#[]⟩, .int .i64 0, .int .i64 0, .int .u64 0, .slice none 0 0] 25)) = w2 at *
    obtain ⟨x0, x1, x2, x3, x4, x5⟩ := open6 BX
    go_wp2_with fail
    refine hw.mono ?_
    rintro e w3 ⟨a1, c1, ys, rfl, hn, hyi, hav, hIn, hk⟩
    clear hw x0 x1 x2 x3 x4 x5
    have hkn := hK2.trans hk
    have BRn := hk.block BR (by omega)
    have hz3 := hk.size
    have hp : put6 w3 (W.heap.size + 1) 0 (.mk op nm xn wd v a1 c1 ys) = ((((((w3.setCell ⟨W.heap.size + 1, 0, none⟩ (.int .i64 op)).setCell ⟨W.heap.size + 1, 1, none⟩ (.string (bs nm))).setCell ⟨W.heap.size + 1, 2, none⟩ (.int .i64 xn)).setCell ⟨W.heap.size + 1, 3, none⟩ (.int .i64 wd)).setCell ⟨W.heap.size + 1, 4, none⟩ (.int .u64 (v : Int))).setCell ⟨W.heap.size + 1, 5, none⟩ (.slice a1 ys.length c1)) := by simp [put6, XT.cells, bs]
    have hi9 := put6_in (x := (.mk op nm xn wd v a1 c1 ys)) (o := 0) (hav (W.heap.size + 1) (by first | omega | (simp; omega) | (simp; done))) hyi
    have hI9 := put6_inv (o := 0) hS hIn (by omega) (⟨_, BRn, rfl⟩ : CellsG w3 (W.heap.size + 1) []) (.mk op nm xn wd v a1 c1 ys)
    have hk9 := put6_kp 0 (.mk op nm xn wd v a1 c1 ys) hkn (show W.heap.size ≤ W.heap.size + 1 by omega) (by omega)
    have hz9 := put6_size w3 (W.heap.size + 1) 0 (.mk op nm xn wd v a1 c1 ys)
    rw [hp] at hi9 hI9 hk9 hz9
    have hfull := set6full (v0 := .int .i64 op) (v1 := .string (bs nm)) (v2 := .int .i64 xn) (v3 := .int .i64 wd) (v4 := .int .u64 (v : Int)) (v5 := .slice a1 ys.length c1) BRn
    obtain ⟨s0, s1, s2, s3, s4, s5⟩ := open6 hfull
    obtain ⟨q0, q1, q2, q3, q4, q5⟩ := open6 BRn
    have fr : ∀ j, w3.frozen? ⟨W.heap.size + 1, j, none⟩ = false := fun j => by simp [World.frozen?, BRn]
    have f0 := fr 0
    have f1 := fr 1
    have f2 := fr 2
    have f3 := fr 3
    have f4 := fr 4
    have f5 := fr 5
    have HS := Lib.hid (And.intro s0 (And.intro s1 (And.intro s2 (And.intro s3 (And.intro s4 s5)))))
    have HE := Lib.hid (And.intro hi9 (And.intro hI9 (And.intro hk9 (And.intro hav hz9))))
    clear hp hi9 hI9 hk9 hz9 hfull fr s0 s1 s2 s3 s4 s5 hyi hIn hkn BRn
    go_wp2
    obtain ⟨s0, s1, s2, s3, s4, s5⟩ := HS.out
    refine bodyPost_ret (v := .agg #[.int .i64 op, .string (bs nm), .int .i64 xn, .int .i64 wd, .int .u64 (v : Int), .slice a1 ys.length c1]) (by simp [results, Tryz.results68, go_sem, s0, s1, s2, s3, s4, s5]) rfl ⟨(.mk op nm xn wd v a1 c1 ys), rfl, HN.out ys a1 c1 hn, by have h := HE.out.1; rw [← HE.out.2.2.2.2] at h; exact h, fun b hb => HE.out.2.2.2.1 b (by first | omega | (simp; omega)), HE.out.2.1, HE.out.2.2.1⟩
end Go.Proofs.YtlbjmnakiflfpaaGreatDoor
