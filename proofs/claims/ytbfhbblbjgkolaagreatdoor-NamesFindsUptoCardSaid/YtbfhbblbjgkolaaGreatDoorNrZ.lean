/-
  NrA, NrB, NrC, NrD, in one text.
-/
import Derived.Test.YtbfhbblbjgkolaaGreatDoorAsW
import Derived.Test.YtbfhbblbjgkolaaGreatDoorAsG
import Derived.Laws.AppendOwn
import Derived.Laws.AppendOwnNone
import Derived.OwnWalk
import Derived.WalkSpells
import Derived.Deep.LoopGhost
namespace Go.Proofs.YtbfhbblbjgkolaaGreatDoor
open Go Go.RowKit
set_option linter.unusedVariables false
set_option linter.unusedSimpArgs false
open Go.Sort

/-- A world without what lies below a block. -/
def frm (W : World) (z : Nat) : World := { W with heap := W.heap.mapIdx fun i o => if i < z then .cells #[] 0 (0, 0) else o }
theorem frm_cell {W : World} {z b o : Nat} {v : Value} : (frm W z).cell? ⟨b, o, none⟩ = some v ↔ z ≤ b ∧ W.cell? ⟨b, o, none⟩ = some v := by
  simp only [World.cell?, frm, Array.getElem?_mapIdx]
  cases h : W.heap[b]? with
  | none => simp
  | some ob =>
    by_cases hz : b < z
    · simp only [Option.map_some, if_pos hz]
      constructor
      · intro h2; simp at h2
      · intro h2; omega
    · simp only [Option.map_some, if_neg hz]
      exact ⟨fun h2 => ⟨by omega, h2⟩, fun h2 => h2.2⟩
theorem frm_kept (n : Nat) (W : World) (z : Nat) : KeptTo n (frm W z) W := fun b o v _ h => (frm_cell.1 h).2
theorem cell_lt {W : World} {b o : Nat} {v : Value} (h : W.cell? ⟨b, o, none⟩ = some v) : b < W.heap.size := by
  by_cases hb2 : b < W.heap.size
  · exact hb2
  · simp [World.cell?, Array.getElem?_eq_none (show W.heap.size ≤ b by omega)] at h
theorem frm_next {W W' : World} {n z z' : Nat} (hz : z' ≤ z) (h : ∀ i, z ≤ i → i < W.heap.size → W'.heap[i]? = W.heap[i]?) : KeptTo n (frm W z) (frm W' z') := by
  intro b o v hb hv
  obtain ⟨h1, h2⟩ := frm_cell.1 hv
  refine frm_cell.2 ⟨by omega, ?_⟩
  have hlt := cell_lt h2
  simp only [World.cell?] at h2 ⊢
  rw [h b h1 hlt]
  exact h2
/-- A kind of trees: of how many cells, where what is in it lies. -/
structure Kd (α : Type) where
  k : Nat
  ty : TypeId
  cells : α → List Value
  inn : Nat → World → α → Prop
  len : ∀ x, (cells x).length = k
  keep : ∀ {n : Nat} {W W' : World}, KeptTo n W W' → ∀ x, inn n W x → inn n W' x
  less : ∀ {n m : Nat} {W : World}, n ≤ m → ∀ x, inn n W x → inn m W x
theorem Kd.flat {α : Type} (K : Kd α) : ∀ l : List α, (l.flatMap K.cells).length = l.length * K.k
  | [] => by simp
  | x :: r => by rw [List.flatMap_cons, List.length_append, K.len, K.flat r, List.length_cons, Nat.succ_mul]; omega
theorem Kd.row {α : Type} (K : Kd α) {inn : α → Prop} {n : Nat} {W : World} : ∀ {l : List α} {b o : Nat}, b < n → (∀ j u, (l.flatMap K.cells)[j]? = some u → W.cell? ⟨b, o + j, none⟩ = some u) → (∀ x ∈ l, inn x) → InRow K.k K.cells inn n W l (some ⟨b, o, none⟩)
  | [], _, _, _, _, _ => trivial
  | x :: r, b, o, hb, h, hi => by
    have hl := K.len x
    refine ⟨⟨b, o, rfl, hb, fun j v hv => h j v (by rw [List.flatMap_cons, List.getElem?_append_left (by have := (List.getElem?_eq_some_iff.1 hv).1; omega)]; exact hv)⟩, hi x (by simp), ?_⟩
    rw [Option.map_some, show (⟨b, o, none⟩ : Addr).add K.k = ⟨b, o + K.k, none⟩ by simp [Addr.add]]
    refine K.row hb (fun j u hu => ?_) (fun y hy => hi y (by simp [hy]))
    have := h (K.k + j) u (by rw [List.flatMap_cons, List.getElem?_append_right (by omega), hl, show K.k + j - K.k = j by omega]; exact hu)
    rw [show o + K.k + j = o + (K.k + j) by omega]
    exact this
theorem Kd.flat_at {α : Type} (K : Kd α) {inn : α → Prop} {n : Nat} {W : World} : ∀ {l : List α} {b o : Nat}, InRow K.k K.cells inn n W l (some ⟨b, o, none⟩) → ∀ j u, (l.flatMap K.cells)[j]? = some u → W.cell? ⟨b, o + j, none⟩ = some u
  | [], _, _, _, j, u, h => by simp at h
  | x :: r, b, o, h, j, u, hu => by
    obtain ⟨⟨b', o', ha, _, hr⟩, _, ht⟩ := h
    have ha2 := Option.some.inj ha
    injection ha2 with e1 e2
    subst e1
    subst e2
    have hl := K.len x
    rw [List.flatMap_cons] at hu
    by_cases hj : j < K.k
    · rw [List.getElem?_append_left (by omega)] at hu
      exact hr j u hu
    · rw [List.getElem?_append_right (by omega), hl] at hu
      rw [Option.map_some, show (⟨b, o, none⟩ : Addr).add K.k = ⟨b, o + K.k, none⟩ by simp [Addr.add]] at ht
      have := K.flat_at ht (j - K.k) u hu
      rw [show o + K.k + (j - K.k) = o + j by omega] at this
      exact this
/-- The cells of a block begin with these. -/
def CellsT (t : TypeId) (W : World) (g : Nat) (L : List Value) : Prop := ∃ cur, W.heap[g]? = some (.cells cur t (0, 0)) ∧ cur.toList.take L.length = L
theorem CellsT.at {t : TypeId} {W : World} {g : Nat} {L : List Value} (h : CellsT t W g L) {j : Nat} {u : Value} (hu : L[j]? = some u) : W.cell? ⟨g, j, none⟩ = some u := by
  obtain ⟨cur, h1, h2⟩ := h
  have hj := (List.getElem?_eq_some_iff.1 hu).1
  have h3 : cur.toList[j]? = some u := by rw [← hu, ← h2, List.getElem?_take_of_lt hj]
  simp only [World.cell?, h1]
  simpa using h3
theorem CellsT.frozen {t : TypeId} {W : World} {g : Nat} {L : List Value} (h : CellsT t W g L) (j : Nat) : W.frozen? ⟨g, j, none⟩ = false := by
  obtain ⟨cur, h1, h2⟩ := h
  simp [World.frozen?, h1]
theorem CellsT.block {t : TypeId} {W W' : World} {g : Nat} {L : List Value} (h : CellsT t W g L) (hb : W'.heap[g]? = W.heap[g]?) : CellsT t W' g L := by
  obtain ⟨cur, h1, h2⟩ := h
  exact ⟨cur, hb.trans h1, h2⟩
theorem CellsT.lt {t : TypeId} {W : World} {g : Nat} {L : List Value} (h : CellsT t W g L) : g < W.heap.size := by
  obtain ⟨cur, h1, h2⟩ := h
  exact (Array.getElem?_eq_some_iff.1 h1).1
theorem CellsT.set {t : TypeId} {W : World} {g : Nat} {L : List Value} (h : CellsT t W g L) {j : Nat} (hj : j < L.length) (v : Value) : CellsT t (W.setCell ⟨g, j, none⟩ v) g (L.set j v) := by
  obtain ⟨cur, h1, h2⟩ := h
  refine ⟨cur.setIfInBounds j v, ?_, ?_⟩
  · simp only [World.setCell, Array.getElem?_modify, ↓reduceIte]
    rw [h1]
    rfl
  · rw [List.length_set, Array.toList_setIfInBounds, List.take_set, h2]
theorem elemK {α : Type} {K : Kd α} {t : TypeId} {W : World} {B k : Nat} {ys : List α} {x : α} {R : List Value} (h : CellsT t W B (ys.flatMap K.cells ++ (K.cells x ++ R))) (hl : ys.length = k) : ∀ j u, (K.cells x)[j]? = some u → W.cell? ⟨B, k * K.k + j, none⟩ = some u := fun j u hu => by
  refine h.at ?_
  have hj := (List.getElem?_eq_some_iff.1 hu).1
  have e := K.flat ys
  rw [hl] at e
  rw [List.getElem?_append_right (by omega), e, show k * K.k + j - k * K.k = j by omega, List.getElem?_append_left hj]
  exact hu
/-- Values put into cells of a block, one behind the other. -/
def putC (W : World) (g : Nat) : Nat → List Value → World
  | _, [] => W
  | o, c :: r => putC (W.setCell ⟨g, o, none⟩ c) g (o + 1) r
theorem putC_size (g : Nat) : ∀ (l : List Value) (W : World) (o : Nat), (putC W g o l).heap.size = W.heap.size
  | [], _, _ => rfl
  | c :: r, W, o => by rw [putC, putC_size g r]; simp
theorem putC_other (g b : Nat) (hb : b ≠ g) : ∀ (l : List Value) (W : World) (o : Nat), (putC W g o l).heap[b]? = W.heap[b]?
  | [], _, _ => rfl
  | c :: r, W, o => by rw [putC, putC_other g b hb r, Below.heap_setCell W ⟨g, o, none⟩ c b hb]
theorem putC_below {n g : Nat} (hg : n ≤ g) : ∀ (l : List Value) (W : World) (o : Nat), Below n W (putC W g o l)
  | [], W, _ => Below.refl _ _
  | c :: r, W, o => by rw [putC]; exact ((Below.refl n W).setCell (p := ⟨g, o, none⟩) hg c).trans (putC_below hg r _ _)
theorem putC_cells {t : TypeId} {g : Nat} (C : List Value) : ∀ (ys xs A : List Value) (W : World), xs.length = ys.length → CellsT t W g (A ++ (xs ++ C)) → CellsT t (putC W g A.length ys) g (A ++ (ys ++ C))
  | [], [], A, W, _, h => h
  | [], _ :: _, _, _, e, _ => by simp at e
  | _ :: _, [], _, _, e, _ => by simp at e
  | y :: r, x :: q, A, W, e, h => by
    rw [putC]
    have h1 := h.set (j := A.length) (by simp) y
    have e1 : (A ++ (x :: q ++ C)).set A.length y = (A ++ [y]) ++ (q ++ C) := by simp [List.set_append]
    rw [e1] at h1
    have h2 := putC_cells C r q (A ++ [y]) _ (by simpa using e) h1
    rw [List.length_append, List.length_singleton] at h2
    rw [List.append_assoc] at h2
    exact h2
/-- A round's state: so many are copied. -/
structure CpS {α β : Type} (K : Kd α) (nf : α → β) (w : World) (B : Nat) (l : List α) (k : Nat) (ys : List α) (wr : World) : Prop where
  len : ys.length = k
  cells : CellsT K.ty wr B ((ys ++ l.drop k).flatMap K.cells)
  ins : ∀ y ∈ ys, K.inn wr.heap.size (frm wr (B + 1)) y
  nrm : ys.map nf = (l.take k).map nf
  low : Below w.heap.size w wr
theorem CpS.top {α β : Type} {K : Kd α} {nf : α → β} {w wr : World} {B k : Nat} {l ys : List α} (h : CpS K nf w B l k ys wr) : B < wr.heap.size := h.cells.lt
theorem CpS.step {α β : Type} {K : Kd α} {nf : α → β} {w wr w1 w2 : World} {B k : Nat} {l ys : List α} {y : α} (h : CpS K nf w B l k ys wr) (hB : w.heap.size ≤ B) (hlt : k < l.length) (hb1 : Below wr.heap.size wr w1) (hb2 : Below w1.heap.size w1 w2) (hy : nf y = nf l[k]) (hyi : K.inn w2.heap.size (frm w2 w1.heap.size) y) :
    CpS K nf w B l (k + 1) (ys ++ [y]) (putC w2 B (k * K.k) (K.cells y)) := by
  have ht := h.top
  have h1 := hb1.size
  have h2 := hb2.size
  have hdr : l.drop k = l[k] :: l.drop (k + 1) := (List.getElem_cons_drop hlt).symm
  have hc0 := h.cells
  rw [hdr, List.flatMap_append, List.flatMap_cons] at hc0
  have hyl : (ys.flatMap K.cells).length = k * K.k := by rw [K.flat, h.len]
  have hc1 := (hc0.block (hb1.block B ht)).block (hb2.block B (by omega))
  have hc2 := putC_cells (W := w2) (g := B) ((l.drop (k + 1)).flatMap K.cells) (K.cells y) (K.cells l[k]) (ys.flatMap K.cells) (by rw [K.len, K.len]) hc1
  rw [hyl] at hc2
  refine ⟨by simp [h.len], ?_, fun z hz => ?_, ?_, ?_⟩
  · rw [show ((ys ++ [y]) ++ l.drop (k + 1)).flatMap K.cells = ys.flatMap K.cells ++ (K.cells y ++ (l.drop (k + 1)).flatMap K.cells) by simp [List.flatMap_append]]
    exact hc2
  · rw [putC_size]
    rcases List.mem_append.1 hz with hz | hz
    · refine K.less (show wr.heap.size ≤ w2.heap.size by omega) _ (K.keep (frm_next (Nat.le_refl _) (fun i hi hi2 => ?_)) _ (h.ins z hz))
      rw [putC_other _ _ (by omega), hb2.block i (by omega), hb1.block i hi2]
    · rw [List.mem_singleton.1 hz]
      refine K.keep (frm_next (by omega) (fun i hi hi2 => ?_)) _ hyi
      rw [putC_other _ _ (by omega)]
  · rw [List.map_append, h.nrm, List.take_succ_eq_append_getElem hlt, List.map_append]
    simp [hy]
  · exact h.low.trans ((hb1.mono h.low.size).trans ((hb2.mono (Nat.le_trans h.low.size h1)).trans (putC_below hB _ _ _)))
theorem CpS.done {α β : Type} {K : Kd α} {nf : α → β} {w wr : World} {B : Nat} {l ys : List α} (h : CpS K nf w B l l.length ys wr) (hB : w.heap.size ≤ B) :
    ys.map nf = l.map nf ∧ InRow K.k K.cells (K.inn wr.heap.size (frm wr w.heap.size)) wr.heap.size (frm wr w.heap.size) ys (some ⟨B, 0, none⟩) := by
  refine ⟨by have := h.nrm; rwa [List.take_length] at this, K.row h.top (fun j u hu => ?_) (fun y hy => ?_)⟩
  · have hc := h.cells
    rw [List.drop_length, List.append_nil] at hc
    rw [Nat.zero_add]
    exact frm_cell.2 ⟨hB, hc.at hu⟩
  · exact K.keep (frm_next (by omega) (fun i _ _ => rfl)) _ (h.ins y hy)
/-- A row, as Clone leaves it. -/
theorem CpS.start {α β : Type} {K : Kd α} (nf : α → β) {w wr : World} {B base : Nat} {c : Nat} {l : List α} (ho : wr.ownsRow base K.ty K.k (.slice (some ⟨B, 0, none⟩) l.length c) l.length (l.flatMap K.cells)) (hb : Below w.heap.size w wr) (hbase : w.heap.size ≤ base) : CpS K nf w B l 0 [] wr ∧ w.heap.size ≤ B := by
  rcases ho.2 with ⟨h, _⟩ | ⟨g2, cap, cur, h2, h3, h4, h5, h6, h7, h8⟩
  · cases h
  · injection h2 with h9
    injection h9 with h9
    injection h9 with h10
    subst h10
    exact ⟨⟨rfl, ⟨cur, h4, by rw [List.drop_zero, List.nil_append, K.flat]; exact h8⟩, (fun y hy => by cases hy), rfl, hb⟩, by omega⟩
/-- What copying a row leaves. -/
def CpPost {α β : Type} (K : Kd α) (nf : α → β) (l : List α) (w : World) (e : Ending) (W' : World) : Prop := ∃ (a : Option Addr) (c : Nat) (ys : List α), e = .returned (.slice a ys.length c) ∧ ys.map nf = l.map nf ∧ InRow K.k K.cells (K.inn W'.heap.size (frm W' w.heap.size)) W'.heap.size (frm W' w.heap.size) ys a ∧ Below w.heap.size w W'
/-- What copying one leaves. -/
def Cp1 {α β : Type} (K : Kd α) (nf : α → β) (x : α) (w : World) (e : Ending) (W' : World) : Prop := ∃ y : α, e = .returned (.agg (K.cells y).toArray) ∧ nf y = nf x ∧ K.inn W'.heap.size (frm W' w.heap.size) y ∧ Below w.heap.size w W'
/-! ### Trees without their places -/
mutual
def XT.nrm : XT → XT | .mk op nm n wd v _ _ l => .mk op nm n wd v none 0 (XT.nrmL l)
def XT.nrmL : List XT → List XT | [] => [] | x :: r => XT.nrm x :: XT.nrmL r
end
theorem XT.nrmL_map : ∀ l, XT.nrmL l = l.map XT.nrm
  | [] => rfl
  | x :: r => by rw [XT.nrmL, XT.nrmL_map r]; rfl
mutual
def ST.nrm : ST → ST | .mk op nm _ _ xl _ _ sl => .mk op nm none 0 (xl.map XT.nrm) none 0 (ST.nrmL sl)
def ST.nrmL : List ST → List ST | [] => [] | x :: r => ST.nrm x :: ST.nrmL r
end
theorem ST.nrmL_map : ∀ l, ST.nrmL l = l.map ST.nrm
  | [] => rfl
  | x :: r => by rw [ST.nrmL, ST.nrmL_map r]; rfl
def BT.nrm (b : BT) : BT := ⟨b.nm, b.x.nrm⟩
def PT.nrm (b : PT) : PT := ⟨b.nm, b.out, b.x.nrm⟩
mutual
def IT.nrm : IT → IT | .mk op nm nf _ _ xl _ _ sl _ _ ll _ _ el _ _ pl _ _ bl => .mk op nm nf none 0 (xl.map XT.nrm) none 0 (sl.map ST.nrm) none 0 (IT.nrmL ll) none 0 (IT.nrmL el) none 0 (pl.map BT.nrm) none 0 (bl.map BT.nrm)
def IT.nrmL : List IT → List IT | [] => [] | x :: r => IT.nrm x :: IT.nrmL r
end
theorem IT.nrmL_map : ∀ l, IT.nrmL l = l.map IT.nrm
  | [] => rfl
  | x :: r => by rw [IT.nrmL, IT.nrmL_map r]; rfl
def MT.nrm : MT → MT | ⟨nm, _, _, pl, _, _, tl, _, _, il⟩ => ⟨nm, none, 0, pl.map BT.nrm, none, 0, tl.map PT.nrm, none, 0, il.map IT.nrm⟩
end Go.Proofs.YtbfhbblbjgkolaaGreatDoor
namespace Go.Proofs.YtbfhbblbjgkolaaGreatDoor
open Go Go.RowKit
set_option linter.unusedVariables false
set_option linter.unusedSimpArgs false
open Go.Sort

theorem own_shape6 {w : World} {B e size n : Nat} {v : Value} {xs : List Value} (h : w.ownsRow B e size v n xs) : ∃ a c, v = .slice a n c := by
  rcases h.2 with ⟨rfl, rfl⟩ | ⟨g, cap, cur, rfl, _⟩
  · exact ⟨none, 0, rfl⟩
  · exact ⟨_, _, rfl⟩
theorem wpList_append_kd {α : Type} (K : Kd α) (rt : TypeId) (bytes : Nat) (zv : Value) (hu : Tryz.prog.underlying rt = some (.slice K.ty)) (hinfo : (Tryz.prog.info? K.ty).map (fun i => (i.zero, i.size, i.bytes)) = some (some zv, K.k, bytes)) (hzv : zv.cells.size = K.k) (hk : 0 < K.k) (hby : bytes ≤ 200) (hones : ∀ x, ∀ u ∈ K.cells x, u.oneCell' = true)
    {w : World} {ops : Array Oper} {rest : List Oper} {op : Oper} {a : Act} {Q : Exit → Act → World → Prop} (hgd : op.guard = none) (s x : Operand)
    (ho : op.op = .call { callee := .builtin .append, args := #[s, x], argTypes := #[rt, rt] })
    (base : Nat) (v : Value) (n : Nat) (xs : List Value) (hs : a.eval s = v) (hown : w.ownsRow base K.ty K.k v n xs)
    (ad : Option Addr) (l : List α) (c : Nat) (hx : a.eval x = .slice ad l.length c) (hc : ad = none → c = 0) (inn : α → Prop) (n0 : Nat) (hl : InRow K.k K.cells inn n0 w l ad) (hn : n + l.length ≤ 4000000) (hbase : base ≤ w.heap.size)
    (h : ∀ v' w', w'.ownsRow base K.ty K.k v' (n + l.length) (xs ++ l.flatMap K.cells) → w.grownBy w' v.ownBlock → wpList Tryz.prog ops Q rest (a.put op.dst v') w') : wpList Tryz.prog ops Q (op :: rest) a w := by
  obtain ⟨i0, hi0, hz0, hz1, hz2⟩ := info_parts hinfo
  cases ad with
  | none =>
    have hl0 : l = [] := by
      cases l with
      | nil => rfl
      | cons y r => obtain ⟨⟨b, o, h, _⟩, _⟩ := hl; cases h
    subst hl0
    rw [hc rfl] at hx
    refine wpList_append_own_none hgd s x rt ho base K.ty i0 K.k hu hi0 v n xs hs hown hx ?_
    refine h v w ?_ ⟨rfl, rfl, rfl, Nat.le_refl _, fun _ _ _ => rfl⟩
    simpa using hown
  | some ad =>
    have hnews : ∀ j u, (l.flatMap K.cells)[j]? = some u → w.cell? (ad.add j) = some u := by
      cases l with
      | nil => intro j u hu; simp at hu
      | cons y r =>
        have hl2 := hl
        obtain ⟨⟨b, o, h, _⟩, _⟩ := hl
        have h2 := Option.some.inj h
        subst h2
        intro j u hu
        rw [Addr.add_mid]
        exact K.flat_at hl2 j u hu
    refine wpList_append_own w hgd s x rt ho base K.ty i0 _ K.k bytes hu hi0 hz0 hz1 hz2 hzv hk v n xs hs hown ad l.length c (l.flatMap K.cells) hx (K.flat l) hnews (fun u hu => ?_) (by simp only [maxLen]; omega) ?_ hbase (fun v' w' h1 h2 _ => h v' w' h1 h2)
    · obtain ⟨y, _, hy⟩ := List.mem_flatMap.1 hu
      exact hones y u hy
    · exact Nat.le_trans (Nat.mul_le_mul hn hby) (by decide)
/-- What Clone leaves. -/
def CloneK {α : Type} (K : Kd α) (l : List α) (w : World) (e : Ending) (w' : World) : Prop := ∃ a c, e = .returned (.slice a l.length c) ∧ w'.ownsRow w.heap.size K.ty K.k (.slice a l.length c) l.length (l.flatMap K.cells) ∧ Below w.heap.size w w'
abbrev kdX : Kd XT := ⟨6, 60, XT.cells, XT.In, (fun x => by obtain ⟨op, nm, n, wd, v, a, c, l⟩ := x; rfl), (fun hk => XT.In.keep hk), (fun hm => XT.In.less hm)⟩
theorem onesX (x : XT) : ∀ u ∈ x.cells, u.oneCell' = true := by
  obtain ⟨op, nm, n, wd, v, a, c, l⟩ := x
  intro u hx
  simp only [XT.cells, XT.cells, List.mem_cons, List.not_mem_nil, or_false] at hx
  rcases hx with rfl | rfl | rfl | rfl | rfl | rfl <;> rfl
theorem infoKX : (Tryz.prog.info? 60).map (fun i => (i.zero, i.size, i.bytes)) = some (some (.agg #[.int .i64 0, .string ⟨#[]⟩, .int .i64 0, .int .i64 0, .int .u64 0, .slice none 0 0]), 6, 72) := by kernel_rfl
set_option maxHeartbeats 4000000 in
set_option maxRecDepth 100000 in
theorem cloneKX (l : List XT) (hll : l.length ≤ 4000000) (a : Option Addr) (c n0 : Nat) (w : World) (hn0 : n0 ≤ w.heap.size) (hin : InRow 6 XT.cells (XT.In n0 w) n0 w l a) : Calls Tryz.prog 153 #[.slice a l.length c] w (CloneK kdX l w) := by
  have qT : ∀ (w : World) (r : Option Addr) (n c : Nat), (binOp .eql 51 (.slice r n c) (.slice none 0 0)).run Tryz.prog w = .ok (.bool r.isNone) w := fun w r n c => Lib.run_eql_slice_nil w _ _ r n c 0 0 Tryz.underlying51
  cases a with
  | none =>
    have hl0 : l = [] := by
      cases l with
      | nil => rfl
      | cons y r => obtain ⟨⟨b, o, h, _⟩, _⟩ := hin; cases h
    subst hl0
    simp only [List.length_nil]
    go_enter Tryz.func153, Tryz.ntmps153
    go_wp2
    go_ret
    exact ⟨none, 0, rfl, ⟨rfl, .inl ⟨rfl, rfl⟩⟩, Below.refl _ _⟩
  | some ad =>
    have hown0 : (w.alloc (.cells #[] 60)).ownsRow w.heap.size 60 6 (.slice (some ⟨w.heap.size, 0, none⟩) 0 0) 0 [] := ⟨rfl, .inr ⟨w.heap.size, 0, #[], rfl, Nat.le_refl _, World.alloc_heap_new w _, Nat.le_refl _, by decide, rfl, rfl⟩⟩
    have kE : Below w.heap.size w (w.alloc (.cells #[] 60)) := (Below.refl _ _).alloc (Nat.le_refl _) _
    have hrow1 := hin.keep (Below.keptTo kE hn0) (fun x _ => XT.In.keep (Below.keptTo kE hn0) x)
    have HR := Lib.hid (And.intro hown0 (And.intro hrow1 kE))
    clear hown0 hrow1 kE hin
    go_enter Tryz.func153, Tryz.ntmps153
    go_upto_region 3 with (fail)
    go_wp2_with (at_builtin; refine wpList_append_kd kdX 51 72 _ Tryz.underlying51 infoKX rfl (by decide) (by decide) onesX rfl (.tmp 5) (.tmp 6) rfl w.heap.size (.slice (some ⟨w.heap.size, 0, none⟩) 0 0) 0 [] rfl HR.out.1 (some ad) l c rfl (fun e => by cases e) _ n0 HR.out.2.1 (by omega) (by simp) ?_; intro v5 w5 own5 hg5; rw [Nat.zero_add, List.nil_append] at own5; obtain ⟨a5, c5, rfl⟩ := own_shape6 own5; have hB5 := HR.out.2.2.grown hg5 (by simp) (fun k e => by cases e; exact Nat.le_refl _))
    go_ret
    exact ⟨a5, c5, rfl, own5, hB5⟩
abbrev kdS : Kd ST := ⟨4, 159, ST.cells, ST.In, (fun x => by obtain ⟨op, nm, xa, xc, xl, sa, sc, sl⟩ := x; rfl), (fun hk => ST.In.keep hk), (fun hm => ST.In.less hm)⟩
theorem onesS (x : ST) : ∀ u ∈ x.cells, u.oneCell' = true := by
  obtain ⟨op, nm, xa, xc, xl, sa, sc, sl⟩ := x
  intro u hx
  simp only [ST.cells, XT.cells, List.mem_cons, List.not_mem_nil, or_false] at hx
  rcases hx with rfl | rfl | rfl | rfl <;> rfl
theorem infoKS : (Tryz.prog.info? 159).map (fun i => (i.zero, i.size, i.bytes)) = some (some (.agg #[.int .i64 0, .string ⟨#[]⟩, .slice none 0 0, .slice none 0 0]), 4, 72) := by kernel_rfl
set_option maxHeartbeats 4000000 in
set_option maxRecDepth 100000 in
theorem cloneKS (l : List ST) (hll : l.length ≤ 4000000) (a : Option Addr) (c n0 : Nat) (w : World) (hn0 : n0 ≤ w.heap.size) (hin : InRow 4 ST.cells (ST.In n0 w) n0 w l a) : Calls Tryz.prog 154 #[.slice a l.length c] w (CloneK kdS l w) := by
  have qT : ∀ (w : World) (r : Option Addr) (n c : Nat), (binOp .eql 52 (.slice r n c) (.slice none 0 0)).run Tryz.prog w = .ok (.bool r.isNone) w := fun w r n c => Lib.run_eql_slice_nil w _ _ r n c 0 0 Tryz.underlying52
  cases a with
  | none =>
    have hl0 : l = [] := by
      cases l with
      | nil => rfl
      | cons y r => obtain ⟨⟨b, o, h, _⟩, _⟩ := hin; cases h
    subst hl0
    simp only [List.length_nil]
    go_enter Tryz.func154, Tryz.ntmps154
    go_wp2
    go_ret
    exact ⟨none, 0, rfl, ⟨rfl, .inl ⟨rfl, rfl⟩⟩, Below.refl _ _⟩
  | some ad =>
    have hown0 : (w.alloc (.cells #[] 159)).ownsRow w.heap.size 159 4 (.slice (some ⟨w.heap.size, 0, none⟩) 0 0) 0 [] := ⟨rfl, .inr ⟨w.heap.size, 0, #[], rfl, Nat.le_refl _, World.alloc_heap_new w _, Nat.le_refl _, by decide, rfl, rfl⟩⟩
    have kE : Below w.heap.size w (w.alloc (.cells #[] 159)) := (Below.refl _ _).alloc (Nat.le_refl _) _
    have hrow1 := hin.keep (Below.keptTo kE hn0) (fun x _ => ST.In.keep (Below.keptTo kE hn0) x)
    have HR := Lib.hid (And.intro hown0 (And.intro hrow1 kE))
    clear hown0 hrow1 kE hin
    go_enter Tryz.func154, Tryz.ntmps154
    go_upto_region 3 with (fail)
    go_wp2_with (at_builtin; refine wpList_append_kd kdS 52 72 _ Tryz.underlying52 infoKS rfl (by decide) (by decide) onesS rfl (.tmp 5) (.tmp 6) rfl w.heap.size (.slice (some ⟨w.heap.size, 0, none⟩) 0 0) 0 [] rfl HR.out.1 (some ad) l c rfl (fun e => by cases e) _ n0 HR.out.2.1 (by omega) (by simp) ?_; intro v5 w5 own5 hg5; rw [Nat.zero_add, List.nil_append] at own5; obtain ⟨a5, c5, rfl⟩ := own_shape6 own5; have hB5 := HR.out.2.2.grown hg5 (by simp) (fun k e => by cases e; exact Nat.le_refl _))
    go_ret
    exact ⟨a5, c5, rfl, own5, hB5⟩
abbrev kdI : Kd IT := ⟨9, 54, IT.cells, IT.In, (fun x => by obtain ⟨op, nm, nf, xa, xc, xl, sa, sc, sl, la, lc, ll, ea, ec, el, pa, pc, pl, ba, bc, bl⟩ := x; rfl), (fun hk => IT.In.keep hk), (fun hm => IT.In.less hm)⟩
theorem onesI (x : IT) : ∀ u ∈ x.cells, u.oneCell' = true := by
  obtain ⟨op, nm, nf, xa, xc, xl, sa, sc, sl, la, lc, ll, ea, ec, el, pa, pc, pl, ba, bc, bl⟩ := x
  intro u hx
  simp only [IT.cells, XT.cells, List.mem_cons, List.not_mem_nil, or_false] at hx
  rcases hx with rfl | rfl | rfl | rfl | rfl | rfl | rfl | rfl | rfl <;> rfl
theorem infoKI : (Tryz.prog.info? 54).map (fun i => (i.zero, i.size, i.bytes)) = some (some (.agg #[.int .i64 0, .string ⟨#[]⟩, .string ⟨#[]⟩, .slice none 0 0, .slice none 0 0, .slice none 0 0, .slice none 0 0, .slice none 0 0, .slice none 0 0]), 9, 184) := by kernel_rfl
set_option maxHeartbeats 4000000 in
set_option maxRecDepth 100000 in
theorem cloneKI (l : List IT) (hll : l.length ≤ 4000000) (a : Option Addr) (c n0 : Nat) (w : World) (hn0 : n0 ≤ w.heap.size) (hin : InRow 9 IT.cells (IT.In n0 w) n0 w l a) : Calls Tryz.prog 126 #[.slice a l.length c] w (CloneK kdI l w) := by
  have qT : ∀ (w : World) (r : Option Addr) (n c : Nat), (binOp .eql 31 (.slice r n c) (.slice none 0 0)).run Tryz.prog w = .ok (.bool r.isNone) w := fun w r n c => Lib.run_eql_slice_nil w _ _ r n c 0 0 Tryz.underlying31
  cases a with
  | none =>
    have hl0 : l = [] := by
      cases l with
      | nil => rfl
      | cons y r => obtain ⟨⟨b, o, h, _⟩, _⟩ := hin; cases h
    subst hl0
    simp only [List.length_nil]
    go_enter Tryz.func126, Tryz.ntmps126
    go_wp2
    go_ret
    exact ⟨none, 0, rfl, ⟨rfl, .inl ⟨rfl, rfl⟩⟩, Below.refl _ _⟩
  | some ad =>
    have hown0 : (w.alloc (.cells #[] 54)).ownsRow w.heap.size 54 9 (.slice (some ⟨w.heap.size, 0, none⟩) 0 0) 0 [] := ⟨rfl, .inr ⟨w.heap.size, 0, #[], rfl, Nat.le_refl _, World.alloc_heap_new w _, Nat.le_refl _, by decide, rfl, rfl⟩⟩
    have kE : Below w.heap.size w (w.alloc (.cells #[] 54)) := (Below.refl _ _).alloc (Nat.le_refl _) _
    have hrow1 := hin.keep (Below.keptTo kE hn0) (fun x _ => IT.In.keep (Below.keptTo kE hn0) x)
    have HR := Lib.hid (And.intro hown0 (And.intro hrow1 kE))
    clear hown0 hrow1 kE hin
    go_enter Tryz.func126, Tryz.ntmps126
    go_upto_region 3 with (fail)
    go_wp2_with (at_builtin; refine wpList_append_kd kdI 31 184 _ Tryz.underlying31 infoKI rfl (by decide) (by decide) onesI rfl (.tmp 5) (.tmp 6) rfl w.heap.size (.slice (some ⟨w.heap.size, 0, none⟩) 0 0) 0 [] rfl HR.out.1 (some ad) l c rfl (fun e => by cases e) _ n0 HR.out.2.1 (by omega) (by simp) ?_; intro v5 w5 own5 hg5; rw [Nat.zero_add, List.nil_append] at own5; obtain ⟨a5, c5, rfl⟩ := own_shape6 own5; have hB5 := HR.out.2.2.grown hg5 (by simp) (fun k e => by cases e; exact Nat.le_refl _))
    go_ret
    exact ⟨a5, c5, rfl, own5, hB5⟩
abbrev kdB : Kd BT := ⟨7, 92, BT.cells, BT.In, (fun x => by obtain ⟨bn, ⟨op, nm, n, wd, v, a, c, l⟩⟩ := x; rfl), (fun hk => BT.In.keep hk), (fun hm => BT.In.less hm)⟩
theorem onesB (x : BT) : ∀ u ∈ x.cells, u.oneCell' = true := by
  obtain ⟨bn, ⟨op, nm, n, wd, v, a, c, l⟩⟩ := x
  intro u hx
  simp only [BT.cells, XT.cells, List.mem_cons, List.not_mem_nil, or_false] at hx
  rcases hx with rfl | rfl | rfl | rfl | rfl | rfl | rfl <;> rfl
theorem infoKB : (Tryz.prog.info? 92).map (fun i => (i.zero, i.size, i.bytes)) = some (some (.agg #[.string ⟨#[]⟩, .int .i64 0, .string ⟨#[]⟩, .int .i64 0, .int .i64 0, .int .u64 0, .slice none 0 0]), 7, 88) := by kernel_rfl
set_option maxHeartbeats 4000000 in
set_option maxRecDepth 100000 in
theorem cloneKB (l : List BT) (hll : l.length ≤ 4000000) (a : Option Addr) (c n0 : Nat) (w : World) (hn0 : n0 ≤ w.heap.size) (hin : InRow 7 BT.cells (BT.In n0 w) n0 w l a) : Calls Tryz.prog 123 #[.slice a l.length c] w (CloneK kdB l w) := by
  have qT : ∀ (w : World) (r : Option Addr) (n c : Nat), (binOp .eql 29 (.slice r n c) (.slice none 0 0)).run Tryz.prog w = .ok (.bool r.isNone) w := fun w r n c => Lib.run_eql_slice_nil w _ _ r n c 0 0 Tryz.underlying29
  cases a with
  | none =>
    have hl0 : l = [] := by
      cases l with
      | nil => rfl
      | cons y r => obtain ⟨⟨b, o, h, _⟩, _⟩ := hin; cases h
    subst hl0
    simp only [List.length_nil]
    go_enter Tryz.func123, Tryz.ntmps123
    go_wp2
    go_ret
    exact ⟨none, 0, rfl, ⟨rfl, .inl ⟨rfl, rfl⟩⟩, Below.refl _ _⟩
  | some ad =>
    have hown0 : (w.alloc (.cells #[] 92)).ownsRow w.heap.size 92 7 (.slice (some ⟨w.heap.size, 0, none⟩) 0 0) 0 [] := ⟨rfl, .inr ⟨w.heap.size, 0, #[], rfl, Nat.le_refl _, World.alloc_heap_new w _, Nat.le_refl _, by decide, rfl, rfl⟩⟩
    have kE : Below w.heap.size w (w.alloc (.cells #[] 92)) := (Below.refl _ _).alloc (Nat.le_refl _) _
    have hrow1 := hin.keep (Below.keptTo kE hn0) (fun x _ => BT.In.keep (Below.keptTo kE hn0) x)
    have HR := Lib.hid (And.intro hown0 (And.intro hrow1 kE))
    clear hown0 hrow1 kE hin
    go_enter Tryz.func123, Tryz.ntmps123
    go_upto_region 3 with (fail)
    go_wp2_with (at_builtin; refine wpList_append_kd kdB 29 88 _ Tryz.underlying29 infoKB rfl (by decide) (by decide) onesB rfl (.tmp 5) (.tmp 6) rfl w.heap.size (.slice (some ⟨w.heap.size, 0, none⟩) 0 0) 0 [] rfl HR.out.1 (some ad) l c rfl (fun e => by cases e) _ n0 HR.out.2.1 (by omega) (by simp) ?_; intro v5 w5 own5 hg5; rw [Nat.zero_add, List.nil_append] at own5; obtain ⟨a5, c5, rfl⟩ := own_shape6 own5; have hB5 := HR.out.2.2.grown hg5 (by simp) (fun k e => by cases e; exact Nat.le_refl _))
    go_ret
    exact ⟨a5, c5, rfl, own5, hB5⟩
abbrev kdP : Kd PT := ⟨8, 90, PT.cells, PT.In, (fun x => by obtain ⟨bn, po, ⟨op, nm, n, wd, v, a, c, l⟩⟩ := x; rfl), (fun hk => PT.In.keep hk), (fun hm => PT.In.less hm)⟩
theorem onesP (x : PT) : ∀ u ∈ x.cells, u.oneCell' = true := by
  obtain ⟨bn, po, ⟨op, nm, n, wd, v, a, c, l⟩⟩ := x
  intro u hx
  simp only [PT.cells, XT.cells, List.mem_cons, List.not_mem_nil, or_false] at hx
  rcases hx with rfl | rfl | rfl | rfl | rfl | rfl | rfl | rfl <;> rfl
theorem infoKP : (Tryz.prog.info? 90).map (fun i => (i.zero, i.size, i.bytes)) = some (some (.agg #[.string ⟨#[]⟩, .bool false, .int .i64 0, .string ⟨#[]⟩, .int .i64 0, .int .i64 0, .int .u64 0, .slice none 0 0]), 8, 96) := by kernel_rfl
set_option maxHeartbeats 4000000 in
set_option maxRecDepth 100000 in
theorem cloneKP (l : List PT) (hll : l.length ≤ 4000000) (a : Option Addr) (c n0 : Nat) (w : World) (hn0 : n0 ≤ w.heap.size) (hin : InRow 8 PT.cells (PT.In n0 w) n0 w l a) : Calls Tryz.prog 125 #[.slice a l.length c] w (CloneK kdP l w) := by
  have qT : ∀ (w : World) (r : Option Addr) (n c : Nat), (binOp .eql 30 (.slice r n c) (.slice none 0 0)).run Tryz.prog w = .ok (.bool r.isNone) w := fun w r n c => Lib.run_eql_slice_nil w _ _ r n c 0 0 Tryz.underlying30
  cases a with
  | none =>
    have hl0 : l = [] := by
      cases l with
      | nil => rfl
      | cons y r => obtain ⟨⟨b, o, h, _⟩, _⟩ := hin; cases h
    subst hl0
    simp only [List.length_nil]
    go_enter Tryz.func125, Tryz.ntmps125
    go_wp2
    go_ret
    exact ⟨none, 0, rfl, ⟨rfl, .inl ⟨rfl, rfl⟩⟩, Below.refl _ _⟩
  | some ad =>
    have hown0 : (w.alloc (.cells #[] 90)).ownsRow w.heap.size 90 8 (.slice (some ⟨w.heap.size, 0, none⟩) 0 0) 0 [] := ⟨rfl, .inr ⟨w.heap.size, 0, #[], rfl, Nat.le_refl _, World.alloc_heap_new w _, Nat.le_refl _, by decide, rfl, rfl⟩⟩
    have kE : Below w.heap.size w (w.alloc (.cells #[] 90)) := (Below.refl _ _).alloc (Nat.le_refl _) _
    have hrow1 := hin.keep (Below.keptTo kE hn0) (fun x _ => PT.In.keep (Below.keptTo kE hn0) x)
    have HR := Lib.hid (And.intro hown0 (And.intro hrow1 kE))
    clear hown0 hrow1 kE hin
    go_enter Tryz.func125, Tryz.ntmps125
    go_upto_region 3 with (fail)
    go_wp2_with (at_builtin; refine wpList_append_kd kdP 30 96 _ Tryz.underlying30 infoKP rfl (by decide) (by decide) onesP rfl (.tmp 5) (.tmp 6) rfl w.heap.size (.slice (some ⟨w.heap.size, 0, none⟩) 0 0) 0 [] rfl HR.out.1 (some ad) l c rfl (fun e => by cases e) _ n0 HR.out.2.1 (by omega) (by simp) ?_; intro v5 w5 own5 hg5; rw [Nat.zero_add, List.nil_append] at own5; obtain ⟨a5, c5, rfl⟩ := own_shape6 own5; have hB5 := HR.out.2.2.grown hg5 (by simp) (fun k e => by cases e; exact Nat.le_refl _))
    go_ret
    exact ⟨a5, c5, rfl, own5, hB5⟩
end Go.Proofs.YtbfhbblbjgkolaaGreatDoor
namespace Go.Proofs.YtbfhbblbjgkolaaGreatDoor
open Go Go.RowKit
set_option linter.unusedVariables false
set_option linter.unusedSimpArgs false
open Go.Sort

set_option maxHeartbeats 8000000 in
set_option maxRecDepth 100000 in
theorem copiedRowX (n0 : Nat) (l : List XT) (hll : l.length ≤ 4000000) (w : World) (hn0 : n0 ≤ w.heap.size) (hc : ∀ x ∈ l, ∀ V, w.heap.size ≤ V.heap.size → x.In n0 V → Calls Tryz.prog 124 #[x.val] V (Cp1 kdX XT.nrm x V)) (a : Option Addr) (c : Nat) (hin : InRow 6 XT.cells (XT.In n0 w) n0 w l a) : Calls Tryz.prog 127 #[.slice a l.length c, .func (.func 124) #[] #[]] w (CpPost kdX XT.nrm l w) := by
  have HI := Lib.hid hin
  have HC := Lib.hid hc
  have q := cloneKX l hll a c n0 w hn0 hin
  clear hc hin
  go_enter Tryz.func127, Tryz.ntmps127
  go_wp2_with fail
  refine q.mono ?_
  clear q
  rintro e w1 ⟨a1, c1, rfl, hown, hb1⟩
  have hS0 : (0 < l.length → ∃ B, a1 = some ⟨B, 0, none⟩ ∧ w.heap.size ≤ B ∧ CpS kdX XT.nrm w B l 0 [] w1) := fun h => by
    obtain ⟨g, cap, h2⟩ := own_some hown h
    injection h2 with h3
    subst h3
    obtain ⟨s1, s2⟩ := CpS.start (K := kdX) XT.nrm hown hb1 (Nat.le_refl _)
    exact ⟨g, rfl, s2, s1⟩
  have H0 := Lib.hid (And.intro hS0 hb1)
  clear hS0 hown hb1
  go_wp2_with fail
  go_loopg [11] l.length (fun gh u wr => ∃ (k : Nat) (ys : List XT), u = .int .i64 k ∧ k + gh = l.length ∧ (0 < l.length → ∃ B, a1 = some ⟨B, 0, none⟩ ∧ w.heap.size ≤ B ∧ CpS kdX XT.nrm w B l k ys wr) ∧ (l.length = 0 → ys = []) ∧ Below w.heap.size w wr)
  case atStart => exact ⟨0, [], rfl, by omega, H0.out.1, fun _ => rfl, H0.out.2⟩
  case round =>
    obtain ⟨k, ys, rfl, hk, hst, hnil, hbw⟩ := hrel
    clear H0
    by_cases hlt : k < l.length
    · have d1 : decide (k < l.length) = true := by simpa using hlt
      have d2 : decide ((k : Int) < (l.length : Int)) = true := by rw [decide_eq_true_eq]; omega
      have x1 : (k : Int) < (l.length : Int) := by omega
      obtain ⟨B, rfl, hB, hS⟩ := hst (by omega)
      obtain ⟨b0, o0, he0, hb0, hr0, hx0⟩ := HI.out.at (i := k) hlt
      have hcx := HC.out l[k] (List.getElem_mem hlt)
      have hdr : l.drop k = l[k] :: l.drop (k + 1) := (List.getElem_cons_drop hlt).symm
      have hcs := hS.cells
      rw [hdr, List.flatMap_append, List.flatMap_cons] at hcs
      have hxi := XT.In.keep (Below.keptTo hbw hn0) _ hx0
      have hxk : XT.nrm l[k] = XT.nrm l[k] := rfl
      generalize hgx : l[k] = x at hcs hcx hxi hdr
      have hpc : ∀ j u, x.cells[j]? = some u → wr.cell? ⟨B, k * 6 + j, none⟩ = some u := elemK (K := kdX) hcs hS.len
      have HG := Lib.hid (And.intro hS (And.intro hcs (And.intro hcx (And.intro hxi (And.intro hgx (And.intro hbw hB))))))
      have hzB := hS.top
      have hzw := hbw.size
      clear hst hnil hr0 hx0 he0 hb0 hcs hcx hxi hdr hxk hS hbw
      obtain ⟨op2, nm2, xn2, wd2, v2, xa2, xc2, xl2⟩ := x
      have r0 : wr.cell? ⟨B, k * 6, none⟩ = some (.int .i64 op2) := hpc 0 _ rfl
      have r1 : wr.cell? ⟨B, k * 6 + 1, none⟩ = some (.string (bs nm2)) := hpc 1 _ rfl
      have r2 : wr.cell? ⟨B, k * 6 + 2, none⟩ = some (.int .i64 xn2) := hpc 2 _ rfl
      have r3 : wr.cell? ⟨B, k * 6 + 3, none⟩ = some (.int .i64 wd2) := hpc 3 _ rfl
      have r4 : wr.cell? ⟨B, k * 6 + 4, none⟩ = some (.int .u64 (v2 : Int)) := hpc 4 _ rfl
      have r5 : wr.cell? ⟨B, k * 6 + 5, none⟩ = some (.slice xa2 xl2.length xc2) := hpc 5 _ rfl
      clear hpc
      obtain ⟨wa, hwa⟩ : ∃ wa, wr.alloc (.cells #[.int .i64 op2, .string (bs nm2), .int .i64 xn2, .int .i64 wd2, .int .u64 (v2 : Int), .slice xa2 xl2.length xc2] 60) = wa := ⟨_, rfl⟩
      have hza : wa.heap.size = wr.heap.size + 1 := by rw [← hwa]; simp
      have hba : Below wr.heap.size wr wa := by rw [← hwa]; exact (Below.refl _ _).alloc (Nat.le_refl _) _
      have BZ : wa.heap[wr.heap.size]? = some (.cells #[.int .i64 op2, .string (bs nm2), .int .i64 xn2, .int .i64 wd2, .int .u64 (v2 : Int), .slice xa2 xl2.length xc2] 60 (0, 0)) := by rw [← hwa]; exact World.alloc_heap_new wr _
      have z0 : wa.cell? ⟨wr.heap.size, 0, none⟩ = some (.int .i64 op2) := by simp [World.cell?, BZ]
      have z1 : wa.cell? ⟨wr.heap.size, 1, none⟩ = some (.string (bs nm2)) := by simp [World.cell?, BZ]
      have z2 : wa.cell? ⟨wr.heap.size, 2, none⟩ = some (.int .i64 xn2) := by simp [World.cell?, BZ]
      have z3 : wa.cell? ⟨wr.heap.size, 3, none⟩ = some (.int .i64 wd2) := by simp [World.cell?, BZ]
      have z4 : wa.cell? ⟨wr.heap.size, 4, none⟩ = some (.int .u64 (v2 : Int)) := by simp [World.cell?, BZ]
      have z5 : wa.cell? ⟨wr.heap.size, 5, none⟩ = some (.slice xa2 xl2.length xc2) := by simp [World.cell?, BZ]
      have q := HG.out.2.2.1 wa (by omega) (XT.In.keep (Below.keptTo hba (by omega)) _ HG.out.2.2.2.1)
      simp only [XT.val, XT.cells] at q
      have HA := Lib.hid (And.intro hba BZ)
      clear hba BZ
      go_wp2_with fail
      (try rw [hwa])
      refine q.mono ?_
      clear q hwa r0 z0 r1 z1 r2 z2 r3 z3 r4 z4 r5 z5
      rintro e w2 ⟨y, rfl, hyn, hyi, hb2⟩
      have hst := HG.out.1.step HG.out.2.2.2.2.2.2 hlt HA.out.1 hb2 (by rw [hyn, HG.out.2.2.2.2.1]) hyi
      have hcN := (HG.out.2.1.block (HA.out.1.block B hzB)).block (hb2.block B (by omega))
      have hpc : ∀ j u, ((XT.mk op2 nm2 xn2 wd2 v2 xa2 xc2 xl2)).cells[j]? = some u → w2.cell? ⟨B, k * 6 + j, none⟩ = some u := elemK (K := kdX) (x := (XT.mk op2 nm2 xn2 wd2 v2 xa2 xc2 xl2)) hcN HG.out.1.len
      have s0 : w2.cell? ⟨B, k * 6, none⟩ = some (.int .i64 op2) := hpc 0 _ rfl
      have s1 : w2.cell? ⟨B, k * 6 + 1, none⟩ = some (.string (bs nm2)) := hpc 1 _ rfl
      have s2 : w2.cell? ⟨B, k * 6 + 2, none⟩ = some (.int .i64 xn2) := hpc 2 _ rfl
      have s3 : w2.cell? ⟨B, k * 6 + 3, none⟩ = some (.int .i64 wd2) := hpc 3 _ rfl
      have s4 : w2.cell? ⟨B, k * 6 + 4, none⟩ = some (.int .u64 (v2 : Int)) := hpc 4 _ rfl
      have s5 : w2.cell? ⟨B, k * 6 + 5, none⟩ = some (.slice xa2 xl2.length xc2) := hpc 5 _ rfl
      have f0 : w2.frozen? ⟨B, k * 6, none⟩ = false := hcN.frozen _
      have f1 : w2.frozen? ⟨B, k * 6 + 1, none⟩ = false := hcN.frozen _
      have f2 : w2.frozen? ⟨B, k * 6 + 2, none⟩ = false := hcN.frozen _
      have f3 : w2.frozen? ⟨B, k * 6 + 3, none⟩ = false := hcN.frozen _
      have f4 : w2.frozen? ⟨B, k * 6 + 4, none⟩ = false := hcN.frozen _
      have f5 : w2.frozen? ⟨B, k * 6 + 5, none⟩ = false := hcN.frozen _
      obtain ⟨op3, nm3, xn3, wd3, v3, xa3, xc3, xl3⟩ := y
      have e9 : putC w2 B (k * 6) ((XT.mk op3 nm3 xn3 wd3 v3 xa3 xc3 xl3)).cells = ((((((w2.setCell ⟨B, k * 6, none⟩ (.int .i64 op3)).setCell ⟨B, k * 6 + 1, none⟩ (.string (bs nm3))).setCell ⟨B, k * 6 + 2, none⟩ (.int .i64 xn3)).setCell ⟨B, k * 6 + 3, none⟩ (.int .i64 wd3)).setCell ⟨B, k * 6 + 4, none⟩ (.int .u64 (v3 : Int))).setCell ⟨B, k * 6 + 5, none⟩ (.slice xa3 xl3.length xc3)) := by simp only [XT.cells, putC, Nat.add_assoc, Nat.reduceAdd]
      have hst2 := hst
      rw [show kdX.k = 6 from rfl, show kdX.cells ((XT.mk op3 nm3 xn3 wd3 v3 xa3 xc3 xl3)) = ((XT.mk op3 nm3 xn3 wd3 v3 xa3 xc3 xl3)).cells from rfl, e9] at hst2
      have hlow := HG.out.2.2.2.2.2.1.trans ((HA.out.1.mono hzw).trans ((hb2.mono (by omega)).trans (putC_below (g := B) HG.out.2.2.2.2.2.2 ((XT.mk op3 nm3 xn3 wd3 v3 xa3 xc3 xl3)).cells w2 (k * 6))))
      rw [e9] at hlow
      have HF := Lib.hid (And.intro hst2 (And.intro hlow HG.out.2.2.2.2.2.2))
      clear hst hst2 hlow e9 hcN hpc hyn hyi hb2 HG HA
      simp only [XT.cells]
      go_wp2
      cases gk with
      | zero => omega
      | succ gg =>
        go_roundg gg
        case rel => exact ⟨k + 1, _, rfl, by omega, fun _ => ⟨B, rfl, HF.out.2.2, HF.out.1⟩, fun h => by omega, HF.out.2.1⟩
        case measure => omega
    · have d1 : decide (k < l.length) = false := by simpa using hlt
      have d2 : decide ((k : Int) < (l.length : Int)) = false := by rw [decide_eq_false_iff_not]; omega
      have hkl : k = l.length := by omega
      have hE : ∃ ys : List XT, ys.length = l.length ∧ ys.map XT.nrm = l.map XT.nrm ∧ InRow 6 XT.cells (XT.In wr.heap.size (frm wr w.heap.size)) wr.heap.size (frm wr w.heap.size) ys a1 := by
        by_cases h0 : l.length = 0
        · have : l = [] := List.length_eq_zero_iff.1 h0
          subst this
          exact ⟨[], rfl, rfl, trivial⟩
        · obtain ⟨B, rfl, hB, hS⟩ := hst (by omega)
          subst hkl
          obtain ⟨h1, h2⟩ := hS.done hB
          exact ⟨ys, hS.len, h1, h2⟩
      have HE := Lib.hid hE
      clear hE hst hnil
      go_wp2
      go_ret
      obtain ⟨zs, h1, h2, h3⟩ := HE.out
      exact ⟨a1, c1, zs, by rw [h1]; rfl, h2, h3, hbw⟩
set_option maxHeartbeats 8000000 in
set_option maxRecDepth 100000 in
theorem copiedRowS (n0 : Nat) (l : List ST) (hll : l.length ≤ 4000000) (w : World) (hn0 : n0 ≤ w.heap.size) (hc : ∀ x ∈ l, ∀ V, w.heap.size ≤ V.heap.size → x.In n0 V → Calls Tryz.prog 129 #[x.val] V (Cp1 kdS ST.nrm x V)) (a : Option Addr) (c : Nat) (hin : InRow 4 ST.cells (ST.In n0 w) n0 w l a) : Calls Tryz.prog 128 #[.slice a l.length c, .func (.func 129) #[] #[]] w (CpPost kdS ST.nrm l w) := by
  have HI := Lib.hid hin
  have HC := Lib.hid hc
  have q := cloneKS l hll a c n0 w hn0 hin
  clear hc hin
  go_enter Tryz.func128, Tryz.ntmps128
  go_wp2_with fail
  refine q.mono ?_
  clear q
  rintro e w1 ⟨a1, c1, rfl, hown, hb1⟩
  have hS0 : (0 < l.length → ∃ B, a1 = some ⟨B, 0, none⟩ ∧ w.heap.size ≤ B ∧ CpS kdS ST.nrm w B l 0 [] w1) := fun h => by
    obtain ⟨g, cap, h2⟩ := own_some hown h
    injection h2 with h3
    subst h3
    obtain ⟨s1, s2⟩ := CpS.start (K := kdS) ST.nrm hown hb1 (Nat.le_refl _)
    exact ⟨g, rfl, s2, s1⟩
  have H0 := Lib.hid (And.intro hS0 hb1)
  clear hS0 hown hb1
  go_wp2_with fail
  go_loopg [11] l.length (fun gh u wr => ∃ (k : Nat) (ys : List ST), u = .int .i64 k ∧ k + gh = l.length ∧ (0 < l.length → ∃ B, a1 = some ⟨B, 0, none⟩ ∧ w.heap.size ≤ B ∧ CpS kdS ST.nrm w B l k ys wr) ∧ (l.length = 0 → ys = []) ∧ Below w.heap.size w wr)
  case atStart => exact ⟨0, [], rfl, by omega, H0.out.1, fun _ => rfl, H0.out.2⟩
  case round =>
    obtain ⟨k, ys, rfl, hk, hst, hnil, hbw⟩ := hrel
    clear H0
    by_cases hlt : k < l.length
    · have d1 : decide (k < l.length) = true := by simpa using hlt
      have d2 : decide ((k : Int) < (l.length : Int)) = true := by rw [decide_eq_true_eq]; omega
      have x1 : (k : Int) < (l.length : Int) := by omega
      obtain ⟨B, rfl, hB, hS⟩ := hst (by omega)
      obtain ⟨b0, o0, he0, hb0, hr0, hx0⟩ := HI.out.at (i := k) hlt
      have hcx := HC.out l[k] (List.getElem_mem hlt)
      have hdr : l.drop k = l[k] :: l.drop (k + 1) := (List.getElem_cons_drop hlt).symm
      have hcs := hS.cells
      rw [hdr, List.flatMap_append, List.flatMap_cons] at hcs
      have hxi := ST.In.keep (Below.keptTo hbw hn0) _ hx0
      have hxk : ST.nrm l[k] = ST.nrm l[k] := rfl
      generalize hgx : l[k] = x at hcs hcx hxi hdr
      have hpc : ∀ j u, x.cells[j]? = some u → wr.cell? ⟨B, k * 4 + j, none⟩ = some u := elemK (K := kdS) hcs hS.len
      have HG := Lib.hid (And.intro hS (And.intro hcs (And.intro hcx (And.intro hxi (And.intro hgx (And.intro hbw hB))))))
      have hzB := hS.top
      have hzw := hbw.size
      clear hst hnil hr0 hx0 he0 hb0 hcs hcx hxi hdr hxk hS hbw
      obtain ⟨op2, nm2, xa2, xc2, xl2, sa2, sc2, sl2⟩ := x
      have r0 : wr.cell? ⟨B, k * 4, none⟩ = some (.int .i64 op2) := hpc 0 _ rfl
      have r1 : wr.cell? ⟨B, k * 4 + 1, none⟩ = some (.string (bs nm2)) := hpc 1 _ rfl
      have r2 : wr.cell? ⟨B, k * 4 + 2, none⟩ = some (.slice xa2 xl2.length xc2) := hpc 2 _ rfl
      have r3 : wr.cell? ⟨B, k * 4 + 3, none⟩ = some (.slice sa2 sl2.length sc2) := hpc 3 _ rfl
      clear hpc
      obtain ⟨wa, hwa⟩ : ∃ wa, wr.alloc (.cells #[.int .i64 op2, .string (bs nm2), .slice xa2 xl2.length xc2, .slice sa2 sl2.length sc2] 159) = wa := ⟨_, rfl⟩
      have hza : wa.heap.size = wr.heap.size + 1 := by rw [← hwa]; simp
      have hba : Below wr.heap.size wr wa := by rw [← hwa]; exact (Below.refl _ _).alloc (Nat.le_refl _) _
      have BZ : wa.heap[wr.heap.size]? = some (.cells #[.int .i64 op2, .string (bs nm2), .slice xa2 xl2.length xc2, .slice sa2 sl2.length sc2] 159 (0, 0)) := by rw [← hwa]; exact World.alloc_heap_new wr _
      have z0 : wa.cell? ⟨wr.heap.size, 0, none⟩ = some (.int .i64 op2) := by simp [World.cell?, BZ]
      have z1 : wa.cell? ⟨wr.heap.size, 1, none⟩ = some (.string (bs nm2)) := by simp [World.cell?, BZ]
      have z2 : wa.cell? ⟨wr.heap.size, 2, none⟩ = some (.slice xa2 xl2.length xc2) := by simp [World.cell?, BZ]
      have z3 : wa.cell? ⟨wr.heap.size, 3, none⟩ = some (.slice sa2 sl2.length sc2) := by simp [World.cell?, BZ]
      have q := HG.out.2.2.1 wa (by omega) (ST.In.keep (Below.keptTo hba (by omega)) _ HG.out.2.2.2.1)
      simp only [ST.val, ST.cells] at q
      have HA := Lib.hid (And.intro hba BZ)
      clear hba BZ
      go_wp2_with fail
      (try rw [hwa])
      refine q.mono ?_
      clear q hwa r0 z0 r1 z1 r2 z2 r3 z3
      rintro e w2 ⟨y, rfl, hyn, hyi, hb2⟩
      have hst := HG.out.1.step HG.out.2.2.2.2.2.2 hlt HA.out.1 hb2 (by rw [hyn, HG.out.2.2.2.2.1]) hyi
      have hcN := (HG.out.2.1.block (HA.out.1.block B hzB)).block (hb2.block B (by omega))
      have hpc : ∀ j u, ((ST.mk op2 nm2 xa2 xc2 xl2 sa2 sc2 sl2)).cells[j]? = some u → w2.cell? ⟨B, k * 4 + j, none⟩ = some u := elemK (K := kdS) (x := (ST.mk op2 nm2 xa2 xc2 xl2 sa2 sc2 sl2)) hcN HG.out.1.len
      have s0 : w2.cell? ⟨B, k * 4, none⟩ = some (.int .i64 op2) := hpc 0 _ rfl
      have s1 : w2.cell? ⟨B, k * 4 + 1, none⟩ = some (.string (bs nm2)) := hpc 1 _ rfl
      have s2 : w2.cell? ⟨B, k * 4 + 2, none⟩ = some (.slice xa2 xl2.length xc2) := hpc 2 _ rfl
      have s3 : w2.cell? ⟨B, k * 4 + 3, none⟩ = some (.slice sa2 sl2.length sc2) := hpc 3 _ rfl
      have f0 : w2.frozen? ⟨B, k * 4, none⟩ = false := hcN.frozen _
      have f1 : w2.frozen? ⟨B, k * 4 + 1, none⟩ = false := hcN.frozen _
      have f2 : w2.frozen? ⟨B, k * 4 + 2, none⟩ = false := hcN.frozen _
      have f3 : w2.frozen? ⟨B, k * 4 + 3, none⟩ = false := hcN.frozen _
      obtain ⟨op3, nm3, xa3, xc3, xl3, sa3, sc3, sl3⟩ := y
      have e9 : putC w2 B (k * 4) ((ST.mk op3 nm3 xa3 xc3 xl3 sa3 sc3 sl3)).cells = ((((w2.setCell ⟨B, k * 4, none⟩ (.int .i64 op3)).setCell ⟨B, k * 4 + 1, none⟩ (.string (bs nm3))).setCell ⟨B, k * 4 + 2, none⟩ (.slice xa3 xl3.length xc3)).setCell ⟨B, k * 4 + 3, none⟩ (.slice sa3 sl3.length sc3)) := by simp only [ST.cells, putC, Nat.add_assoc, Nat.reduceAdd]
      have hst2 := hst
      rw [show kdS.k = 4 from rfl, show kdS.cells ((ST.mk op3 nm3 xa3 xc3 xl3 sa3 sc3 sl3)) = ((ST.mk op3 nm3 xa3 xc3 xl3 sa3 sc3 sl3)).cells from rfl, e9] at hst2
      have hlow := HG.out.2.2.2.2.2.1.trans ((HA.out.1.mono hzw).trans ((hb2.mono (by omega)).trans (putC_below (g := B) HG.out.2.2.2.2.2.2 ((ST.mk op3 nm3 xa3 xc3 xl3 sa3 sc3 sl3)).cells w2 (k * 4))))
      rw [e9] at hlow
      have HF := Lib.hid (And.intro hst2 (And.intro hlow HG.out.2.2.2.2.2.2))
      clear hst hst2 hlow e9 hcN hpc hyn hyi hb2 HG HA
      simp only [ST.cells]
      go_wp2
      cases gk with
      | zero => omega
      | succ gg =>
        go_roundg gg
        case rel => exact ⟨k + 1, _, rfl, by omega, fun _ => ⟨B, rfl, HF.out.2.2, HF.out.1⟩, fun h => by omega, HF.out.2.1⟩
        case measure => omega
    · have d1 : decide (k < l.length) = false := by simpa using hlt
      have d2 : decide ((k : Int) < (l.length : Int)) = false := by rw [decide_eq_false_iff_not]; omega
      have hkl : k = l.length := by omega
      have hE : ∃ ys : List ST, ys.length = l.length ∧ ys.map ST.nrm = l.map ST.nrm ∧ InRow 4 ST.cells (ST.In wr.heap.size (frm wr w.heap.size)) wr.heap.size (frm wr w.heap.size) ys a1 := by
        by_cases h0 : l.length = 0
        · have : l = [] := List.length_eq_zero_iff.1 h0
          subst this
          exact ⟨[], rfl, rfl, trivial⟩
        · obtain ⟨B, rfl, hB, hS⟩ := hst (by omega)
          subst hkl
          obtain ⟨h1, h2⟩ := hS.done hB
          exact ⟨ys, hS.len, h1, h2⟩
      have HE := Lib.hid hE
      clear hE hst hnil
      go_wp2
      go_ret
      obtain ⟨zs, h1, h2, h3⟩ := HE.out
      exact ⟨a1, c1, zs, by rw [h1]; rfl, h2, h3, hbw⟩
set_option maxHeartbeats 8000000 in
set_option maxRecDepth 100000 in
theorem copiedRowI (n0 : Nat) (l : List IT) (hll : l.length ≤ 4000000) (w : World) (hn0 : n0 ≤ w.heap.size) (hc : ∀ x ∈ l, ∀ V, w.heap.size ≤ V.heap.size → x.In n0 V → Calls Tryz.prog 81 #[x.val] V (Cp1 kdI IT.nrm x V)) (a : Option Addr) (c : Nat) (hin : InRow 9 IT.cells (IT.In n0 w) n0 w l a) : Calls Tryz.prog 80 #[.slice a l.length c, .func (.func 81) #[] #[]] w (CpPost kdI IT.nrm l w) := by
  have HI := Lib.hid hin
  have HC := Lib.hid hc
  have q := cloneKI l hll a c n0 w hn0 hin
  clear hc hin
  go_enter Tryz.func80, Tryz.ntmps80
  go_wp2_with fail
  refine q.mono ?_
  clear q
  rintro e w1 ⟨a1, c1, rfl, hown, hb1⟩
  have hS0 : (0 < l.length → ∃ B, a1 = some ⟨B, 0, none⟩ ∧ w.heap.size ≤ B ∧ CpS kdI IT.nrm w B l 0 [] w1) := fun h => by
    obtain ⟨g, cap, h2⟩ := own_some hown h
    injection h2 with h3
    subst h3
    obtain ⟨s1, s2⟩ := CpS.start (K := kdI) IT.nrm hown hb1 (Nat.le_refl _)
    exact ⟨g, rfl, s2, s1⟩
  have H0 := Lib.hid (And.intro hS0 hb1)
  clear hS0 hown hb1
  go_wp2_with fail
  go_loopg [11] l.length (fun gh u wr => ∃ (k : Nat) (ys : List IT), u = .int .i64 k ∧ k + gh = l.length ∧ (0 < l.length → ∃ B, a1 = some ⟨B, 0, none⟩ ∧ w.heap.size ≤ B ∧ CpS kdI IT.nrm w B l k ys wr) ∧ (l.length = 0 → ys = []) ∧ Below w.heap.size w wr)
  case atStart => exact ⟨0, [], rfl, by omega, H0.out.1, fun _ => rfl, H0.out.2⟩
  case round =>
    obtain ⟨k, ys, rfl, hk, hst, hnil, hbw⟩ := hrel
    clear H0
    by_cases hlt : k < l.length
    · have d1 : decide (k < l.length) = true := by simpa using hlt
      have d2 : decide ((k : Int) < (l.length : Int)) = true := by rw [decide_eq_true_eq]; omega
      have x1 : (k : Int) < (l.length : Int) := by omega
      obtain ⟨B, rfl, hB, hS⟩ := hst (by omega)
      obtain ⟨b0, o0, he0, hb0, hr0, hx0⟩ := HI.out.at (i := k) hlt
      have hcx := HC.out l[k] (List.getElem_mem hlt)
      have hdr : l.drop k = l[k] :: l.drop (k + 1) := (List.getElem_cons_drop hlt).symm
      have hcs := hS.cells
      rw [hdr, List.flatMap_append, List.flatMap_cons] at hcs
      have hxi := IT.In.keep (Below.keptTo hbw hn0) _ hx0
      have hxk : IT.nrm l[k] = IT.nrm l[k] := rfl
      generalize hgx : l[k] = x at hcs hcx hxi hdr
      have hpc : ∀ j u, x.cells[j]? = some u → wr.cell? ⟨B, k * 9 + j, none⟩ = some u := elemK (K := kdI) hcs hS.len
      have HG := Lib.hid (And.intro hS (And.intro hcs (And.intro hcx (And.intro hxi (And.intro hgx (And.intro hbw hB))))))
      have hzB := hS.top
      have hzw := hbw.size
      clear hst hnil hr0 hx0 he0 hb0 hcs hcx hxi hdr hxk hS hbw
      obtain ⟨op2, nm2, nf2, xa2, xc2, xl2, sa2, sc2, sl2, la2, lc2, ll2, ea2, ec2, el2, pa2, pc2, pl2, ba2, bc2, bl2⟩ := x
      have r0 : wr.cell? ⟨B, k * 9, none⟩ = some (.int .i64 op2) := hpc 0 _ rfl
      have r1 : wr.cell? ⟨B, k * 9 + 1, none⟩ = some (.string (bs nm2)) := hpc 1 _ rfl
      have r2 : wr.cell? ⟨B, k * 9 + 2, none⟩ = some (.string (bs nf2)) := hpc 2 _ rfl
      have r3 : wr.cell? ⟨B, k * 9 + 3, none⟩ = some (.slice xa2 xl2.length xc2) := hpc 3 _ rfl
      have r4 : wr.cell? ⟨B, k * 9 + 4, none⟩ = some (.slice sa2 sl2.length sc2) := hpc 4 _ rfl
      have r5 : wr.cell? ⟨B, k * 9 + 5, none⟩ = some (.slice la2 ll2.length lc2) := hpc 5 _ rfl
      have r6 : wr.cell? ⟨B, k * 9 + 6, none⟩ = some (.slice ea2 el2.length ec2) := hpc 6 _ rfl
      have r7 : wr.cell? ⟨B, k * 9 + 7, none⟩ = some (.slice pa2 pl2.length pc2) := hpc 7 _ rfl
      have r8 : wr.cell? ⟨B, k * 9 + 8, none⟩ = some (.slice ba2 bl2.length bc2) := hpc 8 _ rfl
      clear hpc
      obtain ⟨wa, hwa⟩ : ∃ wa, wr.alloc (.cells #[.int .i64 op2, .string (bs nm2), .string (bs nf2), .slice xa2 xl2.length xc2, .slice sa2 sl2.length sc2, .slice la2 ll2.length lc2, .slice ea2 el2.length ec2, .slice pa2 pl2.length pc2, .slice ba2 bl2.length bc2] 54) = wa := ⟨_, rfl⟩
      have hza : wa.heap.size = wr.heap.size + 1 := by rw [← hwa]; simp
      have hba : Below wr.heap.size wr wa := by rw [← hwa]; exact (Below.refl _ _).alloc (Nat.le_refl _) _
      have BZ : wa.heap[wr.heap.size]? = some (.cells #[.int .i64 op2, .string (bs nm2), .string (bs nf2), .slice xa2 xl2.length xc2, .slice sa2 sl2.length sc2, .slice la2 ll2.length lc2, .slice ea2 el2.length ec2, .slice pa2 pl2.length pc2, .slice ba2 bl2.length bc2] 54 (0, 0)) := by rw [← hwa]; exact World.alloc_heap_new wr _
      have z0 : wa.cell? ⟨wr.heap.size, 0, none⟩ = some (.int .i64 op2) := by simp [World.cell?, BZ]
      have z1 : wa.cell? ⟨wr.heap.size, 1, none⟩ = some (.string (bs nm2)) := by simp [World.cell?, BZ]
      have z2 : wa.cell? ⟨wr.heap.size, 2, none⟩ = some (.string (bs nf2)) := by simp [World.cell?, BZ]
      have z3 : wa.cell? ⟨wr.heap.size, 3, none⟩ = some (.slice xa2 xl2.length xc2) := by simp [World.cell?, BZ]
      have z4 : wa.cell? ⟨wr.heap.size, 4, none⟩ = some (.slice sa2 sl2.length sc2) := by simp [World.cell?, BZ]
      have z5 : wa.cell? ⟨wr.heap.size, 5, none⟩ = some (.slice la2 ll2.length lc2) := by simp [World.cell?, BZ]
      have z6 : wa.cell? ⟨wr.heap.size, 6, none⟩ = some (.slice ea2 el2.length ec2) := by simp [World.cell?, BZ]
      have z7 : wa.cell? ⟨wr.heap.size, 7, none⟩ = some (.slice pa2 pl2.length pc2) := by simp [World.cell?, BZ]
      have z8 : wa.cell? ⟨wr.heap.size, 8, none⟩ = some (.slice ba2 bl2.length bc2) := by simp [World.cell?, BZ]
      have q := HG.out.2.2.1 wa (by omega) (IT.In.keep (Below.keptTo hba (by omega)) _ HG.out.2.2.2.1)
      simp only [IT.val, IT.cells] at q
      have HA := Lib.hid (And.intro hba BZ)
      clear hba BZ
      go_wp2_with fail
      (try rw [hwa])
      refine q.mono ?_
      clear q hwa r0 z0 r1 z1 r2 z2 r3 z3 r4 z4 r5 z5 r6 z6 r7 z7 r8 z8
      rintro e w2 ⟨y, rfl, hyn, hyi, hb2⟩
      have hst := HG.out.1.step HG.out.2.2.2.2.2.2 hlt HA.out.1 hb2 (by rw [hyn, HG.out.2.2.2.2.1]) hyi
      have hcN := (HG.out.2.1.block (HA.out.1.block B hzB)).block (hb2.block B (by omega))
      have hpc : ∀ j u, ((IT.mk op2 nm2 nf2 xa2 xc2 xl2 sa2 sc2 sl2 la2 lc2 ll2 ea2 ec2 el2 pa2 pc2 pl2 ba2 bc2 bl2)).cells[j]? = some u → w2.cell? ⟨B, k * 9 + j, none⟩ = some u := elemK (K := kdI) (x := (IT.mk op2 nm2 nf2 xa2 xc2 xl2 sa2 sc2 sl2 la2 lc2 ll2 ea2 ec2 el2 pa2 pc2 pl2 ba2 bc2 bl2)) hcN HG.out.1.len
      have s0 : w2.cell? ⟨B, k * 9, none⟩ = some (.int .i64 op2) := hpc 0 _ rfl
      have s1 : w2.cell? ⟨B, k * 9 + 1, none⟩ = some (.string (bs nm2)) := hpc 1 _ rfl
      have s2 : w2.cell? ⟨B, k * 9 + 2, none⟩ = some (.string (bs nf2)) := hpc 2 _ rfl
      have s3 : w2.cell? ⟨B, k * 9 + 3, none⟩ = some (.slice xa2 xl2.length xc2) := hpc 3 _ rfl
      have s4 : w2.cell? ⟨B, k * 9 + 4, none⟩ = some (.slice sa2 sl2.length sc2) := hpc 4 _ rfl
      have s5 : w2.cell? ⟨B, k * 9 + 5, none⟩ = some (.slice la2 ll2.length lc2) := hpc 5 _ rfl
      have s6 : w2.cell? ⟨B, k * 9 + 6, none⟩ = some (.slice ea2 el2.length ec2) := hpc 6 _ rfl
      have s7 : w2.cell? ⟨B, k * 9 + 7, none⟩ = some (.slice pa2 pl2.length pc2) := hpc 7 _ rfl
      have s8 : w2.cell? ⟨B, k * 9 + 8, none⟩ = some (.slice ba2 bl2.length bc2) := hpc 8 _ rfl
      have f0 : w2.frozen? ⟨B, k * 9, none⟩ = false := hcN.frozen _
      have f1 : w2.frozen? ⟨B, k * 9 + 1, none⟩ = false := hcN.frozen _
      have f2 : w2.frozen? ⟨B, k * 9 + 2, none⟩ = false := hcN.frozen _
      have f3 : w2.frozen? ⟨B, k * 9 + 3, none⟩ = false := hcN.frozen _
      have f4 : w2.frozen? ⟨B, k * 9 + 4, none⟩ = false := hcN.frozen _
      have f5 : w2.frozen? ⟨B, k * 9 + 5, none⟩ = false := hcN.frozen _
      have f6 : w2.frozen? ⟨B, k * 9 + 6, none⟩ = false := hcN.frozen _
      have f7 : w2.frozen? ⟨B, k * 9 + 7, none⟩ = false := hcN.frozen _
      have f8 : w2.frozen? ⟨B, k * 9 + 8, none⟩ = false := hcN.frozen _
      obtain ⟨op3, nm3, nf3, xa3, xc3, xl3, sa3, sc3, sl3, la3, lc3, ll3, ea3, ec3, el3, pa3, pc3, pl3, ba3, bc3, bl3⟩ := y
      have e9 : putC w2 B (k * 9) ((IT.mk op3 nm3 nf3 xa3 xc3 xl3 sa3 sc3 sl3 la3 lc3 ll3 ea3 ec3 el3 pa3 pc3 pl3 ba3 bc3 bl3)).cells = (((((((((w2.setCell ⟨B, k * 9, none⟩ (.int .i64 op3)).setCell ⟨B, k * 9 + 1, none⟩ (.string (bs nm3))).setCell ⟨B, k * 9 + 2, none⟩ (.string (bs nf3))).setCell ⟨B, k * 9 + 3, none⟩ (.slice xa3 xl3.length xc3)).setCell ⟨B, k * 9 + 4, none⟩ (.slice sa3 sl3.length sc3)).setCell ⟨B, k * 9 + 5, none⟩ (.slice la3 ll3.length lc3)).setCell ⟨B, k * 9 + 6, none⟩ (.slice ea3 el3.length ec3)).setCell ⟨B, k * 9 + 7, none⟩ (.slice pa3 pl3.length pc3)).setCell ⟨B, k * 9 + 8, none⟩ (.slice ba3 bl3.length bc3)) := by simp only [IT.cells, putC, Nat.add_assoc, Nat.reduceAdd]
      have hst2 := hst
      rw [show kdI.k = 9 from rfl, show kdI.cells ((IT.mk op3 nm3 nf3 xa3 xc3 xl3 sa3 sc3 sl3 la3 lc3 ll3 ea3 ec3 el3 pa3 pc3 pl3 ba3 bc3 bl3)) = ((IT.mk op3 nm3 nf3 xa3 xc3 xl3 sa3 sc3 sl3 la3 lc3 ll3 ea3 ec3 el3 pa3 pc3 pl3 ba3 bc3 bl3)).cells from rfl, e9] at hst2
      have hlow := HG.out.2.2.2.2.2.1.trans ((HA.out.1.mono hzw).trans ((hb2.mono (by omega)).trans (putC_below (g := B) HG.out.2.2.2.2.2.2 ((IT.mk op3 nm3 nf3 xa3 xc3 xl3 sa3 sc3 sl3 la3 lc3 ll3 ea3 ec3 el3 pa3 pc3 pl3 ba3 bc3 bl3)).cells w2 (k * 9))))
      rw [e9] at hlow
      have HF := Lib.hid (And.intro hst2 (And.intro hlow HG.out.2.2.2.2.2.2))
      clear hst hst2 hlow e9 hcN hpc hyn hyi hb2 HG HA
      simp only [IT.cells]
      go_wp2
      cases gk with
      | zero => omega
      | succ gg =>
        go_roundg gg
        case rel => exact ⟨k + 1, _, rfl, by omega, fun _ => ⟨B, rfl, HF.out.2.2, HF.out.1⟩, fun h => by omega, HF.out.2.1⟩
        case measure => omega
    · have d1 : decide (k < l.length) = false := by simpa using hlt
      have d2 : decide ((k : Int) < (l.length : Int)) = false := by rw [decide_eq_false_iff_not]; omega
      have hkl : k = l.length := by omega
      have hE : ∃ ys : List IT, ys.length = l.length ∧ ys.map IT.nrm = l.map IT.nrm ∧ InRow 9 IT.cells (IT.In wr.heap.size (frm wr w.heap.size)) wr.heap.size (frm wr w.heap.size) ys a1 := by
        by_cases h0 : l.length = 0
        · have : l = [] := List.length_eq_zero_iff.1 h0
          subst this
          exact ⟨[], rfl, rfl, trivial⟩
        · obtain ⟨B, rfl, hB, hS⟩ := hst (by omega)
          subst hkl
          obtain ⟨h1, h2⟩ := hS.done hB
          exact ⟨ys, hS.len, h1, h2⟩
      have HE := Lib.hid hE
      clear hE hst hnil
      go_wp2
      go_ret
      obtain ⟨zs, h1, h2, h3⟩ := HE.out
      exact ⟨a1, c1, zs, by rw [h1]; rfl, h2, h3, hbw⟩
set_option maxHeartbeats 8000000 in
set_option maxRecDepth 100000 in
theorem copiedRowB (n0 : Nat) (l : List BT) (hll : l.length ≤ 4000000) (w : World) (hn0 : n0 ≤ w.heap.size) (hc : ∀ x ∈ l, ∀ V, w.heap.size ≤ V.heap.size → x.In n0 V → Calls Tryz.prog 77 #[x.val] V (Cp1 kdB BT.nrm x V)) (a : Option Addr) (c : Nat) (hin : InRow 7 BT.cells (BT.In n0 w) n0 w l a) : Calls Tryz.prog 76 #[.slice a l.length c, .func (.func 77) #[] #[]] w (CpPost kdB BT.nrm l w) := by
  have HI := Lib.hid hin
  have HC := Lib.hid hc
  have q := cloneKB l hll a c n0 w hn0 hin
  clear hc hin
  go_enter Tryz.func76, Tryz.ntmps76
  go_wp2_with fail
  refine q.mono ?_
  clear q
  rintro e w1 ⟨a1, c1, rfl, hown, hb1⟩
  have hS0 : (0 < l.length → ∃ B, a1 = some ⟨B, 0, none⟩ ∧ w.heap.size ≤ B ∧ CpS kdB BT.nrm w B l 0 [] w1) := fun h => by
    obtain ⟨g, cap, h2⟩ := own_some hown h
    injection h2 with h3
    subst h3
    obtain ⟨s1, s2⟩ := CpS.start (K := kdB) BT.nrm hown hb1 (Nat.le_refl _)
    exact ⟨g, rfl, s2, s1⟩
  have H0 := Lib.hid (And.intro hS0 hb1)
  clear hS0 hown hb1
  go_wp2_with fail
  go_loopg [11] l.length (fun gh u wr => ∃ (k : Nat) (ys : List BT), u = .int .i64 k ∧ k + gh = l.length ∧ (0 < l.length → ∃ B, a1 = some ⟨B, 0, none⟩ ∧ w.heap.size ≤ B ∧ CpS kdB BT.nrm w B l k ys wr) ∧ (l.length = 0 → ys = []) ∧ Below w.heap.size w wr)
  case atStart => exact ⟨0, [], rfl, by omega, H0.out.1, fun _ => rfl, H0.out.2⟩
  case round =>
    obtain ⟨k, ys, rfl, hk, hst, hnil, hbw⟩ := hrel
    clear H0
    by_cases hlt : k < l.length
    · have d1 : decide (k < l.length) = true := by simpa using hlt
      have d2 : decide ((k : Int) < (l.length : Int)) = true := by rw [decide_eq_true_eq]; omega
      have x1 : (k : Int) < (l.length : Int) := by omega
      obtain ⟨B, rfl, hB, hS⟩ := hst (by omega)
      obtain ⟨b0, o0, he0, hb0, hr0, hx0⟩ := HI.out.at (i := k) hlt
      have hcx := HC.out l[k] (List.getElem_mem hlt)
      have hdr : l.drop k = l[k] :: l.drop (k + 1) := (List.getElem_cons_drop hlt).symm
      have hcs := hS.cells
      rw [hdr, List.flatMap_append, List.flatMap_cons] at hcs
      have hxi := BT.In.keep (Below.keptTo hbw hn0) _ hx0
      have hxk : BT.nrm l[k] = BT.nrm l[k] := rfl
      generalize hgx : l[k] = x at hcs hcx hxi hdr
      have hpc : ∀ j u, x.cells[j]? = some u → wr.cell? ⟨B, k * 7 + j, none⟩ = some u := elemK (K := kdB) hcs hS.len
      have HG := Lib.hid (And.intro hS (And.intro hcs (And.intro hcx (And.intro hxi (And.intro hgx (And.intro hbw hB))))))
      have hzB := hS.top
      have hzw := hbw.size
      clear hst hnil hr0 hx0 he0 hb0 hcs hcx hxi hdr hxk hS hbw
      obtain ⟨bn2, ⟨op2, nm2, xn2, wd2, v2, xa2, xc2, xl2⟩⟩ := x
      have r0 : wr.cell? ⟨B, k * 7, none⟩ = some (.string (bs bn2)) := hpc 0 _ rfl
      have r1 : wr.cell? ⟨B, k * 7 + 1, none⟩ = some (.int .i64 op2) := hpc 1 _ rfl
      have r2 : wr.cell? ⟨B, k * 7 + 2, none⟩ = some (.string (bs nm2)) := hpc 2 _ rfl
      have r3 : wr.cell? ⟨B, k * 7 + 3, none⟩ = some (.int .i64 xn2) := hpc 3 _ rfl
      have r4 : wr.cell? ⟨B, k * 7 + 4, none⟩ = some (.int .i64 wd2) := hpc 4 _ rfl
      have r5 : wr.cell? ⟨B, k * 7 + 5, none⟩ = some (.int .u64 (v2 : Int)) := hpc 5 _ rfl
      have r6 : wr.cell? ⟨B, k * 7 + 6, none⟩ = some (.slice xa2 xl2.length xc2) := hpc 6 _ rfl
      clear hpc
      obtain ⟨wa, hwa⟩ : ∃ wa, wr.alloc (.cells #[.string (bs bn2), .int .i64 op2, .string (bs nm2), .int .i64 xn2, .int .i64 wd2, .int .u64 (v2 : Int), .slice xa2 xl2.length xc2] 92) = wa := ⟨_, rfl⟩
      have hza : wa.heap.size = wr.heap.size + 1 := by rw [← hwa]; simp
      have hba : Below wr.heap.size wr wa := by rw [← hwa]; exact (Below.refl _ _).alloc (Nat.le_refl _) _
      have BZ : wa.heap[wr.heap.size]? = some (.cells #[.string (bs bn2), .int .i64 op2, .string (bs nm2), .int .i64 xn2, .int .i64 wd2, .int .u64 (v2 : Int), .slice xa2 xl2.length xc2] 92 (0, 0)) := by rw [← hwa]; exact World.alloc_heap_new wr _
      have z0 : wa.cell? ⟨wr.heap.size, 0, none⟩ = some (.string (bs bn2)) := by simp [World.cell?, BZ]
      have z1 : wa.cell? ⟨wr.heap.size, 1, none⟩ = some (.int .i64 op2) := by simp [World.cell?, BZ]
      have z2 : wa.cell? ⟨wr.heap.size, 2, none⟩ = some (.string (bs nm2)) := by simp [World.cell?, BZ]
      have z3 : wa.cell? ⟨wr.heap.size, 3, none⟩ = some (.int .i64 xn2) := by simp [World.cell?, BZ]
      have z4 : wa.cell? ⟨wr.heap.size, 4, none⟩ = some (.int .i64 wd2) := by simp [World.cell?, BZ]
      have z5 : wa.cell? ⟨wr.heap.size, 5, none⟩ = some (.int .u64 (v2 : Int)) := by simp [World.cell?, BZ]
      have z6 : wa.cell? ⟨wr.heap.size, 6, none⟩ = some (.slice xa2 xl2.length xc2) := by simp [World.cell?, BZ]
      have q := HG.out.2.2.1 wa (by omega) (BT.In.keep (Below.keptTo hba (by omega)) _ HG.out.2.2.2.1)
      simp only [BT.val, BT.cells, XT.cells] at q
      have HA := Lib.hid (And.intro hba BZ)
      clear hba BZ
      go_wp2_with fail
      (try rw [hwa])
      refine q.mono ?_
      clear q hwa r0 z0 r1 z1 r2 z2 r3 z3 r4 z4 r5 z5 r6 z6
      rintro e w2 ⟨y, rfl, hyn, hyi, hb2⟩
      have hst := HG.out.1.step HG.out.2.2.2.2.2.2 hlt HA.out.1 hb2 (by rw [hyn, HG.out.2.2.2.2.1]) hyi
      have hcN := (HG.out.2.1.block (HA.out.1.block B hzB)).block (hb2.block B (by omega))
      have hpc : ∀ j u, ((BT.mk bn2 (XT.mk op2 nm2 xn2 wd2 v2 xa2 xc2 xl2))).cells[j]? = some u → w2.cell? ⟨B, k * 7 + j, none⟩ = some u := elemK (K := kdB) (x := (BT.mk bn2 (XT.mk op2 nm2 xn2 wd2 v2 xa2 xc2 xl2))) hcN HG.out.1.len
      have s0 : w2.cell? ⟨B, k * 7, none⟩ = some (.string (bs bn2)) := hpc 0 _ rfl
      have s1 : w2.cell? ⟨B, k * 7 + 1, none⟩ = some (.int .i64 op2) := hpc 1 _ rfl
      have s2 : w2.cell? ⟨B, k * 7 + 2, none⟩ = some (.string (bs nm2)) := hpc 2 _ rfl
      have s3 : w2.cell? ⟨B, k * 7 + 3, none⟩ = some (.int .i64 xn2) := hpc 3 _ rfl
      have s4 : w2.cell? ⟨B, k * 7 + 4, none⟩ = some (.int .i64 wd2) := hpc 4 _ rfl
      have s5 : w2.cell? ⟨B, k * 7 + 5, none⟩ = some (.int .u64 (v2 : Int)) := hpc 5 _ rfl
      have s6 : w2.cell? ⟨B, k * 7 + 6, none⟩ = some (.slice xa2 xl2.length xc2) := hpc 6 _ rfl
      have f0 : w2.frozen? ⟨B, k * 7, none⟩ = false := hcN.frozen _
      have f1 : w2.frozen? ⟨B, k * 7 + 1, none⟩ = false := hcN.frozen _
      have f2 : w2.frozen? ⟨B, k * 7 + 2, none⟩ = false := hcN.frozen _
      have f3 : w2.frozen? ⟨B, k * 7 + 3, none⟩ = false := hcN.frozen _
      have f4 : w2.frozen? ⟨B, k * 7 + 4, none⟩ = false := hcN.frozen _
      have f5 : w2.frozen? ⟨B, k * 7 + 5, none⟩ = false := hcN.frozen _
      have f6 : w2.frozen? ⟨B, k * 7 + 6, none⟩ = false := hcN.frozen _
      obtain ⟨bn3, ⟨op3, nm3, xn3, wd3, v3, xa3, xc3, xl3⟩⟩ := y
      have e9 : putC w2 B (k * 7) ((BT.mk bn3 (XT.mk op3 nm3 xn3 wd3 v3 xa3 xc3 xl3))).cells = (((((((w2.setCell ⟨B, k * 7, none⟩ (.string (bs bn3))).setCell ⟨B, k * 7 + 1, none⟩ (.int .i64 op3)).setCell ⟨B, k * 7 + 2, none⟩ (.string (bs nm3))).setCell ⟨B, k * 7 + 3, none⟩ (.int .i64 xn3)).setCell ⟨B, k * 7 + 4, none⟩ (.int .i64 wd3)).setCell ⟨B, k * 7 + 5, none⟩ (.int .u64 (v3 : Int))).setCell ⟨B, k * 7 + 6, none⟩ (.slice xa3 xl3.length xc3)) := by simp only [BT.cells, XT.cells, putC, Nat.add_assoc, Nat.reduceAdd]
      have hst2 := hst
      rw [show kdB.k = 7 from rfl, show kdB.cells ((BT.mk bn3 (XT.mk op3 nm3 xn3 wd3 v3 xa3 xc3 xl3))) = ((BT.mk bn3 (XT.mk op3 nm3 xn3 wd3 v3 xa3 xc3 xl3))).cells from rfl, e9] at hst2
      have hlow := HG.out.2.2.2.2.2.1.trans ((HA.out.1.mono hzw).trans ((hb2.mono (by omega)).trans (putC_below (g := B) HG.out.2.2.2.2.2.2 ((BT.mk bn3 (XT.mk op3 nm3 xn3 wd3 v3 xa3 xc3 xl3))).cells w2 (k * 7))))
      rw [e9] at hlow
      have HF := Lib.hid (And.intro hst2 (And.intro hlow HG.out.2.2.2.2.2.2))
      clear hst hst2 hlow e9 hcN hpc hyn hyi hb2 HG HA
      simp only [BT.cells, XT.cells]
      go_wp2
      cases gk with
      | zero => omega
      | succ gg =>
        go_roundg gg
        case rel => exact ⟨k + 1, _, rfl, by omega, fun _ => ⟨B, rfl, HF.out.2.2, HF.out.1⟩, fun h => by omega, HF.out.2.1⟩
        case measure => omega
    · have d1 : decide (k < l.length) = false := by simpa using hlt
      have d2 : decide ((k : Int) < (l.length : Int)) = false := by rw [decide_eq_false_iff_not]; omega
      have hkl : k = l.length := by omega
      have hE : ∃ ys : List BT, ys.length = l.length ∧ ys.map BT.nrm = l.map BT.nrm ∧ InRow 7 BT.cells (BT.In wr.heap.size (frm wr w.heap.size)) wr.heap.size (frm wr w.heap.size) ys a1 := by
        by_cases h0 : l.length = 0
        · have : l = [] := List.length_eq_zero_iff.1 h0
          subst this
          exact ⟨[], rfl, rfl, trivial⟩
        · obtain ⟨B, rfl, hB, hS⟩ := hst (by omega)
          subst hkl
          obtain ⟨h1, h2⟩ := hS.done hB
          exact ⟨ys, hS.len, h1, h2⟩
      have HE := Lib.hid hE
      clear hE hst hnil
      go_wp2
      go_ret
      obtain ⟨zs, h1, h2, h3⟩ := HE.out
      exact ⟨a1, c1, zs, by rw [h1]; rfl, h2, h3, hbw⟩
set_option maxHeartbeats 8000000 in
set_option maxRecDepth 100000 in
theorem copiedRowP (n0 : Nat) (l : List PT) (hll : l.length ≤ 4000000) (w : World) (hn0 : n0 ≤ w.heap.size) (hc : ∀ x ∈ l, ∀ V, w.heap.size ≤ V.heap.size → x.In n0 V → Calls Tryz.prog 79 #[x.val] V (Cp1 kdP PT.nrm x V)) (a : Option Addr) (c : Nat) (hin : InRow 8 PT.cells (PT.In n0 w) n0 w l a) : Calls Tryz.prog 78 #[.slice a l.length c, .func (.func 79) #[] #[]] w (CpPost kdP PT.nrm l w) := by
  have HI := Lib.hid hin
  have HC := Lib.hid hc
  have q := cloneKP l hll a c n0 w hn0 hin
  clear hc hin
  go_enter Tryz.func78, Tryz.ntmps78
  go_wp2_with fail
  refine q.mono ?_
  clear q
  rintro e w1 ⟨a1, c1, rfl, hown, hb1⟩
  have hS0 : (0 < l.length → ∃ B, a1 = some ⟨B, 0, none⟩ ∧ w.heap.size ≤ B ∧ CpS kdP PT.nrm w B l 0 [] w1) := fun h => by
    obtain ⟨g, cap, h2⟩ := own_some hown h
    injection h2 with h3
    subst h3
    obtain ⟨s1, s2⟩ := CpS.start (K := kdP) PT.nrm hown hb1 (Nat.le_refl _)
    exact ⟨g, rfl, s2, s1⟩
  have H0 := Lib.hid (And.intro hS0 hb1)
  clear hS0 hown hb1
  go_wp2_with fail
  go_loopg [11] l.length (fun gh u wr => ∃ (k : Nat) (ys : List PT), u = .int .i64 k ∧ k + gh = l.length ∧ (0 < l.length → ∃ B, a1 = some ⟨B, 0, none⟩ ∧ w.heap.size ≤ B ∧ CpS kdP PT.nrm w B l k ys wr) ∧ (l.length = 0 → ys = []) ∧ Below w.heap.size w wr)
  case atStart => exact ⟨0, [], rfl, by omega, H0.out.1, fun _ => rfl, H0.out.2⟩
  case round =>
    obtain ⟨k, ys, rfl, hk, hst, hnil, hbw⟩ := hrel
    clear H0
    by_cases hlt : k < l.length
    · have d1 : decide (k < l.length) = true := by simpa using hlt
      have d2 : decide ((k : Int) < (l.length : Int)) = true := by rw [decide_eq_true_eq]; omega
      have x1 : (k : Int) < (l.length : Int) := by omega
      obtain ⟨B, rfl, hB, hS⟩ := hst (by omega)
      obtain ⟨b0, o0, he0, hb0, hr0, hx0⟩ := HI.out.at (i := k) hlt
      have hcx := HC.out l[k] (List.getElem_mem hlt)
      have hdr : l.drop k = l[k] :: l.drop (k + 1) := (List.getElem_cons_drop hlt).symm
      have hcs := hS.cells
      rw [hdr, List.flatMap_append, List.flatMap_cons] at hcs
      have hxi := PT.In.keep (Below.keptTo hbw hn0) _ hx0
      have hxk : PT.nrm l[k] = PT.nrm l[k] := rfl
      generalize hgx : l[k] = x at hcs hcx hxi hdr
      have hpc : ∀ j u, x.cells[j]? = some u → wr.cell? ⟨B, k * 8 + j, none⟩ = some u := elemK (K := kdP) hcs hS.len
      have HG := Lib.hid (And.intro hS (And.intro hcs (And.intro hcx (And.intro hxi (And.intro hgx (And.intro hbw hB))))))
      have hzB := hS.top
      have hzw := hbw.size
      clear hst hnil hr0 hx0 he0 hb0 hcs hcx hxi hdr hxk hS hbw
      obtain ⟨bn2, po2, ⟨op2, nm2, xn2, wd2, v2, xa2, xc2, xl2⟩⟩ := x
      have r0 : wr.cell? ⟨B, k * 8, none⟩ = some (.string (bs bn2)) := hpc 0 _ rfl
      have r1 : wr.cell? ⟨B, k * 8 + 1, none⟩ = some (.bool po2) := hpc 1 _ rfl
      have r2 : wr.cell? ⟨B, k * 8 + 2, none⟩ = some (.int .i64 op2) := hpc 2 _ rfl
      have r3 : wr.cell? ⟨B, k * 8 + 3, none⟩ = some (.string (bs nm2)) := hpc 3 _ rfl
      have r4 : wr.cell? ⟨B, k * 8 + 4, none⟩ = some (.int .i64 xn2) := hpc 4 _ rfl
      have r5 : wr.cell? ⟨B, k * 8 + 5, none⟩ = some (.int .i64 wd2) := hpc 5 _ rfl
      have r6 : wr.cell? ⟨B, k * 8 + 6, none⟩ = some (.int .u64 (v2 : Int)) := hpc 6 _ rfl
      have r7 : wr.cell? ⟨B, k * 8 + 7, none⟩ = some (.slice xa2 xl2.length xc2) := hpc 7 _ rfl
      clear hpc
      obtain ⟨wa, hwa⟩ : ∃ wa, wr.alloc (.cells #[.string (bs bn2), .bool po2, .int .i64 op2, .string (bs nm2), .int .i64 xn2, .int .i64 wd2, .int .u64 (v2 : Int), .slice xa2 xl2.length xc2] 90) = wa := ⟨_, rfl⟩
      have hza : wa.heap.size = wr.heap.size + 1 := by rw [← hwa]; simp
      have hba : Below wr.heap.size wr wa := by rw [← hwa]; exact (Below.refl _ _).alloc (Nat.le_refl _) _
      have BZ : wa.heap[wr.heap.size]? = some (.cells #[.string (bs bn2), .bool po2, .int .i64 op2, .string (bs nm2), .int .i64 xn2, .int .i64 wd2, .int .u64 (v2 : Int), .slice xa2 xl2.length xc2] 90 (0, 0)) := by rw [← hwa]; exact World.alloc_heap_new wr _
      have z0 : wa.cell? ⟨wr.heap.size, 0, none⟩ = some (.string (bs bn2)) := by simp [World.cell?, BZ]
      have z1 : wa.cell? ⟨wr.heap.size, 1, none⟩ = some (.bool po2) := by simp [World.cell?, BZ]
      have z2 : wa.cell? ⟨wr.heap.size, 2, none⟩ = some (.int .i64 op2) := by simp [World.cell?, BZ]
      have z3 : wa.cell? ⟨wr.heap.size, 3, none⟩ = some (.string (bs nm2)) := by simp [World.cell?, BZ]
      have z4 : wa.cell? ⟨wr.heap.size, 4, none⟩ = some (.int .i64 xn2) := by simp [World.cell?, BZ]
      have z5 : wa.cell? ⟨wr.heap.size, 5, none⟩ = some (.int .i64 wd2) := by simp [World.cell?, BZ]
      have z6 : wa.cell? ⟨wr.heap.size, 6, none⟩ = some (.int .u64 (v2 : Int)) := by simp [World.cell?, BZ]
      have z7 : wa.cell? ⟨wr.heap.size, 7, none⟩ = some (.slice xa2 xl2.length xc2) := by simp [World.cell?, BZ]
      have q := HG.out.2.2.1 wa (by omega) (PT.In.keep (Below.keptTo hba (by omega)) _ HG.out.2.2.2.1)
      simp only [PT.val, PT.cells, XT.cells] at q
      have HA := Lib.hid (And.intro hba BZ)
      clear hba BZ
      go_wp2_with fail
      (try rw [hwa])
      refine q.mono ?_
      clear q hwa r0 z0 r1 z1 r2 z2 r3 z3 r4 z4 r5 z5 r6 z6 r7 z7
      rintro e w2 ⟨y, rfl, hyn, hyi, hb2⟩
      have hst := HG.out.1.step HG.out.2.2.2.2.2.2 hlt HA.out.1 hb2 (by rw [hyn, HG.out.2.2.2.2.1]) hyi
      have hcN := (HG.out.2.1.block (HA.out.1.block B hzB)).block (hb2.block B (by omega))
      have hpc : ∀ j u, ((PT.mk bn2 po2 (XT.mk op2 nm2 xn2 wd2 v2 xa2 xc2 xl2))).cells[j]? = some u → w2.cell? ⟨B, k * 8 + j, none⟩ = some u := elemK (K := kdP) (x := (PT.mk bn2 po2 (XT.mk op2 nm2 xn2 wd2 v2 xa2 xc2 xl2))) hcN HG.out.1.len
      have s0 : w2.cell? ⟨B, k * 8, none⟩ = some (.string (bs bn2)) := hpc 0 _ rfl
      have s1 : w2.cell? ⟨B, k * 8 + 1, none⟩ = some (.bool po2) := hpc 1 _ rfl
      have s2 : w2.cell? ⟨B, k * 8 + 2, none⟩ = some (.int .i64 op2) := hpc 2 _ rfl
      have s3 : w2.cell? ⟨B, k * 8 + 3, none⟩ = some (.string (bs nm2)) := hpc 3 _ rfl
      have s4 : w2.cell? ⟨B, k * 8 + 4, none⟩ = some (.int .i64 xn2) := hpc 4 _ rfl
      have s5 : w2.cell? ⟨B, k * 8 + 5, none⟩ = some (.int .i64 wd2) := hpc 5 _ rfl
      have s6 : w2.cell? ⟨B, k * 8 + 6, none⟩ = some (.int .u64 (v2 : Int)) := hpc 6 _ rfl
      have s7 : w2.cell? ⟨B, k * 8 + 7, none⟩ = some (.slice xa2 xl2.length xc2) := hpc 7 _ rfl
      have f0 : w2.frozen? ⟨B, k * 8, none⟩ = false := hcN.frozen _
      have f1 : w2.frozen? ⟨B, k * 8 + 1, none⟩ = false := hcN.frozen _
      have f2 : w2.frozen? ⟨B, k * 8 + 2, none⟩ = false := hcN.frozen _
      have f3 : w2.frozen? ⟨B, k * 8 + 3, none⟩ = false := hcN.frozen _
      have f4 : w2.frozen? ⟨B, k * 8 + 4, none⟩ = false := hcN.frozen _
      have f5 : w2.frozen? ⟨B, k * 8 + 5, none⟩ = false := hcN.frozen _
      have f6 : w2.frozen? ⟨B, k * 8 + 6, none⟩ = false := hcN.frozen _
      have f7 : w2.frozen? ⟨B, k * 8 + 7, none⟩ = false := hcN.frozen _
      obtain ⟨bn3, po3, ⟨op3, nm3, xn3, wd3, v3, xa3, xc3, xl3⟩⟩ := y
      have e9 : putC w2 B (k * 8) ((PT.mk bn3 po3 (XT.mk op3 nm3 xn3 wd3 v3 xa3 xc3 xl3))).cells = ((((((((w2.setCell ⟨B, k * 8, none⟩ (.string (bs bn3))).setCell ⟨B, k * 8 + 1, none⟩ (.bool po3)).setCell ⟨B, k * 8 + 2, none⟩ (.int .i64 op3)).setCell ⟨B, k * 8 + 3, none⟩ (.string (bs nm3))).setCell ⟨B, k * 8 + 4, none⟩ (.int .i64 xn3)).setCell ⟨B, k * 8 + 5, none⟩ (.int .i64 wd3)).setCell ⟨B, k * 8 + 6, none⟩ (.int .u64 (v3 : Int))).setCell ⟨B, k * 8 + 7, none⟩ (.slice xa3 xl3.length xc3)) := by simp only [PT.cells, XT.cells, putC, Nat.add_assoc, Nat.reduceAdd]
      have hst2 := hst
      rw [show kdP.k = 8 from rfl, show kdP.cells ((PT.mk bn3 po3 (XT.mk op3 nm3 xn3 wd3 v3 xa3 xc3 xl3))) = ((PT.mk bn3 po3 (XT.mk op3 nm3 xn3 wd3 v3 xa3 xc3 xl3))).cells from rfl, e9] at hst2
      have hlow := HG.out.2.2.2.2.2.1.trans ((HA.out.1.mono hzw).trans ((hb2.mono (by omega)).trans (putC_below (g := B) HG.out.2.2.2.2.2.2 ((PT.mk bn3 po3 (XT.mk op3 nm3 xn3 wd3 v3 xa3 xc3 xl3))).cells w2 (k * 8))))
      rw [e9] at hlow
      have HF := Lib.hid (And.intro hst2 (And.intro hlow HG.out.2.2.2.2.2.2))
      clear hst hst2 hlow e9 hcN hpc hyn hyi hb2 HG HA
      simp only [PT.cells, XT.cells]
      go_wp2
      cases gk with
      | zero => omega
      | succ gg =>
        go_roundg gg
        case rel => exact ⟨k + 1, _, rfl, by omega, fun _ => ⟨B, rfl, HF.out.2.2, HF.out.1⟩, fun h => by omega, HF.out.2.1⟩
        case measure => omega
    · have d1 : decide (k < l.length) = false := by simpa using hlt
      have d2 : decide ((k : Int) < (l.length : Int)) = false := by rw [decide_eq_false_iff_not]; omega
      have hkl : k = l.length := by omega
      have hE : ∃ ys : List PT, ys.length = l.length ∧ ys.map PT.nrm = l.map PT.nrm ∧ InRow 8 PT.cells (PT.In wr.heap.size (frm wr w.heap.size)) wr.heap.size (frm wr w.heap.size) ys a1 := by
        by_cases h0 : l.length = 0
        · have : l = [] := List.length_eq_zero_iff.1 h0
          subst this
          exact ⟨[], rfl, rfl, trivial⟩
        · obtain ⟨B, rfl, hB, hS⟩ := hst (by omega)
          subst hkl
          obtain ⟨h1, h2⟩ := hS.done hB
          exact ⟨ys, hS.len, h1, h2⟩
      have HE := Lib.hid hE
      clear hE hst hnil
      go_wp2
      go_ret
      obtain ⟨zs, h1, h2, h3⟩ := HE.out
      exact ⟨a1, c1, zs, by rw [h1]; rfl, h2, h3, hbw⟩
end Go.Proofs.YtbfhbblbjgkolaaGreatDoor
namespace Go.Proofs.YtbfhbblbjgkolaaGreatDoor
open Go Go.RowKit
set_option linter.unusedVariables false
set_option linter.unusedSimpArgs false
open Go.Sort

/-- A row that lies behind a block. -/
def RowZ {α : Type} (K : Kd α) (W : World) (z : Nat) (l : List α) (a : Option Addr) : Prop := InRow K.k K.cells (K.inn W.heap.size (frm W z)) W.heap.size (frm W z) l a
theorem RowZ.next {α : Type} {K : Kd α} {W W' : World} {z z' : Nat} {l : List α} {a : Option Addr} (h : RowZ K W z l a) (hz : z' ≤ z) (hs : W.heap.size ≤ W'.heap.size) (hb : ∀ i, z ≤ i → i < W.heap.size → W'.heap[i]? = W.heap[i]?) : RowZ K W' z' l a :=
  InRow.less hs (fun _ _ h => h) (InRow.keep (frm_next hz hb) (fun x _ hx => K.less hs x (K.keep (frm_next hz hb) x hx)) h)
abbrev kdM : Kd MT := ⟨4, 33, MT.cells, MT.In, (fun x => by cases x; rfl), (fun hk => MT.In.keep hk), (fun hm => MT.In.less hm)⟩
set_option maxHeartbeats 8000000 in
set_option maxRecDepth 100000 in
theorem copiedX_any : ∀ x : XT, x.bk ≤ 1500000 → ∀ (n0 : Nat) (W : World), n0 ≤ W.heap.size → x.In n0 W → Calls Tryz.prog 124 #[x.val] W (Cp1 kdX XT.nrm x W) := by
  refine XT.ind ?_
  intro op nm xn wd v xa xc xl ih hbk n0 W hn0 hin
  rw [XT.In_mk] at hin
  have i0 := hin
  simp only [XT.bk] at hbk
  have kn0 := XT.bkL_len xl
  have q0 := fun (V : World) (hV : W.heap.size ≤ V.heap.size) (hr : InRow 6 XT.cells (XT.In n0 V) n0 V xl xa) => copiedRowX n0 xl (by omega) V (by omega) (fun x hx U hU hi => ih x hx (by have := XT.bkL_mem hx; omega) n0 U (by omega) hi) xa xc hr
  have HQ := Lib.hid q0
  have HI := Lib.hid i0
  clear q0 i0 ih hin
  simp only [XT.val, XT.cells]
  obtain ⟨g, hg⟩ : ∃ g, W.heap.size = g := ⟨_, rfl⟩
  obtain ⟨w0, hw0⟩ : ∃ w0, (W.alloc (.cells #[.int .i64 op, .string (bs nm), .int .i64 xn, .int .i64 wd, .int .u64 (v : Int), .slice xa xl.length xc] 60)).alloc (.cells #[.int .i64 0, .string ⟨#[]⟩, .int .i64 0, .int .i64 0, .int .u64 0, .slice none 0 0] 60) = w0 := ⟨_, rfl⟩
  have hz0 : w0.heap.size = g + 2 := by rw [← hw0]; simp [hg]
  have lo0 : Below g W w0 := by rw [← hw0]; exact ((Below.refl _ _).alloc (by omega) _).alloc (by simp; omega) _
  have bx0 : w0.heap[g]? = some (.cells #[.int .i64 op, .string (bs nm), .int .i64 xn, .int .i64 wd, .int .u64 (v : Int), .slice xa xl.length xc] 60 (0, 0)) := by rw [← hw0, ← hg]; exact block_alloc (World.alloc_heap_new W _) _
  have br0 : w0.heap[g + 1]? = some (.cells #[.int .i64 0, .string ⟨#[]⟩, .int .i64 0, .int .i64 0, .int .u64 0, .slice none 0 0] 60 (0, 0)) := by rw [← hw0, ← hg]; have := World.alloc_heap_new (W.alloc (.cells #[.int .i64 op, .string (bs nm), .int .i64 xn, .int .i64 wd, .int .u64 (v : Int), .slice xa xl.length xc] 60)) (.cells #[.int .i64 0, .string ⟨#[]⟩, .int .i64 0, .int .i64 0, .int .u64 0, .slice none 0 0] 60); rwa [World.size_alloc] at this
  have HS0 := Lib.hid (And.intro lo0 (And.intro bx0 br0))
  have b9 := bx0
  have y0 : w0.cell? ⟨g, 0, none⟩ = some (.int .i64 op) := by simp [World.cell?, b9]
  have y1 : w0.cell? ⟨g, 1, none⟩ = some (.string (bs nm)) := by simp [World.cell?, b9]
  have y2 : w0.cell? ⟨g, 2, none⟩ = some (.int .i64 xn) := by simp [World.cell?, b9]
  have y3 : w0.cell? ⟨g, 3, none⟩ = some (.int .i64 wd) := by simp [World.cell?, b9]
  have y4 : w0.cell? ⟨g, 4, none⟩ = some (.int .u64 (v : Int)) := by simp [World.cell?, b9]
  have y5 : w0.cell? ⟨g, 5, none⟩ = some (.slice xa xl.length xc) := by simp [World.cell?, b9]
  clear b9 lo0 bx0 br0
  skip
  go_enter Tryz.func124, Tryz.ntmps124
  go_wp2_with fail
  (try rw [hw0])
  refine (HQ.out w0 (by rw [hg]; have := hz0; omega) (InRow.keep (Below.keptTo HS0.out.1 (by omega)) (fun x _ h => XT.In.keep (Below.keptTo HS0.out.1 (by omega)) x h) HI.out)).mono ?_
  clear hw0 y0 y1 y2 y3 y4 y5
  rintro e v0 ⟨a0, c0, m0, rfl, hm0, hr0, hb⟩
  obtain ⟨N0, hN0⟩ : ∃ N, m0.length = N := ⟨_, rfl⟩
  rw [hN0]
  have hzv : w0.heap.size ≤ v0.heap.size := hb.size
  have bxv : v0.heap[g]? = _ := (hb.block g (by omega)).trans HS0.out.2.1
  have brv : v0.heap[g + 1]? = _ := (hb.block (g + 1) (by omega)).trans HS0.out.2.2
  obtain ⟨w1, hw1⟩ : ∃ w, v0.setCell ⟨g, 5, none⟩ (.slice a0 N0 c0) = w := ⟨_, rfl⟩
  have hz1 : g + 2 ≤ w1.heap.size := by rw [← hw1]; simp; omega
  have bxn : w1.heap[g]? = some (.cells #[.int .i64 op, .string (bs nm), .int .i64 xn, .int .i64 wd, .int .u64 (v : Int), .slice a0 N0 c0] 60 (0, 0)) := by rw [← hw1]; simp only [World.setCell, Array.getElem?_modify, ↓reduceIte]; rw [bxv]; rfl
  have brn : w1.heap[g + 1]? = some (.cells #[.int .i64 0, .string ⟨#[]⟩, .int .i64 0, .int .i64 0, .int .u64 0, .slice none 0 0] 60 (0, 0)) := by rw [← hw1]; exact (Below.heap_setCell v0 ⟨g, 5, none⟩ _ (g + 1) (by show g + 1 ≠ g; omega)).trans brv
  have lon : Below g W w1 := by rw [← hw1]; exact (HS0.out.1.trans (hb.mono (show g ≤ w0.heap.size by omega))).setCell (p := ⟨g, 5, none⟩) (Nat.le_refl _) _
  have hsz : v0.heap.size ≤ w1.heap.size := by rw [← hw1]; simp
  have hot : ∀ i, i ≠ g → w1.heap[i]? = v0.heap[i]? := fun i hi => by rw [← hw1]; exact Below.heap_setCell v0 ⟨g, 5, none⟩ _ i hi
  have R0 : RowZ kdX w1 (g + 2) m0 a0 := RowZ.next (K := kdX) (z := w0.heap.size) hr0 (by omega) hsz (fun i hi hi2 => hot i (by omega))
  have HS1 := Lib.hid (And.intro lon (And.intro bxn brn))
  have c9 : v0.cell? ⟨g, 5, none⟩ = some (.slice xa xl.length xc) := by simp [World.cell?, bxv]
  have f9 : v0.frozen? ⟨g, 5, none⟩ = false := by simp [World.frozen?, bxv]
  have b9 := bxn
  have y0 : w1.cell? ⟨g, 0, none⟩ = some (.int .i64 op) := by simp [World.cell?, b9]
  have y1 : w1.cell? ⟨g, 1, none⟩ = some (.string (bs nm)) := by simp [World.cell?, b9]
  have y2 : w1.cell? ⟨g, 2, none⟩ = some (.int .i64 xn) := by simp [World.cell?, b9]
  have y3 : w1.cell? ⟨g, 3, none⟩ = some (.int .i64 wd) := by simp [World.cell?, b9]
  have y4 : w1.cell? ⟨g, 4, none⟩ = some (.int .u64 (v : Int)) := by simp [World.cell?, b9]
  have y5 : w1.cell? ⟨g, 5, none⟩ = some (.slice a0 N0 c0) := by simp [World.cell?, b9]
  have b8 := brn
  have e0 : w1.cell? ⟨g + 1, 0, none⟩ = some (.int .i64 0) := by simp [World.cell?, b8]
  have e1 : w1.cell? ⟨g + 1, 1, none⟩ = some (.string ⟨#[]⟩) := by simp [World.cell?, b8]
  have e2 : w1.cell? ⟨g + 1, 2, none⟩ = some (.int .i64 0) := by simp [World.cell?, b8]
  have e3 : w1.cell? ⟨g + 1, 3, none⟩ = some (.int .i64 0) := by simp [World.cell?, b8]
  have e4 : w1.cell? ⟨g + 1, 4, none⟩ = some (.int .u64 0) := by simp [World.cell?, b8]
  have e5 : w1.cell? ⟨g + 1, 5, none⟩ = some (.slice none 0 0) := by simp [World.cell?, b8]
  have f0 : w1.frozen? ⟨g + 1, 0, none⟩ = false := by simp [World.frozen?, b8]
  have f1 : w1.frozen? ⟨g + 1, 1, none⟩ = false := by simp [World.frozen?, b8]
  have f2 : w1.frozen? ⟨g + 1, 2, none⟩ = false := by simp [World.frozen?, b8]
  have f3 : w1.frozen? ⟨g + 1, 3, none⟩ = false := by simp [World.frozen?, b8]
  have f4 : w1.frozen? ⟨g + 1, 4, none⟩ = false := by simp [World.frozen?, b8]
  have f5 : w1.frozen? ⟨g + 1, 5, none⟩ = false := by simp [World.frozen?, b8]
  obtain ⟨u, hu⟩ : ∃ u, ((((((w1.setCell ⟨g + 1, 0, none⟩ (.int .i64 op)).setCell ⟨g + 1, 1, none⟩ (.string (bs nm))).setCell ⟨g + 1, 2, none⟩ (.int .i64 xn)).setCell ⟨g + 1, 3, none⟩ (.int .i64 wd)).setCell ⟨g + 1, 4, none⟩ (.int .u64 (v : Int))).setCell ⟨g + 1, 5, none⟩ (.slice a0 N0 c0)) = u := ⟨_, rfl⟩
  have bu : u.heap[g + 1]? = some (.cells #[.int .i64 op, .string (bs nm), .int .i64 xn, .int .i64 wd, .int .u64 (v : Int), .slice a0 N0 c0] 60 (0, 0)) := by rw [← hu]; have hb9 := (Array.getElem?_eq_some_iff.1 b8).1; simp [World.setCell, Array.getElem?_modify, b8]
  have s0 : u.cell? ⟨g + 1, 0, none⟩ = some (.int .i64 op) := by simp [World.cell?, bu]
  have s1 : u.cell? ⟨g + 1, 1, none⟩ = some (.string (bs nm)) := by simp [World.cell?, bu]
  have s2 : u.cell? ⟨g + 1, 2, none⟩ = some (.int .i64 xn) := by simp [World.cell?, bu]
  have s3 : u.cell? ⟨g + 1, 3, none⟩ = some (.int .i64 wd) := by simp [World.cell?, bu]
  have s4 : u.cell? ⟨g + 1, 4, none⟩ = some (.int .u64 (v : Int)) := by simp [World.cell?, bu]
  have s5 : u.cell? ⟨g + 1, 5, none⟩ = some (.slice a0 N0 c0) := by simp [World.cell?, bu]
  have hus : u.heap.size = w1.heap.size := by rw [← hu]; simp
  have huo : ∀ i, i ≠ g + 1 → u.heap[i]? = w1.heap[i]? := fun i hi => by rw [← hu]; exact (Below.heap_setCell _ ⟨g + 1, 5, none⟩ _ i hi).trans ((Below.heap_setCell _ ⟨g + 1, 4, none⟩ _ i hi).trans ((Below.heap_setCell _ ⟨g + 1, 3, none⟩ _ i hi).trans ((Below.heap_setCell _ ⟨g + 1, 2, none⟩ _ i hi).trans ((Below.heap_setCell _ ⟨g + 1, 1, none⟩ _ i hi).trans (Below.heap_setCell _ ⟨g + 1, 0, none⟩ _ i hi)))))
  have hul : Below g W u := by rw [← hu]; exact (Below.setCell (Below.setCell (Below.setCell (Below.setCell (Below.setCell (Below.setCell lon (p := ⟨g + 1, 0, none⟩) (by show g ≤ g + 1; omega) _) (p := ⟨g + 1, 1, none⟩) (by show g ≤ g + 1; omega) _) (p := ⟨g + 1, 2, none⟩) (by show g ≤ g + 1; omega) _) (p := ⟨g + 1, 3, none⟩) (by show g ≤ g + 1; omega) _) (p := ⟨g + 1, 4, none⟩) (by show g ≤ g + 1; omega) _) (p := ⟨g + 1, 5, none⟩) (by show g ≤ g + 1; omega) _)
  replace R0 := RowZ.next (z' := g) R0 (by omega) (Nat.le_of_eq hus.symm) (fun i hi hi2 => huo i (by omega))
  have HF := Lib.hid (And.intro hul R0)
  have HZ := Lib.hid (And.intro hu (And.intro s0 (And.intro s1 (And.intro s2 (And.intro s3 (And.intro s4 s5))))))
  clear b8 bu hus huo hul hu s0 s1 s2 s3 s4 s5 R0
  clear b9 bxv brv bxn brn lon hot hb hr0
  go_wp2_with fail
  obtain ⟨hu, s0, s1, s2, s3, s4, s5⟩ := HZ.out
  refine bodyPost_ret (v := .agg #[.int .i64 op, .string (bs nm), .int .i64 xn, .int .i64 wd, .int .u64 (v : Int), .slice a0 N0 c0]) (by simp [results, Tryz.results124, go_sem, hu, s0, s1, s2, s3, s4, s5]) rfl ?_
  rw [hu]
  obtain ⟨hlow, R0⟩ := HF.out
  rw [← hg] at hlow R0
  refine ⟨(XT.mk op nm xn wd v a0 c0 m0), ?_, ?_, ?_, hlow⟩
  · simp only [XT.cells, hN0]
  · simp only [XT.nrm, XT.nrmL_map, hm0]
  · show XT.In _ _ (XT.mk op nm xn wd v a0 c0 m0)
    rw [XT.In_mk]
    exact R0
set_option maxHeartbeats 8000000 in
set_option maxRecDepth 100000 in
theorem copiedS_any : ∀ x : ST, x.bk ≤ 1500000 → ∀ (n0 : Nat) (W : World), n0 ≤ W.heap.size → x.In n0 W → Calls Tryz.prog 129 #[x.val] W (Cp1 kdS ST.nrm x W) := by
  refine ST.ind ?_
  intro op nm xa xc xl sa sc sl ih hbk n0 W hn0 hin
  rw [ST.In_mk] at hin
  obtain ⟨i0, i1⟩ := hin
  simp only [ST.bk] at hbk
  have kn0 := XT.bkL_len xl
  have q0 := fun (V : World) (hV : W.heap.size ≤ V.heap.size) (hr : InRow 6 XT.cells (XT.In n0 V) n0 V xl xa) => copiedRowX n0 xl (by omega) V (by omega) (fun x hx U hU hi => copiedX_any x (by have := XT.bkL_mem hx; omega) n0 U (by omega) hi) xa xc hr
  have kn1 := ST.bkL_len sl
  have q1 := fun (V : World) (hV : W.heap.size ≤ V.heap.size) (hr : InRow 4 ST.cells (ST.In n0 V) n0 V sl sa) => copiedRowS n0 sl (by omega) V (by omega) (fun x hx U hU hi => ih x hx (by have := ST.bkL_mem hx; omega) n0 U (by omega) hi) sa sc hr
  have HQ := Lib.hid (And.intro q0 q1)
  have HI := Lib.hid (And.intro i0 i1)
  clear q0 i0 q1 i1 ih
  simp only [ST.val, ST.cells]
  obtain ⟨g, hg⟩ : ∃ g, W.heap.size = g := ⟨_, rfl⟩
  obtain ⟨w0, hw0⟩ : ∃ w0, (W.alloc (.cells #[.int .i64 op, .string (bs nm), .slice xa xl.length xc, .slice sa sl.length sc] 159)).alloc (.cells #[.int .i64 0, .string ⟨#[]⟩, .slice none 0 0, .slice none 0 0] 159) = w0 := ⟨_, rfl⟩
  have hz0 : w0.heap.size = g + 2 := by rw [← hw0]; simp [hg]
  have lo0 : Below g W w0 := by rw [← hw0]; exact ((Below.refl _ _).alloc (by omega) _).alloc (by simp; omega) _
  have bx0 : w0.heap[g]? = some (.cells #[.int .i64 op, .string (bs nm), .slice xa xl.length xc, .slice sa sl.length sc] 159 (0, 0)) := by rw [← hw0, ← hg]; exact block_alloc (World.alloc_heap_new W _) _
  have br0 : w0.heap[g + 1]? = some (.cells #[.int .i64 0, .string ⟨#[]⟩, .slice none 0 0, .slice none 0 0] 159 (0, 0)) := by rw [← hw0, ← hg]; have := World.alloc_heap_new (W.alloc (.cells #[.int .i64 op, .string (bs nm), .slice xa xl.length xc, .slice sa sl.length sc] 159)) (.cells #[.int .i64 0, .string ⟨#[]⟩, .slice none 0 0, .slice none 0 0] 159); rwa [World.size_alloc] at this
  have HS0 := Lib.hid (And.intro lo0 (And.intro bx0 br0))
  have b9 := bx0
  have y0 : w0.cell? ⟨g, 0, none⟩ = some (.int .i64 op) := by simp [World.cell?, b9]
  have y1 : w0.cell? ⟨g, 1, none⟩ = some (.string (bs nm)) := by simp [World.cell?, b9]
  have y2 : w0.cell? ⟨g, 2, none⟩ = some (.slice xa xl.length xc) := by simp [World.cell?, b9]
  have y3 : w0.cell? ⟨g, 3, none⟩ = some (.slice sa sl.length sc) := by simp [World.cell?, b9]
  clear b9 lo0 bx0 br0
  skip
  go_enter Tryz.func129, Tryz.ntmps129
  go_wp2_with fail
  (try rw [hw0])
  refine (HQ.out.1 w0 (by rw [hg]; have := hz0; omega) (InRow.keep (Below.keptTo HS0.out.1 (by omega)) (fun x _ h => XT.In.keep (Below.keptTo HS0.out.1 (by omega)) x h) HI.out.1)).mono ?_
  clear hw0 y0 y1 y2 y3
  rintro e v0 ⟨a0, c0, m0, rfl, hm0, hr0, hb⟩
  obtain ⟨N0, hN0⟩ : ∃ N, m0.length = N := ⟨_, rfl⟩
  rw [hN0]
  have hzv : w0.heap.size ≤ v0.heap.size := hb.size
  have bxv : v0.heap[g]? = _ := (hb.block g (by omega)).trans HS0.out.2.1
  have brv : v0.heap[g + 1]? = _ := (hb.block (g + 1) (by omega)).trans HS0.out.2.2
  obtain ⟨w1, hw1⟩ : ∃ w, v0.setCell ⟨g, 2, none⟩ (.slice a0 N0 c0) = w := ⟨_, rfl⟩
  have hz1 : g + 2 ≤ w1.heap.size := by rw [← hw1]; simp; omega
  have bxn : w1.heap[g]? = some (.cells #[.int .i64 op, .string (bs nm), .slice a0 N0 c0, .slice sa sl.length sc] 159 (0, 0)) := by rw [← hw1]; simp only [World.setCell, Array.getElem?_modify, ↓reduceIte]; rw [bxv]; rfl
  have brn : w1.heap[g + 1]? = some (.cells #[.int .i64 0, .string ⟨#[]⟩, .slice none 0 0, .slice none 0 0] 159 (0, 0)) := by rw [← hw1]; exact (Below.heap_setCell v0 ⟨g, 2, none⟩ _ (g + 1) (by show g + 1 ≠ g; omega)).trans brv
  have lon : Below g W w1 := by rw [← hw1]; exact (HS0.out.1.trans (hb.mono (show g ≤ w0.heap.size by omega))).setCell (p := ⟨g, 2, none⟩) (Nat.le_refl _) _
  have hsz : v0.heap.size ≤ w1.heap.size := by rw [← hw1]; simp
  have hot : ∀ i, i ≠ g → w1.heap[i]? = v0.heap[i]? := fun i hi => by rw [← hw1]; exact Below.heap_setCell v0 ⟨g, 2, none⟩ _ i hi
  have R0 : RowZ kdX w1 (g + 2) m0 a0 := RowZ.next (K := kdX) (z := w0.heap.size) hr0 (by omega) hsz (fun i hi hi2 => hot i (by omega))
  have HS1 := Lib.hid (And.intro lon (And.intro bxn brn))
  have c9 : v0.cell? ⟨g, 2, none⟩ = some (.slice xa xl.length xc) := by simp [World.cell?, bxv]
  have f9 : v0.frozen? ⟨g, 2, none⟩ = false := by simp [World.frozen?, bxv]
  have b9 := bxn
  have y0 : w1.cell? ⟨g, 0, none⟩ = some (.int .i64 op) := by simp [World.cell?, b9]
  have y1 : w1.cell? ⟨g, 1, none⟩ = some (.string (bs nm)) := by simp [World.cell?, b9]
  have y2 : w1.cell? ⟨g, 2, none⟩ = some (.slice a0 N0 c0) := by simp [World.cell?, b9]
  have y3 : w1.cell? ⟨g, 3, none⟩ = some (.slice sa sl.length sc) := by simp [World.cell?, b9]
  clear b9 bxv brv bxn brn lon hot hb hr0
  go_wp2_with fail
  (try rw [hw1])
  refine (HQ.out.2 w1 (by rw [hg]; have := hz1; omega) (InRow.keep (Below.keptTo HS1.out.1 (by omega)) (fun x _ h => ST.In.keep (Below.keptTo HS1.out.1 (by omega)) x h) HI.out.2)).mono ?_
  clear hw1 y0 y1 y2 y3
  rintro e v1 ⟨a1, c1, m1, rfl, hm1, hr1, hb⟩
  obtain ⟨N1, hN1⟩ : ∃ N, m1.length = N := ⟨_, rfl⟩
  rw [hN1]
  have hzv : w1.heap.size ≤ v1.heap.size := hb.size
  have bxv : v1.heap[g]? = _ := (hb.block g (by omega)).trans HS1.out.2.1
  have brv : v1.heap[g + 1]? = _ := (hb.block (g + 1) (by omega)).trans HS1.out.2.2
  obtain ⟨w2, hw2⟩ : ∃ w, v1.setCell ⟨g, 3, none⟩ (.slice a1 N1 c1) = w := ⟨_, rfl⟩
  have hz2 : g + 2 ≤ w2.heap.size := by rw [← hw2]; simp; omega
  have bxn : w2.heap[g]? = some (.cells #[.int .i64 op, .string (bs nm), .slice a0 N0 c0, .slice a1 N1 c1] 159 (0, 0)) := by rw [← hw2]; simp only [World.setCell, Array.getElem?_modify, ↓reduceIte]; rw [bxv]; rfl
  have brn : w2.heap[g + 1]? = some (.cells #[.int .i64 0, .string ⟨#[]⟩, .slice none 0 0, .slice none 0 0] 159 (0, 0)) := by rw [← hw2]; exact (Below.heap_setCell v1 ⟨g, 3, none⟩ _ (g + 1) (by show g + 1 ≠ g; omega)).trans brv
  have lon : Below g W w2 := by rw [← hw2]; exact (HS1.out.1.trans (hb.mono (show g ≤ w1.heap.size by omega))).setCell (p := ⟨g, 3, none⟩) (Nat.le_refl _) _
  have hsz : v1.heap.size ≤ w2.heap.size := by rw [← hw2]; simp
  have hot : ∀ i, i ≠ g → w2.heap[i]? = v1.heap[i]? := fun i hi => by rw [← hw2]; exact Below.heap_setCell v1 ⟨g, 3, none⟩ _ i hi
  have R1 : RowZ kdS w2 (g + 2) m1 a1 := RowZ.next (K := kdS) (z := w1.heap.size) hr1 (by omega) hsz (fun i hi hi2 => hot i (by omega))
  replace R0 := R0.next (Nat.le_refl _) (Nat.le_trans hzv hsz) (fun i hi hi2 => (hot i (by omega)).trans (hb.block i hi2))
  have HS2 := Lib.hid (And.intro lon (And.intro bxn brn))
  have c9 : v1.cell? ⟨g, 3, none⟩ = some (.slice sa sl.length sc) := by simp [World.cell?, bxv]
  have f9 : v1.frozen? ⟨g, 3, none⟩ = false := by simp [World.frozen?, bxv]
  have b9 := bxn
  have y0 : w2.cell? ⟨g, 0, none⟩ = some (.int .i64 op) := by simp [World.cell?, b9]
  have y1 : w2.cell? ⟨g, 1, none⟩ = some (.string (bs nm)) := by simp [World.cell?, b9]
  have y2 : w2.cell? ⟨g, 2, none⟩ = some (.slice a0 N0 c0) := by simp [World.cell?, b9]
  have y3 : w2.cell? ⟨g, 3, none⟩ = some (.slice a1 N1 c1) := by simp [World.cell?, b9]
  have b8 := brn
  have e0 : w2.cell? ⟨g + 1, 0, none⟩ = some (.int .i64 0) := by simp [World.cell?, b8]
  have e1 : w2.cell? ⟨g + 1, 1, none⟩ = some (.string ⟨#[]⟩) := by simp [World.cell?, b8]
  have e2 : w2.cell? ⟨g + 1, 2, none⟩ = some (.slice none 0 0) := by simp [World.cell?, b8]
  have e3 : w2.cell? ⟨g + 1, 3, none⟩ = some (.slice none 0 0) := by simp [World.cell?, b8]
  have f0 : w2.frozen? ⟨g + 1, 0, none⟩ = false := by simp [World.frozen?, b8]
  have f1 : w2.frozen? ⟨g + 1, 1, none⟩ = false := by simp [World.frozen?, b8]
  have f2 : w2.frozen? ⟨g + 1, 2, none⟩ = false := by simp [World.frozen?, b8]
  have f3 : w2.frozen? ⟨g + 1, 3, none⟩ = false := by simp [World.frozen?, b8]
  obtain ⟨u, hu⟩ : ∃ u, ((((w2.setCell ⟨g + 1, 0, none⟩ (.int .i64 op)).setCell ⟨g + 1, 1, none⟩ (.string (bs nm))).setCell ⟨g + 1, 2, none⟩ (.slice a0 N0 c0)).setCell ⟨g + 1, 3, none⟩ (.slice a1 N1 c1)) = u := ⟨_, rfl⟩
  have bu : u.heap[g + 1]? = some (.cells #[.int .i64 op, .string (bs nm), .slice a0 N0 c0, .slice a1 N1 c1] 159 (0, 0)) := by rw [← hu]; have hb9 := (Array.getElem?_eq_some_iff.1 b8).1; simp [World.setCell, Array.getElem?_modify, b8]
  have s0 : u.cell? ⟨g + 1, 0, none⟩ = some (.int .i64 op) := by simp [World.cell?, bu]
  have s1 : u.cell? ⟨g + 1, 1, none⟩ = some (.string (bs nm)) := by simp [World.cell?, bu]
  have s2 : u.cell? ⟨g + 1, 2, none⟩ = some (.slice a0 N0 c0) := by simp [World.cell?, bu]
  have s3 : u.cell? ⟨g + 1, 3, none⟩ = some (.slice a1 N1 c1) := by simp [World.cell?, bu]
  have hus : u.heap.size = w2.heap.size := by rw [← hu]; simp
  have huo : ∀ i, i ≠ g + 1 → u.heap[i]? = w2.heap[i]? := fun i hi => by rw [← hu]; exact (Below.heap_setCell _ ⟨g + 1, 3, none⟩ _ i hi).trans ((Below.heap_setCell _ ⟨g + 1, 2, none⟩ _ i hi).trans ((Below.heap_setCell _ ⟨g + 1, 1, none⟩ _ i hi).trans (Below.heap_setCell _ ⟨g + 1, 0, none⟩ _ i hi)))
  have hul : Below g W u := by rw [← hu]; exact (Below.setCell (Below.setCell (Below.setCell (Below.setCell lon (p := ⟨g + 1, 0, none⟩) (by show g ≤ g + 1; omega) _) (p := ⟨g + 1, 1, none⟩) (by show g ≤ g + 1; omega) _) (p := ⟨g + 1, 2, none⟩) (by show g ≤ g + 1; omega) _) (p := ⟨g + 1, 3, none⟩) (by show g ≤ g + 1; omega) _)
  replace R0 := RowZ.next (z' := g) R0 (by omega) (Nat.le_of_eq hus.symm) (fun i hi hi2 => huo i (by omega))
  replace R1 := RowZ.next (z' := g) R1 (by omega) (Nat.le_of_eq hus.symm) (fun i hi hi2 => huo i (by omega))
  have HF := Lib.hid (And.intro hul (And.intro R0 R1))
  have HZ := Lib.hid (And.intro hu (And.intro s0 (And.intro s1 (And.intro s2 s3))))
  clear b8 bu hus huo hul hu s0 s1 s2 s3 R0 R1
  clear b9 bxv brv bxn brn lon hot hb hr1
  go_wp2_with fail
  obtain ⟨hu, s0, s1, s2, s3⟩ := HZ.out
  refine bodyPost_ret (v := .agg #[.int .i64 op, .string (bs nm), .slice a0 N0 c0, .slice a1 N1 c1]) (by simp [results, Tryz.results129, go_sem, hu, s0, s1, s2, s3]) rfl ?_
  rw [hu]
  obtain ⟨hlow, R0, R1⟩ := HF.out
  rw [← hg] at hlow R0 R1
  refine ⟨(ST.mk op nm a0 c0 m0 a1 c1 m1), ?_, ?_, ?_, hlow⟩
  · simp only [ST.cells, hN0, hN1]
  · simp only [ST.nrm, ST.nrmL_map, hm0, hm1]
  · show ST.In _ _ (ST.mk op nm a0 c0 m0 a1 c1 m1)
    rw [ST.In_mk]
    exact ⟨R0, R1⟩
set_option maxHeartbeats 8000000 in
set_option maxRecDepth 100000 in
theorem copiedB_any (x : BT) (hbk : x.bk ≤ 1500000) (n0 : Nat) (W : World) (hn0 : n0 ≤ W.heap.size) (hin : x.In n0 W) : Calls Tryz.prog 77 #[x.val] W (Cp1 kdB BT.nrm x W) := by
  obtain ⟨bn, x⟩ := x
  simp only [BT.bk] at hbk
  have hin : XT.In n0 W x := hin
  have q := fun (V : World) (hV : W.heap.size ≤ V.heap.size) (hi : x.In n0 V) => copiedX_any x (by omega) n0 V (by omega) hi
  have HI := Lib.hid hin
  have HX := Lib.hid (rfl : x.nrm = x.nrm)
  obtain ⟨x0, hx0⟩ : ∃ x0, x = x0 := ⟨_, rfl⟩
  have HXE := Lib.hid hx0
  obtain ⟨op, nm, xn, wd, v, xa, xc, xl⟩ := x
  simp only [XT.val, XT.cells] at q
  have HQ := Lib.hid q
  clear q hin hx0
  simp only [BT.val, BT.cells, XT.cells]
  obtain ⟨g, hg⟩ : ∃ g, W.heap.size = g := ⟨_, rfl⟩
  obtain ⟨w0, hw0⟩ : ∃ w0, (W.alloc (.cells #[.string (bs bn), .int .i64 op, .string (bs nm), .int .i64 xn, .int .i64 wd, .int .u64 (v : Int), .slice xa xl.length xc] 92)).alloc (.cells #[.string ⟨#[]⟩, .int .i64 0, .string ⟨#[]⟩, .int .i64 0, .int .i64 0, .int .u64 0, .slice none 0 0] 92) = w0 := ⟨_, rfl⟩
  have hz0 : w0.heap.size = g + 2 := by rw [← hw0]; simp [hg]
  have lo0 : Below g W w0 := by rw [← hw0]; exact ((Below.refl _ _).alloc (by omega) _).alloc (by simp; omega) _
  have bx0 : w0.heap[g]? = some (.cells #[.string (bs bn), .int .i64 op, .string (bs nm), .int .i64 xn, .int .i64 wd, .int .u64 (v : Int), .slice xa xl.length xc] 92 (0, 0)) := by rw [← hw0, ← hg]; exact block_alloc (World.alloc_heap_new W _) _
  have br0 : w0.heap[g + 1]? = some (.cells #[.string ⟨#[]⟩, .int .i64 0, .string ⟨#[]⟩, .int .i64 0, .int .i64 0, .int .u64 0, .slice none 0 0] 92 (0, 0)) := by rw [← hw0, ← hg]; have := World.alloc_heap_new (W.alloc (.cells #[.string (bs bn), .int .i64 op, .string (bs nm), .int .i64 xn, .int .i64 wd, .int .u64 (v : Int), .slice xa xl.length xc] 92)) (.cells #[.string ⟨#[]⟩, .int .i64 0, .string ⟨#[]⟩, .int .i64 0, .int .i64 0, .int .u64 0, .slice none 0 0] 92); rwa [World.size_alloc] at this
  have HS0 := Lib.hid (And.intro lo0 (And.intro bx0 br0))
  have y0 : w0.cell? ⟨g, 0, none⟩ = some (.string (bs bn)) := by simp [World.cell?, bx0]
  have y1 : w0.cell? ⟨g, 1, none⟩ = some (.int .i64 op) := by simp [World.cell?, bx0]
  have y2 : w0.cell? ⟨g, 2, none⟩ = some (.string (bs nm)) := by simp [World.cell?, bx0]
  have y3 : w0.cell? ⟨g, 3, none⟩ = some (.int .i64 xn) := by simp [World.cell?, bx0]
  have y4 : w0.cell? ⟨g, 4, none⟩ = some (.int .i64 wd) := by simp [World.cell?, bx0]
  have y5 : w0.cell? ⟨g, 5, none⟩ = some (.int .u64 (v : Int)) := by simp [World.cell?, bx0]
  have y6 : w0.cell? ⟨g, 6, none⟩ = some (.slice xa xl.length xc) := by simp [World.cell?, bx0]
  clear lo0 bx0 br0
  go_enter Tryz.func77, Tryz.ntmps77
  go_wp2_with fail
  (try rw [hw0])
  refine (HQ.out w0 (by rw [hg]; omega) (XT.In.keep (Below.keptTo HS0.out.1 (by omega)) _ HI.out)).mono ?_
  clear hw0 y0 y1 y2 y3 y4 y5 y6
  rintro e v0 ⟨y, rfl, hyn, hyi, hb⟩
  have bxv : v0.heap[g]? = _ := (hb.block g (by omega)).trans HS0.out.2.1
  have brv : v0.heap[g + 1]? = _ := (hb.block (g + 1) (by omega)).trans HS0.out.2.2
  have hzv := hb.size
  obtain ⟨yy, hy0⟩ : ∃ y0, y = y0 := ⟨_, rfl⟩
  have HY := Lib.hid (And.intro hyn (And.intro hyi hy0))
  clear hyn hyi hy0
  obtain ⟨op3, nm3, xn3, wd3, v3, xa3, xc3, xl3⟩ := y
  simp only [XT.cells]
  obtain ⟨w1, hw1⟩ : ∃ w, ((((((v0.setCell ⟨g, 1, none⟩ (.int .i64 op3)).setCell ⟨g, 2, none⟩ (.string (bs nm3))).setCell ⟨g, 3, none⟩ (.int .i64 xn3)).setCell ⟨g, 4, none⟩ (.int .i64 wd3)).setCell ⟨g, 5, none⟩ (.int .u64 (v3 : Int))).setCell ⟨g, 6, none⟩ (.slice xa3 xl3.length xc3)) = w := ⟨_, rfl⟩
  have bxn : w1.heap[g]? = some (.cells #[.string (bs bn), .int .i64 op3, .string (bs nm3), .int .i64 xn3, .int .i64 wd3, .int .u64 (v3 : Int), .slice xa3 xl3.length xc3] 92 (0, 0)) := by rw [← hw1]; simp [World.setCell, Array.getElem?_modify, bxv]
  have hot : ∀ i, i ≠ g → w1.heap[i]? = v0.heap[i]? := fun i hi => by rw [← hw1]; exact (Below.heap_setCell _ ⟨g, 6, none⟩ _ i hi).trans ((Below.heap_setCell _ ⟨g, 5, none⟩ _ i hi).trans ((Below.heap_setCell _ ⟨g, 4, none⟩ _ i hi).trans ((Below.heap_setCell _ ⟨g, 3, none⟩ _ i hi).trans ((Below.heap_setCell _ ⟨g, 2, none⟩ _ i hi).trans (Below.heap_setCell _ ⟨g, 1, none⟩ _ i hi)))))
  have brn := (hot (g + 1) (by omega)).trans brv
  have hs1 : w1.heap.size = v0.heap.size := by rw [← hw1]; simp
  have lon : Below g W w1 := by rw [← hw1]; exact (Below.setCell (Below.setCell (Below.setCell (Below.setCell (Below.setCell (Below.setCell (HS0.out.1.trans (hb.mono (show g ≤ w0.heap.size by omega))) (p := ⟨g, 1, none⟩) (Nat.le_refl _) _) (p := ⟨g, 2, none⟩) (Nat.le_refl _) _) (p := ⟨g, 3, none⟩) (Nat.le_refl _) _) (p := ⟨g, 4, none⟩) (Nat.le_refl _) _) (p := ⟨g, 5, none⟩) (Nat.le_refl _) _) (p := ⟨g, 6, none⟩) (Nat.le_refl _) _)
  have c0 : v0.cell? ⟨g, 1, none⟩ = some (.int .i64 op) := by simp [World.cell?, bxv]
  have c1 : v0.cell? ⟨g, 2, none⟩ = some (.string (bs nm)) := by simp [World.cell?, bxv]
  have c2 : v0.cell? ⟨g, 3, none⟩ = some (.int .i64 xn) := by simp [World.cell?, bxv]
  have c3 : v0.cell? ⟨g, 4, none⟩ = some (.int .i64 wd) := by simp [World.cell?, bxv]
  have c4 : v0.cell? ⟨g, 5, none⟩ = some (.int .u64 (v : Int)) := by simp [World.cell?, bxv]
  have c5 : v0.cell? ⟨g, 6, none⟩ = some (.slice xa xl.length xc) := by simp [World.cell?, bxv]
  have d0 : v0.frozen? ⟨g, 1, none⟩ = false := by simp [World.frozen?, bxv]
  have d1 : v0.frozen? ⟨g, 2, none⟩ = false := by simp [World.frozen?, bxv]
  have d2 : v0.frozen? ⟨g, 3, none⟩ = false := by simp [World.frozen?, bxv]
  have d3 : v0.frozen? ⟨g, 4, none⟩ = false := by simp [World.frozen?, bxv]
  have d4 : v0.frozen? ⟨g, 5, none⟩ = false := by simp [World.frozen?, bxv]
  have d5 : v0.frozen? ⟨g, 6, none⟩ = false := by simp [World.frozen?, bxv]
  have y0 : w1.cell? ⟨g, 0, none⟩ = some (.string (bs bn)) := by simp [World.cell?, bxn]
  have y1 : w1.cell? ⟨g, 1, none⟩ = some (.int .i64 op3) := by simp [World.cell?, bxn]
  have y2 : w1.cell? ⟨g, 2, none⟩ = some (.string (bs nm3)) := by simp [World.cell?, bxn]
  have y3 : w1.cell? ⟨g, 3, none⟩ = some (.int .i64 xn3) := by simp [World.cell?, bxn]
  have y4 : w1.cell? ⟨g, 4, none⟩ = some (.int .i64 wd3) := by simp [World.cell?, bxn]
  have y5 : w1.cell? ⟨g, 5, none⟩ = some (.int .u64 (v3 : Int)) := by simp [World.cell?, bxn]
  have y6 : w1.cell? ⟨g, 6, none⟩ = some (.slice xa3 xl3.length xc3) := by simp [World.cell?, bxn]
  have e0 : w1.cell? ⟨g + 1, 0, none⟩ = some (.string ⟨#[]⟩) := by simp [World.cell?, brn]
  have e1 : w1.cell? ⟨g + 1, 1, none⟩ = some (.int .i64 0) := by simp [World.cell?, brn]
  have e2 : w1.cell? ⟨g + 1, 2, none⟩ = some (.string ⟨#[]⟩) := by simp [World.cell?, brn]
  have e3 : w1.cell? ⟨g + 1, 3, none⟩ = some (.int .i64 0) := by simp [World.cell?, brn]
  have e4 : w1.cell? ⟨g + 1, 4, none⟩ = some (.int .i64 0) := by simp [World.cell?, brn]
  have e5 : w1.cell? ⟨g + 1, 5, none⟩ = some (.int .u64 0) := by simp [World.cell?, brn]
  have e6 : w1.cell? ⟨g + 1, 6, none⟩ = some (.slice none 0 0) := by simp [World.cell?, brn]
  have f0 : w1.frozen? ⟨g + 1, 0, none⟩ = false := by simp [World.frozen?, brn]
  have f1 : w1.frozen? ⟨g + 1, 1, none⟩ = false := by simp [World.frozen?, brn]
  have f2 : w1.frozen? ⟨g + 1, 2, none⟩ = false := by simp [World.frozen?, brn]
  have f3 : w1.frozen? ⟨g + 1, 3, none⟩ = false := by simp [World.frozen?, brn]
  have f4 : w1.frozen? ⟨g + 1, 4, none⟩ = false := by simp [World.frozen?, brn]
  have f5 : w1.frozen? ⟨g + 1, 5, none⟩ = false := by simp [World.frozen?, brn]
  have f6 : w1.frozen? ⟨g + 1, 6, none⟩ = false := by simp [World.frozen?, brn]
  obtain ⟨u, hu⟩ : ∃ u, (((((((w1.setCell ⟨g + 1, 0, none⟩ (.string (bs bn))).setCell ⟨g + 1, 1, none⟩ (.int .i64 op3)).setCell ⟨g + 1, 2, none⟩ (.string (bs nm3))).setCell ⟨g + 1, 3, none⟩ (.int .i64 xn3)).setCell ⟨g + 1, 4, none⟩ (.int .i64 wd3)).setCell ⟨g + 1, 5, none⟩ (.int .u64 (v3 : Int))).setCell ⟨g + 1, 6, none⟩ (.slice xa3 xl3.length xc3)) = u := ⟨_, rfl⟩
  have bu : u.heap[g + 1]? = some (.cells #[.string (bs bn), .int .i64 op3, .string (bs nm3), .int .i64 xn3, .int .i64 wd3, .int .u64 (v3 : Int), .slice xa3 xl3.length xc3] 92 (0, 0)) := by rw [← hu]; simp [World.setCell, Array.getElem?_modify, brn]
  have s0 : u.cell? ⟨g + 1, 0, none⟩ = some (.string (bs bn)) := by simp [World.cell?, bu]
  have s1 : u.cell? ⟨g + 1, 1, none⟩ = some (.int .i64 op3) := by simp [World.cell?, bu]
  have s2 : u.cell? ⟨g + 1, 2, none⟩ = some (.string (bs nm3)) := by simp [World.cell?, bu]
  have s3 : u.cell? ⟨g + 1, 3, none⟩ = some (.int .i64 xn3) := by simp [World.cell?, bu]
  have s4 : u.cell? ⟨g + 1, 4, none⟩ = some (.int .i64 wd3) := by simp [World.cell?, bu]
  have s5 : u.cell? ⟨g + 1, 5, none⟩ = some (.int .u64 (v3 : Int)) := by simp [World.cell?, bu]
  have s6 : u.cell? ⟨g + 1, 6, none⟩ = some (.slice xa3 xl3.length xc3) := by simp [World.cell?, bu]
  have hus : u.heap.size = w1.heap.size := by rw [← hu]; simp
  have huo : ∀ i, i ≠ g + 1 → u.heap[i]? = w1.heap[i]? := fun i hi => by rw [← hu]; exact (Below.heap_setCell _ ⟨g + 1, 6, none⟩ _ i hi).trans ((Below.heap_setCell _ ⟨g + 1, 5, none⟩ _ i hi).trans ((Below.heap_setCell _ ⟨g + 1, 4, none⟩ _ i hi).trans ((Below.heap_setCell _ ⟨g + 1, 3, none⟩ _ i hi).trans ((Below.heap_setCell _ ⟨g + 1, 2, none⟩ _ i hi).trans ((Below.heap_setCell _ ⟨g + 1, 1, none⟩ _ i hi).trans (Below.heap_setCell _ ⟨g + 1, 0, none⟩ _ i hi))))))
  have hul : Below g W u := by rw [← hu]; exact (Below.setCell (Below.setCell (Below.setCell (Below.setCell (Below.setCell (Below.setCell (Below.setCell lon (p := ⟨g + 1, 0, none⟩) (by show g ≤ g + 1; omega) _) (p := ⟨g + 1, 1, none⟩) (by show g ≤ g + 1; omega) _) (p := ⟨g + 1, 2, none⟩) (by show g ≤ g + 1; omega) _) (p := ⟨g + 1, 3, none⟩) (by show g ≤ g + 1; omega) _) (p := ⟨g + 1, 4, none⟩) (by show g ≤ g + 1; omega) _) (p := ⟨g + 1, 5, none⟩) (by show g ≤ g + 1; omega) _) (p := ⟨g + 1, 6, none⟩) (by show g ≤ g + 1; omega) _)
  have HF := Lib.hid (And.intro hul (And.intro hus (And.intro huo (And.intro hot (And.intro hs1 hb)))))
  have HZ := Lib.hid (And.intro hu (And.intro s0 (And.intro s1 (And.intro s2 (And.intro s3 (And.intro s4 (And.intro s5 s6)))))))
  clear bu hus huo hul hu hot hs1 hb brn bxn bxv brv lon s0 s1 s2 s3 s4 s5 s6
  go_wp2_with fail
  obtain ⟨hu, s0, s1, s2, s3, s4, s5, s6⟩ := HZ.out
  refine bodyPost_ret (v := .agg #[.string (bs bn), .int .i64 op3, .string (bs nm3), .int .i64 xn3, .int .i64 wd3, .int .u64 (v3 : Int), .slice xa3 xl3.length xc3]) (by simp [results, Tryz.results77, go_sem, hu, s0, s1, s2, s3, s4, s5, s6]) rfl ?_
  rw [hu]
  obtain ⟨hul, hus, huo, hot, hs1, hb⟩ := HF.out
  obtain ⟨hyn, hyi, hy0⟩ := HY.out
  rw [← hg] at hul
  have hxe := HXE.out
  refine ⟨⟨bn, yy⟩, by rw [← hy0]; rfl, ?_, ?_, hul⟩
  · simp only [BT.nrm]; rw [← hy0, hyn]
  · show XT.In u.heap.size (frm u W.heap.size) yy
    rw [← hy0]
    exact XT.In.less (by omega) _ (XT.In.keep (frm_next (by omega) (fun i h1 h2 => (huo i (by omega)).trans (hot i (by omega)))) _ hyi)
set_option maxHeartbeats 8000000 in
set_option maxRecDepth 100000 in
theorem copiedP_any (x : PT) (hbk : x.bk ≤ 1500000) (n0 : Nat) (W : World) (hn0 : n0 ≤ W.heap.size) (hin : x.In n0 W) : Calls Tryz.prog 79 #[x.val] W (Cp1 kdP PT.nrm x W) := by
  obtain ⟨bn, po, x⟩ := x
  simp only [PT.bk] at hbk
  have hin : XT.In n0 W x := hin
  have q := fun (V : World) (hV : W.heap.size ≤ V.heap.size) (hi : x.In n0 V) => copiedX_any x (by omega) n0 V (by omega) hi
  have HI := Lib.hid hin
  have HX := Lib.hid (rfl : x.nrm = x.nrm)
  obtain ⟨x0, hx0⟩ : ∃ x0, x = x0 := ⟨_, rfl⟩
  have HXE := Lib.hid hx0
  obtain ⟨op, nm, xn, wd, v, xa, xc, xl⟩ := x
  simp only [XT.val, XT.cells] at q
  have HQ := Lib.hid q
  clear q hin hx0
  simp only [PT.val, PT.cells, XT.cells]
  obtain ⟨g, hg⟩ : ∃ g, W.heap.size = g := ⟨_, rfl⟩
  obtain ⟨w0, hw0⟩ : ∃ w0, (W.alloc (.cells #[.string (bs bn), .bool po, .int .i64 op, .string (bs nm), .int .i64 xn, .int .i64 wd, .int .u64 (v : Int), .slice xa xl.length xc] 90)).alloc (.cells #[.string ⟨#[]⟩, .bool false, .int .i64 0, .string ⟨#[]⟩, .int .i64 0, .int .i64 0, .int .u64 0, .slice none 0 0] 90) = w0 := ⟨_, rfl⟩
  have hz0 : w0.heap.size = g + 2 := by rw [← hw0]; simp [hg]
  have lo0 : Below g W w0 := by rw [← hw0]; exact ((Below.refl _ _).alloc (by omega) _).alloc (by simp; omega) _
  have bx0 : w0.heap[g]? = some (.cells #[.string (bs bn), .bool po, .int .i64 op, .string (bs nm), .int .i64 xn, .int .i64 wd, .int .u64 (v : Int), .slice xa xl.length xc] 90 (0, 0)) := by rw [← hw0, ← hg]; exact block_alloc (World.alloc_heap_new W _) _
  have br0 : w0.heap[g + 1]? = some (.cells #[.string ⟨#[]⟩, .bool false, .int .i64 0, .string ⟨#[]⟩, .int .i64 0, .int .i64 0, .int .u64 0, .slice none 0 0] 90 (0, 0)) := by rw [← hw0, ← hg]; have := World.alloc_heap_new (W.alloc (.cells #[.string (bs bn), .bool po, .int .i64 op, .string (bs nm), .int .i64 xn, .int .i64 wd, .int .u64 (v : Int), .slice xa xl.length xc] 90)) (.cells #[.string ⟨#[]⟩, .bool false, .int .i64 0, .string ⟨#[]⟩, .int .i64 0, .int .i64 0, .int .u64 0, .slice none 0 0] 90); rwa [World.size_alloc] at this
  have HS0 := Lib.hid (And.intro lo0 (And.intro bx0 br0))
  have y0 : w0.cell? ⟨g, 0, none⟩ = some (.string (bs bn)) := by simp [World.cell?, bx0]
  have y1 : w0.cell? ⟨g, 1, none⟩ = some (.bool po) := by simp [World.cell?, bx0]
  have y2 : w0.cell? ⟨g, 2, none⟩ = some (.int .i64 op) := by simp [World.cell?, bx0]
  have y3 : w0.cell? ⟨g, 3, none⟩ = some (.string (bs nm)) := by simp [World.cell?, bx0]
  have y4 : w0.cell? ⟨g, 4, none⟩ = some (.int .i64 xn) := by simp [World.cell?, bx0]
  have y5 : w0.cell? ⟨g, 5, none⟩ = some (.int .i64 wd) := by simp [World.cell?, bx0]
  have y6 : w0.cell? ⟨g, 6, none⟩ = some (.int .u64 (v : Int)) := by simp [World.cell?, bx0]
  have y7 : w0.cell? ⟨g, 7, none⟩ = some (.slice xa xl.length xc) := by simp [World.cell?, bx0]
  clear lo0 bx0 br0
  go_enter Tryz.func79, Tryz.ntmps79
  go_wp2_with fail
  (try rw [hw0])
  refine (HQ.out w0 (by rw [hg]; omega) (XT.In.keep (Below.keptTo HS0.out.1 (by omega)) _ HI.out)).mono ?_
  clear hw0 y0 y1 y2 y3 y4 y5 y6 y7
  rintro e v0 ⟨y, rfl, hyn, hyi, hb⟩
  have bxv : v0.heap[g]? = _ := (hb.block g (by omega)).trans HS0.out.2.1
  have brv : v0.heap[g + 1]? = _ := (hb.block (g + 1) (by omega)).trans HS0.out.2.2
  have hzv := hb.size
  obtain ⟨yy, hy0⟩ : ∃ y0, y = y0 := ⟨_, rfl⟩
  have HY := Lib.hid (And.intro hyn (And.intro hyi hy0))
  clear hyn hyi hy0
  obtain ⟨op3, nm3, xn3, wd3, v3, xa3, xc3, xl3⟩ := y
  simp only [XT.cells]
  obtain ⟨w1, hw1⟩ : ∃ w, ((((((v0.setCell ⟨g, 2, none⟩ (.int .i64 op3)).setCell ⟨g, 3, none⟩ (.string (bs nm3))).setCell ⟨g, 4, none⟩ (.int .i64 xn3)).setCell ⟨g, 5, none⟩ (.int .i64 wd3)).setCell ⟨g, 6, none⟩ (.int .u64 (v3 : Int))).setCell ⟨g, 7, none⟩ (.slice xa3 xl3.length xc3)) = w := ⟨_, rfl⟩
  have bxn : w1.heap[g]? = some (.cells #[.string (bs bn), .bool po, .int .i64 op3, .string (bs nm3), .int .i64 xn3, .int .i64 wd3, .int .u64 (v3 : Int), .slice xa3 xl3.length xc3] 90 (0, 0)) := by rw [← hw1]; simp [World.setCell, Array.getElem?_modify, bxv]
  have hot : ∀ i, i ≠ g → w1.heap[i]? = v0.heap[i]? := fun i hi => by rw [← hw1]; exact (Below.heap_setCell _ ⟨g, 7, none⟩ _ i hi).trans ((Below.heap_setCell _ ⟨g, 6, none⟩ _ i hi).trans ((Below.heap_setCell _ ⟨g, 5, none⟩ _ i hi).trans ((Below.heap_setCell _ ⟨g, 4, none⟩ _ i hi).trans ((Below.heap_setCell _ ⟨g, 3, none⟩ _ i hi).trans (Below.heap_setCell _ ⟨g, 2, none⟩ _ i hi)))))
  have brn := (hot (g + 1) (by omega)).trans brv
  have hs1 : w1.heap.size = v0.heap.size := by rw [← hw1]; simp
  have lon : Below g W w1 := by rw [← hw1]; exact (Below.setCell (Below.setCell (Below.setCell (Below.setCell (Below.setCell (Below.setCell (HS0.out.1.trans (hb.mono (show g ≤ w0.heap.size by omega))) (p := ⟨g, 2, none⟩) (Nat.le_refl _) _) (p := ⟨g, 3, none⟩) (Nat.le_refl _) _) (p := ⟨g, 4, none⟩) (Nat.le_refl _) _) (p := ⟨g, 5, none⟩) (Nat.le_refl _) _) (p := ⟨g, 6, none⟩) (Nat.le_refl _) _) (p := ⟨g, 7, none⟩) (Nat.le_refl _) _)
  have c0 : v0.cell? ⟨g, 2, none⟩ = some (.int .i64 op) := by simp [World.cell?, bxv]
  have c1 : v0.cell? ⟨g, 3, none⟩ = some (.string (bs nm)) := by simp [World.cell?, bxv]
  have c2 : v0.cell? ⟨g, 4, none⟩ = some (.int .i64 xn) := by simp [World.cell?, bxv]
  have c3 : v0.cell? ⟨g, 5, none⟩ = some (.int .i64 wd) := by simp [World.cell?, bxv]
  have c4 : v0.cell? ⟨g, 6, none⟩ = some (.int .u64 (v : Int)) := by simp [World.cell?, bxv]
  have c5 : v0.cell? ⟨g, 7, none⟩ = some (.slice xa xl.length xc) := by simp [World.cell?, bxv]
  have d0 : v0.frozen? ⟨g, 2, none⟩ = false := by simp [World.frozen?, bxv]
  have d1 : v0.frozen? ⟨g, 3, none⟩ = false := by simp [World.frozen?, bxv]
  have d2 : v0.frozen? ⟨g, 4, none⟩ = false := by simp [World.frozen?, bxv]
  have d3 : v0.frozen? ⟨g, 5, none⟩ = false := by simp [World.frozen?, bxv]
  have d4 : v0.frozen? ⟨g, 6, none⟩ = false := by simp [World.frozen?, bxv]
  have d5 : v0.frozen? ⟨g, 7, none⟩ = false := by simp [World.frozen?, bxv]
  have y0 : w1.cell? ⟨g, 0, none⟩ = some (.string (bs bn)) := by simp [World.cell?, bxn]
  have y1 : w1.cell? ⟨g, 1, none⟩ = some (.bool po) := by simp [World.cell?, bxn]
  have y2 : w1.cell? ⟨g, 2, none⟩ = some (.int .i64 op3) := by simp [World.cell?, bxn]
  have y3 : w1.cell? ⟨g, 3, none⟩ = some (.string (bs nm3)) := by simp [World.cell?, bxn]
  have y4 : w1.cell? ⟨g, 4, none⟩ = some (.int .i64 xn3) := by simp [World.cell?, bxn]
  have y5 : w1.cell? ⟨g, 5, none⟩ = some (.int .i64 wd3) := by simp [World.cell?, bxn]
  have y6 : w1.cell? ⟨g, 6, none⟩ = some (.int .u64 (v3 : Int)) := by simp [World.cell?, bxn]
  have y7 : w1.cell? ⟨g, 7, none⟩ = some (.slice xa3 xl3.length xc3) := by simp [World.cell?, bxn]
  have e0 : w1.cell? ⟨g + 1, 0, none⟩ = some (.string ⟨#[]⟩) := by simp [World.cell?, brn]
  have e1 : w1.cell? ⟨g + 1, 1, none⟩ = some (.bool false) := by simp [World.cell?, brn]
  have e2 : w1.cell? ⟨g + 1, 2, none⟩ = some (.int .i64 0) := by simp [World.cell?, brn]
  have e3 : w1.cell? ⟨g + 1, 3, none⟩ = some (.string ⟨#[]⟩) := by simp [World.cell?, brn]
  have e4 : w1.cell? ⟨g + 1, 4, none⟩ = some (.int .i64 0) := by simp [World.cell?, brn]
  have e5 : w1.cell? ⟨g + 1, 5, none⟩ = some (.int .i64 0) := by simp [World.cell?, brn]
  have e6 : w1.cell? ⟨g + 1, 6, none⟩ = some (.int .u64 0) := by simp [World.cell?, brn]
  have e7 : w1.cell? ⟨g + 1, 7, none⟩ = some (.slice none 0 0) := by simp [World.cell?, brn]
  have f0 : w1.frozen? ⟨g + 1, 0, none⟩ = false := by simp [World.frozen?, brn]
  have f1 : w1.frozen? ⟨g + 1, 1, none⟩ = false := by simp [World.frozen?, brn]
  have f2 : w1.frozen? ⟨g + 1, 2, none⟩ = false := by simp [World.frozen?, brn]
  have f3 : w1.frozen? ⟨g + 1, 3, none⟩ = false := by simp [World.frozen?, brn]
  have f4 : w1.frozen? ⟨g + 1, 4, none⟩ = false := by simp [World.frozen?, brn]
  have f5 : w1.frozen? ⟨g + 1, 5, none⟩ = false := by simp [World.frozen?, brn]
  have f6 : w1.frozen? ⟨g + 1, 6, none⟩ = false := by simp [World.frozen?, brn]
  have f7 : w1.frozen? ⟨g + 1, 7, none⟩ = false := by simp [World.frozen?, brn]
  obtain ⟨u, hu⟩ : ∃ u, ((((((((w1.setCell ⟨g + 1, 0, none⟩ (.string (bs bn))).setCell ⟨g + 1, 1, none⟩ (.bool po)).setCell ⟨g + 1, 2, none⟩ (.int .i64 op3)).setCell ⟨g + 1, 3, none⟩ (.string (bs nm3))).setCell ⟨g + 1, 4, none⟩ (.int .i64 xn3)).setCell ⟨g + 1, 5, none⟩ (.int .i64 wd3)).setCell ⟨g + 1, 6, none⟩ (.int .u64 (v3 : Int))).setCell ⟨g + 1, 7, none⟩ (.slice xa3 xl3.length xc3)) = u := ⟨_, rfl⟩
  have bu : u.heap[g + 1]? = some (.cells #[.string (bs bn), .bool po, .int .i64 op3, .string (bs nm3), .int .i64 xn3, .int .i64 wd3, .int .u64 (v3 : Int), .slice xa3 xl3.length xc3] 90 (0, 0)) := by rw [← hu]; simp [World.setCell, Array.getElem?_modify, brn]
  have s0 : u.cell? ⟨g + 1, 0, none⟩ = some (.string (bs bn)) := by simp [World.cell?, bu]
  have s1 : u.cell? ⟨g + 1, 1, none⟩ = some (.bool po) := by simp [World.cell?, bu]
  have s2 : u.cell? ⟨g + 1, 2, none⟩ = some (.int .i64 op3) := by simp [World.cell?, bu]
  have s3 : u.cell? ⟨g + 1, 3, none⟩ = some (.string (bs nm3)) := by simp [World.cell?, bu]
  have s4 : u.cell? ⟨g + 1, 4, none⟩ = some (.int .i64 xn3) := by simp [World.cell?, bu]
  have s5 : u.cell? ⟨g + 1, 5, none⟩ = some (.int .i64 wd3) := by simp [World.cell?, bu]
  have s6 : u.cell? ⟨g + 1, 6, none⟩ = some (.int .u64 (v3 : Int)) := by simp [World.cell?, bu]
  have s7 : u.cell? ⟨g + 1, 7, none⟩ = some (.slice xa3 xl3.length xc3) := by simp [World.cell?, bu]
  have hus : u.heap.size = w1.heap.size := by rw [← hu]; simp
  have huo : ∀ i, i ≠ g + 1 → u.heap[i]? = w1.heap[i]? := fun i hi => by rw [← hu]; exact (Below.heap_setCell _ ⟨g + 1, 7, none⟩ _ i hi).trans ((Below.heap_setCell _ ⟨g + 1, 6, none⟩ _ i hi).trans ((Below.heap_setCell _ ⟨g + 1, 5, none⟩ _ i hi).trans ((Below.heap_setCell _ ⟨g + 1, 4, none⟩ _ i hi).trans ((Below.heap_setCell _ ⟨g + 1, 3, none⟩ _ i hi).trans ((Below.heap_setCell _ ⟨g + 1, 2, none⟩ _ i hi).trans ((Below.heap_setCell _ ⟨g + 1, 1, none⟩ _ i hi).trans (Below.heap_setCell _ ⟨g + 1, 0, none⟩ _ i hi)))))))
  have hul : Below g W u := by rw [← hu]; exact (Below.setCell (Below.setCell (Below.setCell (Below.setCell (Below.setCell (Below.setCell (Below.setCell (Below.setCell lon (p := ⟨g + 1, 0, none⟩) (by show g ≤ g + 1; omega) _) (p := ⟨g + 1, 1, none⟩) (by show g ≤ g + 1; omega) _) (p := ⟨g + 1, 2, none⟩) (by show g ≤ g + 1; omega) _) (p := ⟨g + 1, 3, none⟩) (by show g ≤ g + 1; omega) _) (p := ⟨g + 1, 4, none⟩) (by show g ≤ g + 1; omega) _) (p := ⟨g + 1, 5, none⟩) (by show g ≤ g + 1; omega) _) (p := ⟨g + 1, 6, none⟩) (by show g ≤ g + 1; omega) _) (p := ⟨g + 1, 7, none⟩) (by show g ≤ g + 1; omega) _)
  have HF := Lib.hid (And.intro hul (And.intro hus (And.intro huo (And.intro hot (And.intro hs1 hb)))))
  have HZ := Lib.hid (And.intro hu (And.intro s0 (And.intro s1 (And.intro s2 (And.intro s3 (And.intro s4 (And.intro s5 (And.intro s6 s7))))))))
  clear bu hus huo hul hu hot hs1 hb brn bxn bxv brv lon s0 s1 s2 s3 s4 s5 s6 s7
  go_wp2_with fail
  obtain ⟨hu, s0, s1, s2, s3, s4, s5, s6, s7⟩ := HZ.out
  refine bodyPost_ret (v := .agg #[.string (bs bn), .bool po, .int .i64 op3, .string (bs nm3), .int .i64 xn3, .int .i64 wd3, .int .u64 (v3 : Int), .slice xa3 xl3.length xc3]) (by simp [results, Tryz.results79, go_sem, hu, s0, s1, s2, s3, s4, s5, s6, s7]) rfl ?_
  rw [hu]
  obtain ⟨hul, hus, huo, hot, hs1, hb⟩ := HF.out
  obtain ⟨hyn, hyi, hy0⟩ := HY.out
  rw [← hg] at hul
  have hxe := HXE.out
  refine ⟨⟨bn, po, yy⟩, by rw [← hy0]; rfl, ?_, ?_, hul⟩
  · simp only [PT.nrm]; rw [← hy0, hyn]
  · show XT.In u.heap.size (frm u W.heap.size) yy
    rw [← hy0]
    exact XT.In.less (by omega) _ (XT.In.keep (frm_next (by omega) (fun i h1 h2 => (huo i (by omega)).trans (hot i (by omega)))) _ hyi)
set_option maxHeartbeats 8000000 in
set_option maxRecDepth 100000 in
theorem copiedI_any : ∀ x : IT, x.bk ≤ 1500000 → ∀ (n0 : Nat) (W : World), n0 ≤ W.heap.size → x.In n0 W → Calls Tryz.prog 81 #[x.val] W (Cp1 kdI IT.nrm x W) := by
  refine IT.ind ?_
  intro op nm nf xa xc xl sa sc sl la lc ll ea ec el pa pc pl ba bc bl ih0 ih1 hbk n0 W hn0 hin
  rw [IT.In_mk] at hin
  obtain ⟨i0, i1, i2, i3, i4, i5⟩ := hin
  simp only [IT.bk] at hbk
  have kn0 := XT.bkL_len xl
  have q0 := fun (V : World) (hV : W.heap.size ≤ V.heap.size) (hr : InRow 6 XT.cells (XT.In n0 V) n0 V xl xa) => copiedRowX n0 xl (by omega) V (by omega) (fun x hx U hU hi => copiedX_any x (by have := XT.bkL_mem hx; omega) n0 U (by omega) hi) xa xc hr
  have kn1 := ST.bkL_len sl
  have q1 := fun (V : World) (hV : W.heap.size ≤ V.heap.size) (hr : InRow 4 ST.cells (ST.In n0 V) n0 V sl sa) => copiedRowS n0 sl (by omega) V (by omega) (fun x hx U hU hi => copiedS_any x (by have := ST.bkL_mem hx; omega) n0 U (by omega) hi) sa sc hr
  have kn2 := IT.bkL_len ll
  have q2 := fun (V : World) (hV : W.heap.size ≤ V.heap.size) (hr : InRow 9 IT.cells (IT.In n0 V) n0 V ll la) => copiedRowI n0 ll (by omega) V (by omega) (fun x hx U hU hi => ih0 x hx (by have := IT.bkL_mem hx; omega) n0 U (by omega) hi) la lc hr
  have kn3 := IT.bkL_len el
  have q3 := fun (V : World) (hV : W.heap.size ≤ V.heap.size) (hr : InRow 9 IT.cells (IT.In n0 V) n0 V el ea) => copiedRowI n0 el (by omega) V (by omega) (fun x hx U hU hi => ih1 x hx (by have := IT.bkL_mem hx; omega) n0 U (by omega) hi) ea ec hr
  have kn4 := BT.bkL_len pl
  have q4 := fun (V : World) (hV : W.heap.size ≤ V.heap.size) (hr : InRow 7 BT.cells (BT.In n0 V) n0 V pl pa) => copiedRowB n0 pl (by omega) V (by omega) (fun x hx U hU hi => copiedB_any x (by have := BT.bkL_mem hx; omega) n0 U (by omega) hi) pa pc hr
  have kn5 := BT.bkL_len bl
  have q5 := fun (V : World) (hV : W.heap.size ≤ V.heap.size) (hr : InRow 7 BT.cells (BT.In n0 V) n0 V bl ba) => copiedRowB n0 bl (by omega) V (by omega) (fun x hx U hU hi => copiedB_any x (by have := BT.bkL_mem hx; omega) n0 U (by omega) hi) ba bc hr
  have HQ := Lib.hid (And.intro q0 (And.intro q1 (And.intro q2 (And.intro q3 (And.intro q4 q5)))))
  have HI := Lib.hid (And.intro i0 (And.intro i1 (And.intro i2 (And.intro i3 (And.intro i4 i5)))))
  clear q0 i0 q1 i1 q2 i2 q3 i3 q4 i4 q5 i5 ih0 ih1
  simp only [IT.val, IT.cells]
  obtain ⟨g, hg⟩ : ∃ g, W.heap.size = g := ⟨_, rfl⟩
  obtain ⟨w0, hw0⟩ : ∃ w0, (W.alloc (.cells #[.int .i64 op, .string (bs nm), .string (bs nf), .slice xa xl.length xc, .slice sa sl.length sc, .slice la ll.length lc, .slice ea el.length ec, .slice pa pl.length pc, .slice ba bl.length bc] 54)).alloc (.cells #[.int .i64 0, .string ⟨#[]⟩, .string ⟨#[]⟩, .slice none 0 0, .slice none 0 0, .slice none 0 0, .slice none 0 0, .slice none 0 0, .slice none 0 0] 54) = w0 := ⟨_, rfl⟩
  have hz0 : w0.heap.size = g + 2 := by rw [← hw0]; simp [hg]
  have lo0 : Below g W w0 := by rw [← hw0]; exact ((Below.refl _ _).alloc (by omega) _).alloc (by simp; omega) _
  have bx0 : w0.heap[g]? = some (.cells #[.int .i64 op, .string (bs nm), .string (bs nf), .slice xa xl.length xc, .slice sa sl.length sc, .slice la ll.length lc, .slice ea el.length ec, .slice pa pl.length pc, .slice ba bl.length bc] 54 (0, 0)) := by rw [← hw0, ← hg]; exact block_alloc (World.alloc_heap_new W _) _
  have br0 : w0.heap[g + 1]? = some (.cells #[.int .i64 0, .string ⟨#[]⟩, .string ⟨#[]⟩, .slice none 0 0, .slice none 0 0, .slice none 0 0, .slice none 0 0, .slice none 0 0, .slice none 0 0] 54 (0, 0)) := by rw [← hw0, ← hg]; have := World.alloc_heap_new (W.alloc (.cells #[.int .i64 op, .string (bs nm), .string (bs nf), .slice xa xl.length xc, .slice sa sl.length sc, .slice la ll.length lc, .slice ea el.length ec, .slice pa pl.length pc, .slice ba bl.length bc] 54)) (.cells #[.int .i64 0, .string ⟨#[]⟩, .string ⟨#[]⟩, .slice none 0 0, .slice none 0 0, .slice none 0 0, .slice none 0 0, .slice none 0 0, .slice none 0 0] 54); rwa [World.size_alloc] at this
  have HS0 := Lib.hid (And.intro lo0 (And.intro bx0 br0))
  have b9 := bx0
  have y0 : w0.cell? ⟨g, 0, none⟩ = some (.int .i64 op) := by simp [World.cell?, b9]
  have y1 : w0.cell? ⟨g, 1, none⟩ = some (.string (bs nm)) := by simp [World.cell?, b9]
  have y2 : w0.cell? ⟨g, 2, none⟩ = some (.string (bs nf)) := by simp [World.cell?, b9]
  have y3 : w0.cell? ⟨g, 3, none⟩ = some (.slice xa xl.length xc) := by simp [World.cell?, b9]
  have y4 : w0.cell? ⟨g, 4, none⟩ = some (.slice sa sl.length sc) := by simp [World.cell?, b9]
  have y5 : w0.cell? ⟨g, 5, none⟩ = some (.slice la ll.length lc) := by simp [World.cell?, b9]
  have y6 : w0.cell? ⟨g, 6, none⟩ = some (.slice ea el.length ec) := by simp [World.cell?, b9]
  have y7 : w0.cell? ⟨g, 7, none⟩ = some (.slice pa pl.length pc) := by simp [World.cell?, b9]
  have y8 : w0.cell? ⟨g, 8, none⟩ = some (.slice ba bl.length bc) := by simp [World.cell?, b9]
  clear b9 lo0 bx0 br0
  skip
  go_enter Tryz.func81, Tryz.ntmps81
  go_wp2_with fail
  (try rw [hw0])
  refine (HQ.out.1 w0 (by rw [hg]; have := hz0; omega) (InRow.keep (Below.keptTo HS0.out.1 (by omega)) (fun x _ h => XT.In.keep (Below.keptTo HS0.out.1 (by omega)) x h) HI.out.1)).mono ?_
  clear hw0 y0 y1 y2 y3 y4 y5 y6 y7 y8
  rintro e v0 ⟨a0, c0, m0, rfl, hm0, hr0, hb⟩
  obtain ⟨N0, hN0⟩ : ∃ N, m0.length = N := ⟨_, rfl⟩
  rw [hN0]
  have hzv : w0.heap.size ≤ v0.heap.size := hb.size
  have bxv : v0.heap[g]? = _ := (hb.block g (by omega)).trans HS0.out.2.1
  have brv : v0.heap[g + 1]? = _ := (hb.block (g + 1) (by omega)).trans HS0.out.2.2
  obtain ⟨w1, hw1⟩ : ∃ w, v0.setCell ⟨g, 3, none⟩ (.slice a0 N0 c0) = w := ⟨_, rfl⟩
  have hz1 : g + 2 ≤ w1.heap.size := by rw [← hw1]; simp; omega
  have bxn : w1.heap[g]? = some (.cells #[.int .i64 op, .string (bs nm), .string (bs nf), .slice a0 N0 c0, .slice sa sl.length sc, .slice la ll.length lc, .slice ea el.length ec, .slice pa pl.length pc, .slice ba bl.length bc] 54 (0, 0)) := by rw [← hw1]; simp only [World.setCell, Array.getElem?_modify, ↓reduceIte]; rw [bxv]; rfl
  have brn : w1.heap[g + 1]? = some (.cells #[.int .i64 0, .string ⟨#[]⟩, .string ⟨#[]⟩, .slice none 0 0, .slice none 0 0, .slice none 0 0, .slice none 0 0, .slice none 0 0, .slice none 0 0] 54 (0, 0)) := by rw [← hw1]; exact (Below.heap_setCell v0 ⟨g, 3, none⟩ _ (g + 1) (by show g + 1 ≠ g; omega)).trans brv
  have lon : Below g W w1 := by rw [← hw1]; exact (HS0.out.1.trans (hb.mono (show g ≤ w0.heap.size by omega))).setCell (p := ⟨g, 3, none⟩) (Nat.le_refl _) _
  have hsz : v0.heap.size ≤ w1.heap.size := by rw [← hw1]; simp
  have hot : ∀ i, i ≠ g → w1.heap[i]? = v0.heap[i]? := fun i hi => by rw [← hw1]; exact Below.heap_setCell v0 ⟨g, 3, none⟩ _ i hi
  have R0 : RowZ kdX w1 (g + 2) m0 a0 := RowZ.next (K := kdX) (z := w0.heap.size) hr0 (by omega) hsz (fun i hi hi2 => hot i (by omega))
  have HS1 := Lib.hid (And.intro lon (And.intro bxn brn))
  have c9 : v0.cell? ⟨g, 3, none⟩ = some (.slice xa xl.length xc) := by simp [World.cell?, bxv]
  have f9 : v0.frozen? ⟨g, 3, none⟩ = false := by simp [World.frozen?, bxv]
  have b9 := bxn
  have y0 : w1.cell? ⟨g, 0, none⟩ = some (.int .i64 op) := by simp [World.cell?, b9]
  have y1 : w1.cell? ⟨g, 1, none⟩ = some (.string (bs nm)) := by simp [World.cell?, b9]
  have y2 : w1.cell? ⟨g, 2, none⟩ = some (.string (bs nf)) := by simp [World.cell?, b9]
  have y3 : w1.cell? ⟨g, 3, none⟩ = some (.slice a0 N0 c0) := by simp [World.cell?, b9]
  have y4 : w1.cell? ⟨g, 4, none⟩ = some (.slice sa sl.length sc) := by simp [World.cell?, b9]
  have y5 : w1.cell? ⟨g, 5, none⟩ = some (.slice la ll.length lc) := by simp [World.cell?, b9]
  have y6 : w1.cell? ⟨g, 6, none⟩ = some (.slice ea el.length ec) := by simp [World.cell?, b9]
  have y7 : w1.cell? ⟨g, 7, none⟩ = some (.slice pa pl.length pc) := by simp [World.cell?, b9]
  have y8 : w1.cell? ⟨g, 8, none⟩ = some (.slice ba bl.length bc) := by simp [World.cell?, b9]
  clear b9 bxv brv bxn brn lon hot hb hr0
  go_wp2_with fail
  (try rw [hw1])
  refine (HQ.out.2.1 w1 (by rw [hg]; have := hz1; omega) (InRow.keep (Below.keptTo HS1.out.1 (by omega)) (fun x _ h => ST.In.keep (Below.keptTo HS1.out.1 (by omega)) x h) HI.out.2.1)).mono ?_
  clear hw1 y0 y1 y2 y3 y4 y5 y6 y7 y8
  rintro e v1 ⟨a1, c1, m1, rfl, hm1, hr1, hb⟩
  obtain ⟨N1, hN1⟩ : ∃ N, m1.length = N := ⟨_, rfl⟩
  rw [hN1]
  have hzv : w1.heap.size ≤ v1.heap.size := hb.size
  have bxv : v1.heap[g]? = _ := (hb.block g (by omega)).trans HS1.out.2.1
  have brv : v1.heap[g + 1]? = _ := (hb.block (g + 1) (by omega)).trans HS1.out.2.2
  obtain ⟨w2, hw2⟩ : ∃ w, v1.setCell ⟨g, 4, none⟩ (.slice a1 N1 c1) = w := ⟨_, rfl⟩
  have hz2 : g + 2 ≤ w2.heap.size := by rw [← hw2]; simp; omega
  have bxn : w2.heap[g]? = some (.cells #[.int .i64 op, .string (bs nm), .string (bs nf), .slice a0 N0 c0, .slice a1 N1 c1, .slice la ll.length lc, .slice ea el.length ec, .slice pa pl.length pc, .slice ba bl.length bc] 54 (0, 0)) := by rw [← hw2]; simp only [World.setCell, Array.getElem?_modify, ↓reduceIte]; rw [bxv]; rfl
  have brn : w2.heap[g + 1]? = some (.cells #[.int .i64 0, .string ⟨#[]⟩, .string ⟨#[]⟩, .slice none 0 0, .slice none 0 0, .slice none 0 0, .slice none 0 0, .slice none 0 0, .slice none 0 0] 54 (0, 0)) := by rw [← hw2]; exact (Below.heap_setCell v1 ⟨g, 4, none⟩ _ (g + 1) (by show g + 1 ≠ g; omega)).trans brv
  have lon : Below g W w2 := by rw [← hw2]; exact (HS1.out.1.trans (hb.mono (show g ≤ w1.heap.size by omega))).setCell (p := ⟨g, 4, none⟩) (Nat.le_refl _) _
  have hsz : v1.heap.size ≤ w2.heap.size := by rw [← hw2]; simp
  have hot : ∀ i, i ≠ g → w2.heap[i]? = v1.heap[i]? := fun i hi => by rw [← hw2]; exact Below.heap_setCell v1 ⟨g, 4, none⟩ _ i hi
  have R1 : RowZ kdS w2 (g + 2) m1 a1 := RowZ.next (K := kdS) (z := w1.heap.size) hr1 (by omega) hsz (fun i hi hi2 => hot i (by omega))
  replace R0 := R0.next (Nat.le_refl _) (Nat.le_trans hzv hsz) (fun i hi hi2 => (hot i (by omega)).trans (hb.block i hi2))
  have HS2 := Lib.hid (And.intro lon (And.intro bxn brn))
  have c9 : v1.cell? ⟨g, 4, none⟩ = some (.slice sa sl.length sc) := by simp [World.cell?, bxv]
  have f9 : v1.frozen? ⟨g, 4, none⟩ = false := by simp [World.frozen?, bxv]
  have b9 := bxn
  have y0 : w2.cell? ⟨g, 0, none⟩ = some (.int .i64 op) := by simp [World.cell?, b9]
  have y1 : w2.cell? ⟨g, 1, none⟩ = some (.string (bs nm)) := by simp [World.cell?, b9]
  have y2 : w2.cell? ⟨g, 2, none⟩ = some (.string (bs nf)) := by simp [World.cell?, b9]
  have y3 : w2.cell? ⟨g, 3, none⟩ = some (.slice a0 N0 c0) := by simp [World.cell?, b9]
  have y4 : w2.cell? ⟨g, 4, none⟩ = some (.slice a1 N1 c1) := by simp [World.cell?, b9]
  have y5 : w2.cell? ⟨g, 5, none⟩ = some (.slice la ll.length lc) := by simp [World.cell?, b9]
  have y6 : w2.cell? ⟨g, 6, none⟩ = some (.slice ea el.length ec) := by simp [World.cell?, b9]
  have y7 : w2.cell? ⟨g, 7, none⟩ = some (.slice pa pl.length pc) := by simp [World.cell?, b9]
  have y8 : w2.cell? ⟨g, 8, none⟩ = some (.slice ba bl.length bc) := by simp [World.cell?, b9]
  clear b9 bxv brv bxn brn lon hot hb hr1
  go_wp2_with fail
  (try rw [hw2])
  refine (HQ.out.2.2.1 w2 (by rw [hg]; have := hz2; omega) (InRow.keep (Below.keptTo HS2.out.1 (by omega)) (fun x _ h => IT.In.keep (Below.keptTo HS2.out.1 (by omega)) x h) HI.out.2.2.1)).mono ?_
  clear hw2 y0 y1 y2 y3 y4 y5 y6 y7 y8
  rintro e v2 ⟨a2, c2, m2, rfl, hm2, hr2, hb⟩
  obtain ⟨N2, hN2⟩ : ∃ N, m2.length = N := ⟨_, rfl⟩
  rw [hN2]
  have hzv : w2.heap.size ≤ v2.heap.size := hb.size
  have bxv : v2.heap[g]? = _ := (hb.block g (by omega)).trans HS2.out.2.1
  have brv : v2.heap[g + 1]? = _ := (hb.block (g + 1) (by omega)).trans HS2.out.2.2
  obtain ⟨w3, hw3⟩ : ∃ w, v2.setCell ⟨g, 5, none⟩ (.slice a2 N2 c2) = w := ⟨_, rfl⟩
  have hz3 : g + 2 ≤ w3.heap.size := by rw [← hw3]; simp; omega
  have bxn : w3.heap[g]? = some (.cells #[.int .i64 op, .string (bs nm), .string (bs nf), .slice a0 N0 c0, .slice a1 N1 c1, .slice a2 N2 c2, .slice ea el.length ec, .slice pa pl.length pc, .slice ba bl.length bc] 54 (0, 0)) := by rw [← hw3]; simp only [World.setCell, Array.getElem?_modify, ↓reduceIte]; rw [bxv]; rfl
  have brn : w3.heap[g + 1]? = some (.cells #[.int .i64 0, .string ⟨#[]⟩, .string ⟨#[]⟩, .slice none 0 0, .slice none 0 0, .slice none 0 0, .slice none 0 0, .slice none 0 0, .slice none 0 0] 54 (0, 0)) := by rw [← hw3]; exact (Below.heap_setCell v2 ⟨g, 5, none⟩ _ (g + 1) (by show g + 1 ≠ g; omega)).trans brv
  have lon : Below g W w3 := by rw [← hw3]; exact (HS2.out.1.trans (hb.mono (show g ≤ w2.heap.size by omega))).setCell (p := ⟨g, 5, none⟩) (Nat.le_refl _) _
  have hsz : v2.heap.size ≤ w3.heap.size := by rw [← hw3]; simp
  have hot : ∀ i, i ≠ g → w3.heap[i]? = v2.heap[i]? := fun i hi => by rw [← hw3]; exact Below.heap_setCell v2 ⟨g, 5, none⟩ _ i hi
  have R2 : RowZ kdI w3 (g + 2) m2 a2 := RowZ.next (K := kdI) (z := w2.heap.size) hr2 (by omega) hsz (fun i hi hi2 => hot i (by omega))
  replace R0 := R0.next (Nat.le_refl _) (Nat.le_trans hzv hsz) (fun i hi hi2 => (hot i (by omega)).trans (hb.block i hi2))
  replace R1 := R1.next (Nat.le_refl _) (Nat.le_trans hzv hsz) (fun i hi hi2 => (hot i (by omega)).trans (hb.block i hi2))
  have HS3 := Lib.hid (And.intro lon (And.intro bxn brn))
  have c9 : v2.cell? ⟨g, 5, none⟩ = some (.slice la ll.length lc) := by simp [World.cell?, bxv]
  have f9 : v2.frozen? ⟨g, 5, none⟩ = false := by simp [World.frozen?, bxv]
  have b9 := bxn
  have y0 : w3.cell? ⟨g, 0, none⟩ = some (.int .i64 op) := by simp [World.cell?, b9]
  have y1 : w3.cell? ⟨g, 1, none⟩ = some (.string (bs nm)) := by simp [World.cell?, b9]
  have y2 : w3.cell? ⟨g, 2, none⟩ = some (.string (bs nf)) := by simp [World.cell?, b9]
  have y3 : w3.cell? ⟨g, 3, none⟩ = some (.slice a0 N0 c0) := by simp [World.cell?, b9]
  have y4 : w3.cell? ⟨g, 4, none⟩ = some (.slice a1 N1 c1) := by simp [World.cell?, b9]
  have y5 : w3.cell? ⟨g, 5, none⟩ = some (.slice a2 N2 c2) := by simp [World.cell?, b9]
  have y6 : w3.cell? ⟨g, 6, none⟩ = some (.slice ea el.length ec) := by simp [World.cell?, b9]
  have y7 : w3.cell? ⟨g, 7, none⟩ = some (.slice pa pl.length pc) := by simp [World.cell?, b9]
  have y8 : w3.cell? ⟨g, 8, none⟩ = some (.slice ba bl.length bc) := by simp [World.cell?, b9]
  clear b9 bxv brv bxn brn lon hot hb hr2
  go_wp2_with fail
  (try rw [hw3])
  refine (HQ.out.2.2.2.1 w3 (by rw [hg]; have := hz3; omega) (InRow.keep (Below.keptTo HS3.out.1 (by omega)) (fun x _ h => IT.In.keep (Below.keptTo HS3.out.1 (by omega)) x h) HI.out.2.2.2.1)).mono ?_
  clear hw3 y0 y1 y2 y3 y4 y5 y6 y7 y8
  rintro e v3 ⟨a3, c3, m3, rfl, hm3, hr3, hb⟩
  obtain ⟨N3, hN3⟩ : ∃ N, m3.length = N := ⟨_, rfl⟩
  rw [hN3]
  have hzv : w3.heap.size ≤ v3.heap.size := hb.size
  have bxv : v3.heap[g]? = _ := (hb.block g (by omega)).trans HS3.out.2.1
  have brv : v3.heap[g + 1]? = _ := (hb.block (g + 1) (by omega)).trans HS3.out.2.2
  obtain ⟨w4, hw4⟩ : ∃ w, v3.setCell ⟨g, 6, none⟩ (.slice a3 N3 c3) = w := ⟨_, rfl⟩
  have hz4 : g + 2 ≤ w4.heap.size := by rw [← hw4]; simp; omega
  have bxn : w4.heap[g]? = some (.cells #[.int .i64 op, .string (bs nm), .string (bs nf), .slice a0 N0 c0, .slice a1 N1 c1, .slice a2 N2 c2, .slice a3 N3 c3, .slice pa pl.length pc, .slice ba bl.length bc] 54 (0, 0)) := by rw [← hw4]; simp only [World.setCell, Array.getElem?_modify, ↓reduceIte]; rw [bxv]; rfl
  have brn : w4.heap[g + 1]? = some (.cells #[.int .i64 0, .string ⟨#[]⟩, .string ⟨#[]⟩, .slice none 0 0, .slice none 0 0, .slice none 0 0, .slice none 0 0, .slice none 0 0, .slice none 0 0] 54 (0, 0)) := by rw [← hw4]; exact (Below.heap_setCell v3 ⟨g, 6, none⟩ _ (g + 1) (by show g + 1 ≠ g; omega)).trans brv
  have lon : Below g W w4 := by rw [← hw4]; exact (HS3.out.1.trans (hb.mono (show g ≤ w3.heap.size by omega))).setCell (p := ⟨g, 6, none⟩) (Nat.le_refl _) _
  have hsz : v3.heap.size ≤ w4.heap.size := by rw [← hw4]; simp
  have hot : ∀ i, i ≠ g → w4.heap[i]? = v3.heap[i]? := fun i hi => by rw [← hw4]; exact Below.heap_setCell v3 ⟨g, 6, none⟩ _ i hi
  have R3 : RowZ kdI w4 (g + 2) m3 a3 := RowZ.next (K := kdI) (z := w3.heap.size) hr3 (by omega) hsz (fun i hi hi2 => hot i (by omega))
  replace R0 := R0.next (Nat.le_refl _) (Nat.le_trans hzv hsz) (fun i hi hi2 => (hot i (by omega)).trans (hb.block i hi2))
  replace R1 := R1.next (Nat.le_refl _) (Nat.le_trans hzv hsz) (fun i hi hi2 => (hot i (by omega)).trans (hb.block i hi2))
  replace R2 := R2.next (Nat.le_refl _) (Nat.le_trans hzv hsz) (fun i hi hi2 => (hot i (by omega)).trans (hb.block i hi2))
  have HS4 := Lib.hid (And.intro lon (And.intro bxn brn))
  have c9 : v3.cell? ⟨g, 6, none⟩ = some (.slice ea el.length ec) := by simp [World.cell?, bxv]
  have f9 : v3.frozen? ⟨g, 6, none⟩ = false := by simp [World.frozen?, bxv]
  have b9 := bxn
  have y0 : w4.cell? ⟨g, 0, none⟩ = some (.int .i64 op) := by simp [World.cell?, b9]
  have y1 : w4.cell? ⟨g, 1, none⟩ = some (.string (bs nm)) := by simp [World.cell?, b9]
  have y2 : w4.cell? ⟨g, 2, none⟩ = some (.string (bs nf)) := by simp [World.cell?, b9]
  have y3 : w4.cell? ⟨g, 3, none⟩ = some (.slice a0 N0 c0) := by simp [World.cell?, b9]
  have y4 : w4.cell? ⟨g, 4, none⟩ = some (.slice a1 N1 c1) := by simp [World.cell?, b9]
  have y5 : w4.cell? ⟨g, 5, none⟩ = some (.slice a2 N2 c2) := by simp [World.cell?, b9]
  have y6 : w4.cell? ⟨g, 6, none⟩ = some (.slice a3 N3 c3) := by simp [World.cell?, b9]
  have y7 : w4.cell? ⟨g, 7, none⟩ = some (.slice pa pl.length pc) := by simp [World.cell?, b9]
  have y8 : w4.cell? ⟨g, 8, none⟩ = some (.slice ba bl.length bc) := by simp [World.cell?, b9]
  clear b9 bxv brv bxn brn lon hot hb hr3
  go_wp2_with fail
  (try rw [hw4])
  refine (HQ.out.2.2.2.2.1 w4 (by rw [hg]; have := hz4; omega) (InRow.keep (Below.keptTo HS4.out.1 (by omega)) (fun x _ h => BT.In.keep (Below.keptTo HS4.out.1 (by omega)) x h) HI.out.2.2.2.2.1)).mono ?_
  clear hw4 y0 y1 y2 y3 y4 y5 y6 y7 y8
  rintro e v4 ⟨a4, c4, m4, rfl, hm4, hr4, hb⟩
  obtain ⟨N4, hN4⟩ : ∃ N, m4.length = N := ⟨_, rfl⟩
  rw [hN4]
  have hzv : w4.heap.size ≤ v4.heap.size := hb.size
  have bxv : v4.heap[g]? = _ := (hb.block g (by omega)).trans HS4.out.2.1
  have brv : v4.heap[g + 1]? = _ := (hb.block (g + 1) (by omega)).trans HS4.out.2.2
  obtain ⟨w5, hw5⟩ : ∃ w, v4.setCell ⟨g, 7, none⟩ (.slice a4 N4 c4) = w := ⟨_, rfl⟩
  have hz5 : g + 2 ≤ w5.heap.size := by rw [← hw5]; simp; omega
  have bxn : w5.heap[g]? = some (.cells #[.int .i64 op, .string (bs nm), .string (bs nf), .slice a0 N0 c0, .slice a1 N1 c1, .slice a2 N2 c2, .slice a3 N3 c3, .slice a4 N4 c4, .slice ba bl.length bc] 54 (0, 0)) := by rw [← hw5]; simp only [World.setCell, Array.getElem?_modify, ↓reduceIte]; rw [bxv]; rfl
  have brn : w5.heap[g + 1]? = some (.cells #[.int .i64 0, .string ⟨#[]⟩, .string ⟨#[]⟩, .slice none 0 0, .slice none 0 0, .slice none 0 0, .slice none 0 0, .slice none 0 0, .slice none 0 0] 54 (0, 0)) := by rw [← hw5]; exact (Below.heap_setCell v4 ⟨g, 7, none⟩ _ (g + 1) (by show g + 1 ≠ g; omega)).trans brv
  have lon : Below g W w5 := by rw [← hw5]; exact (HS4.out.1.trans (hb.mono (show g ≤ w4.heap.size by omega))).setCell (p := ⟨g, 7, none⟩) (Nat.le_refl _) _
  have hsz : v4.heap.size ≤ w5.heap.size := by rw [← hw5]; simp
  have hot : ∀ i, i ≠ g → w5.heap[i]? = v4.heap[i]? := fun i hi => by rw [← hw5]; exact Below.heap_setCell v4 ⟨g, 7, none⟩ _ i hi
  have R4 : RowZ kdB w5 (g + 2) m4 a4 := RowZ.next (K := kdB) (z := w4.heap.size) hr4 (by omega) hsz (fun i hi hi2 => hot i (by omega))
  replace R0 := R0.next (Nat.le_refl _) (Nat.le_trans hzv hsz) (fun i hi hi2 => (hot i (by omega)).trans (hb.block i hi2))
  replace R1 := R1.next (Nat.le_refl _) (Nat.le_trans hzv hsz) (fun i hi hi2 => (hot i (by omega)).trans (hb.block i hi2))
  replace R2 := R2.next (Nat.le_refl _) (Nat.le_trans hzv hsz) (fun i hi hi2 => (hot i (by omega)).trans (hb.block i hi2))
  replace R3 := R3.next (Nat.le_refl _) (Nat.le_trans hzv hsz) (fun i hi hi2 => (hot i (by omega)).trans (hb.block i hi2))
  have HS5 := Lib.hid (And.intro lon (And.intro bxn brn))
  have c9 : v4.cell? ⟨g, 7, none⟩ = some (.slice pa pl.length pc) := by simp [World.cell?, bxv]
  have f9 : v4.frozen? ⟨g, 7, none⟩ = false := by simp [World.frozen?, bxv]
  have b9 := bxn
  have y0 : w5.cell? ⟨g, 0, none⟩ = some (.int .i64 op) := by simp [World.cell?, b9]
  have y1 : w5.cell? ⟨g, 1, none⟩ = some (.string (bs nm)) := by simp [World.cell?, b9]
  have y2 : w5.cell? ⟨g, 2, none⟩ = some (.string (bs nf)) := by simp [World.cell?, b9]
  have y3 : w5.cell? ⟨g, 3, none⟩ = some (.slice a0 N0 c0) := by simp [World.cell?, b9]
  have y4 : w5.cell? ⟨g, 4, none⟩ = some (.slice a1 N1 c1) := by simp [World.cell?, b9]
  have y5 : w5.cell? ⟨g, 5, none⟩ = some (.slice a2 N2 c2) := by simp [World.cell?, b9]
  have y6 : w5.cell? ⟨g, 6, none⟩ = some (.slice a3 N3 c3) := by simp [World.cell?, b9]
  have y7 : w5.cell? ⟨g, 7, none⟩ = some (.slice a4 N4 c4) := by simp [World.cell?, b9]
  have y8 : w5.cell? ⟨g, 8, none⟩ = some (.slice ba bl.length bc) := by simp [World.cell?, b9]
  clear b9 bxv brv bxn brn lon hot hb hr4
  go_wp2_with fail
  (try rw [hw5])
  refine (HQ.out.2.2.2.2.2 w5 (by rw [hg]; have := hz5; omega) (InRow.keep (Below.keptTo HS5.out.1 (by omega)) (fun x _ h => BT.In.keep (Below.keptTo HS5.out.1 (by omega)) x h) HI.out.2.2.2.2.2)).mono ?_
  clear hw5 y0 y1 y2 y3 y4 y5 y6 y7 y8
  rintro e v5 ⟨a5, c5, m5, rfl, hm5, hr5, hb⟩
  obtain ⟨N5, hN5⟩ : ∃ N, m5.length = N := ⟨_, rfl⟩
  rw [hN5]
  have hzv : w5.heap.size ≤ v5.heap.size := hb.size
  have bxv : v5.heap[g]? = _ := (hb.block g (by omega)).trans HS5.out.2.1
  have brv : v5.heap[g + 1]? = _ := (hb.block (g + 1) (by omega)).trans HS5.out.2.2
  obtain ⟨w6, hw6⟩ : ∃ w, v5.setCell ⟨g, 8, none⟩ (.slice a5 N5 c5) = w := ⟨_, rfl⟩
  have hz6 : g + 2 ≤ w6.heap.size := by rw [← hw6]; simp; omega
  have bxn : w6.heap[g]? = some (.cells #[.int .i64 op, .string (bs nm), .string (bs nf), .slice a0 N0 c0, .slice a1 N1 c1, .slice a2 N2 c2, .slice a3 N3 c3, .slice a4 N4 c4, .slice a5 N5 c5] 54 (0, 0)) := by rw [← hw6]; simp only [World.setCell, Array.getElem?_modify, ↓reduceIte]; rw [bxv]; rfl
  have brn : w6.heap[g + 1]? = some (.cells #[.int .i64 0, .string ⟨#[]⟩, .string ⟨#[]⟩, .slice none 0 0, .slice none 0 0, .slice none 0 0, .slice none 0 0, .slice none 0 0, .slice none 0 0] 54 (0, 0)) := by rw [← hw6]; exact (Below.heap_setCell v5 ⟨g, 8, none⟩ _ (g + 1) (by show g + 1 ≠ g; omega)).trans brv
  have lon : Below g W w6 := by rw [← hw6]; exact (HS5.out.1.trans (hb.mono (show g ≤ w5.heap.size by omega))).setCell (p := ⟨g, 8, none⟩) (Nat.le_refl _) _
  have hsz : v5.heap.size ≤ w6.heap.size := by rw [← hw6]; simp
  have hot : ∀ i, i ≠ g → w6.heap[i]? = v5.heap[i]? := fun i hi => by rw [← hw6]; exact Below.heap_setCell v5 ⟨g, 8, none⟩ _ i hi
  have R5 : RowZ kdB w6 (g + 2) m5 a5 := RowZ.next (K := kdB) (z := w5.heap.size) hr5 (by omega) hsz (fun i hi hi2 => hot i (by omega))
  replace R0 := R0.next (Nat.le_refl _) (Nat.le_trans hzv hsz) (fun i hi hi2 => (hot i (by omega)).trans (hb.block i hi2))
  replace R1 := R1.next (Nat.le_refl _) (Nat.le_trans hzv hsz) (fun i hi hi2 => (hot i (by omega)).trans (hb.block i hi2))
  replace R2 := R2.next (Nat.le_refl _) (Nat.le_trans hzv hsz) (fun i hi hi2 => (hot i (by omega)).trans (hb.block i hi2))
  replace R3 := R3.next (Nat.le_refl _) (Nat.le_trans hzv hsz) (fun i hi hi2 => (hot i (by omega)).trans (hb.block i hi2))
  replace R4 := R4.next (Nat.le_refl _) (Nat.le_trans hzv hsz) (fun i hi hi2 => (hot i (by omega)).trans (hb.block i hi2))
  have HS6 := Lib.hid (And.intro lon (And.intro bxn brn))
  have c9 : v5.cell? ⟨g, 8, none⟩ = some (.slice ba bl.length bc) := by simp [World.cell?, bxv]
  have f9 : v5.frozen? ⟨g, 8, none⟩ = false := by simp [World.frozen?, bxv]
  have b9 := bxn
  have y0 : w6.cell? ⟨g, 0, none⟩ = some (.int .i64 op) := by simp [World.cell?, b9]
  have y1 : w6.cell? ⟨g, 1, none⟩ = some (.string (bs nm)) := by simp [World.cell?, b9]
  have y2 : w6.cell? ⟨g, 2, none⟩ = some (.string (bs nf)) := by simp [World.cell?, b9]
  have y3 : w6.cell? ⟨g, 3, none⟩ = some (.slice a0 N0 c0) := by simp [World.cell?, b9]
  have y4 : w6.cell? ⟨g, 4, none⟩ = some (.slice a1 N1 c1) := by simp [World.cell?, b9]
  have y5 : w6.cell? ⟨g, 5, none⟩ = some (.slice a2 N2 c2) := by simp [World.cell?, b9]
  have y6 : w6.cell? ⟨g, 6, none⟩ = some (.slice a3 N3 c3) := by simp [World.cell?, b9]
  have y7 : w6.cell? ⟨g, 7, none⟩ = some (.slice a4 N4 c4) := by simp [World.cell?, b9]
  have y8 : w6.cell? ⟨g, 8, none⟩ = some (.slice a5 N5 c5) := by simp [World.cell?, b9]
  have b8 := brn
  have e0 : w6.cell? ⟨g + 1, 0, none⟩ = some (.int .i64 0) := by simp [World.cell?, b8]
  have e1 : w6.cell? ⟨g + 1, 1, none⟩ = some (.string ⟨#[]⟩) := by simp [World.cell?, b8]
  have e2 : w6.cell? ⟨g + 1, 2, none⟩ = some (.string ⟨#[]⟩) := by simp [World.cell?, b8]
  have e3 : w6.cell? ⟨g + 1, 3, none⟩ = some (.slice none 0 0) := by simp [World.cell?, b8]
  have e4 : w6.cell? ⟨g + 1, 4, none⟩ = some (.slice none 0 0) := by simp [World.cell?, b8]
  have e5 : w6.cell? ⟨g + 1, 5, none⟩ = some (.slice none 0 0) := by simp [World.cell?, b8]
  have e6 : w6.cell? ⟨g + 1, 6, none⟩ = some (.slice none 0 0) := by simp [World.cell?, b8]
  have e7 : w6.cell? ⟨g + 1, 7, none⟩ = some (.slice none 0 0) := by simp [World.cell?, b8]
  have e8 : w6.cell? ⟨g + 1, 8, none⟩ = some (.slice none 0 0) := by simp [World.cell?, b8]
  have f0 : w6.frozen? ⟨g + 1, 0, none⟩ = false := by simp [World.frozen?, b8]
  have f1 : w6.frozen? ⟨g + 1, 1, none⟩ = false := by simp [World.frozen?, b8]
  have f2 : w6.frozen? ⟨g + 1, 2, none⟩ = false := by simp [World.frozen?, b8]
  have f3 : w6.frozen? ⟨g + 1, 3, none⟩ = false := by simp [World.frozen?, b8]
  have f4 : w6.frozen? ⟨g + 1, 4, none⟩ = false := by simp [World.frozen?, b8]
  have f5 : w6.frozen? ⟨g + 1, 5, none⟩ = false := by simp [World.frozen?, b8]
  have f6 : w6.frozen? ⟨g + 1, 6, none⟩ = false := by simp [World.frozen?, b8]
  have f7 : w6.frozen? ⟨g + 1, 7, none⟩ = false := by simp [World.frozen?, b8]
  have f8 : w6.frozen? ⟨g + 1, 8, none⟩ = false := by simp [World.frozen?, b8]
  obtain ⟨u, hu⟩ : ∃ u, (((((((((w6.setCell ⟨g + 1, 0, none⟩ (.int .i64 op)).setCell ⟨g + 1, 1, none⟩ (.string (bs nm))).setCell ⟨g + 1, 2, none⟩ (.string (bs nf))).setCell ⟨g + 1, 3, none⟩ (.slice a0 N0 c0)).setCell ⟨g + 1, 4, none⟩ (.slice a1 N1 c1)).setCell ⟨g + 1, 5, none⟩ (.slice a2 N2 c2)).setCell ⟨g + 1, 6, none⟩ (.slice a3 N3 c3)).setCell ⟨g + 1, 7, none⟩ (.slice a4 N4 c4)).setCell ⟨g + 1, 8, none⟩ (.slice a5 N5 c5)) = u := ⟨_, rfl⟩
  have bu : u.heap[g + 1]? = some (.cells #[.int .i64 op, .string (bs nm), .string (bs nf), .slice a0 N0 c0, .slice a1 N1 c1, .slice a2 N2 c2, .slice a3 N3 c3, .slice a4 N4 c4, .slice a5 N5 c5] 54 (0, 0)) := by rw [← hu]; have hb9 := (Array.getElem?_eq_some_iff.1 b8).1; simp [World.setCell, Array.getElem?_modify, b8]
  have s0 : u.cell? ⟨g + 1, 0, none⟩ = some (.int .i64 op) := by simp [World.cell?, bu]
  have s1 : u.cell? ⟨g + 1, 1, none⟩ = some (.string (bs nm)) := by simp [World.cell?, bu]
  have s2 : u.cell? ⟨g + 1, 2, none⟩ = some (.string (bs nf)) := by simp [World.cell?, bu]
  have s3 : u.cell? ⟨g + 1, 3, none⟩ = some (.slice a0 N0 c0) := by simp [World.cell?, bu]
  have s4 : u.cell? ⟨g + 1, 4, none⟩ = some (.slice a1 N1 c1) := by simp [World.cell?, bu]
  have s5 : u.cell? ⟨g + 1, 5, none⟩ = some (.slice a2 N2 c2) := by simp [World.cell?, bu]
  have s6 : u.cell? ⟨g + 1, 6, none⟩ = some (.slice a3 N3 c3) := by simp [World.cell?, bu]
  have s7 : u.cell? ⟨g + 1, 7, none⟩ = some (.slice a4 N4 c4) := by simp [World.cell?, bu]
  have s8 : u.cell? ⟨g + 1, 8, none⟩ = some (.slice a5 N5 c5) := by simp [World.cell?, bu]
  have hus : u.heap.size = w6.heap.size := by rw [← hu]; simp
  have huo : ∀ i, i ≠ g + 1 → u.heap[i]? = w6.heap[i]? := fun i hi => by rw [← hu]; exact (Below.heap_setCell _ ⟨g + 1, 8, none⟩ _ i hi).trans ((Below.heap_setCell _ ⟨g + 1, 7, none⟩ _ i hi).trans ((Below.heap_setCell _ ⟨g + 1, 6, none⟩ _ i hi).trans ((Below.heap_setCell _ ⟨g + 1, 5, none⟩ _ i hi).trans ((Below.heap_setCell _ ⟨g + 1, 4, none⟩ _ i hi).trans ((Below.heap_setCell _ ⟨g + 1, 3, none⟩ _ i hi).trans ((Below.heap_setCell _ ⟨g + 1, 2, none⟩ _ i hi).trans ((Below.heap_setCell _ ⟨g + 1, 1, none⟩ _ i hi).trans (Below.heap_setCell _ ⟨g + 1, 0, none⟩ _ i hi))))))))
  have hul : Below g W u := by rw [← hu]; exact (Below.setCell (Below.setCell (Below.setCell (Below.setCell (Below.setCell (Below.setCell (Below.setCell (Below.setCell (Below.setCell lon (p := ⟨g + 1, 0, none⟩) (by show g ≤ g + 1; omega) _) (p := ⟨g + 1, 1, none⟩) (by show g ≤ g + 1; omega) _) (p := ⟨g + 1, 2, none⟩) (by show g ≤ g + 1; omega) _) (p := ⟨g + 1, 3, none⟩) (by show g ≤ g + 1; omega) _) (p := ⟨g + 1, 4, none⟩) (by show g ≤ g + 1; omega) _) (p := ⟨g + 1, 5, none⟩) (by show g ≤ g + 1; omega) _) (p := ⟨g + 1, 6, none⟩) (by show g ≤ g + 1; omega) _) (p := ⟨g + 1, 7, none⟩) (by show g ≤ g + 1; omega) _) (p := ⟨g + 1, 8, none⟩) (by show g ≤ g + 1; omega) _)
  replace R0 := RowZ.next (z' := g) R0 (by omega) (Nat.le_of_eq hus.symm) (fun i hi hi2 => huo i (by omega))
  replace R1 := RowZ.next (z' := g) R1 (by omega) (Nat.le_of_eq hus.symm) (fun i hi hi2 => huo i (by omega))
  replace R2 := RowZ.next (z' := g) R2 (by omega) (Nat.le_of_eq hus.symm) (fun i hi hi2 => huo i (by omega))
  replace R3 := RowZ.next (z' := g) R3 (by omega) (Nat.le_of_eq hus.symm) (fun i hi hi2 => huo i (by omega))
  replace R4 := RowZ.next (z' := g) R4 (by omega) (Nat.le_of_eq hus.symm) (fun i hi hi2 => huo i (by omega))
  replace R5 := RowZ.next (z' := g) R5 (by omega) (Nat.le_of_eq hus.symm) (fun i hi hi2 => huo i (by omega))
  have HF := Lib.hid (And.intro hul (And.intro R0 (And.intro R1 (And.intro R2 (And.intro R3 (And.intro R4 R5))))))
  have HZ := Lib.hid (And.intro hu (And.intro s0 (And.intro s1 (And.intro s2 (And.intro s3 (And.intro s4 (And.intro s5 (And.intro s6 (And.intro s7 s8)))))))))
  clear b8 bu hus huo hul hu s0 s1 s2 s3 s4 s5 s6 s7 s8 R0 R1 R2 R3 R4 R5
  clear b9 bxv brv bxn brn lon hot hb hr5
  go_wp2_with fail
  obtain ⟨hu, s0, s1, s2, s3, s4, s5, s6, s7, s8⟩ := HZ.out
  refine bodyPost_ret (v := .agg #[.int .i64 op, .string (bs nm), .string (bs nf), .slice a0 N0 c0, .slice a1 N1 c1, .slice a2 N2 c2, .slice a3 N3 c3, .slice a4 N4 c4, .slice a5 N5 c5]) (by simp [results, Tryz.results81, go_sem, hu, s0, s1, s2, s3, s4, s5, s6, s7, s8]) rfl ?_
  rw [hu]
  obtain ⟨hlow, R0, R1, R2, R3, R4, R5⟩ := HF.out
  rw [← hg] at hlow R0 R1 R2 R3 R4 R5
  refine ⟨(IT.mk op nm nf a0 c0 m0 a1 c1 m1 a2 c2 m2 a3 c3 m3 a4 c4 m4 a5 c5 m5), ?_, ?_, ?_, hlow⟩
  · simp only [IT.cells, hN0, hN1, hN2, hN3, hN4, hN5]
  · simp only [IT.nrm, IT.nrmL_map, hm0, hm1, hm2, hm3, hm4, hm5]
  · show IT.In _ _ (IT.mk op nm nf a0 c0 m0 a1 c1 m1 a2 c2 m2 a3 c3 m3 a4 c4 m4 a5 c5 m5)
    rw [IT.In_mk]
    exact ⟨R0, R1, R2, R3, R4, R5⟩
set_option maxHeartbeats 8000000 in
set_option maxRecDepth 100000 in
theorem copiedM_any (x : MT) (hbk : x.bk ≤ 1500000) (n0 : Nat) (W : World) (hn0 : n0 ≤ W.heap.size) (hin : x.In n0 W) : Calls Tryz.prog 46 #[x.val] W (Cp1 kdM MT.nrm x W) := by
  obtain ⟨nm, pa, pc, pl, ta, tc, tl, ia, ic, il⟩ := x
  obtain ⟨i0, i1, i2⟩ := hin
  simp only [MT.bk] at hbk
  simp only at i0 i1 i2
  have kn0 := BT.bkL_len pl
  have q0 := fun (V : World) (hV : W.heap.size ≤ V.heap.size) (hr : InRow 7 BT.cells (BT.In n0 V) n0 V pl pa) => copiedRowB n0 pl (by omega) V (by omega) (fun x hx U hU hi => copiedB_any x (by have := BT.bkL_mem hx; omega) n0 U (by omega) hi) pa pc hr
  have kn1 := PT.bkL_len tl
  have q1 := fun (V : World) (hV : W.heap.size ≤ V.heap.size) (hr : InRow 8 PT.cells (PT.In n0 V) n0 V tl ta) => copiedRowP n0 tl (by omega) V (by omega) (fun x hx U hU hi => copiedP_any x (by have := PT.bkL_mem hx; omega) n0 U (by omega) hi) ta tc hr
  have kn2 := IT.bkL_len il
  have q2 := fun (V : World) (hV : W.heap.size ≤ V.heap.size) (hr : InRow 9 IT.cells (IT.In n0 V) n0 V il ia) => copiedRowI n0 il (by omega) V (by omega) (fun x hx U hU hi => copiedI_any x (by have := IT.bkL_mem hx; omega) n0 U (by omega) hi) ia ic hr
  have HQ := Lib.hid (And.intro q0 (And.intro q1 q2))
  have HI := Lib.hid (And.intro i0 (And.intro i1 i2))
  clear q0 i0 q1 i1 q2 i2 
  simp only [MT.val, MT.cells]
  obtain ⟨g, hg⟩ : ∃ g, W.heap.size = g := ⟨_, rfl⟩
  obtain ⟨w0, hw0⟩ : ∃ w0, (W.alloc (.cells #[.string (bs nm), .slice pa pl.length pc, .slice ta tl.length tc, .slice ia il.length ic] 33)).alloc (.cells #[.string ⟨#[]⟩, .slice none 0 0, .slice none 0 0, .slice none 0 0] 33) = w0 := ⟨_, rfl⟩
  have hz0 : w0.heap.size = g + 2 := by rw [← hw0]; simp [hg]
  have lo0 : Below g W w0 := by rw [← hw0]; exact ((Below.refl _ _).alloc (by omega) _).alloc (by simp; omega) _
  have bx0 : w0.heap[g]? = some (.cells #[.string (bs nm), .slice pa pl.length pc, .slice ta tl.length tc, .slice ia il.length ic] 33 (0, 0)) := by rw [← hw0, ← hg]; exact block_alloc (World.alloc_heap_new W _) _
  have br0 : w0.heap[g + 1]? = some (.cells #[.string ⟨#[]⟩, .slice none 0 0, .slice none 0 0, .slice none 0 0] 33 (0, 0)) := by rw [← hw0, ← hg]; have := World.alloc_heap_new (W.alloc (.cells #[.string (bs nm), .slice pa pl.length pc, .slice ta tl.length tc, .slice ia il.length ic] 33)) (.cells #[.string ⟨#[]⟩, .slice none 0 0, .slice none 0 0, .slice none 0 0] 33); rwa [World.size_alloc] at this
  have HS0 := Lib.hid (And.intro lo0 (And.intro bx0 br0))
  have b9 := bx0
  have y0 : w0.cell? ⟨g, 0, none⟩ = some (.string (bs nm)) := by simp [World.cell?, b9]
  have y1 : w0.cell? ⟨g, 1, none⟩ = some (.slice pa pl.length pc) := by simp [World.cell?, b9]
  have y2 : w0.cell? ⟨g, 2, none⟩ = some (.slice ta tl.length tc) := by simp [World.cell?, b9]
  have y3 : w0.cell? ⟨g, 3, none⟩ = some (.slice ia il.length ic) := by simp [World.cell?, b9]
  clear b9 lo0 bx0 br0
  skip
  go_enter Tryz.func46, Tryz.ntmps46
  go_wp2_with fail
  (try rw [hw0])
  refine (HQ.out.1 w0 (by rw [hg]; have := hz0; omega) (InRow.keep (Below.keptTo HS0.out.1 (by omega)) (fun x _ h => BT.In.keep (Below.keptTo HS0.out.1 (by omega)) x h) HI.out.1)).mono ?_
  clear hw0 y0 y1 y2 y3
  rintro e v0 ⟨a0, c0, m0, rfl, hm0, hr0, hb⟩
  obtain ⟨N0, hN0⟩ : ∃ N, m0.length = N := ⟨_, rfl⟩
  rw [hN0]
  have hzv : w0.heap.size ≤ v0.heap.size := hb.size
  have bxv : v0.heap[g]? = _ := (hb.block g (by omega)).trans HS0.out.2.1
  have brv : v0.heap[g + 1]? = _ := (hb.block (g + 1) (by omega)).trans HS0.out.2.2
  obtain ⟨w1, hw1⟩ : ∃ w, v0.setCell ⟨g, 1, none⟩ (.slice a0 N0 c0) = w := ⟨_, rfl⟩
  have hz1 : g + 2 ≤ w1.heap.size := by rw [← hw1]; simp; omega
  have bxn : w1.heap[g]? = some (.cells #[.string (bs nm), .slice a0 N0 c0, .slice ta tl.length tc, .slice ia il.length ic] 33 (0, 0)) := by rw [← hw1]; simp only [World.setCell, Array.getElem?_modify, ↓reduceIte]; rw [bxv]; rfl
  have brn : w1.heap[g + 1]? = some (.cells #[.string ⟨#[]⟩, .slice none 0 0, .slice none 0 0, .slice none 0 0] 33 (0, 0)) := by rw [← hw1]; exact (Below.heap_setCell v0 ⟨g, 1, none⟩ _ (g + 1) (by show g + 1 ≠ g; omega)).trans brv
  have lon : Below g W w1 := by rw [← hw1]; exact (HS0.out.1.trans (hb.mono (show g ≤ w0.heap.size by omega))).setCell (p := ⟨g, 1, none⟩) (Nat.le_refl _) _
  have hsz : v0.heap.size ≤ w1.heap.size := by rw [← hw1]; simp
  have hot : ∀ i, i ≠ g → w1.heap[i]? = v0.heap[i]? := fun i hi => by rw [← hw1]; exact Below.heap_setCell v0 ⟨g, 1, none⟩ _ i hi
  have R0 : RowZ kdB w1 (g + 2) m0 a0 := RowZ.next (K := kdB) (z := w0.heap.size) hr0 (by omega) hsz (fun i hi hi2 => hot i (by omega))
  have HS1 := Lib.hid (And.intro lon (And.intro bxn brn))
  have c9 : v0.cell? ⟨g, 1, none⟩ = some (.slice pa pl.length pc) := by simp [World.cell?, bxv]
  have f9 : v0.frozen? ⟨g, 1, none⟩ = false := by simp [World.frozen?, bxv]
  have b9 := bxn
  have y0 : w1.cell? ⟨g, 0, none⟩ = some (.string (bs nm)) := by simp [World.cell?, b9]
  have y1 : w1.cell? ⟨g, 1, none⟩ = some (.slice a0 N0 c0) := by simp [World.cell?, b9]
  have y2 : w1.cell? ⟨g, 2, none⟩ = some (.slice ta tl.length tc) := by simp [World.cell?, b9]
  have y3 : w1.cell? ⟨g, 3, none⟩ = some (.slice ia il.length ic) := by simp [World.cell?, b9]
  clear b9 bxv brv bxn brn lon hot hb hr0
  go_wp2_with fail
  (try rw [hw1])
  refine (HQ.out.2.1 w1 (by rw [hg]; have := hz1; omega) (InRow.keep (Below.keptTo HS1.out.1 (by omega)) (fun x _ h => PT.In.keep (Below.keptTo HS1.out.1 (by omega)) x h) HI.out.2.1)).mono ?_
  clear hw1 y0 y1 y2 y3
  rintro e v1 ⟨a1, c1, m1, rfl, hm1, hr1, hb⟩
  obtain ⟨N1, hN1⟩ : ∃ N, m1.length = N := ⟨_, rfl⟩
  rw [hN1]
  have hzv : w1.heap.size ≤ v1.heap.size := hb.size
  have bxv : v1.heap[g]? = _ := (hb.block g (by omega)).trans HS1.out.2.1
  have brv : v1.heap[g + 1]? = _ := (hb.block (g + 1) (by omega)).trans HS1.out.2.2
  obtain ⟨w2, hw2⟩ : ∃ w, v1.setCell ⟨g, 2, none⟩ (.slice a1 N1 c1) = w := ⟨_, rfl⟩
  have hz2 : g + 2 ≤ w2.heap.size := by rw [← hw2]; simp; omega
  have bxn : w2.heap[g]? = some (.cells #[.string (bs nm), .slice a0 N0 c0, .slice a1 N1 c1, .slice ia il.length ic] 33 (0, 0)) := by rw [← hw2]; simp only [World.setCell, Array.getElem?_modify, ↓reduceIte]; rw [bxv]; rfl
  have brn : w2.heap[g + 1]? = some (.cells #[.string ⟨#[]⟩, .slice none 0 0, .slice none 0 0, .slice none 0 0] 33 (0, 0)) := by rw [← hw2]; exact (Below.heap_setCell v1 ⟨g, 2, none⟩ _ (g + 1) (by show g + 1 ≠ g; omega)).trans brv
  have lon : Below g W w2 := by rw [← hw2]; exact (HS1.out.1.trans (hb.mono (show g ≤ w1.heap.size by omega))).setCell (p := ⟨g, 2, none⟩) (Nat.le_refl _) _
  have hsz : v1.heap.size ≤ w2.heap.size := by rw [← hw2]; simp
  have hot : ∀ i, i ≠ g → w2.heap[i]? = v1.heap[i]? := fun i hi => by rw [← hw2]; exact Below.heap_setCell v1 ⟨g, 2, none⟩ _ i hi
  have R1 : RowZ kdP w2 (g + 2) m1 a1 := RowZ.next (K := kdP) (z := w1.heap.size) hr1 (by omega) hsz (fun i hi hi2 => hot i (by omega))
  replace R0 := R0.next (Nat.le_refl _) (Nat.le_trans hzv hsz) (fun i hi hi2 => (hot i (by omega)).trans (hb.block i hi2))
  have HS2 := Lib.hid (And.intro lon (And.intro bxn brn))
  have c9 : v1.cell? ⟨g, 2, none⟩ = some (.slice ta tl.length tc) := by simp [World.cell?, bxv]
  have f9 : v1.frozen? ⟨g, 2, none⟩ = false := by simp [World.frozen?, bxv]
  have b9 := bxn
  have y0 : w2.cell? ⟨g, 0, none⟩ = some (.string (bs nm)) := by simp [World.cell?, b9]
  have y1 : w2.cell? ⟨g, 1, none⟩ = some (.slice a0 N0 c0) := by simp [World.cell?, b9]
  have y2 : w2.cell? ⟨g, 2, none⟩ = some (.slice a1 N1 c1) := by simp [World.cell?, b9]
  have y3 : w2.cell? ⟨g, 3, none⟩ = some (.slice ia il.length ic) := by simp [World.cell?, b9]
  clear b9 bxv brv bxn brn lon hot hb hr1
  go_wp2_with fail
  (try rw [hw2])
  refine (HQ.out.2.2 w2 (by rw [hg]; have := hz2; omega) (InRow.keep (Below.keptTo HS2.out.1 (by omega)) (fun x _ h => IT.In.keep (Below.keptTo HS2.out.1 (by omega)) x h) HI.out.2.2)).mono ?_
  clear hw2 y0 y1 y2 y3
  rintro e v2 ⟨a2, c2, m2, rfl, hm2, hr2, hb⟩
  obtain ⟨N2, hN2⟩ : ∃ N, m2.length = N := ⟨_, rfl⟩
  rw [hN2]
  have hzv : w2.heap.size ≤ v2.heap.size := hb.size
  have bxv : v2.heap[g]? = _ := (hb.block g (by omega)).trans HS2.out.2.1
  have brv : v2.heap[g + 1]? = _ := (hb.block (g + 1) (by omega)).trans HS2.out.2.2
  obtain ⟨w3, hw3⟩ : ∃ w, v2.setCell ⟨g, 3, none⟩ (.slice a2 N2 c2) = w := ⟨_, rfl⟩
  have hz3 : g + 2 ≤ w3.heap.size := by rw [← hw3]; simp; omega
  have bxn : w3.heap[g]? = some (.cells #[.string (bs nm), .slice a0 N0 c0, .slice a1 N1 c1, .slice a2 N2 c2] 33 (0, 0)) := by rw [← hw3]; simp only [World.setCell, Array.getElem?_modify, ↓reduceIte]; rw [bxv]; rfl
  have brn : w3.heap[g + 1]? = some (.cells #[.string ⟨#[]⟩, .slice none 0 0, .slice none 0 0, .slice none 0 0] 33 (0, 0)) := by rw [← hw3]; exact (Below.heap_setCell v2 ⟨g, 3, none⟩ _ (g + 1) (by show g + 1 ≠ g; omega)).trans brv
  have lon : Below g W w3 := by rw [← hw3]; exact (HS2.out.1.trans (hb.mono (show g ≤ w2.heap.size by omega))).setCell (p := ⟨g, 3, none⟩) (Nat.le_refl _) _
  have hsz : v2.heap.size ≤ w3.heap.size := by rw [← hw3]; simp
  have hot : ∀ i, i ≠ g → w3.heap[i]? = v2.heap[i]? := fun i hi => by rw [← hw3]; exact Below.heap_setCell v2 ⟨g, 3, none⟩ _ i hi
  have R2 : RowZ kdI w3 (g + 2) m2 a2 := RowZ.next (K := kdI) (z := w2.heap.size) hr2 (by omega) hsz (fun i hi hi2 => hot i (by omega))
  replace R0 := R0.next (Nat.le_refl _) (Nat.le_trans hzv hsz) (fun i hi hi2 => (hot i (by omega)).trans (hb.block i hi2))
  replace R1 := R1.next (Nat.le_refl _) (Nat.le_trans hzv hsz) (fun i hi hi2 => (hot i (by omega)).trans (hb.block i hi2))
  have HS3 := Lib.hid (And.intro lon (And.intro bxn brn))
  have c9 : v2.cell? ⟨g, 3, none⟩ = some (.slice ia il.length ic) := by simp [World.cell?, bxv]
  have f9 : v2.frozen? ⟨g, 3, none⟩ = false := by simp [World.frozen?, bxv]
  have b9 := bxn
  have y0 : w3.cell? ⟨g, 0, none⟩ = some (.string (bs nm)) := by simp [World.cell?, b9]
  have y1 : w3.cell? ⟨g, 1, none⟩ = some (.slice a0 N0 c0) := by simp [World.cell?, b9]
  have y2 : w3.cell? ⟨g, 2, none⟩ = some (.slice a1 N1 c1) := by simp [World.cell?, b9]
  have y3 : w3.cell? ⟨g, 3, none⟩ = some (.slice a2 N2 c2) := by simp [World.cell?, b9]
  have b8 := brn
  have e0 : w3.cell? ⟨g + 1, 0, none⟩ = some (.string ⟨#[]⟩) := by simp [World.cell?, b8]
  have e1 : w3.cell? ⟨g + 1, 1, none⟩ = some (.slice none 0 0) := by simp [World.cell?, b8]
  have e2 : w3.cell? ⟨g + 1, 2, none⟩ = some (.slice none 0 0) := by simp [World.cell?, b8]
  have e3 : w3.cell? ⟨g + 1, 3, none⟩ = some (.slice none 0 0) := by simp [World.cell?, b8]
  have f0 : w3.frozen? ⟨g + 1, 0, none⟩ = false := by simp [World.frozen?, b8]
  have f1 : w3.frozen? ⟨g + 1, 1, none⟩ = false := by simp [World.frozen?, b8]
  have f2 : w3.frozen? ⟨g + 1, 2, none⟩ = false := by simp [World.frozen?, b8]
  have f3 : w3.frozen? ⟨g + 1, 3, none⟩ = false := by simp [World.frozen?, b8]
  obtain ⟨u, hu⟩ : ∃ u, ((((w3.setCell ⟨g + 1, 0, none⟩ (.string (bs nm))).setCell ⟨g + 1, 1, none⟩ (.slice a0 N0 c0)).setCell ⟨g + 1, 2, none⟩ (.slice a1 N1 c1)).setCell ⟨g + 1, 3, none⟩ (.slice a2 N2 c2)) = u := ⟨_, rfl⟩
  have bu : u.heap[g + 1]? = some (.cells #[.string (bs nm), .slice a0 N0 c0, .slice a1 N1 c1, .slice a2 N2 c2] 33 (0, 0)) := by rw [← hu]; have hb9 := (Array.getElem?_eq_some_iff.1 b8).1; simp [World.setCell, Array.getElem?_modify, b8]
  have s0 : u.cell? ⟨g + 1, 0, none⟩ = some (.string (bs nm)) := by simp [World.cell?, bu]
  have s1 : u.cell? ⟨g + 1, 1, none⟩ = some (.slice a0 N0 c0) := by simp [World.cell?, bu]
  have s2 : u.cell? ⟨g + 1, 2, none⟩ = some (.slice a1 N1 c1) := by simp [World.cell?, bu]
  have s3 : u.cell? ⟨g + 1, 3, none⟩ = some (.slice a2 N2 c2) := by simp [World.cell?, bu]
  have hus : u.heap.size = w3.heap.size := by rw [← hu]; simp
  have huo : ∀ i, i ≠ g + 1 → u.heap[i]? = w3.heap[i]? := fun i hi => by rw [← hu]; exact (Below.heap_setCell _ ⟨g + 1, 3, none⟩ _ i hi).trans ((Below.heap_setCell _ ⟨g + 1, 2, none⟩ _ i hi).trans ((Below.heap_setCell _ ⟨g + 1, 1, none⟩ _ i hi).trans (Below.heap_setCell _ ⟨g + 1, 0, none⟩ _ i hi)))
  have hul : Below g W u := by rw [← hu]; exact (Below.setCell (Below.setCell (Below.setCell (Below.setCell lon (p := ⟨g + 1, 0, none⟩) (by show g ≤ g + 1; omega) _) (p := ⟨g + 1, 1, none⟩) (by show g ≤ g + 1; omega) _) (p := ⟨g + 1, 2, none⟩) (by show g ≤ g + 1; omega) _) (p := ⟨g + 1, 3, none⟩) (by show g ≤ g + 1; omega) _)
  replace R0 := RowZ.next (z' := g) R0 (by omega) (Nat.le_of_eq hus.symm) (fun i hi hi2 => huo i (by omega))
  replace R1 := RowZ.next (z' := g) R1 (by omega) (Nat.le_of_eq hus.symm) (fun i hi hi2 => huo i (by omega))
  replace R2 := RowZ.next (z' := g) R2 (by omega) (Nat.le_of_eq hus.symm) (fun i hi hi2 => huo i (by omega))
  have HF := Lib.hid (And.intro hul (And.intro R0 (And.intro R1 R2)))
  have HZ := Lib.hid (And.intro hu (And.intro s0 (And.intro s1 (And.intro s2 s3))))
  clear b8 bu hus huo hul hu s0 s1 s2 s3 R0 R1 R2
  clear b9 bxv brv bxn brn lon hot hb hr2
  go_wp2_with fail
  obtain ⟨hu, s0, s1, s2, s3⟩ := HZ.out
  refine bodyPost_ret (v := .agg #[.string (bs nm), .slice a0 N0 c0, .slice a1 N1 c1, .slice a2 N2 c2]) (by simp [results, Tryz.results46, go_sem, hu, s0, s1, s2, s3]) rfl ?_
  rw [hu]
  obtain ⟨hlow, R0, R1, R2⟩ := HF.out
  rw [← hg] at hlow R0 R1 R2
  refine ⟨(MT.mk nm a0 c0 m0 a1 c1 m1 a2 c2 m2), ?_, ?_, ?_, hlow⟩
  · simp only [MT.cells, hN0, hN1, hN2]
  · simp only [MT.nrm, hm0, hm1, hm2]
  · exact ⟨R0, R1, R2⟩
end Go.Proofs.YtbfhbblbjgkolaaGreatDoor
