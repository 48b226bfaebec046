/-
  Rows of events: where they lie in memory. Appends of them.
-/
import Derived.Test.YtchboknncfmcpaaQaM
import Derived.Test.YtchboknncfmcpaaProg
import Derived.Laws.AppendOwn
import Derived.Laws.AppendOwnNone
import Derived.OwnWalk
import Derived.ArgAppend
import Derived.WalkSpells
import Derived.Lib.Hide
import Derived.Lib.QuietBelow
import Derived.BigQuiet
import Derived.StillTail
import Derived.Deep.MidRow
import Derived.RangeFuncRecord
import Derived.Deep.Cut
import Derived.Deep.LoopGhost
import Derived.IntWalk
namespace Go.Proofs.Ytchboknncfmcpaa
open Go Go.RowKit
set_option linter.unusedVariables false
set_option linter.unusedSimpArgs false
/-- Cells one behind the other, from a place on. -/
def RowC (W : World) (b o : Nat) (cs : List Value) : Prop := ∀ j v, cs[j]? = some v → W.cell? ⟨b, o + j, none⟩ = some v
/-- What lay below n in cells lies there still. -/
def KeptTo (n : Nat) (W W' : World) : Prop := ∀ b o v, b < n → W.cell? ⟨b, o, none⟩ = some v → W'.cell? ⟨b, o, none⟩ = some v
theorem KeptTo.refl (n : Nat) (W : World) : KeptTo n W W := fun _ _ _ _ h => h
theorem KeptTo.trans {n : Nat} {A B C : World} (h : KeptTo n A B) (k : KeptTo n B C) : KeptTo n A C := fun b o v hb hv => k b o v hb (h b o v hb hv)
theorem KeptTo.less {n m : Nat} {A B : World} (h : KeptTo n A B) (k : m ≤ n) : KeptTo m A B := fun b o v hb hv => h b o v (by omega) hv
theorem Below.keptTo {n m : Nat} {A B : World} (h : Below m A B) (k : n ≤ m) : KeptTo n A B := fun b o v hb hv => by rw [h.cell (p := ⟨b, o, none⟩) (by show b < m; omega)]; exact hv
/-- Elements one behind the other, each of so many cells. -/
def InRow {α : Type} (k : Nat) (cells : α → List Value) (inn : α → Prop) (n : Nat) (W : World) : List α → Option Addr → Prop
  | [], _ => True
  | x :: r, a => (∃ b o, a = some ⟨b, o, none⟩ ∧ b < n ∧ RowC W b o (cells x)) ∧ inn x ∧ InRow k cells inn n W r (a.map fun p => p.add k)
theorem InRow.at {α : Type} {k : Nat} {cells : α → List Value} {inn : α → Prop} {n : Nat} {W : World} : ∀ {l : List α} {a : Option Addr}, InRow k cells inn n W l a → ∀ {i : Nat} (hi : i < l.length), ∃ b o, a = some ⟨b, o, none⟩ ∧ b < n ∧ RowC W b (o + i * k) (cells l[i]) ∧ inn l[i]
  | x :: r, a, h, 0, hi => by
    obtain ⟨⟨b, o, ha, hb, hr⟩, hx, _⟩ := h
    exact ⟨b, o, ha, hb, by simpa using hr, hx⟩
  | x :: r, a, h, i + 1, hi => by
    obtain ⟨⟨b, o, rfl, hb, _⟩, _, hr⟩ := h
    obtain ⟨b', o', he, hb', hr', hx'⟩ := InRow.at hr (i := i) (by simpa using hi)
    simp only [Option.map_some, Option.some.injEq] at he
    rw [show (⟨b, o, none⟩ : Addr).add k = ⟨b, o + k, none⟩ by simp [Addr.add]] at he
    injection he with h1 h2
    subst h1
    subst h2
    exact ⟨b, o, rfl, hb, by simp only [List.getElem_cons_succ]; rw [show o + (i + 1) * k = o + k + i * k by rw [Nat.add_mul]; omega]; exact hr', by simpa using hx'⟩
theorem InRow.keep {α : Type} {k : Nat} {cells : α → List Value} {inn inn' : α → Prop} {n : Nat} {W W' : World} (hk : KeptTo n W W') : ∀ {l : List α} {a : Option Addr}, (∀ x ∈ l, inn x → inn' x) → InRow k cells inn n W l a → InRow k cells inn' n W' l a
  | [], _, _, _ => trivial
  | x :: r, a, hi, h => by
    obtain ⟨⟨b, o, ha, hb, hr⟩, hx, ht⟩ := h
    exact ⟨⟨b, o, ha, hb, fun j v hv => hk b _ v hb (hr j v hv)⟩, hi x (by simp) hx, InRow.keep hk (fun y hy => hi y (by simp [hy])) ht⟩
theorem InRow.less {α : Type} {k : Nat} {cells : α → List Value} {inn inn' : α → Prop} {n m : Nat} {W : World} (hm : n ≤ m) : ∀ {l : List α} {a : Option Addr}, (∀ x ∈ l, inn x → inn' x) → InRow k cells inn n W l a → InRow k cells inn' m W l a
  | [], _, _, _ => trivial
  | x :: r, a, hi, h => by
    obtain ⟨⟨b, o, ha, hb, hr⟩, hx, ht⟩ := h
    exact ⟨⟨b, o, ha, by omega, hr⟩, hi x (by simp) hx, InRow.less hm (fun y hy => hi y (by simp [hy])) ht⟩
theorem InRow.all {α : Type} {k : Nat} {cells : α → List Value} {inn : α → Prop} {n : Nat} {W : World} {l : List α} {a : Option Addr} (h : InRow k cells inn n W l a) : ∀ x ∈ l, inn x := fun x hx => by
  obtain ⟨i, hi, rfl⟩ := List.mem_iff_getElem.1 hx
  obtain ⟨_, _, _, _, _, h⟩ := h.at hi
  exact h


theorem block_lt_of_cell {W : World} {b o : Nat} {v : Value} (h : W.cell? ⟨b, o, none⟩ = some v) : b < W.heap.size := World.block_lt_of_cell? W _ h
def EV.cells (e : EV) : List Value := [.int .i64 e.t, .int .i64 e.d, .int .i64 e.no, .int .i64 e.sg, .int .u64 e.v]
/-- A value of 64 bits. -/
def EV.Wf (e : EV) : Prop := 0 ≤ e.v ∧ e.v < 18446744073709551616
def flatV (l : List EV) : List Value := l.flatMap EV.cells
abbrev EvIn (n : Nat) (w : World) (l : List EV) (a : Option Addr) : Prop := InRow 5 EV.cells EV.Wf n w l a
theorem flatV_len : ∀ l : List EV, (flatV l).length = l.length * 5
  | [] => rfl
  | x :: r => by
    have h := flatV_len r
    unfold flatV at *
    rw [List.flatMap_cons, List.length_append, h, List.length_cons]
    show 5 + _ = _
    omega
theorem flatV_app (l m : List EV) : flatV (l ++ m) = flatV l ++ flatV m := by unfold flatV; rw [List.flatMap_append]
theorem inrow_flat {inn : EV → Prop} {n : Nat} {W : World} : ∀ {l : List EV} {b o : Nat}, InRow 5 EV.cells inn n W l (some ⟨b, o, none⟩) → ∀ j u, (flatV l)[j]? = some u → W.cell? ⟨b, o + j, none⟩ = some u
  | [], _, _, _, j, u, h => by simp [flatV] at h
  | x :: r, b, o, h, j, u, hu => by
    obtain ⟨⟨b', o', ha, _, hr⟩, _, ht⟩ := h
    have ha2 := Option.some.inj ha
    injection ha2 with e1 e2
    subst e1
    subst e2
    have hl : x.cells.length = 5 := rfl
    unfold flatV at hu
    rw [List.flatMap_cons] at hu
    by_cases hj : j < 5
    · rw [List.getElem?_append_left (by omega)] at hu
      exact hr j u hu
    · rw [List.getElem?_append_right (by omega), hl] at hu
      rw [Option.map_some, show (⟨b, o, none⟩ : Addr).add 5 = ⟨b, o + 5, none⟩ by simp [Addr.add]] at ht
      have := inrow_flat ht (j - 5) u hu
      rw [show o + 5 + (j - 5) = o + j by omega] at this
      exact this
theorem inrow_of_flat {inn : EV → Prop} {n : Nat} {W : World} : ∀ {l : List EV} {b o : Nat}, b < n → (∀ j u, (flatV l)[j]? = some u → W.cell? ⟨b, o + j, none⟩ = some u) → (∀ x ∈ l, inn x) → InRow 5 EV.cells inn n W l (some ⟨b, o, none⟩)
  | [], _, _, _, _, _ => trivial
  | x :: r, b, o, hb, h, hi => by
    have hl : x.cells.length = 5 := rfl
    refine ⟨⟨b, o, rfl, hb, fun j v hv => h j v (by unfold flatV; rw [List.flatMap_cons, List.getElem?_append_left (by have := (List.getElem?_eq_some_iff.1 hv).1; omega)]; exact hv)⟩, hi x (by simp), ?_⟩
    rw [Option.map_some, show (⟨b, o, none⟩ : Addr).add 5 = ⟨b, o + 5, none⟩ by simp [Addr.add]]
    refine inrow_of_flat hb (fun j u hu => ?_) (fun y hy => hi y (by simp [hy]))
    have := h (5 + j) u (by unfold flatV; rw [List.flatMap_cons, List.getElem?_append_right (by omega), hl, show 5 + j - 5 = j by omega]; exact hu)
    rw [show o + 5 + j = o + (5 + j) by omega]
    exact this
theorem flat_ones : ∀ (l : List EV), ∀ u ∈ flatV l, u.oneCell' = true := by
  intro l u hu
  obtain ⟨x, _, hx⟩ := List.mem_flatMap.1 hu
  simp only [EV.cells, List.mem_cons, List.not_mem_nil, or_false] at hx
  rcases hx with rfl | rfl | rfl | rfl | rfl <;> rfl
theorem own_shape {w : World} {B e size n : Nat} {v : Value} {xs : List Value} (h : w.ownsRow B e size v n xs) : ∃ a c, v = .slice a n c ∧ (a = none → c = 0) ∧ n ≤ c ∧ (∀ p, a = some p → B ≤ p.block) := by
  rcases h.2 with ⟨rfl, rfl⟩ | ⟨g, cap, cur, rfl, hb, _, hn, _⟩
  · exact ⟨none, 0, rfl, fun _ => rfl, Nat.le_refl _, fun _ h => (by cases h)⟩
  · exact ⟨_, _, rfl, fun h => (by cases h), hn, fun p h => (by cases h; exact hb)⟩
/-- A row that the call owns is a row of events in memory. -/
theorem own_in {w : World} {B : Nat} {a : Option Addr} {c : Nat} {l : List EV} (h : w.ownsRow B 35 5 (.slice a l.length c) l.length (flatV l)) (hw : ∀ e ∈ l, e.Wf) : EvIn w.heap.size w l a := by
  rcases h.2 with ⟨h1, h2⟩ | ⟨g, cap, cur, h1, hb, hg, hn, hc, hs, ht⟩
  · obtain rfl : l = [] := List.eq_nil_of_length_eq_zero h2
    trivial
  · injection h1 with e1 e2 e3
    subst e1
    refine inrow_of_flat (Array.getElem?_eq_some_iff.1 hg).1 (fun j u hu => ?_) hw
    have := h.cells (g := g) rfl j u hu
    rwa [Addr.add_mid] at this
theorem EvIn.keep {n m : Nat} {w w' : World} {l : List EV} {a : Option Addr} (h : EvIn n w l a) (hb : Below m w w') (hn : n ≤ m) : EvIn n w' l a := InRow.keep (Below.keptTo hb hn) (fun _ _ h => h) h
theorem EvIn.isNil {n : Nat} {w : World} {l : List EV} (h : EvIn n w l none) : l = [] := by
  cases l with
  | nil => rfl
  | cons y r => obtain ⟨⟨b, o, h, _⟩, _⟩ := h; cases h
theorem EvIn.wf {n : Nat} {w : World} {l : List EV} {a : Option Addr} (h : EvIn n w l a) : ∀ e ∈ l, e.Wf := h.all
theorem EvIn.cells {n : Nat} {w : World} {l : List EV} {b o : Nat} (h : EvIn n w l (some ⟨b, o, none⟩)) {i : Nat} (hi : i < l.length) :
    w.cell? ⟨b, o + i * 5, none⟩ = some (.int .i64 l[i].t) ∧ w.cell? ⟨b, o + i * 5 + 1, none⟩ = some (.int .i64 l[i].d) ∧ w.cell? ⟨b, o + i * 5 + 2, none⟩ = some (.int .i64 l[i].no) ∧ w.cell? ⟨b, o + i * 5 + 3, none⟩ = some (.int .i64 l[i].sg) ∧ w.cell? ⟨b, o + i * 5 + 4, none⟩ = some (.int .u64 l[i].v) := by
  obtain ⟨b', o', ha, _, hr, _⟩ := h.at hi
  injection ha with ha
  injection ha with e1 e2
  subst e1
  subst e2
  exact ⟨hr 0 _ rfl, hr 1 _ rfl, hr 2 _ rfl, hr 3 _ rfl, hr 4 _ rfl⟩
theorem EvIn.addr {n : Nat} {w : World} {l : List EV} {a : Option Addr} (h : EvIn n w l a) (hl : 0 < l.length) : ∃ b o, a = some ⟨b, o, none⟩ := by
  obtain ⟨b, o, ha, _⟩ := h.at hl
  exact ⟨b, o, ha⟩
theorem EvIn.take {n : Nat} {w : World} : ∀ {l : List EV} {a : Option Addr}, EvIn n w l a → ∀ k, EvIn n w (l.take k) a
  | [], a, h, k => by rw [List.take_nil]; exact trivial
  | x :: r, a, h, 0 => trivial
  | x :: r, a, h, k + 1 => by
    obtain ⟨h1, h2, h3⟩ := h
    exact ⟨h1, h2, EvIn.take h3 k⟩
theorem EvIn.drop {n : Nat} {w : World} : ∀ {l : List EV} {b o : Nat}, EvIn n w l (some ⟨b, o, none⟩) → ∀ k, k ≤ l.length → EvIn n w (l.drop k) (some ⟨b, o + k * 5, none⟩)
  | [], b, o, h, k, _ => by rw [List.drop_nil]; exact trivial
  | x :: r, b, o, h, 0, _ => by simpa using h
  | x :: r, b, o, h, k + 1, hk => by
    obtain ⟨h1, h2, h3⟩ := h
    rw [Option.map_some, show (⟨b, o, none⟩ : Addr).add 5 = ⟨b, o + 5, none⟩ by simp [Addr.add]] at h3
    have := EvIn.drop h3 k (by simpa using hk)
    rw [show o + 5 + k * 5 = o + (k + 1) * 5 by omega] at this
    exact this
theorem rowC_set {W : World} {b o g j : Nat} {v : Value} {cs : List Value} (h : RowC W b o cs) (hn : b ≠ g) : RowC (W.setCell ⟨g, j, none⟩ v) b o cs := fun i u hu => by
  have h1 := h i u hu
  simp only [World.cell?, World.setCell] at h1 ⊢
  rw [Array.getElem?_modify, if_neg (by simpa using Ne.symm hn)]
  exact h1
theorem EvIn.set {n g j : Nat} {v : Value} {w : World} : ∀ {l : List EV} {a : Option Addr}, EvIn n w l a → (∀ p, a = some p → p.block ≠ g) → EvIn n (w.setCell ⟨g, j, none⟩ v) l a
  | [], _, _, _ => trivial
  | x :: r, a, h, hn => by
    obtain ⟨⟨b, o, ha, hb, hr⟩, hx, ht⟩ := h
    subst ha
    refine ⟨⟨b, o, rfl, hb, rowC_set hr (hn _ rfl)⟩, hx, EvIn.set ht (fun p hp => ?_)⟩
    rw [Option.map_some, show (⟨b, o, none⟩ : Addr).add 5 = ⟨b, o + 5, none⟩ by simp [Addr.add]] at hp
    injection hp with hp
    rw [← hp]
    exact (hn ⟨b, o, none⟩ rfl : b ≠ g)
theorem info_ev : (Try.prog.info? 35).map (fun i => (i.zero, i.size, i.bytes)) = some (some (.agg #[.int .i64 0, .int .i64 0, .int .i64 0, .int .i64 0, .int .u64 0]), 5, 40) := by kernel_rfl
theorem info_parts {T size bytes : Nat} {z : Value} (h : (Try.prog.info? T).map (fun i => (i.zero, i.size, i.bytes)) = some (some z, size, bytes)) : ∃ i, Try.prog.info? T = some i ∧ i.zero = some z ∧ i.size = size ∧ i.bytes = bytes := by
  cases hi : Try.prog.info? T with
  | none => rw [hi] at h; cases h
  | some i =>
    rw [hi] at h
    simp only [Option.map_some, Option.some.injEq, Prod.mk.injEq] at h
    exact ⟨i, rfl, h.1, h.2.1, h.2.2⟩
theorem wpList_append_row {w : World} {ops : Array Oper} {rest : List Oper} {op : Oper} {a : Act} {Q : Exit → Act → World → Prop} (hgd : op.guard = none) (s x : Operand)
    (ho : op.op = .call { callee := .builtin .append, args := #[s, x], argTypes := #[22, 22] })
    (base : Nat) (v : Value) (n : Nat) (xs : List Value) (hs : a.eval s = v) (hown : w.ownsRow base 35 5 v n xs)
    (ad : Option Addr) (l : List EV) (m c : Nat) (hm : l.length = m) (hx : a.eval x = .slice ad m c) (hc : ad = none → c = 0) (n0 : Nat) (hl : EvIn n0 w l ad) (hn : n + m ≤ 1500000) (hbase : base ≤ w.heap.size)
    (h : ∀ v' w', w'.ownsRow base 35 5 v' (n + m) (xs ++ flatV l) → w.grownBy w' v.ownBlock → wpList Try.prog ops Q rest (a.put op.dst v') w') : wpList Try.prog ops Q (op :: rest) a w := by
  subst hm
  obtain ⟨i0, hi0, hz0, hz1, hz2⟩ := info_parts info_ev
  cases ad with
  | none =>
    obtain rfl := hl.isNil
    rw [hc rfl] at hx
    refine wpList_append_own_none hgd s x 22 ho base 35 i0 5 Try.underlying22 hi0 v n xs hs hown hx ?_
    refine h v w ?_ ⟨rfl, rfl, rfl, Nat.le_refl _, fun _ _ _ => rfl⟩
    simpa [flatV] using hown
  | some ad =>
    have hnews : ∀ j u, (flatV l)[j]? = some u → w.cell? (ad.add j) = some u := by
      cases l with
      | nil => intro j u hu; simp [flatV] at hu
      | cons y r =>
        have hl2 := hl
        obtain ⟨⟨b, o, h, _⟩, _⟩ := hl
        have h2 := Option.some.inj h
        subst h2
        intro j u hu
        rw [Addr.add_mid]
        exact inrow_flat hl2 j u hu
    exact wpList_append_own w hgd s x 22 ho base 35 i0 _ 5 40 Try.underlying22 hi0 hz0 hz1 hz2 rfl (by decide) v n xs hs hown ad l.length c (flatV l) hx (by rw [flatV_len]) hnews (flat_ones l) (by simp only [maxLen]; omega) (by omega) hbase (fun v' w' h1 h2 _ => h v' w' h1 h2)
end Go.Proofs.Ytchboknncfmcpaa
