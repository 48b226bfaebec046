/-
  Own rows of constants: appends.
-/
import Derived.Test.YtlbjmnakiflfpaaDoorKsR
import Derived.Test.YtlbjmnakiflfpaaDoorAsNm
import Derived.Laws.AppendOwn
import Derived.Laws.AppendOwnNone
import Derived.OwnWalk
import Derived.Maps.AppendAt
namespace Go.Proofs.YtlbjmnakiflfpaaDoor
open Go Go.RowKit
set_option linter.unusedVariables false
set_option linter.unusedSimpArgs false
open Go.Sort
theorem lies_drewN {w : World} {a : Option Addr} {l : List Bytes} (n : Nat) (h : LiesS w a l) : LiesS (w.drewN n) a l := by unfold LiesS at h ⊢; exact h
theorem own_shape' {w : World} {B e size n : Nat} {v : Value} {xs : List Value} (h : w.ownsRow B e size v n xs) : ∃ a c, v = .slice a n c ∧ (a = none → c = 0) := by
  rcases h.2 with ⟨rfl, rfl⟩ | ⟨g, cap, cur, rfl, _⟩
  · exact ⟨none, 0, rfl, fun _ => rfl⟩
  · exact ⟨_, _, rfl, fun h => by cases h⟩
theorem lies_own {w : World} {B e c : Nat} {a : Option Addr} {l : List Bytes} (h : w.ownsRow B e 1 (.slice a l.length c) l.length (strs l)) : LiesS w a l := by
  rcases h.2 with ⟨h1, h2⟩ | ⟨g, cap, cur, h1, hg, hh, h3, h4, h5, h6⟩
  · exact .inl (List.length_eq_zero_iff.1 h2)
  · simp only [Value.slice.injEq] at h1
    obtain ⟨rfl, _, rfl⟩ := h1
    refine .inr ⟨g, 0, rfl, fun i hi => ?_⟩
    have hc : (strs l)[i]? = some (.string (bs l[i])) := by simp [strs, hi]
    have h9 := h.cells (g := g) rfl i _ hc
    rw [Addr.add_mid] at h9
    exact h9
theorem LiesS.keep {H : Nat} {W W' : World} {a : Option Addr} {l : List Bytes} (h : LiesS W a l) (hb : Below W.heap.size W W') : LiesS W' a l := by
  rcases h with h | ⟨b, o, h1, h2⟩
  · exact .inl h
  · refine .inr ⟨b, o, h1, fun i hi => ?_⟩
    have h3 := h2 i hi
    obtain ⟨hlt, hbc⟩ : b < W.heap.size ∧ True := ⟨by
      by_cases hb2 : b < W.heap.size
      · exact hb2
      · simp [World.cell?, Array.getElem?_eq_none (show W.heap.size ≤ b by omega)] at h3, trivial⟩
    simp only [World.cell?] at h3 ⊢
    rw [hb.block b hlt]
    exact h3

theorem inrow_flatN {inn : NT → Prop} {n : Nat} {W : World} : ∀ {l : List NT} {b o : Nat}, InRow 2 NT.cells inn n W l (some ⟨b, o, none⟩) → ∀ j u, (l.flatMap NT.cells)[j]? = some u → W.cell? ⟨b, o + j, none⟩ = some u
  | [], _, _, _, j, u, h => by simp at h
  | x :: r, b, o, h, j, u, hu => by
    obtain ⟨⟨b', o', ha, _, hr⟩, _, ht⟩ := h
    have ha2 := Option.some.inj ha
    injection ha2 with e1 e2
    subst e1
    subst e2
    have hl : x.cells.length = 2 := by cases x; rfl
    rw [List.flatMap_cons] at hu
    by_cases hj : j < 2
    · rw [List.getElem?_append_left (by omega)] at hu
      exact hr j u hu
    · rw [List.getElem?_append_right (by omega), hl] at hu
      rw [Option.map_some, show (⟨b, o, none⟩ : Addr).add 2 = ⟨b, o + 2, none⟩ by simp [Addr.add]] at ht
      have := inrow_flatN ht (j - 2) u hu
      rw [show o + 2 + (j - 2) = o + j by omega] at this
      exact this
theorem flat_len2 : ∀ l : List NT, (l.flatMap NT.cells).length = l.length * 2
  | [] => rfl
  | x :: r => by
    have hl : x.cells.length = 2 := by cases x; rfl
    rw [List.flatMap_cons, List.length_append, hl, flat_len2 r, List.length_cons]; omega
theorem flat_onesN : ∀ (l : List NT), ∀ u ∈ l.flatMap NT.cells, u.oneCell' = true := by
  intro l u hu
  obtain ⟨x, _, hx⟩ := List.mem_flatMap.1 hu
  obtain ⟨nm, v⟩ := x
  simp only [NT.cells, List.mem_cons, List.not_mem_nil, or_false] at hx
  rcases hx with rfl | rfl <;> rfl
theorem info_nt : (Tryd.prog.info? 39).map (fun i => (i.zero, i.size, i.bytes)) = some (some (.agg #[.string ⟨#[]⟩, .int .i64 0]), 2, 24) := by kernel_rfl
theorem wpList_append_nts {w : World} {ops : Array Oper} {rest : List Oper} {op : Oper} {a : Act} {Q : Exit → Act → World → Prop} (hgd : op.guard = none) (s x : Operand)
    (ho : op.op = .call { callee := .builtin .append, args := #[s, x], argTypes := #[26, 26] })
    (base : Nat) (v : Value) (n : Nat) (xs : List Value) (hs : a.eval s = v) (hown : w.ownsRow base 39 2 v n xs)
    (ad : Option Addr) (l : List NT) (c : Nat) (hx : a.eval x = .slice ad l.length c) (hc : ad = none → c = 0) (inn : NT → Prop) (n0 : Nat) (hl : InRow 2 NT.cells inn n0 w l ad) (hn : n + l.length ≤ 3500000) (hbase : base ≤ w.heap.size)
    (h : ∀ v' w', w'.ownsRow base 39 2 v' (n + l.length) (xs ++ l.flatMap NT.cells) → w.grownBy w' v.ownBlock → wpList Tryd.prog ops Q rest (a.put op.dst v') w') : wpList Tryd.prog ops Q (op :: rest) a w := by
  obtain ⟨i0, hi0, hz0, hz1, hz2⟩ := info_parts info_nt
  cases ad with
  | none =>
    have hl0 : l = [] := by
      cases l with
      | nil => rfl
      | cons y r => obtain ⟨⟨b, o, h, _⟩, _⟩ := hl; cases h
    subst hl0
    rw [hc rfl] at hx
    refine wpList_append_own_none hgd s x 26 ho base 39 i0 2 Tryd.underlying26 hi0 v n xs hs hown hx ?_
    refine h v w ?_ ⟨rfl, rfl, rfl, Nat.le_refl _, fun _ _ _ => rfl⟩
    simpa using hown
  | some ad =>
    have hnews : ∀ j u, (l.flatMap NT.cells)[j]? = some u → w.cell? (ad.add j) = some u := by
      cases l with
      | nil => intro j u hu; simp at hu
      | cons y r =>
        have hl2 := hl
        obtain ⟨⟨b, o, h, _⟩, _⟩ := hl
        have h2 := Option.some.inj h
        subst h2
        intro j u hu
        rw [Addr.add_mid]
        exact inrow_flatN hl2 j u hu
    exact wpList_append_own w hgd s x 26 ho base 39 i0 _ 2 24 Tryd.underlying26 hi0 hz0 hz1 hz2 rfl (by decide) v n xs hs hown ad l.length c (l.flatMap NT.cells) hx (by rw [flat_len2]) hnews (flat_onesN l) (by simp only [maxLen]; omega) (by omega) hbase (fun v' w' h1 h2 _ => h v' w' h1 h2)
theorem NT.bkL_snoc : ∀ (l : List NT) (c : NT), NT.bkL (l ++ [c]) = NT.bkL l + c.bk
  | [], c => by simp [NT.bkL]
  | x :: r, c => by simp [NT.bkL, NT.bkL_snoc r c]; omega
theorem nrow_own2 {W : World} {base : Nat} {a : Option Addr} {c : Nat} {l : List NT} (h : W.ownsRow base 39 2 (.slice a l.length c) l.length (l.flatMap NT.cells)) (hw : ∀ x ∈ l, x.Wf) : NRow W.heap.size W l a := by
  obtain ⟨a', c', he, hr⟩ := nrow_own h hw
  cases he
  exact hr
theorem one_row (w : World) (nm : Bytes) (v : Int) : InRow 2 NT.cells (fun _ => True) (w.heap.size + 1) (w.alloc (.cells #[.string (bs nm), .int .i64 v] 39)) [⟨nm, v⟩] (some ⟨w.heap.size, 0, none⟩) := by
  refine ⟨⟨w.heap.size, 0, rfl, by omega, fun j u hu => ?_⟩, trivial, trivial⟩
  have hh := World.alloc_heap_new w (.cells #[.string (bs nm), .int .i64 v] 39)
  simp only [World.cell?, hh, Nat.zero_add]
  simpa [NT.cells] using hu
theorem NRow.less' {n m : Nat} {W : World} {l : List NT} {a : Option Addr} (h : n ≤ m) (hr : NRow n W l a) : NRow m W l a := InRow.less h (fun _ _ h => h) hr
theorem ownN_wf {N : List Bytes} {l : List NT} (h : ∀ x ∈ l, x.Wf) : ∀ x ∈ ownN N l, x.Wf := fun x hx => h x (List.mem_filter.1 hx).1
theorem own_step {W : World} {B : Nat} {v : Value} {M : List NT} {c : NT} (h : W.ownsRow B 39 2 v (M.length + 1) (M.flatMap NT.cells ++ [c].flatMap NT.cells)) : W.ownsRow B 39 2 v (M ++ [c]).length ((M ++ [c]).flatMap NT.cells) := by
  rw [List.flatMap_append, List.length_append]; exact h
theorem ownN_len (N : List Bytes) (l : List NT) : (ownN N l).length ≤ l.length := List.length_filter_le _ _
end Go.Proofs.YtlbjmnakiflfpaaDoor
