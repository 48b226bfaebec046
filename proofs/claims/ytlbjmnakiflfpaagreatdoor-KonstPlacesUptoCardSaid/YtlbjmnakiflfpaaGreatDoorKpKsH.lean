/-
  slices.Clone of expressions; rows of expressions as cells.
-/
import Derived.Test.YtlbjmnakiflfpaaGreatDoorKpKsG
import Derived.Laws.AppendOwn
import Derived.Laws.AppendOwnNone
import Derived.OwnWalk
import Derived.WalkSpells
namespace Go.Proofs.YtlbjmnakiflfpaaGreatDoor
open Go Go.RowKit
set_option linter.unusedVariables false
set_option linter.unusedSimpArgs false
open Go.Sort
theorem own_shape {w : World} {B e size n : Nat} {v : Value} {xs : List Value} (h : w.ownsRow B e size v n xs) : ∃ a c, v = .slice a n c := by
  rcases h.2 with ⟨rfl, rfl⟩ | ⟨g, cap, cur, rfl, _⟩
  · exact ⟨none, 0, rfl⟩
  · exact ⟨_, _, rfl⟩

theorem own_shape5 {w : World} {B e size n : Nat} {v : Value} {xs : List Value} (h : w.ownsRow B e size v n xs) : ∃ a c, v = .slice a n c := by
  rcases h.2 with ⟨rfl, rfl⟩ | ⟨g, cap, cur, rfl, _⟩
  · exact ⟨none, 0, rfl⟩
  · exact ⟨_, _, rfl⟩
theorem inrow_flat {inn : XT → Prop} {n : Nat} {W : World} : ∀ {l : List XT} {b o : Nat}, InRow 6 XT.cells inn n W l (some ⟨b, o, none⟩) → ∀ j u, (l.flatMap XT.cells)[j]? = some u → W.cell? ⟨b, o + j, none⟩ = some u
  | [], _, _, _, j, u, h => by simp at h
  | x :: r, b, o, h, j, u, hu => by
    obtain ⟨⟨b', o', ha, _, hr⟩, _, ht⟩ := h
    have ha2 := Option.some.inj ha
    injection ha2 with e1 e2
    subst e1
    subst e2
    have hl : x.cells.length = 6 := by cases x; rfl
    rw [List.flatMap_cons] at hu
    by_cases hj : j < 6
    · rw [List.getElem?_append_left (by omega)] at hu
      exact hr j u hu
    · rw [List.getElem?_append_right (by omega), hl] at hu
      rw [Option.map_some, show (⟨b, o, none⟩ : Addr).add 6 = ⟨b, o + 6, none⟩ by simp [Addr.add]] at ht
      have := inrow_flat ht (j - 6) u hu
      rw [show o + 6 + (j - 6) = o + j by omega] at this
      exact this
theorem inrow_of_flat {inn : XT → Prop} {n : Nat} {W : World} : ∀ {l : List XT} {b o : Nat}, b < n → (∀ j u, (l.flatMap XT.cells)[j]? = some u → W.cell? ⟨b, o + j, none⟩ = some u) → (∀ x ∈ l, inn x) → InRow 6 XT.cells inn n W l (some ⟨b, o, none⟩)
  | [], _, _, _, _, _ => trivial
  | x :: r, b, o, hb, h, hi => by
    have hl : x.cells.length = 6 := by cases x; rfl
    refine ⟨⟨b, o, rfl, hb, fun j v hv => h j v (by rw [List.flatMap_cons, List.getElem?_append_left (by have := (List.getElem?_eq_some_iff.1 hv).1; omega)]; exact hv)⟩, hi x (by simp), ?_⟩
    rw [Option.map_some, show (⟨b, o, none⟩ : Addr).add 6 = ⟨b, o + 6, none⟩ by simp [Addr.add]]
    refine inrow_of_flat hb (fun j u hu => ?_) (fun y hy => hi y (by simp [hy]))
    have := h (6 + j) u (by rw [List.flatMap_cons, List.getElem?_append_right (by omega), hl, show 6 + j - 6 = j by omega]; exact hu)
    rw [show o + 6 + j = o + (6 + j) by omega]
    exact this
theorem flat_len6 : ∀ l : List XT, (l.flatMap XT.cells).length = l.length * 6
  | [] => rfl
  | x :: r => by
    have hl : x.cells.length = 6 := by cases x; rfl
    rw [List.flatMap_cons, List.length_append, hl, flat_len6 r, List.length_cons]; omega
theorem flat_ones : ∀ (l : List XT), ∀ u ∈ l.flatMap XT.cells, u.oneCell' = true := by
  intro l u hu
  obtain ⟨x, _, hx⟩ := List.mem_flatMap.1 hu
  obtain ⟨op, nm, n, wd, v, a, c, l2⟩ := x
  simp only [XT.cells, List.mem_cons, List.not_mem_nil, or_false] at hx
  rcases hx with rfl | rfl | rfl | rfl | rfl | rfl <;> rfl
theorem info_x : (Tryz.prog.info? 25).map (fun i => (i.zero, i.size, i.bytes)) = some (some (.agg #[.int .i64 0, .string ⟨#[]⟩, .int .i64 0, .int .i64 0, .int .u64 0, .slice none 0 0]), 6, 72) := by kernel_rfl
theorem wpList_append_row {w : World} {ops : Array Oper} {rest : List Oper} {op : Oper} {a : Act} {Q : Exit → Act → World → Prop} (hgd : op.guard = none) (s x : Operand)
    (ho : op.op = .call { callee := .builtin .append, args := #[s, x], argTypes := #[23, 23] })
    (base : Nat) (v : Value) (n : Nat) (xs : List Value) (hs : a.eval s = v) (hown : w.ownsRow base 25 6 v n xs)
    (ad : Option Addr) (l : List XT) (c : Nat) (hx : a.eval x = .slice ad l.length c) (hc : ad = none → c = 0) (inn : XT → Prop) (n0 : Nat) (hl : InRow 6 XT.cells inn n0 w l ad) (hn : n + l.length ≤ 1500000) (hbase : base ≤ w.heap.size)
    (h : ∀ v' w', w'.ownsRow base 25 6 v' (n + l.length) (xs ++ l.flatMap XT.cells) → w.grownBy w' v.ownBlock → wpList Tryz.prog ops Q rest (a.put op.dst v') w') : wpList Tryz.prog ops Q (op :: rest) a w := by
  obtain ⟨i0, hi0, hz0, hz1, hz2⟩ := info_parts info_x
  cases ad with
  | none =>
    have hl0 : l = [] := by
      cases l with
      | nil => rfl
      | cons y r => obtain ⟨⟨b, o, h, _⟩, _⟩ := hl; cases h
    subst hl0
    rw [hc rfl] at hx
    refine wpList_append_own_none hgd s x 23 ho base 25 i0 6 Tryz.underlying23 hi0 v n xs hs hown hx ?_
    refine h v w ?_ ⟨rfl, rfl, rfl, Nat.le_refl _, fun _ _ _ => rfl⟩
    simpa using hown
  | some ad =>
    have hnews : ∀ j u, (l.flatMap XT.cells)[j]? = some u → w.cell? (ad.add j) = some u := by
      cases l with
      | nil => intro j u hu; simp at hu
      | cons y r =>
        have hl2 := hl
        obtain ⟨⟨b, o, h, _⟩, _⟩ := hl
        have h2 := Option.some.inj h
        subst h2
        intro j u hu
        rw [Addr.add_mid]
        exact inrow_flat hl2 j u hu
    exact wpList_append_own w hgd s x 23 ho base 25 i0 _ 6 72 Tryz.underlying23 hi0 hz0 hz1 hz2 rfl (by decide) v n xs hs hown ad l.length c (l.flatMap XT.cells) hx (by rw [flat_len6]) hnews (flat_ones l) (by simp only [maxLen]; omega) (by omega) hbase (fun v' w' h1 h2 _ => h v' w' h1 h2)


/-- What Clone leaves. -/
def ClonePost (l : List XT) (w : World) (e : Ending) (w' : World) : Prop := ∃ a c, e = .returned (.slice a l.length c) ∧ w'.ownsRow w.heap.size 25 6 (.slice a l.length c) l.length (l.flatMap XT.cells) ∧ Below w.heap.size w w'
set_option maxHeartbeats 4000000 in
set_option maxRecDepth 3000000 in
theorem clone_any (l : List XT) (hll : l.length ≤ 1400000) (a : Option Addr) (c : Nat) (inn : XT → Prop) (n0 : Nat) (w : World) (hn0 : n0 ≤ w.heap.size) (hin : InRow 6 XT.cells inn n0 w l a) : Calls Tryz.prog 140 #[.slice a l.length c] w (ClonePost l w) := by
  have qT : ∀ (w : World) (r : Option Addr) (n c : Nat), (binOp .eql 23 (.slice r n c) (.slice none 0 0)).run Tryz.prog w = .ok (.bool r.isNone) w := fun w r n c => Lib.run_eql_slice_nil w _ _ r n c 0 0 Tryz.underlying23
  cases a with
  | none =>
    have hl0 : l = [] := by
      cases l with
      | nil => rfl
      | cons y r => obtain ⟨⟨b, o, h, _⟩, _⟩ := hin; cases h
    subst hl0
    simp only [List.length_nil]
    go_enter Tryz.func140, Tryz.ntmps140
    go_wp2
    go_ret
    exact ⟨none, 0, rfl, ⟨rfl, .inl ⟨rfl, rfl⟩⟩, Below.refl _ _⟩
  | some ad =>
    have hown0 : (w.alloc (.cells #[] 25)).ownsRow w.heap.size 25 6 (.slice (some ⟨w.heap.size, 0, none⟩) 0 0) 0 [] := ⟨rfl, .inr ⟨w.heap.size, 0, #[], rfl, Nat.le_refl _, World.alloc_heap_new w _, Nat.le_refl _, by decide, rfl, rfl⟩⟩
    have kE : Below w.heap.size w (w.alloc (.cells #[] 25)) := (Below.refl _ _).alloc (Nat.le_refl _) _
    have hrow1 := hin.keep (Below.keptTo kE hn0) (fun x _ hx => hx)
    have HR := Lib.hid (And.intro hown0 (And.intro hrow1 kE))
    clear hown0 hrow1 kE hin
    go_enter Tryz.func140, Tryz.ntmps140
    go_upto_region 3 with (fail)
    go_wp2_with (at_builtin; refine wpList_append_row rfl (.tmp 5) (.tmp 6) rfl w.heap.size (.slice (some ⟨w.heap.size, 0, none⟩) 0 0) 0 [] rfl HR.out.1 (some ad) l c rfl (fun e => by cases e) inn n0 HR.out.2.1 (by omega) (by simp) ?_; intro v5 w5 own5 hg5; rw [Nat.zero_add, List.nil_append] at own5; obtain ⟨a5, c5, rfl⟩ := own_shape5 own5; have hB5 := HR.out.2.2.grown hg5 (by simp) (fun k e => by cases e; exact Nat.le_refl _))
    go_ret
    exact ⟨a5, c5, rfl, own5, hB5⟩
end Go.Proofs.YtlbjmnakiflfpaaGreatDoor
