/-
  What an expression hangs on are its names.
-/
import Derived.Test.YtlbjmnakiflfpaaDoorKsL
import Derived.Test.YtlbjmnakiflfpaaDoorAsLf
import Derived.Test.YtlbjmnakiflfpaaDoorAsNm
namespace Go.Proofs.YtlbjmnakiflfpaaDoor
open Go Go.RowKit
set_option linter.unusedVariables false
set_option linter.unusedSimpArgs false
open Go.Sort

mutual
/-- The names of an expression, its own first. -/
def nmsX : XT → List Bytes
  | .mk op nm _ _ _ _ _ l => (if hasB op = true then [nm] else []) ++ nmsL l
def nmsL : List XT → List Bytes
  | [] => []
  | x :: r => nmsX x ++ nmsL r
end
theorem nmsL_mem : ∀ {l : List XT} {x : XT} {s : Bytes}, x ∈ l → s ∈ nmsX x → s ∈ nmsL l
  | y :: r, x, s, h, hs => by
    rw [nmsL, List.mem_append]
    rcases List.mem_cons.1 h with e | e
    · subst e; exact .inl hs
    · exact .inr (nmsL_mem e hs)
theorem mem_freeL (s : Bytes) : ∀ (l : List XT) (out : List Bytes), (∀ x ∈ l, ∀ out, s ∈ freeX out x ↔ s ∈ out ∨ s ∈ nmsX x) → (s ∈ freeL out l ↔ s ∈ out ∨ s ∈ nmsL l)
  | [], out, _ => by rw [freeL, nmsL]; simp
  | x :: r, out, h => by
    rw [freeL, nmsL, mem_freeL s r _ (fun y hy => h y (by simp [hy])), h x (by simp), List.mem_append, or_assoc]
theorem mem_freeX (s : Bytes) : ∀ (x : XT) (out : List Bytes), s ∈ freeX out x ↔ s ∈ out ∨ s ∈ nmsX x := XT.ind fun op nm n wd v a c l ih out => by
  rw [freeX, mem_freeL s l _ ih, nmsX, List.mem_append, ← or_assoc]
  refine or_congr_left ?_
  cases h : hasB op with
  | false => simp
  | true =>
    by_cases hc : nm ∈ out
    · simp [hc]; intro e; rw [e]; exact hc
    · simp [hc]
theorem ev_names {l m : List NT} : ∀ x : XT, (∀ s ∈ nmsX x, findN l s = findN m s) → evX l x = evX m x := XT.ind fun op nm n wd v a c xs ih h => by
  rw [evX_mk, evX_mk]
  have e : xs.map (evX l) = xs.map (evX m) := List.map_congr_left (fun x hx => ih x hx (fun s hs => h s (by rw [nmsX, List.mem_append]; exact .inr (nmsL_mem hx hs))))
  rw [e]
  by_cases ho : op = 2
  · subst ho
    have hn : findN l nm = findN m nm := h nm (by rw [nmsX, List.mem_append, show hasB 2 = true by decide]; left; simp)
    unfold kNode kNamed
    rw [hn]
  · unfold kNode; simp [ho]
theorem evK_names {l m : List NT} (x : XT) (h : ∀ s ∈ freeX [] x, findN l s = findN m s) : evalK l x = evalK m x := by
  unfold evalK
  rw [ev_names x (fun s hs => h s ((mem_freeX s x []).2 (.inr hs)))]
/-- Those whose names are among some. -/
def ownN (N : List Bytes) (l : List NT) : List NT := l.filter fun c => N.contains c.nm
theorem ownN_take (N : List Bytes) (l : List NT) (k : Nat) (h : k < l.length) : ownN N (l.take (k + 1)) = if N.contains l[k].nm = true then ownN N (l.take k) ++ [l[k]] else ownN N (l.take k) := by
  unfold ownN
  rw [List.take_succ_eq_append_getElem h, List.filter_append]
  cases hc : N.contains l[k].nm with
  | false => rw [List.filter_cons, if_neg (by rw [hc]; decide)]; simp
  | true => rw [List.filter_cons, if_pos hc]; simp
theorem find_own (N : List Bytes) (l : List NT) (s : Bytes) (hs : s ∈ N) : findN (ownN N l) s = findN l s := by
  unfold findN ownN
  rw [← List.filter_reverse, List.find?_filter]
  congr 2
  funext c
  by_cases h : c.nm = s
  · simp [h, hs]
  · simp [h]
theorem find_more (l : List NT) (nm : Bytes) (v : Int) (N : List Bytes) (hn : nm ∉ N) (s : Bytes) (hs : s ∈ N) : findN (l ++ [⟨nm, v⟩]) s = findN l s := by
  rw [findN_snoc, if_neg]
  intro h
  exact hn (by rw [show nm = s by simpa using h]; exact hs)
theorem evK_own (l : List NT) (x : XT) : evalK (ownN (freeX [] x) l) x = evalK l x := evK_names x (fun s hs => find_own _ l s hs)
theorem evK_more (l : List NT) (x : XT) (nm : Bytes) (v : Int) (h : nm ∉ freeX [] x) : evalK (l ++ [⟨nm, v⟩]) x = evalK l x := evK_names x (fun s hs => find_more l nm v _ h s hs)
theorem ownN_bk (N : List Bytes) : ∀ l : List NT, NT.bkL (ownN N l) ≤ NT.bkL l
  | [] => Nat.le_refl _
  | c :: r => by
    have h := ownN_bk N r
    have e : ownN N (c :: r) = if N.contains c.nm = true then c :: ownN N r else ownN N r := by
      unfold ownN; rw [List.filter_cons]
    rw [e]
    split <;> simp only [NT.bkL] <;> omega
/-! ### A row of constants that is one's own -/
theorem row_from {W : World} {g n : Nat} (hg : g < n) : ∀ (l : List NT) (o : Nat), (∀ x ∈ l, x.Wf) → (∀ j v, (l.flatMap NT.cells)[j]? = some v → W.cell? ⟨g, o + j, none⟩ = some v) → InRow 2 NT.cells NT.Wf n W l (some ⟨g, o, none⟩)
  | [], _, _, _ => trivial
  | x :: r, o, hw, h => by
    refine ⟨⟨g, o, rfl, hg, fun j v hv => h j v ?_⟩, hw x (by simp), ?_⟩
    · have hl : j < x.cells.length := by
        by_cases hq : j < x.cells.length
        · exact hq
        · rw [List.getElem?_eq_none (by omega)] at hv; cases hv
      rw [List.flatMap_cons, List.getElem?_append_left hl]; exact hv
    · have e : (some (⟨g, o, none⟩ : Addr)).map (fun p => p.add 2) = some ⟨g, o + 2, none⟩ := rfl
      rw [e]
      refine row_from hg r (o + 2) (fun y hy => hw y (by simp [hy])) (fun j v hv => ?_)
      have h2 := h (2 + j) v (by
        obtain ⟨nm, z⟩ := x
        rw [List.flatMap_cons, List.getElem?_append_right (by simp [NT.cells])]
        rw [show 2 + j - (NT.cells ⟨nm, z⟩).length = j by simp [NT.cells]]
        exact hv)
      rw [show o + 2 + j = o + (2 + j) by omega]
      exact h2
theorem nrow_own {W : World} {base : Nat} {v : Value} {l : List NT} (h : W.ownsRow base 39 2 v l.length (l.flatMap NT.cells)) (hw : ∀ x ∈ l, x.Wf) : ∃ a c, v = .slice a l.length c ∧ NRow W.heap.size W l a := by
  obtain ⟨h0, ⟨h1, h2⟩ | ⟨g, cap, cur, h1, h2, h3, h4, h5, h6, h7⟩⟩ := h
  · refine ⟨none, 0, by rw [h1, h2], ?_⟩
    have : l = [] := List.eq_nil_of_length_eq_zero h2
    rw [this]; trivial
  · refine ⟨some ⟨g, 0, none⟩, cap, h1, row_from (Array.getElem?_eq_some_iff.1 h3).1 l 0 hw (fun j v hv => ?_)⟩
    have hj : j < l.length * 2 := by
      by_cases hq : j < l.length * 2
      · exact hq
      · rw [List.getElem?_eq_none (by omega)] at hv; cases hv
    rw [← h7, List.getElem?_take_of_lt hj] at hv
    simp only [World.cell?, h3]
    simpa using hv
end Go.Proofs.YtlbjmnakiflfpaaDoor
