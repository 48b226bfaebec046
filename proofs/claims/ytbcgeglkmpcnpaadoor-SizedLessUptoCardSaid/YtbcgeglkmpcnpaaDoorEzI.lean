/-
  Trees of one's own: each row of theirs is a block for itself; sized: copyAll, copyE.
-/
import Derived.Test.YtbcgeglkmpcnpaaDoorEzH
import Derived.Laws.MakeOwn
namespace Go.Proofs.YtbcgeglkmpcnpaaDoor
open Go Go.RowKit
set_option linter.unusedVariables false
set_option linter.unusedSimpArgs false
open Go.Sort

/-- A block that holds these cells, whole. -/
def RowT (t : TypeId) (W : World) (B : Nat) (cs : List Value) : Prop := W.heap[B]? = some (.cells cs.toArray t (0, 0))
abbrev RowM (W : World) (B : Nat) (cs : List Value) : Prop := RowT 30 W B cs
theorem RowT.keep {t : TypeId} {W W' : World} {B : Nat} {cs : List Value} (h : RowT t W B cs) (he : W'.heap[B]? = W.heap[B]?) : RowT t W' B cs := by unfold RowT at *; rw [he]; exact h
theorem RowT.lt {t : TypeId} {W : World} {B : Nat} {cs : List Value} (h : RowT t W B cs) : B < W.heap.size := (Array.getElem?_eq_some_iff.1 h).1
def flatE (l : List ET) : List Value := l.flatMap ET.cells
theorem ET.cells_len : ∀ x : ET, x.cells.length = 8
  | .mk _ _ _ _ _ _ _ _ _ _ => rfl
theorem flatE_len : ∀ l : List ET, (flatE l).length = l.length * 8
  | [] => rfl
  | x :: r => by
    have h := flatE_len r
    unfold flatE at *
    rw [List.flatMap_cons, List.length_append, ET.cells_len, h, List.length_cons]; omega
theorem flatE_app (l m : List ET) : flatE (l ++ m) = flatE l ++ flatE m := by unfold flatE; rw [List.flatMap_append]
mutual
/-- A tree whose rows are blocks from lo to hi, each row its own. -/
def ET.Own (W : World) (lo hi : Nat) : ET → Prop
  | .mk _ _ _ _ _ _ _ xa xc xl => (xl = [] ∧ xa = none ∧ xc = 0) ∨ (∃ B, xa = some ⟨B, 0, none⟩ ∧ lo ≤ B ∧ B < hi ∧ xc = xl.length ∧ xl ≠ [] ∧ RowM W B (flatE xl) ∧ ET.OwnL W (B + 1) hi xl)
def ET.OwnL (W : World) (lo hi : Nat) : List ET → Prop
  | [] => lo ≤ hi
  | x :: r => ∃ m, lo ≤ m ∧ ET.Own W lo m x ∧ ET.OwnL W m hi r
end
/-- A row of one's own. -/
def OwnRow (W : World) (lo hi : Nat) (xa : Option Addr) (xc : Nat) (xl : List ET) : Prop := (xl = [] ∧ xa = none ∧ xc = 0) ∨ (∃ B, xa = some ⟨B, 0, none⟩ ∧ lo ≤ B ∧ B < hi ∧ xc = xl.length ∧ xl ≠ [] ∧ RowM W B (flatE xl) ∧ ET.OwnL W (B + 1) hi xl)
theorem ET.own_mk {W : World} {lo hi : Nat} {op wd : Int} {v : Nat} {sg uh ul xn : Int} {xa : Option Addr} {xc : Nat} {xl : List ET} : ET.Own W lo hi (.mk op wd v sg uh ul xn xa xc xl) ↔ OwnRow W lo hi xa xc xl := by rw [ET.Own, OwnRow]
theorem ET.OwnL.le {W : World} : ∀ {l : List ET} {lo hi : Nat}, ET.OwnL W lo hi l → lo ≤ hi
  | [], lo, hi, h => by rw [ET.OwnL] at h; exact h
  | x :: r, lo, hi, h => by
    rw [ET.OwnL] at h
    obtain ⟨m, h1, h2, h3⟩ := h
    have := h3.le; omega
/-- From lo to hi all blocks lie as they lay. -/
def SameOn (lo hi : Nat) (W W' : World) : Prop := ∀ b, lo ≤ b → b < hi → W'.heap[b]? = W.heap[b]?
theorem SameOn.sub {lo hi lo' hi' : Nat} {W W' : World} (h : SameOn lo hi W W') (h1 : lo ≤ lo') (h2 : hi' ≤ hi) : SameOn lo' hi' W W' := fun b hb hb2 => h b (by omega) (by omega)
theorem SameOn.trans {lo hi : Nat} {A B C : World} (h : SameOn lo hi A B) (k : SameOn lo hi B C) : SameOn lo hi A C := fun b h1 h2 => (k b h1 h2).trans (h b h1 h2)
theorem RowM.keep {W W' : World} {B : Nat} {cs : List Value} (h : RowM W B cs) (he : W'.heap[B]? = W.heap[B]?) : RowM W' B cs := RowT.keep h he
theorem ownL_keep_of {W W' : World} : ∀ (l : List ET), (∀ x ∈ l, ∀ lo hi, SameOn lo hi W W' → x.Own W lo hi → x.Own W' lo hi) → ∀ lo hi, SameOn lo hi W W' → ET.OwnL W lo hi l → ET.OwnL W' lo hi l
  | [], _, lo, hi, _, h => by rw [ET.OwnL] at *; exact h
  | x :: r, hx, lo, hi, hs, h => by
    rw [ET.OwnL] at *
    obtain ⟨m, h1, h2, h3⟩ := h
    have h4 := h3.le
    exact ⟨m, h1, hx x (by simp) lo m (hs.sub (Nat.le_refl _) h4) h2, ownL_keep_of r (fun y hy => hx y (by simp [hy])) m hi (hs.sub h1 (Nat.le_refl _)) h3⟩
theorem ET.Own.keep {W W' : World} : ∀ (x : ET) (lo hi : Nat), SameOn lo hi W W' → x.Own W lo hi → x.Own W' lo hi := by
  refine ET.ind ?_
  intro op wd v sg uh ul xn xa xc xl ih lo hi hs h
  rw [ET.Own] at *
  rcases h with h | ⟨B, h1, h2, h3, h4, h5, h6, h7⟩
  · exact Or.inl h
  · exact Or.inr ⟨B, h1, h2, h3, h4, h5, h6.keep (hs B h2 h3), ownL_keep_of xl ih (B + 1) hi (hs.sub (by omega) (Nat.le_refl _)) h7⟩
theorem ET.OwnL.keep {W W' : World} {l : List ET} {lo hi : Nat} (hs : SameOn lo hi W W') (h : ET.OwnL W lo hi l) : ET.OwnL W' lo hi l := ownL_keep_of l (fun x _ => ET.Own.keep x) lo hi hs h
theorem OwnRow.keep {W W' : World} {lo hi : Nat} {xa : Option Addr} {xc : Nat} {xl : List ET} (hs : SameOn lo hi W W') (h : OwnRow W lo hi xa xc xl) : OwnRow W' lo hi xa xc xl := by
  rcases h with h | ⟨B, h1, h2, h3, h4, h5, h6, h7⟩
  · exact Or.inl h
  · exact Or.inr ⟨B, h1, h2, h3, h4, h5, h6.keep (hs B h2 h3), h7.keep (hs.sub (by omega) (Nat.le_refl _))⟩
theorem ET.OwnL.widen {W : World} : ∀ {l : List ET} {lo hi hi' : Nat}, ET.OwnL W lo hi l → hi ≤ hi' → ET.OwnL W lo hi' l
  | [], lo, hi, hi', h, hh => by rw [ET.OwnL] at *; omega
  | x :: r, lo, hi, hi', h, hh => by
    rw [ET.OwnL] at *
    obtain ⟨m, h1, h2, h3⟩ := h
    exact ⟨m, h1, h2, h3.widen hh⟩
theorem OwnRow.wider {W : World} {lo lo' hi hi' : Nat} {xa : Option Addr} {xc : Nat} {xl : List ET} (h : OwnRow W lo hi xa xc xl) (hl : lo' ≤ lo) (hh : hi ≤ hi') : OwnRow W lo' hi' xa xc xl := by
  rcases h with h | ⟨B, h1, h2, h3, h4, h5, h6, h7⟩
  · exact Or.inl h
  · exact Or.inr ⟨B, h1, by omega, by omega, h4, h5, h6, h7.widen hh⟩
theorem ET.Own.wider {W : World} {lo lo' hi hi' : Nat} : ∀ {x : ET}, x.Own W lo hi → lo' ≤ lo → hi ≤ hi' → x.Own W lo' hi'
  | .mk op wd v sg uh ul xn xa xc xl, h, hl, hh => by rw [ET.own_mk] at *; exact h.wider hl hh
theorem ET.OwnL.snoc {W : World} {x : ET} : ∀ {l : List ET} {lo m hi : Nat}, ET.OwnL W lo m l → x.Own W m hi → m ≤ hi → ET.OwnL W lo hi (l ++ [x])
  | [], lo, m, hi, h, hx, hm => by
    rw [ET.OwnL] at h
    rw [List.nil_append, ET.OwnL]
    exact ⟨hi, by omega, hx.wider h (Nat.le_refl _), by rw [ET.OwnL]; omega⟩
  | y :: r, lo, m, hi, h, hx, hm => by
    rw [ET.OwnL] at h
    obtain ⟨q, h1, h2, h3⟩ := h
    rw [List.cons_append, ET.OwnL]
    exact ⟨q, h1, h2, h3.snoc hx hm⟩
mutual
/-- A tree without its places. -/
def nrmE : ET → ET
  | .mk op wd v sg uh ul xn _ _ xl => .mk op wd v sg uh ul xn none 0 (nrmEL xl)
def nrmEL : List ET → List ET
  | [] => []
  | x :: r => nrmE x :: nrmEL r
end
theorem nrmEL_map : ∀ l : List ET, nrmEL l = l.map nrmE
  | [] => rfl
  | x :: r => by rw [nrmEL, nrmEL_map r]; rfl
theorem nrmEL_len {l m : List ET} (h : nrmEL l = nrmEL m) : l.length = m.length := by
  have := congrArg List.length h
  rwa [nrmEL_map, nrmEL_map, List.length_map, List.length_map] at this
/-- The expression that a new place holds. -/
def zeroE : ET := .mk 0 0 0 0 0 0 0 none 0 []
theorem made_zero : ∀ n : Nat, (madeCells zeroE.cells.toArray (n * 8)) = (flatE (List.replicate n zeroE)).toArray := by
  have key : ∀ n : Nat, (List.range (n * 8)).map (fun i => zeroE.cells.toArray[i % 8]!) = flatE (List.replicate n zeroE) := by
    intro n
    induction n with
    | zero => rfl
    | succ n ih =>
      rw [List.replicate_succ', flatE_app, ← ih, Nat.succ_mul, List.range_add, List.map_append]
      congr 1
      rw [List.map_map]
      have : ∀ j, (n * 8 + j) % 8 = j % 8 := fun j => by omega
      have e : ((fun i => zeroE.cells.toArray[i % 8]!) ∘ fun x => n * 8 + x) = fun j => zeroE.cells.toArray[j % 8]! := by
        funext j; simp only [Function.comp, this]
      rw [e]
      rfl
  intro n
  rw [← key n, madeCells]
  apply Array.ext'
  simp [Array.toList_range, zeroE, ET.cells]
/-- An element written into a row. -/
theorem RowM.put {W : World} {B : Nat} {pre post : List Value} {u0 u1 u2 u3 u4 u5 u6 u7 : Value} (h : RowM W B (pre ++ ([u0, u1, u2, u3, u4, u5, u6, u7] ++ post))) (o : Nat) (ho : pre.length = o) (v0 v1 v2 v3 v4 v5 v6 v7 : Value) : RowM ((((((((W.setCell ⟨B, o, none⟩ v0).setCell ⟨B, o + 1, none⟩ v1).setCell ⟨B, o + 2, none⟩ v2).setCell ⟨B, o + 3, none⟩ v3).setCell ⟨B, o + 4, none⟩ v4).setCell ⟨B, o + 5, none⟩ v5).setCell ⟨B, o + 6, none⟩ v6).setCell ⟨B, o + 7, none⟩ v7) B (pre ++ ([v0, v1, v2, v3, v4, v5, v6, v7] ++ post)) := by
  subst ho
  unfold RowM RowT at *
  simp [World.setCell, Array.getElem?_modify, h, List.set_append]
theorem put_other (W : World) (B o : Nat) (v0 v1 v2 v3 v4 v5 v6 v7 : Value) (k : Nat) (hk : k ≠ B) : ((((((((W.setCell ⟨B, o, none⟩ v0).setCell ⟨B, o + 1, none⟩ v1).setCell ⟨B, o + 2, none⟩ v2).setCell ⟨B, o + 3, none⟩ v3).setCell ⟨B, o + 4, none⟩ v4).setCell ⟨B, o + 5, none⟩ v5).setCell ⟨B, o + 6, none⟩ v6).setCell ⟨B, o + 7, none⟩ v7).heap[k]? = W.heap[k]? := by
  rw [Below.heap_setCell _ _ _ k hk, Below.heap_setCell _ _ _ k hk, Below.heap_setCell _ _ _ k hk, Below.heap_setCell _ _ _ k hk, Below.heap_setCell _ _ _ k hk, Below.heap_setCell _ _ _ k hk, Below.heap_setCell _ _ _ k hk, Below.heap_setCell _ _ _ k hk]
end Go.Proofs.YtbcgeglkmpcnpaaDoor
