/-
  Trees as data: where they lie in memory, how great they are. No program.
-/
import Derived.Test.YtbcgeglkmpcnpaaDoorScE
namespace Go.Proofs.YtbcgeglkmpcnpaaDoor
open Go Go.RowKit
set_option linter.unusedVariables false

/-- Cells one behind the other, from a place on. -/
def RowC (W : World) (b o : Nat) (cs : List Value) : Prop := ∀ j v, cs[j]? = some v → W.cell? ⟨b, o + j, none⟩ = some v
/-- What lay below n in cells lies there still. -/
def KeptTo (n : Nat) (W W' : World) : Prop := ∀ b o v, b < n → W.cell? ⟨b, o, none⟩ = some v → W'.cell? ⟨b, o, none⟩ = some v
theorem KeptTo.refl (n : Nat) (W : World) : KeptTo n W W := fun _ _ _ _ h => h
theorem KeptTo.trans {n : Nat} {A B C : World} (h : KeptTo n A B) (k : KeptTo n B C) : KeptTo n A C := fun b o v hb hv => k b o v hb (h b o v hb hv)
theorem KeptTo.less {n m : Nat} {A B : World} (h : KeptTo n A B) (k : m ≤ n) : KeptTo m A B := fun b o v hb hv => h b o v (by omega) hv
theorem Below.keptTo {n m : Nat} {A B : World} (h : Below m A B) (k : n ≤ m) : KeptTo n A B := fun b o v hb hv => by rw [h.cell (p := ⟨b, o, none⟩) (by show b < m; omega)]; exact hv
/-- Elements one behind the other, each of so many cells. -/
def InRow {α : Type} (k : Nat) (cells : α → List Value) (inn : α → Prop) (n : Nat) (W : World) : List α → Option Addr → Prop
  | [], _ => True
  | x :: r, a => (∃ b o, a = some ⟨b, o, none⟩ ∧ b < n ∧ RowC W b o (cells x)) ∧ inn x ∧ InRow k cells inn n W r (a.map fun p => p.add k)
theorem InRow.at {α : Type} {k : Nat} {cells : α → List Value} {inn : α → Prop} {n : Nat} {W : World} : ∀ {l : List α} {a : Option Addr}, InRow k cells inn n W l a → ∀ {i : Nat} (hi : i < l.length), ∃ b o, a = some ⟨b, o, none⟩ ∧ b < n ∧ RowC W b (o + i * k) (cells l[i]) ∧ inn l[i]
  | x :: r, a, h, 0, hi => by
    obtain ⟨⟨b, o, ha, hb, hr⟩, hx, _⟩ := h
    exact ⟨b, o, ha, hb, by simpa using hr, hx⟩
  | x :: r, a, h, i + 1, hi => by
    obtain ⟨⟨b, o, rfl, hb, _⟩, _, hr⟩ := h
    obtain ⟨b', o', he, hb', hr', hx'⟩ := InRow.at hr (i := i) (by simpa using hi)
    simp only [Option.map_some, Option.some.injEq] at he
    rw [show (⟨b, o, none⟩ : Addr).add k = ⟨b, o + k, none⟩ by simp [Addr.add]] at he
    injection he with h1 h2
    subst h1
    subst h2
    exact ⟨b, o, rfl, hb, by simp only [List.getElem_cons_succ]; rw [show o + (i + 1) * k = o + k + i * k by rw [Nat.add_mul]; omega]; exact hr', by simpa using hx'⟩
theorem InRow.keep {α : Type} {k : Nat} {cells : α → List Value} {inn inn' : α → Prop} {n : Nat} {W W' : World} (hk : KeptTo n W W') : ∀ {l : List α} {a : Option Addr}, (∀ x ∈ l, inn x → inn' x) → InRow k cells inn n W l a → InRow k cells inn' n W' l a
  | [], _, _, _ => trivial
  | x :: r, a, hi, h => by
    obtain ⟨⟨b, o, ha, hb, hr⟩, hx, ht⟩ := h
    exact ⟨⟨b, o, ha, hb, fun j v hv => hk b _ v hb (hr j v hv)⟩, hi x (by simp) hx, InRow.keep hk (fun y hy => hi y (by simp [hy])) ht⟩
theorem InRow.less {α : Type} {k : Nat} {cells : α → List Value} {inn inn' : α → Prop} {n m : Nat} {W : World} (hm : n ≤ m) : ∀ {l : List α} {a : Option Addr}, (∀ x ∈ l, inn x → inn' x) → InRow k cells inn n W l a → InRow k cells inn' m W l a
  | [], _, _, _ => trivial
  | x :: r, a, hi, h => by
    obtain ⟨⟨b, o, ha, hb, hr⟩, hx, ht⟩ := h
    exact ⟨⟨b, o, ha, by omega, hr⟩, hi x (by simp) hx, InRow.less hm (fun y hy => hi y (by simp [hy])) ht⟩
theorem InRow.all {α : Type} {k : Nat} {cells : α → List Value} {inn : α → Prop} {n : Nat} {W : World} {l : List α} {a : Option Addr} (h : InRow k cells inn n W l a) : ∀ x ∈ l, inn x := fun x hx => by
  obtain ⟨i, hi, rfl⟩ := List.mem_iff_getElem.1 hx
  obtain ⟨_, _, _, _, _, h⟩ := h.at hi
  exact h

/-! ### Expressions -/
inductive XT where
  | mk (op : Int) (nm : Bytes) (n wd : Int) (v : Nat) (a : Option Addr) (c : Nat) (l : List XT)
def XT.op : XT → Int | .mk op _ _ _ _ _ _ _ => op
def XT.nm : XT → Bytes | .mk _ nm _ _ _ _ _ _ => nm
def XT.n : XT → Int | .mk _ _ n _ _ _ _ _ => n
def XT.wd : XT → Int | .mk _ _ _ wd _ _ _ _ => wd
def XT.v : XT → Nat | .mk _ _ _ _ v _ _ _ => v
def XT.l : XT → List XT | .mk _ _ _ _ _ _ _ l => l
def XT.cells : XT → List Value | .mk op nm n wd v a c l => [.int .i64 op, .string (bs nm), .int .i64 n, .int .i64 wd, .int .u64 (v : Int), .slice a l.length c]
def XT.val (x : XT) : Value := .agg x.cells.toArray
mutual
def XT.In (n : Nat) (W : World) : XT → Prop
  | .mk _ _ _ _ _ a _ l => XT.InL n W l a
def XT.InL (n : Nat) (W : World) : List XT → Option Addr → Prop
  | [], _ => True
  | x :: r, a => (∃ b o, a = some ⟨b, o, none⟩ ∧ b < n ∧ RowC W b o x.cells) ∧ XT.In n W x ∧ XT.InL n W r (a.map fun p => p.add 6)
end
theorem XT.inL_iff (n : Nat) (W : World) : ∀ (l : List XT) (a : Option Addr), XT.InL n W l a ↔ InRow 6 XT.cells (XT.In n W) n W l a
  | [], a => by rw [XT.InL]; exact Iff.rfl
  | x :: r, a => by rw [XT.InL, XT.inL_iff n W r]; exact Iff.rfl
theorem XT.In_mk {n : Nat} {W : World} {op : Int} {nm : Bytes} {m wd : Int} {v : Nat} {a : Option Addr} {c : Nat} {l : List XT} : XT.In n W (.mk op nm m wd v a c l) ↔ InRow 6 XT.cells (XT.In n W) n W l a := by rw [XT.In]; exact XT.inL_iff n W l a
/-- An induction over expressions: of one whose parts have it. -/
theorem XT.ind {P : XT → Prop} (h : ∀ op nm n wd v a c l, (∀ x ∈ l, P x) → P (.mk op nm n wd v a c l)) : ∀ x, P x := XT.rec (motive_1 := P) (motive_2 := fun l => ∀ x ∈ l, P x) (fun op nm n wd v a c l ih => h op nm n wd v a c l ih) (fun x hx => by cases hx) (fun x r hx hr y hy => by
  rcases List.mem_cons.1 hy with e | e
  · exact e ▸ hx
  · exact hr y e)
theorem XT.In.keep {n : Nat} {W W' : World} (hk : KeptTo n W W') : ∀ x : XT, x.In n W → x.In n W' := XT.ind fun op nm m wd v a c l ih h => by
  rw [XT.In_mk] at *
  exact h.keep hk ih
theorem XT.In.less {n m : Nat} {W : World} (hm : n ≤ m) : ∀ x : XT, x.In n W → x.In m W := XT.ind fun op nm k wd v a c l ih h => by
  rw [XT.In_mk] at *
  exact h.less hm ih
mutual
/-- How many nodes. -/
def XT.sz : XT → Nat | .mk _ _ _ _ _ _ _ l => 1 + XT.szL l
def XT.szL : List XT → Nat | [] => 0 | x :: r => x.sz + XT.szL r
end
mutual
/-- How many stand one within the other. -/
def XT.dp : XT → Nat | .mk _ _ _ _ _ _ _ l => 1 + XT.dpL l
def XT.dpL : List XT → Nat | [] => 0 | x :: r => max x.dp (XT.dpL r)
end
mutual
/-- How deep the nodes stand, one by one. -/
def XT.ds (d : Nat) : XT → List Nat | .mk _ _ _ _ _ _ _ l => d :: XT.dsL (d + 1) l
def XT.dsL (d : Nat) : List XT → List Nat | [] => [] | x :: r => x.ds d ++ XT.dsL d r
end
mutual
/-- Nodes and letters. -/
def XT.bk : XT → Nat | .mk _ nm _ _ _ _ _ l => 1 + nm.length + XT.bkL l
def XT.bkL : List XT → Nat | [] => 0 | x :: r => x.bk + XT.bkL r
end
mutual
def XT.Wf : XT → Prop | .mk _ _ _ _ v _ _ l => v < 18446744073709551616 ∧ XT.WfL l
def XT.WfL : List XT → Prop | [] => True | x :: r => x.Wf ∧ XT.WfL r
end

theorem XT.wfL_iff : ∀ l : List XT, XT.WfL l ↔ ∀ x ∈ l, x.Wf
  | [] => by simp [XT.WfL]
  | x :: r => by simp [XT.WfL, XT.wfL_iff r]
theorem XT.wf_mk {op : Int} {nm : Bytes} {n wd : Int} {v : Nat} {a : Option Addr} {c : Nat} {l : List XT} : XT.Wf (.mk op nm n wd v a c l) ↔ v < 18446744073709551616 ∧ ∀ x ∈ l, x.Wf := by rw [XT.Wf, XT.wfL_iff]
theorem XT.szL_mem {x : XT} : ∀ {l : List XT}, x ∈ l → x.sz ≤ XT.szL l
  | y :: r, h => by
    rcases List.mem_cons.1 h with e | e
    · subst e; simp [XT.szL]
    · have := XT.szL_mem e; simp [XT.szL]; omega
theorem XT.bkL_mem {x : XT} : ∀ {l : List XT}, x ∈ l → x.bk ≤ XT.bkL l
  | y :: r, h => by
    rcases List.mem_cons.1 h with e | e
    · subst e; simp [XT.bkL]
    · have := XT.bkL_mem e; simp [XT.bkL]; omega
theorem XT.bk_pos : ∀ x : XT, 1 ≤ x.bk
  | .mk _ _ _ _ _ _ _ _ => by simp [XT.bk]; omega
theorem XT.sz_pos : ∀ x : XT, 1 ≤ x.sz
  | .mk _ _ _ _ _ _ _ _ => by simp [XT.sz]
theorem XT.bkL_len : ∀ l : List XT, l.length ≤ XT.bkL l
  | [] => by simp [XT.bkL]
  | x :: r => by have := XT.bkL_len r; have := x.bk_pos; simp [XT.bkL]; omega
theorem szL_of : ∀ l : List XT, (∀ x ∈ l, x.sz ≤ x.bk) → XT.szL l ≤ XT.bkL l
  | [], _ => by simp [XT.szL]
  | x :: r, h => by have := h x (by simp); have := szL_of r (fun y hy => h y (by simp [hy])); simp [XT.szL, XT.bkL]; omega
theorem dpL_of : ∀ l : List XT, (∀ x ∈ l, x.dp ≤ x.sz) → XT.dpL l ≤ XT.szL l
  | [], _ => by simp [XT.dpL]
  | x :: r, h => by have := h x (by simp); have := dpL_of r (fun y hy => h y (by simp [hy])); simp [XT.szL, XT.dpL]; omega
theorem XT.sz_bk : ∀ x : XT, x.sz ≤ x.bk := XT.ind fun op nm n wd v a c l ih => by
  have := szL_of l ih
  simp [XT.sz, XT.bk]; omega
theorem XT.szL_bk : ∀ l : List XT, XT.szL l ≤ XT.bkL l
  | [] => by simp [XT.szL]
  | x :: r => by have := XT.szL_bk r; have := x.sz_bk; simp [XT.szL, XT.bkL]; omega
theorem XT.szL_app : ∀ l m : List XT, XT.szL (l ++ m) = XT.szL l + XT.szL m
  | [], m => by simp [XT.szL]
  | x :: r, m => by simp [XT.szL, XT.szL_app r m]; omega
theorem XT.dpL_app : ∀ l m : List XT, XT.dpL (l ++ m) = max (XT.dpL l) (XT.dpL m)
  | [], m => by simp [XT.dpL]
  | x :: r, m => by simp [XT.dpL, XT.dpL_app r m, Nat.max_assoc]
theorem XT.dsL_app (d : Nat) : ∀ l m : List XT, XT.dsL d (l ++ m) = XT.dsL d l ++ XT.dsL d m
  | [], m => by simp [XT.dsL]
  | x :: r, m => by simp [XT.dsL, XT.dsL_app d r m]
theorem XT.dp_sz : ∀ x : XT, x.dp ≤ x.sz := XT.ind fun op nm n wd v a c l ih => by
  have := dpL_of l ih
  simp [XT.sz, XT.dp]; omega
end Go.Proofs.YtbcgeglkmpcnpaaDoor
