/-
  FaA, FaM, FaB, in one text.
-/
import Derived.Test.YtbcgeglkmpcnpaaDoorEyA
import Derived.Test.YtbcgeglkmpcnpaaDoorEzT
import Derived.Test.YtbcgeglkmpcnpaaDoorEzX
import Derived.Test.YtbcgeglkmpcnpaaDoorEyC
import Derived.Test.YtbcgeglkmpcnpaaDoorEyD
import Derived.Test.YtbcgeglkmpcnpaaDoorEzK
namespace Go.Proofs.YtbcgeglkmpcnpaaDoor
open Go Go.RowKit
set_option linter.unusedVariables false
set_option linter.unusedSimpArgs false

/-- A list of what is one's own, each between its bounds. -/
def LOwn {α : Type} (own : Nat → Nat → α → Prop) : Nat → Nat → List α → Prop
  | lo, hi, [] => lo ≤ hi
  | lo, hi, x :: r => ∃ m, lo ≤ m ∧ own lo m x ∧ LOwn own m hi r
/-- A row of one's own: a block whole, and what lies behind it. -/
def ROwn {α : Type} (t : TypeId) (cells : α → List Value) (W : World) (own : Nat → Nat → α → Prop) (lo hi : Nat) (a : Option Addr) (c : Nat) (l : List α) : Prop := (l = [] ∧ a = none ∧ c = 0) ∨ (∃ B, a = some ⟨B, 0, none⟩ ∧ lo ≤ B ∧ B < hi ∧ c = l.length ∧ l ≠ [] ∧ RowT t W B (l.flatMap cells) ∧ LOwn own (B + 1) hi l)
theorem LOwn.le {α : Type} {own : Nat → Nat → α → Prop} : ∀ {l : List α} {lo hi : Nat}, LOwn own lo hi l → lo ≤ hi
  | [], lo, hi, h => by rw [LOwn] at h; exact h
  | x :: r, lo, hi, h => by
    rw [LOwn] at h
    obtain ⟨m, h1, h2, h3⟩ := h
    have := h3.le; omega
theorem LOwn.keep {α : Type} {own own' : Nat → Nat → α → Prop} {W W' : World} : ∀ {l : List α} {lo hi : Nat}, (∀ x ∈ l, ∀ lo hi, SameOn lo hi W W' → own lo hi x → own' lo hi x) → SameOn lo hi W W' → LOwn own lo hi l → LOwn own' lo hi l
  | [], lo, hi, _, _, h => by rw [LOwn] at *; exact h
  | x :: r, lo, hi, hx, hs, h => by
    rw [LOwn] at *
    obtain ⟨m, h1, h2, h3⟩ := h
    have h4 := h3.le
    exact ⟨m, h1, hx x (by simp) lo m (hs.sub (Nat.le_refl _) h4) h2, LOwn.keep (fun y hy => hx y (by simp [hy])) (hs.sub h1 (Nat.le_refl _)) h3⟩
theorem LOwn.widen {α : Type} {own : Nat → Nat → α → Prop} : ∀ {l : List α} {lo hi hi' : Nat}, LOwn own lo hi l → hi ≤ hi' → LOwn own lo hi' l
  | [], lo, hi, hi', h, hh => by rw [LOwn] at *; omega
  | x :: r, lo, hi, hi', h, hh => by
    rw [LOwn] at *
    obtain ⟨m, h1, h2, h3⟩ := h
    exact ⟨m, h1, h2, h3.widen hh⟩
theorem LOwn.snoc {α : Type} {own : Nat → Nat → α → Prop} {x : α} (hw : ∀ lo lo' hi, own lo hi x → lo' ≤ lo → own lo' hi x) : ∀ {l : List α} {lo m hi : Nat}, LOwn own lo m l → own m hi x → m ≤ hi → LOwn own lo hi (l ++ [x])
  | [], lo, m, hi, h, hx, hm => by
    rw [LOwn] at h
    rw [List.nil_append, LOwn]
    exact ⟨hi, by omega, hw _ _ _ hx h, by rw [LOwn]; omega⟩
  | y :: r, lo, m, hi, h, hx, hm => by
    rw [LOwn] at h
    obtain ⟨q, h1, h2, h3⟩ := h
    rw [List.cons_append, LOwn]
    exact ⟨q, h1, h2, h3.snoc hw hx hm⟩
theorem LOwn.split {α : Type} {own : Nat → Nat → α → Prop} : ∀ {a b : List α} {lo hi : Nat}, LOwn own lo hi (a ++ b) → ∃ m, LOwn own lo m a ∧ LOwn own m hi b
  | [], b, lo, hi, h => ⟨lo, by rw [LOwn]; exact Nat.le_refl _, h⟩
  | x :: r, b, lo, hi, h => by
    rw [List.cons_append, LOwn] at h
    obtain ⟨q, h1, h2, h3⟩ := h
    obtain ⟨m, h4, h5⟩ := h3.split
    exact ⟨m, by rw [LOwn]; exact ⟨q, h1, h2, h4⟩, h5⟩
theorem LOwn.join {α : Type} {own : Nat → Nat → α → Prop} {b : List α} (hw : ∀ x ∈ b, ∀ lo lo' hi, own lo hi x → lo' ≤ lo → own lo' hi x) : ∀ {a : List α} {lo m hi : Nat}, LOwn own lo m a → LOwn own m hi b → LOwn own lo hi (a ++ b)
  | [], lo, m, hi, h, k => by
    rw [LOwn] at h
    cases b with
    | nil => rw [LOwn] at k; rw [List.nil_append, LOwn]; omega
    | cons x r =>
      rw [LOwn] at k
      obtain ⟨q, h1, h2, h3⟩ := k
      rw [List.nil_append, LOwn]
      exact ⟨q, by omega, hw x (by simp) _ _ _ h2 h, h3⟩
  | x :: r, lo, m, hi, h, k => by
    rw [LOwn] at h
    obtain ⟨q, h1, h2, h3⟩ := h
    rw [List.cons_append, LOwn]
    exact ⟨q, h1, h2, h3.join hw k⟩
theorem LOwn.inn {α : Type} {own : Nat → Nat → α → Prop} {inn : Nat → α → Prop} (hm : ∀ x n m, n ≤ m → inn n x → inn m x) : ∀ {l : List α} {lo hi : Nat}, (∀ x ∈ l, ∀ lo hi, own lo hi x → inn hi x) → LOwn own lo hi l → ∀ x ∈ l, inn hi x
  | [], _, _, _, _, x, hx => by cases hx
  | y :: r, lo, hi, hi2, h, x, hx => by
    rw [LOwn] at h
    obtain ⟨m, h1, h2, h3⟩ := h
    rcases List.mem_cons.1 hx with e | e
    · subst e; exact hm _ _ _ h3.le (hi2 x (by simp) lo m h2)
    · exact h3.inn hm (fun z hz => hi2 z (by simp [hz])) x e
theorem LOwn.low {α : Type} {own : Nat → Nat → α → Prop} {l : List α} {lo lo' hi : Nat} (hw : ∀ x ∈ l, ∀ lo lo' hi, own lo hi x → lo' ≤ lo → own lo' hi x) (h : LOwn own lo hi l) (hl : lo' ≤ lo) : LOwn own lo' hi l := by
  have h1 : LOwn own lo' lo ([] : List α) := by rw [LOwn]; exact hl
  exact LOwn.join hw h1 h
theorem ROwn.keep {α : Type} {t : TypeId} {cells : α → List Value} {W W' : World} {own own' : Nat → Nat → α → Prop} {lo hi : Nat} {a : Option Addr} {c : Nat} {l : List α} (hx : ∀ x ∈ l, ∀ lo hi, SameOn lo hi W W' → own lo hi x → own' lo hi x) (hs : SameOn lo hi W W') (h : ROwn t cells W own lo hi a c l) : ROwn t cells W' own' lo hi a c l := by
  rcases h with h | ⟨B, h1, h2, h3, h4, h5, h6, h7⟩
  · exact Or.inl h
  · exact Or.inr ⟨B, h1, h2, h3, h4, h5, h6.keep (hs B h2 h3), h7.keep hx (hs.sub (by omega) (Nat.le_refl _))⟩
theorem ROwn.wider {α : Type} {t : TypeId} {cells : α → List Value} {W : World} {own : Nat → Nat → α → Prop} {lo lo' hi hi' : Nat} {a : Option Addr} {c : Nat} {l : List α} (h : ROwn t cells W own lo hi a c l) (hl : lo' ≤ lo) (hh : hi ≤ hi') : ROwn t cells W own lo' hi' a c l := by
  rcases h with h | ⟨B, h1, h2, h3, h4, h5, h6, h7⟩
  · exact Or.inl h
  · exact Or.inr ⟨B, h1, by omega, by omega, h4, h5, h6, h7.widen hh⟩
theorem ROwn.inn {α : Type} {t : TypeId} {cells : α → List Value} {W : World} {own : Nat → Nat → α → Prop} {inn : Nat → α → Prop} {k : Nat} (hk : ∀ x, (cells x).length = k) (hk0 : k ≠ 0) (hm : ∀ x n m, n ≤ m → inn n x → inn m x) {lo hi : Nat} {a : Option Addr} {c : Nat} {l : List α} (hx : ∀ x ∈ l, ∀ lo hi, own lo hi x → inn hi x) (h : ROwn t cells W own lo hi a c l) : InRow k cells (inn hi) hi W l a := by
  rcases h with ⟨rfl, rfl, _⟩ | ⟨B, rfl, h2, h3, h4, h5, h6, h7⟩
  · unfold InRow; trivial
  · exact rowT_in h3 cells hk hk0 l [] [] 0 rfl (by simpa using h6) (h7.inn hm hx)
theorem ROwn.swap {α : Type} {t : TypeId} {cells : α → List Value} {W W' : World} {own own' : Nat → Nat → α → Prop} {lo hi B : Nat} {a : Option Addr} {c : Nat} {l l' : List α} (h : ROwn t cells W own lo hi a c l) (ha : a = some ⟨B, 0, none⟩) (hl : l'.length = l.length) (hr : RowT t W' B (l'.flatMap cells)) (ho : LOwn own' (B + 1) hi l') : ROwn t cells W' own' lo hi a c l' := by
  rcases h with ⟨_, h, _⟩ | ⟨B', h1, h2, h3, h4, h5, h6, h7⟩
  · rw [ha] at h; cases h
  · rw [ha] at h1
    simp only [Option.some.injEq, Addr.mk.injEq, and_true] at h1
    subst h1
    exact Or.inr ⟨B, ha, h2, h3, by rw [h4, hl], fun q => h5 (by rw [q] at hl; exact List.length_eq_zero_iff.1 hl.symm), hr, ho⟩
theorem ownL_iff {W : World} : ∀ {l : List ET} {lo hi : Nat}, ET.OwnL W lo hi l ↔ LOwn (ET.Own W) lo hi l
  | [], lo, hi => by rw [ET.OwnL, LOwn]
  | x :: r, lo, hi => by
    rw [ET.OwnL, LOwn]
    constructor
    · rintro ⟨m, h1, h2, h3⟩; exact ⟨m, h1, h2, ownL_iff.1 h3⟩
    · rintro ⟨m, h1, h2, h3⟩; exact ⟨m, h1, h2, ownL_iff.2 h3⟩
mutual
/-- A statement whose rows are blocks from lo to hi, each row its own. -/
def TT.Own (W : World) (lo hi : Nat) : TT → Prop
  | .mk _ _ _ _ xa xc xl sa sc sl => ∃ m, lo ≤ m ∧ m ≤ hi ∧ OwnRow W lo m xa xc xl ∧ ((sl = [] ∧ sa = none ∧ sc = 0) ∨ (∃ B, sa = some ⟨B, 0, none⟩ ∧ m ≤ B ∧ B < hi ∧ sc = sl.length ∧ sl ≠ [] ∧ RowT 48 W B (sl.flatMap TT.cells) ∧ TT.OwnL W (B + 1) hi sl))
def TT.OwnL (W : World) (lo hi : Nat) : List TT → Prop
  | [] => lo ≤ hi
  | x :: r => ∃ m, lo ≤ m ∧ TT.Own W lo m x ∧ TT.OwnL W m hi r
end
theorem TT.ownL_iff {W : World} : ∀ {l : List TT} {lo hi : Nat}, TT.OwnL W lo hi l ↔ LOwn (TT.Own W) lo hi l
  | [], lo, hi => by rw [TT.OwnL, LOwn]
  | x :: r, lo, hi => by
    rw [TT.OwnL, LOwn]
    constructor
    · rintro ⟨m, h1, h2, h3⟩; exact ⟨m, h1, h2, TT.ownL_iff.1 h3⟩
    · rintro ⟨m, h1, h2, h3⟩; exact ⟨m, h1, h2, TT.ownL_iff.2 h3⟩
/-- A row of statements of one's own. -/
abbrev RowTT (W : World) (lo hi : Nat) (sa : Option Addr) (sc : Nat) (sl : List TT) : Prop := ROwn 48 TT.cells W (TT.Own W) lo hi sa sc sl
theorem TT.own_mk {W : World} {lo hi : Nat} {op sg uh ul : Int} {xa : Option Addr} {xc : Nat} {xl : List ET} {sa : Option Addr} {sc : Nat} {sl : List TT} : TT.Own W lo hi (.mk op sg uh ul xa xc xl sa sc sl) ↔ ∃ m, lo ≤ m ∧ m ≤ hi ∧ OwnRow W lo m xa xc xl ∧ RowTT W m hi sa sc sl := by
  rw [TT.Own]
  unfold RowTT ROwn
  simp only [TT.ownL_iff]
theorem TT.cells_len : ∀ x : TT, x.cells.length = 6
  | .mk _ _ _ _ _ _ _ _ _ _ => rfl
theorem QT.cells_len (x : QT) : x.cells.length = 2 := rfl
theorem KT.cells_len (x : KT) : x.cells.length = 9 := by
  obtain ⟨n, x⟩ := x
  show x.cells.length + 1 = 9
  rw [ET.cells_len]
theorem TT.Own.keep {W W' : World} : ∀ (x : TT) (lo hi : Nat), SameOn lo hi W W' → x.Own W lo hi → x.Own W' lo hi := by
  refine TT.ind ?_
  intro op sg uh ul xa xc xl sa sc sl ih lo hi hs h
  rw [TT.own_mk] at *
  obtain ⟨m, h1, h2, h3, h4⟩ := h
  exact ⟨m, h1, h2, h3.keep (hs.sub (Nat.le_refl _) h2), h4.keep (fun x hx => ih x hx) (hs.sub h1 (Nat.le_refl _))⟩
theorem TT.Own.wider {W : World} {lo lo' hi hi' : Nat} : ∀ {x : TT}, x.Own W lo hi → lo' ≤ lo → hi ≤ hi' → x.Own W lo' hi'
  | .mk op sg uh ul xa xc xl sa sc sl, h, hl, hh => by
    rw [TT.own_mk] at *
    obtain ⟨m, h1, h2, h3, h4⟩ := h
    exact ⟨m, by omega, by omega, h3.wider hl (Nat.le_refl _), h4.wider (Nat.le_refl _) hh⟩
theorem TT.Own.inn {W : World} : ∀ (x : TT) (lo hi : Nat), x.Own W lo hi → x.In hi W := by
  refine TT.ind ?_
  intro op sg uh ul xa xc xl sa sc sl ih lo hi h
  rw [TT.In_mk]
  rw [TT.own_mk] at h
  obtain ⟨m, h1, h2, h3, h4⟩ := h
  exact ⟨InRow.less h2 (fun x _ => ET.In.less h2 x) h3.inn, h4.inn TT.cells_len (by decide) (inn := fun n x => TT.In n W x) (fun x n m hnm h => TT.In.less hnm x h) (fun x hx lo hi h => ih x hx lo hi h)⟩
def QT.Own (W : World) (lo hi : Nat) (q : QT) : Prop := RowTT W lo hi q.sa q.sc q.sl
def KT.Own (W : World) (lo hi : Nat) (q : KT) : Prop := q.x.Own W lo hi
def GT.Own (W : World) (lo hi : Nat) (q : GT) : Prop := True
theorem QT.Own.keep {W W' : World} (x : QT) (lo hi : Nat) (hs : SameOn lo hi W W') (h : x.Own W lo hi) : x.Own W' lo hi := ROwn.keep (fun x _ => TT.Own.keep x) hs h
theorem KT.Own.keep {W W' : World} (x : KT) (lo hi : Nat) (hs : SameOn lo hi W W') (h : x.Own W lo hi) : x.Own W' lo hi := ET.Own.keep x.x lo hi hs h
theorem QT.Own.wider {W : World} {lo lo' hi hi' : Nat} {x : QT} (h : x.Own W lo hi) (hl : lo' ≤ lo) (hh : hi ≤ hi') : x.Own W lo' hi' := ROwn.wider h hl hh
theorem KT.Own.wider {W : World} {lo lo' hi hi' : Nat} {x : KT} (h : x.Own W lo hi) (hl : lo' ≤ lo) (hh : hi ≤ hi') : x.Own W lo' hi' := ET.Own.wider h hl hh
theorem QT.Own.inn {W : World} (x : QT) (lo hi : Nat) (h : x.Own W lo hi) : x.In hi W := ROwn.inn TT.cells_len (by decide) (inn := fun n x => TT.In n W x) (fun x n m hnm h => TT.In.less hnm x h) (fun x hx lo hi h => TT.Own.inn x lo hi h) h
theorem KT.Own.inn {W : World} (x : KT) (lo hi : Nat) (h : x.Own W lo hi) : x.In hi W := ET.Own.inn x.x lo hi h
abbrev RowQQ (W : World) (lo hi : Nat) (sa : Option Addr) (sc : Nat) (sl : List QT) : Prop := ROwn 46 QT.cells W (QT.Own W) lo hi sa sc sl
abbrev RowKK (W : World) (lo hi : Nat) (sa : Option Addr) (sc : Nat) (sl : List KT) : Prop := ROwn 74 KT.cells W (KT.Own W) lo hi sa sc sl
mutual
/-- A statement without its places. -/
def nrmT : TT → TT
  | .mk op sg uh ul _ _ xl _ _ sl => .mk op sg uh ul none 0 (nrmEL xl) none 0 (nrmTL sl)
def nrmTL : List TT → List TT
  | [] => []
  | x :: r => nrmT x :: nrmTL r
end
theorem nrmTL_map : ∀ l : List TT, nrmTL l = l.map nrmT
  | [] => rfl
  | x :: r => by rw [nrmTL, nrmTL_map r]; rfl
def nrmQ (q : QT) : QT := ⟨q.ck, none, 0, nrmTL q.sl⟩
def nrmK (q : KT) : KT := ⟨q.nm, nrmE q.x⟩
theorem eqT_nrm : ∀ (l m : List TT), (∀ x ∈ l, ∀ y, sameT x y = true ↔ nrmT x = nrmT y) → (eqList sameT l m = true ↔ nrmTL l = nrmTL m)
  | [], [], _ => by simp [eqList]
  | [], y :: t, _ => by simp [eqList, nrmTL]
  | x :: r, [], _ => by simp [eqList, nrmTL]
  | x :: r, y :: t, h => by
    have h1 := eqT_nrm r t (fun z hz => h z (by simp [hz]))
    have h0 := h x (by simp) y
    simp only [eqList, nrmTL, Bool.and_eq_true, List.cons.injEq, h1, h0]
theorem sameT_iff : ∀ x y : TT, sameT x y = true ↔ nrmT x = nrmT y := by
  refine TT.ind ?_
  intro op sg uh ul xa xc xl sa sc sl ih y
  obtain ⟨op2, sg2, uh2, ul2, xa2, xc2, xl2, sa2, sc2, sl2⟩ := y
  rw [sameT, nrmT, nrmT, sameTL_eq]
  have h := eqT_nrm sl sl2 ih
  have h2 := eqE_nrm xl xl2 (fun x _ => sameE_iff x)
  simp only [Bool.and_eq_true, beq_iff_eq, TT.mk.injEq, true_and, h, h2, Int.ofNat_inj]
theorem eqL_nrm {α : Type} {p : α → α → Bool} {f : α → α} (h : ∀ x y, p x y = true ↔ f x = f y) : ∀ l m : List α, eqList p l m = true ↔ l.map f = m.map f
  | [], [] => by simp [eqList]
  | [], y :: t => by simp [eqList]
  | x :: r, [] => by simp [eqList]
  | x :: r, y :: t => by
    have h1 := eqL_nrm h r t
    simp only [eqList, List.map_cons, Bool.and_eq_true, List.cons.injEq, h1, h x y]
theorem sameQ_iff (x y : QT) : sameQ x y = true ↔ nrmQ x = nrmQ y := by
  obtain ⟨c, sa, sc, sl⟩ := x
  obtain ⟨c2, sa2, sc2, sl2⟩ := y
  have h := eqT_nrm sl sl2 (fun x _ => sameT_iff x)
  simp only [sameQ, nrmQ, Bool.and_eq_true, beq_iff_eq, QT.mk.injEq, true_and, h]
theorem sameK_iff (x y : KT) : sameK x y = true ↔ nrmK x = nrmK y := by
  obtain ⟨c, x⟩ := x
  obtain ⟨c2, x2⟩ := y
  have h := sameE_iff x x2
  simp only [sameK, nrmK, Bool.and_eq_true, beq_iff_eq, KT.mk.injEq, h]
theorem nrmTL_len {l m : List TT} (h : nrmTL l = nrmTL m) : l.length = m.length := by
  have := congrArg List.length h
  rwa [nrmTL_map, nrmTL_map, List.length_map, List.length_map] at this
def zeroT : TT := .mk 0 0 0 0 none 0 [] none 0 []
theorem made_zeroT : ∀ n : Nat, (madeCells zeroT.cells.toArray (n * 6)) = ((List.replicate n zeroT).flatMap TT.cells).toArray := by
  have key : ∀ n : Nat, (List.range (n * 6)).map (fun i => zeroT.cells.toArray[i % 6]!) = (List.replicate n zeroT).flatMap TT.cells := by
    intro n
    induction n with
    | zero => rfl
    | succ n ih =>
      rw [List.replicate_succ', List.flatMap_append, ← ih, Nat.succ_mul, List.range_add, List.map_append]
      congr 1
      rw [List.map_map]
      have : ∀ j, (n * 6 + j) % 6 = j % 6 := fun j => by omega
      have e : ((fun i => zeroT.cells.toArray[i % 6]!) ∘ fun x => n * 6 + x) = fun j => zeroT.cells.toArray[j % 6]! := by
        funext j; simp only [Function.comp, this]
      rw [e]
      rfl
  intro n
  rw [← key n, madeCells]
  apply Array.ext'
  simp [Array.toList_range, zeroT, TT.cells]
def zeroQ : QT := ⟨false, none, 0, []⟩
theorem made_zeroQ : ∀ n : Nat, (madeCells zeroQ.cells.toArray (n * 2)) = ((List.replicate n zeroQ).flatMap QT.cells).toArray := by
  have key : ∀ n : Nat, (List.range (n * 2)).map (fun i => zeroQ.cells.toArray[i % 2]!) = (List.replicate n zeroQ).flatMap QT.cells := by
    intro n
    induction n with
    | zero => rfl
    | succ n ih =>
      rw [List.replicate_succ', List.flatMap_append, ← ih, Nat.succ_mul, List.range_add, List.map_append]
      congr 1
      rw [List.map_map]
      have : ∀ j, (n * 2 + j) % 2 = j % 2 := fun j => by omega
      have e : ((fun i => zeroQ.cells.toArray[i % 2]!) ∘ fun x => n * 2 + x) = fun j => zeroQ.cells.toArray[j % 2]! := by
        funext j; simp only [Function.comp, this]
      rw [e]
      rfl
  intro n
  rw [← key n, madeCells]
  apply Array.ext'
  simp [Array.toList_range, zeroQ, QT.cells]
def zeroK : KT := ⟨[], zeroE⟩
theorem made_zeroK : ∀ n : Nat, (madeCells zeroK.cells.toArray (n * 9)) = ((List.replicate n zeroK).flatMap KT.cells).toArray := by
  have key : ∀ n : Nat, (List.range (n * 9)).map (fun i => zeroK.cells.toArray[i % 9]!) = (List.replicate n zeroK).flatMap KT.cells := by
    intro n
    induction n with
    | zero => rfl
    | succ n ih =>
      rw [List.replicate_succ', List.flatMap_append, ← ih, Nat.succ_mul, List.range_add, List.map_append]
      congr 1
      rw [List.map_map]
      have : ∀ j, (n * 9 + j) % 9 = j % 9 := fun j => by omega
      have e : ((fun i => zeroK.cells.toArray[i % 9]!) ∘ fun x => n * 9 + x) = fun j => zeroK.cells.toArray[j % 9]! := by
        funext j; simp only [Function.comp, this]
      rw [e]
      rfl
  intro n
  rw [← key n, madeCells]
  apply Array.ext'
  simp [Array.toList_range, zeroK, KT.cells, zeroE, ET.cells]
theorem RowT.cells2 {t : TypeId} {W : World} {B : Nat} {pre post : List Value} {u0 u1 : Value} (h : RowT t W B (pre ++ ([u0, u1] ++ post))) (o : Nat) (ho : pre.length = o) : W.cell? ⟨B, o, none⟩ = some u0 ∧ W.cell? ⟨B, o + 1, none⟩ = some u1 := by
  have h1 := rowT_cells h o ho
  exact ⟨h1 0 _ rfl, h1 1 _ rfl⟩
theorem RowT.thaw2 {t : TypeId} {W : World} {B : Nat} {cs : List Value} (h : RowT t W B cs) (o : Nat) : W.frozen? ⟨B, o, none⟩ = false ∧ W.frozen? ⟨B, o + 1, none⟩ = false := by
  unfold RowT at h
  simp [World.frozen?, h]
theorem RowT.put2 {t : TypeId} {W : World} {B : Nat} {pre post : List Value} {u0 u1 : Value} (h : RowT t W B (pre ++ ([u0, u1] ++ post))) (o : Nat) (ho : pre.length = o) (v0 v1 : Value) : RowT t ((W.setCell ⟨B, o, none⟩ v0).setCell ⟨B, o + 1, none⟩ v1) B (pre ++ ([v0, v1] ++ post)) := by
  subst ho
  unfold RowT at *
  simp [World.setCell, Array.getElem?_modify, h, List.set_append]
theorem putO2 (W : World) (B o : Nat) (v0 v1 : Value) (k : Nat) (hk : k ≠ B) : ((W.setCell ⟨B, o, none⟩ v0).setCell ⟨B, o + 1, none⟩ v1).heap[k]? = W.heap[k]? := by
  rw [Below.heap_setCell _ _ _ k hk, Below.heap_setCell _ _ _ k hk]
theorem below_putO2 {n : Nat} {a W : World} {B : Nat} (h : Below n a W) (hB : n ≤ B) (o : Nat) (v0 v1 : Value) : Below n a ((W.setCell ⟨B, o, none⟩ v0).setCell ⟨B, o + 1, none⟩ v1) :=
  (Below.setCell (Below.setCell h (p := ⟨B, o, none⟩) hB _) (p := ⟨B, o + 1, none⟩) hB _)
theorem flat_len2 {α : Type} {cells : α → List Value} (hk : ∀ x, (cells x).length = 2) : ∀ l : List α, (l.flatMap cells).length = l.length * 2
  | [] => rfl
  | x :: r => by
    have h := flat_len2 hk r
    rw [List.flatMap_cons, List.length_append, h, List.length_cons, hk]
    omega
theorem RowT.cells6 {t : TypeId} {W : World} {B : Nat} {pre post : List Value} {u0 u1 u2 u3 u4 u5 : Value} (h : RowT t W B (pre ++ ([u0, u1, u2, u3, u4, u5] ++ post))) (o : Nat) (ho : pre.length = o) : W.cell? ⟨B, o, none⟩ = some u0 ∧ W.cell? ⟨B, o + 1, none⟩ = some u1 ∧ W.cell? ⟨B, o + 2, none⟩ = some u2 ∧ W.cell? ⟨B, o + 3, none⟩ = some u3 ∧ W.cell? ⟨B, o + 4, none⟩ = some u4 ∧ W.cell? ⟨B, o + 5, none⟩ = some u5 := by
  have h1 := rowT_cells h o ho
  exact ⟨h1 0 _ rfl, h1 1 _ rfl, h1 2 _ rfl, h1 3 _ rfl, h1 4 _ rfl, h1 5 _ rfl⟩
theorem RowT.thaw6 {t : TypeId} {W : World} {B : Nat} {cs : List Value} (h : RowT t W B cs) (o : Nat) : W.frozen? ⟨B, o, none⟩ = false ∧ W.frozen? ⟨B, o + 1, none⟩ = false ∧ W.frozen? ⟨B, o + 2, none⟩ = false ∧ W.frozen? ⟨B, o + 3, none⟩ = false ∧ W.frozen? ⟨B, o + 4, none⟩ = false ∧ W.frozen? ⟨B, o + 5, none⟩ = false := by
  unfold RowT at h
  simp [World.frozen?, h]
theorem RowT.put6 {t : TypeId} {W : World} {B : Nat} {pre post : List Value} {u0 u1 u2 u3 u4 u5 : Value} (h : RowT t W B (pre ++ ([u0, u1, u2, u3, u4, u5] ++ post))) (o : Nat) (ho : pre.length = o) (v0 v1 v2 v3 v4 v5 : Value) : RowT t ((((((W.setCell ⟨B, o, none⟩ v0).setCell ⟨B, o + 1, none⟩ v1).setCell ⟨B, o + 2, none⟩ v2).setCell ⟨B, o + 3, none⟩ v3).setCell ⟨B, o + 4, none⟩ v4).setCell ⟨B, o + 5, none⟩ v5) B (pre ++ ([v0, v1, v2, v3, v4, v5] ++ post)) := by
  subst ho
  unfold RowT at *
  simp [World.setCell, Array.getElem?_modify, h, List.set_append]
theorem putO6 (W : World) (B o : Nat) (v0 v1 v2 v3 v4 v5 : Value) (k : Nat) (hk : k ≠ B) : ((((((W.setCell ⟨B, o, none⟩ v0).setCell ⟨B, o + 1, none⟩ v1).setCell ⟨B, o + 2, none⟩ v2).setCell ⟨B, o + 3, none⟩ v3).setCell ⟨B, o + 4, none⟩ v4).setCell ⟨B, o + 5, none⟩ v5).heap[k]? = W.heap[k]? := by
  rw [Below.heap_setCell _ _ _ k hk, Below.heap_setCell _ _ _ k hk, Below.heap_setCell _ _ _ k hk, Below.heap_setCell _ _ _ k hk, Below.heap_setCell _ _ _ k hk, Below.heap_setCell _ _ _ k hk]
theorem below_putO6 {n : Nat} {a W : World} {B : Nat} (h : Below n a W) (hB : n ≤ B) (o : Nat) (v0 v1 v2 v3 v4 v5 : Value) : Below n a ((((((W.setCell ⟨B, o, none⟩ v0).setCell ⟨B, o + 1, none⟩ v1).setCell ⟨B, o + 2, none⟩ v2).setCell ⟨B, o + 3, none⟩ v3).setCell ⟨B, o + 4, none⟩ v4).setCell ⟨B, o + 5, none⟩ v5) :=
  (Below.setCell (Below.setCell (Below.setCell (Below.setCell (Below.setCell (Below.setCell h (p := ⟨B, o, none⟩) hB _) (p := ⟨B, o + 1, none⟩) hB _) (p := ⟨B, o + 2, none⟩) hB _) (p := ⟨B, o + 3, none⟩) hB _) (p := ⟨B, o + 4, none⟩) hB _) (p := ⟨B, o + 5, none⟩) hB _)
theorem flat_len6 {α : Type} {cells : α → List Value} (hk : ∀ x, (cells x).length = 6) : ∀ l : List α, (l.flatMap cells).length = l.length * 6
  | [] => rfl
  | x :: r => by
    have h := flat_len6 hk r
    rw [List.flatMap_cons, List.length_append, h, List.length_cons, hk]
    omega
theorem RowT.cells9 {t : TypeId} {W : World} {B : Nat} {pre post : List Value} {u0 u1 u2 u3 u4 u5 u6 u7 u8 : Value} (h : RowT t W B (pre ++ ([u0, u1, u2, u3, u4, u5, u6, u7, u8] ++ post))) (o : Nat) (ho : pre.length = o) : W.cell? ⟨B, o, none⟩ = some u0 ∧ W.cell? ⟨B, o + 1, none⟩ = some u1 ∧ W.cell? ⟨B, o + 2, none⟩ = some u2 ∧ W.cell? ⟨B, o + 3, none⟩ = some u3 ∧ W.cell? ⟨B, o + 4, none⟩ = some u4 ∧ W.cell? ⟨B, o + 5, none⟩ = some u5 ∧ W.cell? ⟨B, o + 6, none⟩ = some u6 ∧ W.cell? ⟨B, o + 7, none⟩ = some u7 ∧ W.cell? ⟨B, o + 8, none⟩ = some u8 := by
  have h1 := rowT_cells h o ho
  exact ⟨h1 0 _ rfl, h1 1 _ rfl, h1 2 _ rfl, h1 3 _ rfl, h1 4 _ rfl, h1 5 _ rfl, h1 6 _ rfl, h1 7 _ rfl, h1 8 _ rfl⟩
theorem RowT.thaw9 {t : TypeId} {W : World} {B : Nat} {cs : List Value} (h : RowT t W B cs) (o : Nat) : W.frozen? ⟨B, o, none⟩ = false ∧ W.frozen? ⟨B, o + 1, none⟩ = false ∧ W.frozen? ⟨B, o + 2, none⟩ = false ∧ W.frozen? ⟨B, o + 3, none⟩ = false ∧ W.frozen? ⟨B, o + 4, none⟩ = false ∧ W.frozen? ⟨B, o + 5, none⟩ = false ∧ W.frozen? ⟨B, o + 6, none⟩ = false ∧ W.frozen? ⟨B, o + 7, none⟩ = false ∧ W.frozen? ⟨B, o + 8, none⟩ = false := by
  unfold RowT at h
  simp [World.frozen?, h]
theorem RowT.put9 {t : TypeId} {W : World} {B : Nat} {pre post : List Value} {u0 u1 u2 u3 u4 u5 u6 u7 u8 : Value} (h : RowT t W B (pre ++ ([u0, u1, u2, u3, u4, u5, u6, u7, u8] ++ post))) (o : Nat) (ho : pre.length = o) (v0 v1 v2 v3 v4 v5 v6 v7 v8 : Value) : RowT t (((((((((W.setCell ⟨B, o, none⟩ v0).setCell ⟨B, o + 1, none⟩ v1).setCell ⟨B, o + 2, none⟩ v2).setCell ⟨B, o + 3, none⟩ v3).setCell ⟨B, o + 4, none⟩ v4).setCell ⟨B, o + 5, none⟩ v5).setCell ⟨B, o + 6, none⟩ v6).setCell ⟨B, o + 7, none⟩ v7).setCell ⟨B, o + 8, none⟩ v8) B (pre ++ ([v0, v1, v2, v3, v4, v5, v6, v7, v8] ++ post)) := by
  subst ho
  unfold RowT at *
  simp [World.setCell, Array.getElem?_modify, h, List.set_append]
theorem putO9 (W : World) (B o : Nat) (v0 v1 v2 v3 v4 v5 v6 v7 v8 : Value) (k : Nat) (hk : k ≠ B) : (((((((((W.setCell ⟨B, o, none⟩ v0).setCell ⟨B, o + 1, none⟩ v1).setCell ⟨B, o + 2, none⟩ v2).setCell ⟨B, o + 3, none⟩ v3).setCell ⟨B, o + 4, none⟩ v4).setCell ⟨B, o + 5, none⟩ v5).setCell ⟨B, o + 6, none⟩ v6).setCell ⟨B, o + 7, none⟩ v7).setCell ⟨B, o + 8, none⟩ v8).heap[k]? = W.heap[k]? := by
  rw [Below.heap_setCell _ _ _ k hk, Below.heap_setCell _ _ _ k hk, Below.heap_setCell _ _ _ k hk, Below.heap_setCell _ _ _ k hk, Below.heap_setCell _ _ _ k hk, Below.heap_setCell _ _ _ k hk, Below.heap_setCell _ _ _ k hk, Below.heap_setCell _ _ _ k hk, Below.heap_setCell _ _ _ k hk]
theorem below_putO9 {n : Nat} {a W : World} {B : Nat} (h : Below n a W) (hB : n ≤ B) (o : Nat) (v0 v1 v2 v3 v4 v5 v6 v7 v8 : Value) : Below n a (((((((((W.setCell ⟨B, o, none⟩ v0).setCell ⟨B, o + 1, none⟩ v1).setCell ⟨B, o + 2, none⟩ v2).setCell ⟨B, o + 3, none⟩ v3).setCell ⟨B, o + 4, none⟩ v4).setCell ⟨B, o + 5, none⟩ v5).setCell ⟨B, o + 6, none⟩ v6).setCell ⟨B, o + 7, none⟩ v7).setCell ⟨B, o + 8, none⟩ v8) :=
  (Below.setCell (Below.setCell (Below.setCell (Below.setCell (Below.setCell (Below.setCell (Below.setCell (Below.setCell (Below.setCell h (p := ⟨B, o, none⟩) hB _) (p := ⟨B, o + 1, none⟩) hB _) (p := ⟨B, o + 2, none⟩) hB _) (p := ⟨B, o + 3, none⟩) hB _) (p := ⟨B, o + 4, none⟩) hB _) (p := ⟨B, o + 5, none⟩) hB _) (p := ⟨B, o + 6, none⟩) hB _) (p := ⟨B, o + 7, none⟩) hB _) (p := ⟨B, o + 8, none⟩) hB _)
theorem flat_len9 {α : Type} {cells : α → List Value} (hk : ∀ x, (cells x).length = 9) : ∀ l : List α, (l.flatMap cells).length = l.length * 9
  | [] => rfl
  | x :: r => by
    have h := flat_len9 hk r
    rw [List.flatMap_cons, List.length_append, h, List.length_cons, hk]
    omega
end Go.Proofs.YtbcgeglkmpcnpaaDoor
namespace Go.Proofs.YtbcgeglkmpcnpaaDoor
open Go Go.RowKit
set_option linter.unusedVariables false
set_option linter.unusedSimpArgs false

def ET.op : ET → Int | .mk op _ _ _ _ _ _ _ _ _ => op
def drivesB (cl : Bool) (kd : Int) : Bool := if cl = true then kd == 4 else (kd == 3 || kd == 2)
def kindOf (gl : List GT) (k : Int) : Int := (gl[k.toNat]?.map GT.kd).getD 0
/-- How a statement's expressions are sized: an arm's labels to a width. -/
def insT (m : Option Int) (op uh ul : Int) : Bool × Int := match m with
  | some w => (false, w)
  | none => if op = 1 then (false, uh - ul + 1) else if op = 2 then (true, 1) else (false, 0)
/-- What is asked ahead of a statement's expressions. -/
def preT (cl : Bool) (gl : List GT) (m : Option Int) (op sg f : Int) : Int := match m with
  | some _ => f
  | none => if op = 1 then wantF f (drivesB cl (kindOf gl sg)) 85 else f
/-- How what stands in a statement is sized. -/
def cmT (m : Option Int) (op : Int) (p : List ET) : Option Int := match m with
  | some _ => none
  | none => if op = 3 then some ((p.map ET.wd).getD 0 0) else none
mutual
/-- A statement sized (an arm: to a width), and the fault, from a fault. -/
def szT (cl : Bool) (gl : List GT) : TT → Option Int → Int → TT × Int
  | .mk op sg uh ul xa xc xl sa sc sl, m, f =>
    let p := szL xl 0 (fun _ => insT m op uh ul) (preT cl gl m op sg f)
    let q := szTL cl gl sl (cmT m op p.1) p.2
    (.mk op sg uh ul xa xc p.1 sa sc q.1, q.2)
def szTL (cl : Bool) (gl : List GT) : List TT → Option Int → Int → List TT × Int
  | [], _, f => ([], f)
  | x :: r, m, f =>
    let p := szT cl gl x m f
    let q := szTL cl gl r m p.2
    (p.1 :: q.1, q.2)
end
theorem szTL_nil (cl : Bool) (gl : List GT) (m : Option Int) (f : Int) : szTL cl gl [] m f = ([], f) := by rw [szTL]
theorem szTL_cons (cl : Bool) (gl : List GT) (x : TT) (r : List TT) (m : Option Int) (f : Int) : szTL cl gl (x :: r) m f = ((szT cl gl x m f).1 :: (szTL cl gl r m (szT cl gl x m f).2).1, (szTL cl gl r m (szT cl gl x m f).2).2) := by rw [szTL]
theorem szTL_app (cl : Bool) (gl : List GT) : ∀ (a b : List TT) (m : Option Int) (f : Int), szTL cl gl (a ++ b) m f = ((szTL cl gl a m f).1 ++ (szTL cl gl b m (szTL cl gl a m f).2).1, (szTL cl gl b m (szTL cl gl a m f).2).2)
  | [], b, m, f => by simp [szTL_nil]
  | x :: r, b, m, f => by
    rw [List.cons_append, szTL_cons, szTL_cons, szTL_app cl gl r b]
    simp only [List.cons_append]
theorem szTL_len (cl : Bool) (gl : List GT) : ∀ (a : List TT) (m : Option Int) (f : Int), (szTL cl gl a m f).1.length = a.length
  | [], m, f => by simp [szTL_nil]
  | x :: r, m, f => by rw [szTL_cons]; simp [szTL_len cl gl r]
theorem szTL_snoc (cl : Bool) (gl : List GT) (l : List TT) (k : Nat) (h : k < l.length) (m : Option Int) (f : Int) : szTL cl gl (l.take (k + 1)) m f = ((szTL cl gl (l.take k) m f).1 ++ [(szT cl gl l[k] m (szTL cl gl (l.take k) m f).2).1], (szT cl gl l[k] m (szTL cl gl (l.take k) m f).2).2) := by
  rw [List.take_succ_eq_append_getElem h, szTL_app, szTL_cons, szTL_nil]
theorem szT_mk (cl : Bool) (gl : List GT) (op sg uh ul : Int) (xa : Option Addr) (xc : Nat) (xl : List ET) (sa : Option Addr) (sc : Nat) (sl : List TT) (m : Option Int) (f : Int) : szT cl gl (.mk op sg uh ul xa xc xl sa sc sl) m f = (.mk op sg uh ul xa xc (szL xl 0 (fun _ => insT m op uh ul) (preT cl gl m op sg f)).1 sa sc (szTL cl gl sl (cmT m op (szL xl 0 (fun _ => insT m op uh ul) (preT cl gl m op sg f)).1) (szL xl 0 (fun _ => insT m op uh ul) (preT cl gl m op sg f)).2).1, (szTL cl gl sl (cmT m op (szL xl 0 (fun _ => insT m op uh ul) (preT cl gl m op sg f)).1) (szL xl 0 (fun _ => insT m op uh ul) (preT cl gl m op sg f)).2).2) := by
  rw [szT]
mutual
/-- May a statement be: as a statement (0), a block (1), an arm (2), the last arm (3)? -/
def mayT (gl : List GT) : TT → Nat → Bool
  | .mk op sg uh ul _ _ xl _ _ sl, m =>
    if m = 0 ∧ op = 1 then haveBitsB gl sg uh ul && ((xl.length == 1) && (mayEL gl xl && (sl.length == 0)))
    else if m = 0 ∧ op = 2 then noBitsB sg uh ul && ((xl.length == 1) && (mayEL gl xl && ((sl.length == 2) && mayTL gl sl 1)))
    else if m = 0 ∧ op = 3 then noBitsB sg uh ul && ((xl.length == 1) && (mayEL gl xl && (mayAL gl sl && decide (0 < sl.length))))
    else if m < 2 then (op == 5) && (noBitsB sg uh ul && ((xl.length == 0) && mayTL gl sl 0))
    else (op == 4) && (noBitsB sg uh ul && ((decide (m = 3) == (xl.length == 0)) && (xl.all (fun x => (x.op == 1) && mayE gl x) && mayTL gl sl 0)))
def mayTL (gl : List GT) : List TT → Nat → Bool
  | [], _ => true
  | x :: r, m => mayT gl x m && mayTL gl r m
def mayAL (gl : List GT) : List TT → Bool
  | [] => true
  | x :: r => mayT gl x (if r.isEmpty = true then 3 else 2) && mayAL gl r
end
theorem mayTL_all (gl : List GT) (m : Nat) : ∀ l : List TT, mayTL gl l m = l.all (fun x => mayT gl x m)
  | [] => by rw [mayTL]; rfl
  | x :: r => by rw [mayTL, mayTL_all gl m r]; rfl
theorem mayAL_get (gl : List GT) : ∀ l : List TT, mayAL gl l = true ↔ ∀ k (h : k < l.length), mayT gl l[k] (if k + 1 = l.length then 3 else 2) = true
  | [] => by simp [mayAL]
  | x :: r => by
    rw [mayAL, Bool.and_eq_true, mayAL_get gl r]
    constructor
    · rintro ⟨h1, h2⟩ k h
      cases k with
      | zero =>
        have e : (if r.isEmpty = true then 3 else 2) = (if 0 + 1 = (x :: r).length then 3 else 2) := by
          cases r <;> simp
        rw [← e]; exact h1
      | succ k =>
        have := h2 k (by simpa using h)
        simpa using this
    · intro h
      refine ⟨?_, fun k hk => ?_⟩
      · have := h 0 (by simp)
        have e : (if r.isEmpty = true then 3 else 2) = (if 0 + 1 = (x :: r).length then 3 else 2) := by
          cases r <;> simp
        rw [e]; exact this
      · have := h (k + 1) (by simpa using hk)
        simpa using this
theorem TT.wf_mk {op sg uh ul : Int} {xa : Option Addr} {xc : Nat} {xl : List ET} {sa : Option Addr} {sc : Nat} {sl : List TT} : TT.Wf (.mk op sg uh ul xa xc xl sa sc sl) ↔ (∀ x ∈ xl, x.Wf) ∧ ∀ x ∈ sl, x.Wf := by
  rw [TT.Wf, ET.wfL_iff, TT.wfL_iff]
-- a process, a check, a design
def szQ (gl : List GT) (q : QT) (f : Int) : QT × Int := (⟨q.ck, q.sa, q.sc, (szTL q.ck gl q.sl none f).1⟩, (szTL q.ck gl q.sl none f).2)
def szQL (gl : List GT) : List QT → Int → List QT × Int
  | [], f => ([], f)
  | x :: r, f => ((szQ gl x f).1 :: (szQL gl r (szQ gl x f).2).1, (szQL gl r (szQ gl x f).2).2)
def szK (k : KT) (f : Int) : KT × Int := (⟨k.nm, (szI k.x (true, 1) f).1⟩, (szI k.x (true, 1) f).2)
def szKL : List KT → Int → List KT × Int
  | [], f => ([], f)
  | x :: r, f => ((szK x f).1 :: (szKL r (szK x f).2).1, (szKL r (szK x f).2).2)
theorem szQL_app (gl : List GT) : ∀ (a b : List QT) (f : Int), szQL gl (a ++ b) f = ((szQL gl a f).1 ++ (szQL gl b (szQL gl a f).2).1, (szQL gl b (szQL gl a f).2).2)
  | [], b, f => by simp [szQL]
  | x :: r, b, f => by rw [List.cons_append, szQL, szQL, szQL_app gl r b]; simp only [List.cons_append]
theorem szKL_app : ∀ (a b : List KT) (f : Int), szKL (a ++ b) f = ((szKL a f).1 ++ (szKL b (szKL a f).2).1, (szKL b (szKL a f).2).2)
  | [], b, f => by simp [szKL]
  | x :: r, b, f => by rw [List.cons_append, szKL, szKL, szKL_app r b]; simp only [List.cons_append]
theorem szQL_len (gl : List GT) : ∀ (a : List QT) (f : Int), (szQL gl a f).1.length = a.length
  | [], f => by simp [szQL]
  | x :: r, f => by rw [szQL]; simp [szQL_len gl r]
theorem szKL_len : ∀ (a : List KT) (f : Int), (szKL a f).1.length = a.length
  | [], f => by simp [szKL]
  | x :: r, f => by rw [szKL]; simp [szKL_len r]
theorem szQL_snoc (gl : List GT) (l : List QT) (k : Nat) (h : k < l.length) (f : Int) : szQL gl (l.take (k + 1)) f = ((szQL gl (l.take k) f).1 ++ [(szQ gl l[k] (szQL gl (l.take k) f).2).1], (szQ gl l[k] (szQL gl (l.take k) f).2).2) := by
  rw [List.take_succ_eq_append_getElem h, szQL_app, szQL]; rfl
theorem szKL_snoc (l : List KT) (k : Nat) (h : k < l.length) (f : Int) : szKL (l.take (k + 1)) f = ((szKL (l.take k) f).1 ++ [(szK l[k] (szKL (l.take k) f).2).1], (szK l[k] (szKL (l.take k) f).2).2) := by
  rw [List.take_succ_eq_append_getElem h, szKL_app, szKL]; rfl
/-- All that is sized of a design, and the fault. -/
def szD (d : DT) : (List QT × List KT) × Int := (((szQL d.gl d.ql (sigF 0 d.gl)).1, (szKL d.kl (szQL d.gl d.ql (sigF 0 d.gl)).2).1), (szKL d.kl (szQL d.gl d.ql (sigF 0 d.gl)).2).2)
def mayD (d : DT) : Bool := d.ql.all (fun q => mayTL d.gl q.sl 0) && d.kl.all (fun k => mayE d.gl k.x)
def boundD (d : DT) : Bool := decide (d.gl.length ≤ 512) && (decide (d.ql.length ≤ 1024) && (fewF 4096 d.gl && okB 0 1 (measN d) (measD d)))
def sizeF (d : DT) : Int := if boundD d = true then (if sigsMay d.gl = true ∧ mayD d = true then (szD d).2 else 1) else 2
def zeroD : DT := ⟨none, 0, [], none, 0, [], none, 0, []⟩
def nrmD (d : DT) : DT := ⟨none, 0, d.gl, none, 0, d.ql.map nrmQ, none, 0, d.kl.map nrmK⟩
/-- What Size tells, without its places. -/
def sizeR (d : DT) : DT := if sizeF d = 0 then ⟨none, 0, d.gl, none, 0, (szD d).1.1.map nrmQ, none, 0, (szD d).1.2.map nrmK⟩ else zeroD
theorem eqG_iff : ∀ l m : List GT, eqList sameG l m = true ↔ l = m
  | [], [] => by simp [eqList]
  | [], y :: t => by simp [eqList]
  | x :: r, [] => by simp [eqList]
  | x :: r, y :: t => by
    have h1 := eqG_iff r t
    simp only [eqList, Bool.and_eq_true, List.cons.injEq, h1, sameG_iff]
theorem sameD_iff (d f : DT) : sameD d f = true ↔ nrmD d = nrmD f := by
  unfold sameD nrmD
  simp only [Bool.and_eq_true, DT.mk.injEq, true_and, eqG_iff, eqL_nrm sameQ_iff, eqL_nrm sameK_iff]
end Go.Proofs.YtbcgeglkmpcnpaaDoor
namespace Go.Proofs.YtbcgeglkmpcnpaaDoor
open Go Go.RowKit
set_option linter.unusedVariables false
set_option linter.unusedSimpArgs false
open Go.Sort

theorem map_take_snoc {α β : Type} {f : α → β} {l : List α} {k : Nat} (h : k < l.length) {ys : List α} (hy : ys.map f = (l.take k).map f) {y : α} (he : f y = f l[k]) : (ys ++ [y]).map f = (l.take (k + 1)).map f := by
  rw [List.take_succ_eq_append_getElem h, List.map_append, List.map_append, hy]
  simp [he]
theorem below_same2 {n : Nat} {a w : World} (h : Below n a w) {lo : Nat} : SameOn lo n a w := fun b _ hb => h.block b hb
def CpT (x : TT) (w : World) : Ending → World → Prop := fun e w' => ∃ y : TT, e = .returned y.val ∧ nrmT y = nrmT x ∧ y.Own w' w.heap.size w'.heap.size ∧ Below w.heap.size w w'
def CpLT (l : List TT) (w : World) : Ending → World → Prop := fun e w' => ∃ (a : Option Addr) (c : Nat) (ys : List TT), e = .returned (.slice a ys.length c) ∧ ys.map nrmT = l.map nrmT ∧ ROwn 48 TT.cells w' (TT.Own w') w.heap.size w'.heap.size a c ys ∧ Below w.heap.size w w'
set_option maxHeartbeats 8000000 in
set_option maxRecDepth 100000 in
theorem copyAllT_any (n0 : Nat) (l : List TT) (hll : l.length ≤ 12000000) (hc : ∀ x ∈ l, ∀ w, n0 ≤ w.heap.size → x.In n0 w → Calls Tryd.prog 103 #[x.val] w (CpT x w)) (a : Option Addr) (c : Nat) (w : World) (hn0 : n0 ≤ w.heap.size) (hin : InRow 6 TT.cells (TT.In n0 w) n0 w l a) :
    Calls Tryd.prog 102 #[.slice a l.length c, .func (.func 103) #[] #[]] w (CpLT l w) := by
  by_cases hl0 : l.length = 0
  · have e0 : ((l.length : Int) == 0) = true := by rw [beq_iff_eq]; omega
    have hnil : l = [] := List.length_eq_zero_iff.1 hl0
    have HP : Hid (CpLT l w (.returned (.slice none 0 0)) w) := Lib.hid ⟨none, 0, [], rfl, by rw [hnil], Or.inl ⟨rfl, rfl, rfl⟩, Below.refl _ _⟩
    clear hl0 hnil hc hin
    go_enter Tryd.func102, Tryd.ntmps102
    go_wp2
    go_ret
    exact HP.out
  have e0 : ((l.length : Int) == 0) = false := by rw [beq_eq_false_iff_ne]; omega
  have hl1 : 0 < l.length := by omega
  obtain ⟨B, hB⟩ : ∃ B, w.heap.size = B := ⟨_, rfl⟩
  obtain ⟨w1, hw1⟩ : ∃ w1, w.alloc (.cells (madeCells zeroT.cells.toArray (l.length * 6)) 48) = w1 := ⟨_, rfl⟩
  have hmk : (Instr.makeSlice 44 (.int .i64 (l.length : Int)) (.int .i64 (l.length : Int))).run Tryd.prog w = .ok (.slice (some ⟨w.heap.size, 0, none⟩) l.length l.length) w1 := by
    rw [← hw1]
    obtain ⟨i, hi, hzz⟩ := Option.map_eq_some_iff.1 (show (Tryd.prog.info? 48).map (fun i => (i.zero, i.size, i.bytes)) = some (some (.agg zeroT.cells.toArray), 6, 80) by kernel_rfl)
    simp only [Prod.mk.injEq] at hzz
    obtain ⟨hz, hs, hb⟩ := hzz
    have hr := run_make (P := Tryd.prog) w 44 48 i _ Tryd.underlying44 hi hz .i64 .i64 (l.length : Int) (l.length : Int) (by omega) (Int.le_refl _) (by rw [hb]; omega) (by omega)
    rw [hs, Int.toNat_natCast] at hr
    exact hr
  have hb0 : Below w.heap.size w w1 := by rw [← hw1]; exact (Below.refl _ _).alloc (Nat.le_refl _) _
  have hRM : RowT 48 w1 B (([] ++ List.replicate l.length zeroT).flatMap TT.cells) := by
    unfold RowT
    rw [← hw1, ← hB, List.nil_append, ← made_zeroT]
    exact World.alloc_heap_new w _
  have hsz1 : w1.heap.size = B + 1 := by rw [← hw1, World.size_alloc, hB]
  have hn1 : n0 ≤ B := by omega
  have HB := Lib.hid hB
  have HW1 := Lib.hid (And.intro hb0 (And.intro hRM hsz1))
  clear hw1 hb0 hRM hsz1 hl0
  go_enter Tryd.func102, Tryd.ntmps102
  go_wp2
  go_loopw [16] (fun u wr => ∃ (k : Nat) (ys : List TT), u = .int .i64 k ∧ k ≤ l.length ∧ ys.length = k ∧ ys.map nrmT = (l.take k).map nrmT ∧ RowT 48 wr B (ys.flatMap TT.cells ++ (List.replicate (l.length - k) zeroT).flatMap TT.cells) ∧ LOwn (TT.Own wr) (B + 1) wr.heap.size ys ∧ Below w.heap.size w wr) (fun u _ => l.length - (intOf u).toNat)
  case atStart => exact ⟨0, [], rfl, Nat.zero_le _, rfl, rfl, by have h9 := HW1.out.2.1; rw [List.nil_append] at h9; exact h9, by rw [LOwn, HW1.out.2.2]; exact Nat.le_refl _, HW1.out.1⟩
  case round =>
    obtain ⟨k, ys, rfl, hk, hyl, hyn, hrm, hown, hb0⟩ := hrel
    have HY := Lib.hid (And.intro hyl (And.intro hyn hown))
    clear hyl hyn hown
    by_cases hlt : k < l.length
    · have d1 : decide (k < l.length) = true := by simpa using hlt
      have d2 : decide ((k : Int) < (l.length : Int)) = true := by rw [decide_eq_true_eq]; omega
      have x1 : (k : Int) < (l.length : Int) := by omega
      obtain ⟨b, o, rfl, hb, hr, hx⟩ := hin.kept (Below.keptTo hb0 hn0) hlt
      have HT := Lib.hid (fun (y : TT) (h : nrmT y = nrmT l[k]) => map_take_snoc hlt HY.out.2.1 h)
      have hcx := hc l[k] (List.getElem_mem hlt)
      have hxin := hx.keep (Below.keptTo hb0 hn0)
      have zz := hb0.size
      generalize hgx : l[k] = x at *
      obtain ⟨op, sg, uh, ul, xa, xc, xl, sa, sc, sl⟩ := x
      have c0 := fun (o' : Obj) => hcx (wr.alloc o') (by simp; omega) (hxin.keep (Below.keptTo ((Below.refl _ _).alloc (Nat.le_refl _) o') (by omega)))
      have r0 : wr.cell? ⟨b, o + k * 6, none⟩ = some (.int .i64 op) := hr 0 _ rfl
      have r1 : wr.cell? ⟨b, o + k * 6 + 1, none⟩ = some (.int .i64 sg) := hr 1 _ rfl
      have r2 : wr.cell? ⟨b, o + k * 6 + 2, none⟩ = some (.int .i64 uh) := hr 2 _ rfl
      have r3 : wr.cell? ⟨b, o + k * 6 + 3, none⟩ = some (.int .i64 ul) := hr 3 _ rfl
      have r4 : wr.cell? ⟨b, o + k * 6 + 4, none⟩ = some (.slice xa xl.length xc) := hr 4 _ rfl
      have r5 : wr.cell? ⟨b, o + k * 6 + 5, none⟩ = some (.slice sa sl.length sc) := hr 5 _ rfl
      simp only [TT.val, TT.cells] at c0
      have hrep : (List.replicate (l.length - k) zeroT).flatMap TT.cells = [.int .i64 0, .int .i64 0, .int .i64 0, .int .i64 0, .slice none 0 0, .slice none 0 0] ++ (List.replicate (l.length - (k + 1)) zeroT).flatMap TT.cells := by
        rw [show l.length - k = (l.length - (k + 1)) + 1 by omega, List.replicate_succ]; rfl
      rw [hrep] at hrm
      have hpl : (ys.flatMap TT.cells).length = k * 6 := by rw [flat_len6 TT.cells_len, HY.out.1]
      have hBl : B < wr.heap.size := hrm.lt
      clear hin hc hcx hr hx hxin hgx hrep
      go_wp2_with fail
      refine (c0 _).mono ?_
      clear c0 r0 r1 r2 r3 r4 r5
      obtain ⟨wa, hwa⟩ : ∃ wa, wr.alloc (.cells #[.int .i64 op, .int .i64 sg, .int .i64 uh, .int .i64 ul, .slice xa xl.length xc, .slice sa sl.length sc] 48) = wa := ⟨_, rfl⟩
      rw [hwa]
      rintro e W1 ⟨y, rfl, hyn, hyo, hb1⟩
      have hszA : wa.heap.size = wr.heap.size + 1 := by rw [← hwa, World.size_alloc]
      have hba : Below wr.heap.size wr wa := by rw [← hwa]; exact (Below.refl _ _).alloc (Nat.le_refl _) _
      have hb2 : Below wr.heap.size wr W1 := hba.trans (hb1.mono (by omega))
      have hrm1 := hrm.keep (hb2.block B hBl)
      have hbw : Below w.heap.size w W1 := hb0.trans (hb2.mono hb0.size)
      have hoy : LOwn (TT.Own W1) (B + 1) W1.heap.size (ys ++ [y]) := LOwn.snoc (own := TT.Own W1) (fun lo lo' hi h1 h2 => TT.Own.wider h1 h2 (Nat.le_refl _)) (LOwn.keep (own' := TT.Own W1) (fun x _ lo hi => TT.Own.keep x lo hi) (below_same2 hb2) HY.out.2.2) (TT.Own.wider hyo (by omega) (Nat.le_refl _)) hb2.size
      have hnn := HT.out y hyn
      have hln : (ys ++ [y]).length = k + 1 := by rw [List.length_append, HY.out.1]; rfl
      obtain ⟨op2, sg2, uh2, ul2, xa2, xc2, xl2, sa2, sc2, sl2⟩ := y
      obtain ⟨m0, m1, m2, m3, m4, m5⟩ := hrm1.cells6 (k * 6) hpl
      obtain ⟨q0, q1, q2, q3, q4, q5⟩ := hrm1.thaw6 (k * 6)
      simp only [TT.val, TT.cells]
      obtain ⟨wz, hwz⟩ : ∃ wz, ((((((W1.setCell ⟨B, k * 6, none⟩ (.int .i64 op2)).setCell ⟨B, k * 6 + 1, none⟩ (.int .i64 sg2)).setCell ⟨B, k * 6 + 2, none⟩ (.int .i64 uh2)).setCell ⟨B, k * 6 + 3, none⟩ (.int .i64 ul2)).setCell ⟨B, k * 6 + 4, none⟩ (.slice xa2 xl2.length xc2)).setCell ⟨B, k * 6 + 5, none⟩ (.slice sa2 sl2.length sc2)) = wz := ⟨_, rfl⟩
      have hput := hrm1.put6 (k * 6) hpl (.int .i64 op2) (.int .i64 sg2) (.int .i64 uh2) (.int .i64 ul2) (.slice xa2 xl2.length xc2) (.slice sa2 sl2.length sc2)
      have hoth := fun b hb => putO6 W1 B (k * 6) (.int .i64 op2) (.int .i64 sg2) (.int .i64 uh2) (.int .i64 ul2) (.slice xa2 xl2.length xc2) (.slice sa2 sl2.length sc2) b hb
      have hbz := below_putO6 hbw (show w.heap.size ≤ B by omega) (k * 6) (.int .i64 op2) (.int .i64 sg2) (.int .i64 uh2) (.int .i64 ul2) (.slice xa2 xl2.length xc2) (.slice sa2 sl2.length sc2)
      have hsz : wz.heap.size = W1.heap.size := by rw [← hwz]; simp only [World.size_setCell]
      rw [hwz] at hput hbz
      simp only [hwz] at hoth
      have hoz : LOwn (TT.Own wz) (B + 1) wz.heap.size (ys ++ [.mk op2 sg2 uh2 ul2 xa2 xc2 xl2 sa2 sc2 sl2]) := by rw [hsz]; exact hoy.keep (fun x _ lo hi => TT.Own.keep x lo hi) (fun b h1 h2 => hoth b (by omega))
      have hrz : RowT 48 wz B ((ys ++ [(.mk op2 sg2 uh2 ul2 xa2 xc2 xl2 sa2 sc2 sl2 : TT)]).flatMap TT.cells ++ (List.replicate (l.length - (k + 1)) zeroT).flatMap TT.cells) := by rw [List.flatMap_append, List.append_assoc]; exact hput
      have HP := Lib.hid (And.intro hrz (And.intro hbz (And.intro hoz (And.intro hnn hln))))
      clear hrm hrm1 hput hoth hbw hoy hnn hln hyo hyn hb1 hb2 hba hpl hb0 HY HT hszA hrz hoz hbz hsz
      go_wp2
      (try rw [hwz])
      go_roundw
      case rel => exact ⟨k + 1, _, by simp; first | done | rfl | omega, by omega, HP.out.2.2.2.2, HP.out.2.2.2.1, HP.out.1, HP.out.2.2.1, HP.out.2.1⟩
      case measure => simp [intOf]; omega
    · have d1 : decide (k < l.length) = false := by simpa using hlt
      have d2 : decide ((k : Int) < (l.length : Int)) = false := by rw [decide_eq_false_iff_not]; omega
      have hkl : k = l.length := by omega
      have hBl : B < wr.heap.size := hrm.lt
      have HP : Hid (CpLT l w (.returned (.slice (some ⟨B, 0, none⟩) l.length l.length)) wr) := Lib.hid (by
        subst hkl
        rw [Nat.sub_self] at hrm
        have hrm2 : RowT 48 wr B (ys.flatMap TT.cells) := by rw [List.replicate_zero] at hrm; simpa using hrm
        refine ⟨some ⟨B, 0, none⟩, l.length, ys, by rw [HY.out.1], by have h9 := HY.out.2.1; rw [List.take_length] at h9; exact h9, Or.inr ⟨B, rfl, by omega, hBl, HY.out.1.symm, fun h => by have h8 := HY.out.1; rw [h] at h8; simp at h8; omega, hrm2, HY.out.2.2⟩, hb0⟩)
      clear hkl hrm HY hb0 hin hc hn0
      go_wp2
      go_ret
      exact HP.out
set_option maxHeartbeats 8000000 in
set_option maxRecDepth 100000 in
theorem copyT_any : ∀ x : TT, x.bk ≤ 4500000 → ∀ (n0 : Nat) (w : World), n0 ≤ w.heap.size → x.In n0 w → Calls Tryd.prog 103 #[x.val] w (CpT x w) := by
  refine TT.ind ?_
  intro op sg uh ul xa xc xl sa sc sl ih hbk n0 w hn0 hin
  rw [TT.In_mk] at hin
  simp only [TT.bk] at hbk
  have hll := ET.bkL_len xl
  have hll2 := TT.bkL_len sl
  have hE := fun (W : World) (h : Below w.heap.size w W) => copyAllE_any n0 xl (by omega) (fun y hy w2 g1 g2 => copyE_any y (by have := ET.bkL_mem hy; omega) n0 w2 g1 g2) xa xc W (Nat.le_trans hn0 h.size) (hin.1.keep (Below.keptTo h hn0) (fun x _ => ET.In.keep (Below.keptTo h hn0) x))
  have hT := fun (W : World) (h : Below w.heap.size w W) => copyAllT_any n0 sl (by omega) (fun y hy w2 g1 g2 => ih y hy (by have := TT.bkL_mem hy; omega) n0 w2 g1 g2) sa sc W (Nat.le_trans hn0 h.size) (hin.2.keep (Below.keptTo h hn0) (fun x _ => TT.In.keep (Below.keptTo h hn0) x))
  have HE := Lib.hid hE
  have HT := Lib.hid hT
  simp only [TT.val, TT.cells]
  obtain ⟨gx, hgx⟩ : ∃ gx, w.heap.size = gx := ⟨_, rfl⟩
  obtain ⟨wa, hwa⟩ : ∃ wa, w.alloc (.cells #[.int .i64 op, .int .i64 sg, .int .i64 uh, .int .i64 ul, .slice xa xl.length xc, .slice sa sl.length sc] 48) = wa := ⟨_, rfl⟩
  have hba : Below w.heap.size w wa := by rw [← hwa]; exact (Below.refl _ _).alloc (Nat.le_refl _) _
  have hsa : wa.heap.size = gx + 1 := by rw [← hwa, World.size_alloc, hgx]
  have BX : RowT 48 wa gx ([] ++ ([.int .i64 op, .int .i64 sg, .int .i64 uh, .int .i64 ul, .slice xa xl.length xc, .slice sa sl.length sc] ++ [])) := by unfold RowT; rw [← hwa, ← hgx]; exact World.alloc_heap_new w _
  obtain ⟨w1, hw1⟩ : ∃ w1, wa.alloc (.cells #[.int .i64 0, .int .i64 0, .int .i64 0, .int .i64 0, .slice none 0 0, .slice none 0 0] 48 (0, 0)) = w1 := ⟨_, rfl⟩
  have hb1 : Below wa.heap.size wa w1 := by rw [← hw1]; exact (Below.refl _ _).alloc (Nat.le_refl _) _
  have hbw : Below w.heap.size w w1 := hba.trans (hb1.mono hba.size)
  have BX1 := BX.keep (hb1.block gx BX.lt)
  have BY1 : RowT 48 w1 (gx + 1) ([] ++ ([.int .i64 0, .int .i64 0, .int .i64 0, .int .i64 0, .slice none 0 0, .slice none 0 0] ++ [])) := by unfold RowT; rw [← hw1, ← hsa]; exact World.alloc_heap_new wa _
  have hs1 : w1.heap.size = gx + 2 := by rw [← hw1, World.size_alloc, hsa]
  obtain ⟨z0, z1, z2, z3, z4, z5⟩ := BX1.cells6 0 rfl
  simp only [Nat.zero_add] at z1 z2 z3 z4 z5
  have c0 := HE.out w1 hbw
  have HB := Lib.hid (And.intro hbw (And.intro BX1 (And.intro BY1 hs1)))
  have HG := Lib.hid hgx
  clear ih hbk hin hE hT hba BX hb1 hbw BX1 BY1 hs1 hll hll2 hn0
  go_enter Tryd.func103, Tryd.ntmps103
  go_upto_region 1 with (fail)
  (try rw [hwa])
  (try rw [hgx])
  (try rw [hw1])
  (try rw [hsa])
  go_wp2_with fail
  refine c0.mono ?_
  clear c0 z0 z1 z2 z3 z4 z5
  rintro e W1 ⟨a8, c8, es, rfl, hyn, hyo, hbk⟩
  have hs1 := HB.out.2.2.2
  have RX := HB.out.2.1.keep (hbk.block gx (by omega))
  have RY := HB.out.2.2.1.keep (hbk.block (gx + 1) (by omega))
  obtain ⟨q0, q1, q2, q3, q4, q5⟩ := RX.thaw6 0
  obtain ⟨z0, z1, z2, z3, z4, z5⟩ := RX.cells6 0 rfl
  simp only [Nat.zero_add] at z1 z2 z3 z4 z5 q1 q2 q3 q4 q5
  obtain ⟨W2, hW2⟩ : ∃ W2, W1.setCell ⟨gx, 4, none⟩ (.slice a8 es.length c8) = W2 := ⟨_, rfl⟩
  have ho2 : ∀ b, b ≠ gx → W2.heap[b]? = W1.heap[b]? := fun b hb => by rw [← hW2]; exact Below.heap_setCell W1 ⟨gx, 4, none⟩ _ b hb
  have hs2 : W2.heap.size = W1.heap.size := by rw [← hW2, World.size_setCell]
  have RY2 := RY.keep (ho2 (gx + 1) (by omega))
  have RX2 : RowT 48 W2 gx ([] ++ ([.int .i64 op, .int .i64 sg, .int .i64 uh, .int .i64 ul, .slice a8 es.length c8, .slice sa sl.length sc] ++ [])) := by
    have h9 : W1.heap[gx]? = some (.cells #[.int .i64 op, .int .i64 sg, .int .i64 uh, .int .i64 ul, .slice xa xl.length xc, .slice sa sl.length sc] 48 (0, 0)) := RX
    show W2.heap[gx]? = _
    rw [← hW2]
    simp [World.setCell, Array.getElem?_modify, h9]
  have hbW := HB.out.1.trans (hbk.mono HB.out.1.size)
  have hb2 : Below w.heap.size w W2 := by rw [← hW2]; exact hbW.setCell (p := ⟨gx, 4, none⟩) (show w.heap.size ≤ gx by have := HG.out; omega) _
  have c1 := HT.out W2 hb2
  have hyo2 : OwnRow W2 (gx + 2) W2.heap.size a8 c8 es := by
    rw [hs2]
    rw [hs1] at hyo
    exact hyo.keep (fun b h1 h2 => ho2 b (by omega))
  have HB2 := Lib.hid (And.intro hb2 (And.intro RX2 (And.intro RY2 (And.intro hyo2 hyn))))
  obtain ⟨x0, x1, x2, x3, x4, x5⟩ := RX2.cells6 0 rfl
  simp only [Nat.zero_add] at x1 x2 x3 x4 x5
  have HS2 : Hid (gx + 2 ≤ W2.heap.size) := Lib.hid (by rw [hs2]; have := hbk.size; omega)
  have HK1 := Lib.hid hbk
  clear hyn hyo hbk hs1 RX RY RY2 RX2 ho2 hs2 hbW hb2 hyo2 q0 q1 q2 q3 q5 z0 z1 z2 z3 z5
  go_upto_region 2 with (fail)
  (try rw [hW2])
  go_wp2_with fail
  refine c1.mono ?_
  clear c1 x0 x1 x2 x3 x4 x5 z4 q4
  rintro e W3 ⟨a9, c9, ys, rfl, hyn3, hyo3, hbk3⟩
  have RX3 := HB2.out.2.1.keep (hbk3.block gx (by have := HS2.out; omega))
  have RY3 := HB2.out.2.2.1.keep (hbk3.block (gx + 1) (by have := HS2.out; omega))
  obtain ⟨q0, q1, q2, q3, q4, q5⟩ := RX3.thaw6 0
  obtain ⟨z0, z1, z2, z3, z4, z5⟩ := RX3.cells6 0 rfl
  simp only [Nat.zero_add] at z1 z2 z3 z4 z5 q1 q2 q3 q4 q5
  obtain ⟨W4, hW4⟩ : ∃ W4, W3.setCell ⟨gx, 5, none⟩ (.slice a9 ys.length c9) = W4 := ⟨_, rfl⟩
  have ho4 : ∀ b, b ≠ gx → W4.heap[b]? = W3.heap[b]? := fun b hb => by rw [← hW4]; exact Below.heap_setCell W3 ⟨gx, 5, none⟩ _ b hb
  have hs4 : W4.heap.size = W3.heap.size := by rw [← hW4, World.size_setCell]
  have RYV := RY3.keep (ho4 (gx + 1) (by omega))
  have RXV : RowT 48 W4 gx ([] ++ ([.int .i64 op, .int .i64 sg, .int .i64 uh, .int .i64 ul, .slice a8 es.length c8, .slice a9 ys.length c9] ++ [])) := by
    have h9 : W3.heap[gx]? = some (.cells #[.int .i64 op, .int .i64 sg, .int .i64 uh, .int .i64 ul, .slice a8 es.length c8, .slice sa sl.length sc] 48 (0, 0)) := RX3
    show W4.heap[gx]? = _
    rw [← hW4]
    simp [World.setCell, Array.getElem?_modify, h9]
  have HBV : Below w.heap.size w W4 := by rw [← hW4]; exact (HB2.out.1.trans (hbk3.mono HB2.out.1.size)).setCell (p := ⟨gx, 5, none⟩) (show w.heap.size ≤ gx by have := HG.out; omega) _
  clear q0 q1 q2 q3 q4 z0 z1 z2 z3 z4
  obtain ⟨m0, m1, m2, m3, m4, m5⟩ := RXV.cells6 0 rfl
  obtain ⟨y0, y1, y2, y3, y4, y5⟩ := RYV.cells6 0 rfl
  obtain ⟨p0, p1, p2, p3, p4, p5⟩ := RYV.thaw6 0
  have RZ := RYV.put6 0 rfl (.int .i64 op) (.int .i64 sg) (.int .i64 uh) (.int .i64 ul) (.slice a8 es.length c8) (.slice a9 ys.length c9)
  have hoz := fun b hb => putO6 W4 (gx + 1) 0 (.int .i64 op) (.int .i64 sg) (.int .i64 uh) (.int .i64 ul) (.slice a8 es.length c8) (.slice a9 ys.length c9) b hb
  have hbz := below_putO6 HBV (show w.heap.size ≤ gx + 1 by omega) 0 (.int .i64 op) (.int .i64 sg) (.int .i64 uh) (.int .i64 ul) (.slice a8 es.length c8) (.slice a9 ys.length c9)
  simp only [Nat.zero_add] at m1 y1 p1 m2 y2 p2 m3 y3 p3 m4 y4 p4 m5 y5 p5 RZ hoz hbz
  obtain ⟨wz, hwz⟩ : ∃ wz, ((((((W4.setCell ⟨gx + 1, 0, none⟩ (.int .i64 op)).setCell ⟨gx + 1, 1, none⟩ (.int .i64 sg)).setCell ⟨gx + 1, 2, none⟩ (.int .i64 uh)).setCell ⟨gx + 1, 3, none⟩ (.int .i64 ul)).setCell ⟨gx + 1, 4, none⟩ (.slice a8 es.length c8)).setCell ⟨gx + 1, 5, none⟩ (.slice a9 ys.length c9)) = wz := ⟨_, rfl⟩
  have hsz : wz.heap.size = W4.heap.size := by rw [← hwz]; simp only [World.size_setCell]
  rw [hwz] at RZ hbz
  simp only [hwz] at hoz
  obtain ⟨t0, t1, t2, t3, t4, t5⟩ := RZ.cells6 0 rfl
  simp only [Nat.zero_add] at t1 t2 t3 t4 t5
  have HP : Hid (CpT (.mk op sg uh ul xa xc xl sa sc sl) w (.returned (TT.mk op sg uh ul a8 c8 es a9 c9 ys).val) wz) := Lib.hid (by
    refine ⟨_, rfl, by rw [nrmT, nrmT, HB2.out.2.2.2.2, nrmTL_map, nrmTL_map, hyn3], ?_, hbz⟩
    rw [TT.own_mk, hsz, hs4]
    have h8 := HS2.out
    have h7 := hbk3.size
    refine ⟨W2.heap.size, by have := HG.out; omega, h7, ?_, ?_⟩
    · exact (HB2.out.2.2.2.1.keep (fun b h1 h2 => (hoz b (by omega)).trans ((ho4 b (by omega)).trans (hbk3.block b h2)))).wider (by have := HG.out; omega) (Nat.le_refl _)
    · exact hyo3.keep (fun x _ => TT.Own.keep x) (fun b h1 h2 => (hoz b (by omega)).trans (ho4 b (by omega))))
  simp only [TT.val, TT.cells] at HP
  clear hyn3 hyo3 hbk3 RX3 RY3 RXV RYV RZ hoz hbz hsz HBV ho4 hs4
  go_upto_region 3 with (fail)
  (try rw [hW4])
  go_wp2
  (try rw [hwz])
  have hu := Tryd.underlying48
  refine bodyPost_ret (v := .agg #[.int .i64 op, .int .i64 sg, .int .i64 uh, .int .i64 ul, .slice a8 es.length c8, .slice a9 ys.length c9]) (by simp [results, Tryd.results103, go_sem, hu, t0, t1, t2, t3, t4, t5]) rfl HP.out
def CpQ (x : QT) (w : World) : Ending → World → Prop := fun e w' => ∃ y : QT, e = .returned y.val ∧ nrmQ y = nrmQ x ∧ y.Own w' w.heap.size w'.heap.size ∧ Below w.heap.size w w'
def CpLQ (l : List QT) (w : World) : Ending → World → Prop := fun e w' => ∃ (a : Option Addr) (c : Nat) (ys : List QT), e = .returned (.slice a ys.length c) ∧ ys.map nrmQ = l.map nrmQ ∧ ROwn 46 QT.cells w' (QT.Own w') w.heap.size w'.heap.size a c ys ∧ Below w.heap.size w w'
set_option maxHeartbeats 8000000 in
set_option maxRecDepth 100000 in
theorem copyAllQ_any (n0 : Nat) (l : List QT) (hll : l.length ≤ 12000000) (hc : ∀ x ∈ l, ∀ w, n0 ≤ w.heap.size → x.In n0 w → Calls Tryd.prog 80 #[x.val] w (CpQ x w)) (a : Option Addr) (c : Nat) (w : World) (hn0 : n0 ≤ w.heap.size) (hin : InRow 2 QT.cells (QT.In n0 w) n0 w l a) :
    Calls Tryd.prog 79 #[.slice a l.length c, .func (.func 80) #[] #[]] w (CpLQ l w) := by
  by_cases hl0 : l.length = 0
  · have e0 : ((l.length : Int) == 0) = true := by rw [beq_iff_eq]; omega
    have hnil : l = [] := List.length_eq_zero_iff.1 hl0
    have HP : Hid (CpLQ l w (.returned (.slice none 0 0)) w) := Lib.hid ⟨none, 0, [], rfl, by rw [hnil], Or.inl ⟨rfl, rfl, rfl⟩, Below.refl _ _⟩
    clear hl0 hnil hc hin
    go_enter Tryd.func79, Tryd.ntmps79
    go_wp2
    go_ret
    exact HP.out
  have e0 : ((l.length : Int) == 0) = false := by rw [beq_eq_false_iff_ne]; omega
  have hl1 : 0 < l.length := by omega
  obtain ⟨B, hB⟩ : ∃ B, w.heap.size = B := ⟨_, rfl⟩
  obtain ⟨w1, hw1⟩ : ∃ w1, w.alloc (.cells (madeCells zeroQ.cells.toArray (l.length * 2)) 46) = w1 := ⟨_, rfl⟩
  have hmk : (Instr.makeSlice 23 (.int .i64 (l.length : Int)) (.int .i64 (l.length : Int))).run Tryd.prog w = .ok (.slice (some ⟨w.heap.size, 0, none⟩) l.length l.length) w1 := by
    rw [← hw1]
    obtain ⟨i, hi, hzz⟩ := Option.map_eq_some_iff.1 (show (Tryd.prog.info? 46).map (fun i => (i.zero, i.size, i.bytes)) = some (some (.agg zeroQ.cells.toArray), 2, 32) by kernel_rfl)
    simp only [Prod.mk.injEq] at hzz
    obtain ⟨hz, hs, hb⟩ := hzz
    have hr := run_make (P := Tryd.prog) w 23 46 i _ Tryd.underlying23 hi hz .i64 .i64 (l.length : Int) (l.length : Int) (by omega) (Int.le_refl _) (by rw [hb]; omega) (by omega)
    rw [hs, Int.toNat_natCast] at hr
    exact hr
  have hb0 : Below w.heap.size w w1 := by rw [← hw1]; exact (Below.refl _ _).alloc (Nat.le_refl _) _
  have hRM : RowT 46 w1 B (([] ++ List.replicate l.length zeroQ).flatMap QT.cells) := by
    unfold RowT
    rw [← hw1, ← hB, List.nil_append, ← made_zeroQ]
    exact World.alloc_heap_new w _
  have hsz1 : w1.heap.size = B + 1 := by rw [← hw1, World.size_alloc, hB]
  have hn1 : n0 ≤ B := by omega
  have HB := Lib.hid hB
  have HW1 := Lib.hid (And.intro hb0 (And.intro hRM hsz1))
  clear hw1 hb0 hRM hsz1 hl0
  go_enter Tryd.func79, Tryd.ntmps79
  go_wp2
  go_loopw [16] (fun u wr => ∃ (k : Nat) (ys : List QT), u = .int .i64 k ∧ k ≤ l.length ∧ ys.length = k ∧ ys.map nrmQ = (l.take k).map nrmQ ∧ RowT 46 wr B (ys.flatMap QT.cells ++ (List.replicate (l.length - k) zeroQ).flatMap QT.cells) ∧ LOwn (QT.Own wr) (B + 1) wr.heap.size ys ∧ Below w.heap.size w wr) (fun u _ => l.length - (intOf u).toNat)
  case atStart => exact ⟨0, [], rfl, Nat.zero_le _, rfl, rfl, by have h9 := HW1.out.2.1; rw [List.nil_append] at h9; exact h9, by rw [LOwn, HW1.out.2.2]; exact Nat.le_refl _, HW1.out.1⟩
  case round =>
    obtain ⟨k, ys, rfl, hk, hyl, hyn, hrm, hown, hb0⟩ := hrel
    have HY := Lib.hid (And.intro hyl (And.intro hyn hown))
    clear hyl hyn hown
    by_cases hlt : k < l.length
    · have d1 : decide (k < l.length) = true := by simpa using hlt
      have d2 : decide ((k : Int) < (l.length : Int)) = true := by rw [decide_eq_true_eq]; omega
      have x1 : (k : Int) < (l.length : Int) := by omega
      obtain ⟨b, o, rfl, hb, hr, hx⟩ := hin.kept (Below.keptTo hb0 hn0) hlt
      have HT := Lib.hid (fun (y : QT) (h : nrmQ y = nrmQ l[k]) => map_take_snoc hlt HY.out.2.1 h)
      have hcx := hc l[k] (List.getElem_mem hlt)
      have hxin := hx.keep (Below.keptTo hb0 hn0)
      have zz := hb0.size
      generalize hgx : l[k] = x at *
      obtain ⟨ck, sa, sc, sl⟩ := x
      have c0 := fun (o' : Obj) => hcx (wr.alloc o') (by simp; omega) (hxin.keep (Below.keptTo ((Below.refl _ _).alloc (Nat.le_refl _) o') (by omega)))
      have r0 : wr.cell? ⟨b, o + k * 2, none⟩ = some (.bool ck) := hr 0 _ rfl
      have r1 : wr.cell? ⟨b, o + k * 2 + 1, none⟩ = some (.slice sa sl.length sc) := hr 1 _ rfl
      simp only [QT.val, QT.cells] at c0
      have hrep : (List.replicate (l.length - k) zeroQ).flatMap QT.cells = [.bool false, .slice none 0 0] ++ (List.replicate (l.length - (k + 1)) zeroQ).flatMap QT.cells := by
        rw [show l.length - k = (l.length - (k + 1)) + 1 by omega, List.replicate_succ]; rfl
      rw [hrep] at hrm
      have hpl : (ys.flatMap QT.cells).length = k * 2 := by rw [flat_len2 QT.cells_len, HY.out.1]
      have hBl : B < wr.heap.size := hrm.lt
      clear hin hc hcx hr hx hxin hgx hrep
      go_wp2_with fail
      refine (c0 _).mono ?_
      clear c0 r0 r1
      obtain ⟨wa, hwa⟩ : ∃ wa, wr.alloc (.cells #[.bool ck, .slice sa sl.length sc] 46) = wa := ⟨_, rfl⟩
      rw [hwa]
      rintro e W1 ⟨y, rfl, hyn, hyo, hb1⟩
      have hszA : wa.heap.size = wr.heap.size + 1 := by rw [← hwa, World.size_alloc]
      have hba : Below wr.heap.size wr wa := by rw [← hwa]; exact (Below.refl _ _).alloc (Nat.le_refl _) _
      have hb2 : Below wr.heap.size wr W1 := hba.trans (hb1.mono (by omega))
      have hrm1 := hrm.keep (hb2.block B hBl)
      have hbw : Below w.heap.size w W1 := hb0.trans (hb2.mono hb0.size)
      have hoy : LOwn (QT.Own W1) (B + 1) W1.heap.size (ys ++ [y]) := LOwn.snoc (own := QT.Own W1) (fun lo lo' hi h1 h2 => QT.Own.wider h1 h2 (Nat.le_refl _)) (LOwn.keep (own' := QT.Own W1) (fun x _ lo hi => QT.Own.keep x lo hi) (below_same2 hb2) HY.out.2.2) (QT.Own.wider hyo (by omega) (Nat.le_refl _)) hb2.size
      have hnn := HT.out y hyn
      have hln : (ys ++ [y]).length = k + 1 := by rw [List.length_append, HY.out.1]; rfl
      obtain ⟨ck2, sa2, sc2, sl2⟩ := y
      obtain ⟨m0, m1⟩ := hrm1.cells2 (k * 2) hpl
      obtain ⟨q0, q1⟩ := hrm1.thaw2 (k * 2)
      simp only [QT.val, QT.cells]
      obtain ⟨wz, hwz⟩ : ∃ wz, ((W1.setCell ⟨B, k * 2, none⟩ (.bool ck2)).setCell ⟨B, k * 2 + 1, none⟩ (.slice sa2 sl2.length sc2)) = wz := ⟨_, rfl⟩
      have hput := hrm1.put2 (k * 2) hpl (.bool ck2) (.slice sa2 sl2.length sc2)
      have hoth := fun b hb => putO2 W1 B (k * 2) (.bool ck2) (.slice sa2 sl2.length sc2) b hb
      have hbz := below_putO2 hbw (show w.heap.size ≤ B by omega) (k * 2) (.bool ck2) (.slice sa2 sl2.length sc2)
      have hsz : wz.heap.size = W1.heap.size := by rw [← hwz]; simp only [World.size_setCell]
      rw [hwz] at hput hbz
      simp only [hwz] at hoth
      have hoz : LOwn (QT.Own wz) (B + 1) wz.heap.size (ys ++ [⟨ck2, sa2, sc2, sl2⟩]) := by rw [hsz]; exact hoy.keep (fun x _ lo hi => QT.Own.keep x lo hi) (fun b h1 h2 => hoth b (by omega))
      have hrz : RowT 46 wz B ((ys ++ [(⟨ck2, sa2, sc2, sl2⟩ : QT)]).flatMap QT.cells ++ (List.replicate (l.length - (k + 1)) zeroQ).flatMap QT.cells) := by rw [List.flatMap_append, List.append_assoc]; exact hput
      have HP := Lib.hid (And.intro hrz (And.intro hbz (And.intro hoz (And.intro hnn hln))))
      clear hrm hrm1 hput hoth hbw hoy hnn hln hyo hyn hb1 hb2 hba hpl hb0 HY HT hszA hrz hoz hbz hsz
      go_wp2
      (try rw [hwz])
      go_roundw
      case rel => exact ⟨k + 1, _, by simp; first | done | rfl | omega, by omega, HP.out.2.2.2.2, HP.out.2.2.2.1, HP.out.1, HP.out.2.2.1, HP.out.2.1⟩
      case measure => simp [intOf]; omega
    · have d1 : decide (k < l.length) = false := by simpa using hlt
      have d2 : decide ((k : Int) < (l.length : Int)) = false := by rw [decide_eq_false_iff_not]; omega
      have hkl : k = l.length := by omega
      have hBl : B < wr.heap.size := hrm.lt
      have HP : Hid (CpLQ l w (.returned (.slice (some ⟨B, 0, none⟩) l.length l.length)) wr) := Lib.hid (by
        subst hkl
        rw [Nat.sub_self] at hrm
        have hrm2 : RowT 46 wr B (ys.flatMap QT.cells) := by rw [List.replicate_zero] at hrm; simpa using hrm
        refine ⟨some ⟨B, 0, none⟩, l.length, ys, by rw [HY.out.1], by have h9 := HY.out.2.1; rw [List.take_length] at h9; exact h9, Or.inr ⟨B, rfl, by omega, hBl, HY.out.1.symm, fun h => by have h8 := HY.out.1; rw [h] at h8; simp at h8; omega, hrm2, HY.out.2.2⟩, hb0⟩)
      clear hkl hrm HY hb0 hin hc hn0
      go_wp2
      go_ret
      exact HP.out
set_option maxHeartbeats 8000000 in
set_option maxRecDepth 100000 in
theorem copyQ_any (x : QT) (hbk : x.bk ≤ 4500000) (n0 : Nat) (w : World) (hn0 : n0 ≤ w.heap.size) (hin : x.In n0 w) : Calls Tryd.prog 80 #[x.val] w (CpQ x w) := by
  obtain ⟨ck, sa, sc, sl⟩ := x
  unfold QT.In at hin
  simp only [QT.bk] at hbk
  have hll2 := TT.bkL_len sl
  have hT := fun (W : World) (h : Below w.heap.size w W) => copyAllT_any n0 sl (by omega) (fun y hy w2 g1 g2 => copyT_any y (by have := TT.bkL_mem hy; omega) n0 w2 g1 g2) sa sc W (Nat.le_trans hn0 h.size) (hin.keep (Below.keptTo h hn0) (fun x _ => TT.In.keep (Below.keptTo h hn0) x))
  have HT := Lib.hid hT
  simp only [QT.val, QT.cells]
  obtain ⟨gx, hgx⟩ : ∃ gx, w.heap.size = gx := ⟨_, rfl⟩
  obtain ⟨wa, hwa⟩ : ∃ wa, w.alloc (.cells #[.bool ck, .slice sa sl.length sc] 46) = wa := ⟨_, rfl⟩
  have hba : Below w.heap.size w wa := by rw [← hwa]; exact (Below.refl _ _).alloc (Nat.le_refl _) _
  have hsa : wa.heap.size = gx + 1 := by rw [← hwa, World.size_alloc, hgx]
  have BX : RowT 46 wa gx ([] ++ ([.bool ck, .slice sa sl.length sc] ++ [])) := by unfold RowT; rw [← hwa, ← hgx]; exact World.alloc_heap_new w _
  obtain ⟨w1, hw1⟩ : ∃ w1, wa.alloc (.cells #[.bool false, .slice none 0 0] 46 (0, 0)) = w1 := ⟨_, rfl⟩
  have hb1 : Below wa.heap.size wa w1 := by rw [← hw1]; exact (Below.refl _ _).alloc (Nat.le_refl _) _
  have hbw : Below w.heap.size w w1 := hba.trans (hb1.mono hba.size)
  have BX1 := BX.keep (hb1.block gx BX.lt)
  have BY1 : RowT 46 w1 (gx + 1) ([] ++ ([.bool false, .slice none 0 0] ++ [])) := by unfold RowT; rw [← hw1, ← hsa]; exact World.alloc_heap_new wa _
  have hs1 : w1.heap.size = gx + 2 := by rw [← hw1, World.size_alloc, hsa]
  obtain ⟨z0, z1⟩ := BX1.cells2 0 rfl
  simp only [Nat.zero_add] at z1
  have c0 := HT.out w1 hbw
  have HB := Lib.hid (And.intro hbw (And.intro BX1 (And.intro BY1 hs1)))
  have HG := Lib.hid hgx
  clear hbk hin hT hba BX hb1 hbw BX1 BY1 hs1 hll2 hn0
  go_enter Tryd.func80, Tryd.ntmps80
  go_upto_region 1 with (fail)
  (try rw [hwa])
  (try rw [hgx])
  (try rw [hw1])
  (try rw [hsa])
  go_wp2_with fail
  refine c0.mono ?_
  clear c0 z0 z1
  rintro e W3 ⟨a9, c9, ys, rfl, hyn3, hyo3, hbk3⟩
  have hs1 := HB.out.2.2.2
  have RX3 := HB.out.2.1.keep (hbk3.block gx (by omega))
  have RY3 := HB.out.2.2.1.keep (hbk3.block (gx + 1) (by omega))
  obtain ⟨q0, q1⟩ := RX3.thaw2 0
  obtain ⟨z0, z1⟩ := RX3.cells2 0 rfl
  simp only [Nat.zero_add] at z1 q1
  obtain ⟨W4, hW4⟩ : ∃ W4, W3.setCell ⟨gx, 1, none⟩ (.slice a9 ys.length c9) = W4 := ⟨_, rfl⟩
  have ho4 : ∀ b, b ≠ gx → W4.heap[b]? = W3.heap[b]? := fun b hb => by rw [← hW4]; exact Below.heap_setCell W3 ⟨gx, 1, none⟩ _ b hb
  have hs4 : W4.heap.size = W3.heap.size := by rw [← hW4, World.size_setCell]
  have RYV := RY3.keep (ho4 (gx + 1) (by omega))
  have RXV : RowT 46 W4 gx ([] ++ ([.bool ck, .slice a9 ys.length c9] ++ [])) := by
    have h9 : W3.heap[gx]? = some (.cells #[.bool ck, .slice sa sl.length sc] 46 (0, 0)) := RX3
    show W4.heap[gx]? = _
    rw [← hW4]
    simp [World.setCell, Array.getElem?_modify, h9]
  have HBV : Below w.heap.size w W4 := by rw [← hW4]; exact (HB.out.1.trans (hbk3.mono HB.out.1.size)).setCell (p := ⟨gx, 1, none⟩) (show w.heap.size ≤ gx by have := HG.out; omega) _
  clear q0 z0
  obtain ⟨m0, m1⟩ := RXV.cells2 0 rfl
  obtain ⟨y0, y1⟩ := RYV.cells2 0 rfl
  obtain ⟨p0, p1⟩ := RYV.thaw2 0
  have RZ := RYV.put2 0 rfl (.bool ck) (.slice a9 ys.length c9)
  have hoz := fun b hb => putO2 W4 (gx + 1) 0 (.bool ck) (.slice a9 ys.length c9) b hb
  have hbz := below_putO2 HBV (show w.heap.size ≤ gx + 1 by omega) 0 (.bool ck) (.slice a9 ys.length c9)
  simp only [Nat.zero_add] at m1 y1 p1 RZ hoz hbz
  obtain ⟨wz, hwz⟩ : ∃ wz, ((W4.setCell ⟨gx + 1, 0, none⟩ (.bool ck)).setCell ⟨gx + 1, 1, none⟩ (.slice a9 ys.length c9)) = wz := ⟨_, rfl⟩
  have hsz : wz.heap.size = W4.heap.size := by rw [← hwz]; simp only [World.size_setCell]
  rw [hwz] at RZ hbz
  simp only [hwz] at hoz
  obtain ⟨t0, t1⟩ := RZ.cells2 0 rfl
  simp only [Nat.zero_add] at t1
  have HP : Hid (CpQ ⟨ck, sa, sc, sl⟩ w (.returned (QT.mk ck a9 c9 ys).val) wz) := Lib.hid (by
    refine ⟨_, rfl, by simp only [nrmQ, nrmTL_map, hyn3], ?_, hbz⟩
    show RowTT _ _ _ _ _ _
    rw [hsz, hs4]
    rw [hs1] at hyo3
    exact (hyo3.keep (fun x _ => TT.Own.keep x) (fun b h1 h2 => (hoz b (by omega)).trans (ho4 b (by omega)))).wider (by have := HG.out; omega) (Nat.le_refl _))
  simp only [QT.val, QT.cells] at HP
  clear hyn3 hyo3 hbk3 RX3 RY3 RXV RYV RZ hoz hbz hsz HBV ho4 hs4
  go_upto_region 2 with (fail)
  (try rw [hW4])
  go_wp2
  (try rw [hwz])
  have hu := Tryd.underlying46
  refine bodyPost_ret (v := .agg #[.bool ck, .slice a9 ys.length c9]) (by simp [results, Tryd.results80, go_sem, hu, t0, t1]) rfl HP.out
def CpK (x : KT) (w : World) : Ending → World → Prop := fun e w' => ∃ y : KT, e = .returned y.val ∧ nrmK y = nrmK x ∧ y.Own w' w.heap.size w'.heap.size ∧ Below w.heap.size w w'
def CpLK (l : List KT) (w : World) : Ending → World → Prop := fun e w' => ∃ (a : Option Addr) (c : Nat) (ys : List KT), e = .returned (.slice a ys.length c) ∧ ys.map nrmK = l.map nrmK ∧ ROwn 74 KT.cells w' (KT.Own w') w.heap.size w'.heap.size a c ys ∧ Below w.heap.size w w'
set_option maxHeartbeats 8000000 in
set_option maxRecDepth 100000 in
theorem copyAllK_any (n0 : Nat) (l : List KT) (hll : l.length ≤ 12000000) (hc : ∀ x ∈ l, ∀ w, n0 ≤ w.heap.size → x.In n0 w → Calls Tryd.prog 82 #[x.val] w (CpK x w)) (a : Option Addr) (c : Nat) (w : World) (hn0 : n0 ≤ w.heap.size) (hin : InRow 9 KT.cells (KT.In n0 w) n0 w l a) :
    Calls Tryd.prog 81 #[.slice a l.length c, .func (.func 82) #[] #[]] w (CpLK l w) := by
  by_cases hl0 : l.length = 0
  · have e0 : ((l.length : Int) == 0) = true := by rw [beq_iff_eq]; omega
    have hnil : l = [] := List.length_eq_zero_iff.1 hl0
    have HP : Hid (CpLK l w (.returned (.slice none 0 0)) w) := Lib.hid ⟨none, 0, [], rfl, by rw [hnil], Or.inl ⟨rfl, rfl, rfl⟩, Below.refl _ _⟩
    clear hl0 hnil hc hin
    go_enter Tryd.func81, Tryd.ntmps81
    go_wp2
    go_ret
    exact HP.out
  have e0 : ((l.length : Int) == 0) = false := by rw [beq_eq_false_iff_ne]; omega
  have hl1 : 0 < l.length := by omega
  obtain ⟨B, hB⟩ : ∃ B, w.heap.size = B := ⟨_, rfl⟩
  obtain ⟨w1, hw1⟩ : ∃ w1, w.alloc (.cells (madeCells zeroK.cells.toArray (l.length * 9)) 74) = w1 := ⟨_, rfl⟩
  have hmk : (Instr.makeSlice 24 (.int .i64 (l.length : Int)) (.int .i64 (l.length : Int))).run Tryd.prog w = .ok (.slice (some ⟨w.heap.size, 0, none⟩) l.length l.length) w1 := by
    rw [← hw1]
    obtain ⟨i, hi, hzz⟩ := Option.map_eq_some_iff.1 (show (Tryd.prog.info? 74).map (fun i => (i.zero, i.size, i.bytes)) = some (some (.agg zeroK.cells.toArray), 9, 96) by kernel_rfl)
    simp only [Prod.mk.injEq] at hzz
    obtain ⟨hz, hs, hb⟩ := hzz
    have hr := run_make (P := Tryd.prog) w 24 74 i _ Tryd.underlying24 hi hz .i64 .i64 (l.length : Int) (l.length : Int) (by omega) (Int.le_refl _) (by rw [hb]; omega) (by omega)
    rw [hs, Int.toNat_natCast] at hr
    exact hr
  have hb0 : Below w.heap.size w w1 := by rw [← hw1]; exact (Below.refl _ _).alloc (Nat.le_refl _) _
  have hRM : RowT 74 w1 B (([] ++ List.replicate l.length zeroK).flatMap KT.cells) := by
    unfold RowT
    rw [← hw1, ← hB, List.nil_append, ← made_zeroK]
    exact World.alloc_heap_new w _
  have hsz1 : w1.heap.size = B + 1 := by rw [← hw1, World.size_alloc, hB]
  have hn1 : n0 ≤ B := by omega
  have HB := Lib.hid hB
  have HW1 := Lib.hid (And.intro hb0 (And.intro hRM hsz1))
  clear hw1 hb0 hRM hsz1 hl0
  go_enter Tryd.func81, Tryd.ntmps81
  go_wp2
  go_loopw [16] (fun u wr => ∃ (k : Nat) (ys : List KT), u = .int .i64 k ∧ k ≤ l.length ∧ ys.length = k ∧ ys.map nrmK = (l.take k).map nrmK ∧ RowT 74 wr B (ys.flatMap KT.cells ++ (List.replicate (l.length - k) zeroK).flatMap KT.cells) ∧ LOwn (KT.Own wr) (B + 1) wr.heap.size ys ∧ Below w.heap.size w wr) (fun u _ => l.length - (intOf u).toNat)
  case atStart => exact ⟨0, [], rfl, Nat.zero_le _, rfl, rfl, by have h9 := HW1.out.2.1; rw [List.nil_append] at h9; exact h9, by rw [LOwn, HW1.out.2.2]; exact Nat.le_refl _, HW1.out.1⟩
  case round =>
    obtain ⟨k, ys, rfl, hk, hyl, hyn, hrm, hown, hb0⟩ := hrel
    have HY := Lib.hid (And.intro hyl (And.intro hyn hown))
    clear hyl hyn hown
    by_cases hlt : k < l.length
    · have d1 : decide (k < l.length) = true := by simpa using hlt
      have d2 : decide ((k : Int) < (l.length : Int)) = true := by rw [decide_eq_true_eq]; omega
      have x1 : (k : Int) < (l.length : Int) := by omega
      obtain ⟨b, o, rfl, hb, hr, hx⟩ := hin.kept (Below.keptTo hb0 hn0) hlt
      have HT := Lib.hid (fun (y : KT) (h : nrmK y = nrmK l[k]) => map_take_snoc hlt HY.out.2.1 h)
      have hcx := hc l[k] (List.getElem_mem hlt)
      have hxin := hx.keep (Below.keptTo hb0 hn0)
      have zz := hb0.size
      generalize hgx : l[k] = x at *
      obtain ⟨bn, ⟨op, wd, v, sg, uh, ul, xn, xa, xc, xl⟩⟩ := x
      have c0 := fun (o' : Obj) => hcx (wr.alloc o') (by simp; omega) (hxin.keep (Below.keptTo ((Below.refl _ _).alloc (Nat.le_refl _) o') (by omega)))
      have r0 : wr.cell? ⟨b, o + k * 9, none⟩ = some (.string (bs bn)) := hr 0 _ rfl
      have r1 : wr.cell? ⟨b, o + k * 9 + 1, none⟩ = some (.int .i64 op) := hr 1 _ rfl
      have r2 : wr.cell? ⟨b, o + k * 9 + 2, none⟩ = some (.int .i64 wd) := hr 2 _ rfl
      have r3 : wr.cell? ⟨b, o + k * 9 + 3, none⟩ = some (.int .u64 (v : Int)) := hr 3 _ rfl
      have r4 : wr.cell? ⟨b, o + k * 9 + 4, none⟩ = some (.int .i64 sg) := hr 4 _ rfl
      have r5 : wr.cell? ⟨b, o + k * 9 + 5, none⟩ = some (.int .i64 uh) := hr 5 _ rfl
      have r6 : wr.cell? ⟨b, o + k * 9 + 6, none⟩ = some (.int .i64 ul) := hr 6 _ rfl
      have r7 : wr.cell? ⟨b, o + k * 9 + 7, none⟩ = some (.int .i64 xn) := hr 7 _ rfl
      have r8 : wr.cell? ⟨b, o + k * 9 + 8, none⟩ = some (.slice xa xl.length xc) := hr 8 _ rfl
      simp only [KT.val, KT.cells, ET.cells] at c0
      have hrep : (List.replicate (l.length - k) zeroK).flatMap KT.cells = [.string (bs []), .int .i64 0, .int .i64 0, .int .u64 0, .int .i64 0, .int .i64 0, .int .i64 0, .int .i64 0, .slice none 0 0] ++ (List.replicate (l.length - (k + 1)) zeroK).flatMap KT.cells := by
        rw [show l.length - k = (l.length - (k + 1)) + 1 by omega, List.replicate_succ]; rfl
      rw [hrep] at hrm
      have hpl : (ys.flatMap KT.cells).length = k * 9 := by rw [flat_len9 KT.cells_len, HY.out.1]
      have hBl : B < wr.heap.size := hrm.lt
      clear hin hc hcx hr hx hxin hgx hrep
      go_wp2_with fail
      refine (c0 _).mono ?_
      clear c0 r0 r1 r2 r3 r4 r5 r6 r7 r8
      obtain ⟨wa, hwa⟩ : ∃ wa, wr.alloc (.cells #[.string (bs bn), .int .i64 op, .int .i64 wd, .int .u64 (v : Int), .int .i64 sg, .int .i64 uh, .int .i64 ul, .int .i64 xn, .slice xa xl.length xc] 74) = wa := ⟨_, rfl⟩
      rw [hwa]
      rintro e W1 ⟨y, rfl, hyn, hyo, hb1⟩
      have hszA : wa.heap.size = wr.heap.size + 1 := by rw [← hwa, World.size_alloc]
      have hba : Below wr.heap.size wr wa := by rw [← hwa]; exact (Below.refl _ _).alloc (Nat.le_refl _) _
      have hb2 : Below wr.heap.size wr W1 := hba.trans (hb1.mono (by omega))
      have hrm1 := hrm.keep (hb2.block B hBl)
      have hbw : Below w.heap.size w W1 := hb0.trans (hb2.mono hb0.size)
      have hoy : LOwn (KT.Own W1) (B + 1) W1.heap.size (ys ++ [y]) := LOwn.snoc (own := KT.Own W1) (fun lo lo' hi h1 h2 => KT.Own.wider h1 h2 (Nat.le_refl _)) (LOwn.keep (own' := KT.Own W1) (fun x _ lo hi => KT.Own.keep x lo hi) (below_same2 hb2) HY.out.2.2) (KT.Own.wider hyo (by omega) (Nat.le_refl _)) hb2.size
      have hnn := HT.out y hyn
      have hln : (ys ++ [y]).length = k + 1 := by rw [List.length_append, HY.out.1]; rfl
      obtain ⟨bn2, ⟨op2, wd2, v2, sg2, uh2, ul2, xn2, xa2, xc2, xl2⟩⟩ := y
      obtain ⟨m0, m1, m2, m3, m4, m5, m6, m7, m8⟩ := hrm1.cells9 (k * 9) hpl
      obtain ⟨q0, q1, q2, q3, q4, q5, q6, q7, q8⟩ := hrm1.thaw9 (k * 9)
      simp only [KT.val, KT.cells, ET.cells]
      obtain ⟨wz, hwz⟩ : ∃ wz, (((((((((W1.setCell ⟨B, k * 9, none⟩ (.string (bs bn2))).setCell ⟨B, k * 9 + 1, none⟩ (.int .i64 op2)).setCell ⟨B, k * 9 + 2, none⟩ (.int .i64 wd2)).setCell ⟨B, k * 9 + 3, none⟩ (.int .u64 (v2 : Int))).setCell ⟨B, k * 9 + 4, none⟩ (.int .i64 sg2)).setCell ⟨B, k * 9 + 5, none⟩ (.int .i64 uh2)).setCell ⟨B, k * 9 + 6, none⟩ (.int .i64 ul2)).setCell ⟨B, k * 9 + 7, none⟩ (.int .i64 xn2)).setCell ⟨B, k * 9 + 8, none⟩ (.slice xa2 xl2.length xc2)) = wz := ⟨_, rfl⟩
      have hput := hrm1.put9 (k * 9) hpl (.string (bs bn2)) (.int .i64 op2) (.int .i64 wd2) (.int .u64 (v2 : Int)) (.int .i64 sg2) (.int .i64 uh2) (.int .i64 ul2) (.int .i64 xn2) (.slice xa2 xl2.length xc2)
      have hoth := fun b hb => putO9 W1 B (k * 9) (.string (bs bn2)) (.int .i64 op2) (.int .i64 wd2) (.int .u64 (v2 : Int)) (.int .i64 sg2) (.int .i64 uh2) (.int .i64 ul2) (.int .i64 xn2) (.slice xa2 xl2.length xc2) b hb
      have hbz := below_putO9 hbw (show w.heap.size ≤ B by omega) (k * 9) (.string (bs bn2)) (.int .i64 op2) (.int .i64 wd2) (.int .u64 (v2 : Int)) (.int .i64 sg2) (.int .i64 uh2) (.int .i64 ul2) (.int .i64 xn2) (.slice xa2 xl2.length xc2)
      have hsz : wz.heap.size = W1.heap.size := by rw [← hwz]; simp only [World.size_setCell]
      rw [hwz] at hput hbz
      simp only [hwz] at hoth
      have hoz : LOwn (KT.Own wz) (B + 1) wz.heap.size (ys ++ [⟨bn2, .mk op2 wd2 v2 sg2 uh2 ul2 xn2 xa2 xc2 xl2⟩]) := by rw [hsz]; exact hoy.keep (fun x _ lo hi => KT.Own.keep x lo hi) (fun b h1 h2 => hoth b (by omega))
      have hrz : RowT 74 wz B ((ys ++ [(⟨bn2, .mk op2 wd2 v2 sg2 uh2 ul2 xn2 xa2 xc2 xl2⟩ : KT)]).flatMap KT.cells ++ (List.replicate (l.length - (k + 1)) zeroK).flatMap KT.cells) := by rw [List.flatMap_append, List.append_assoc]; exact hput
      have HP := Lib.hid (And.intro hrz (And.intro hbz (And.intro hoz (And.intro hnn hln))))
      clear hrm hrm1 hput hoth hbw hoy hnn hln hyo hyn hb1 hb2 hba hpl hb0 HY HT hszA hrz hoz hbz hsz
      go_wp2
      (try rw [hwz])
      go_roundw
      case rel => exact ⟨k + 1, _, by simp; first | done | rfl | omega, by omega, HP.out.2.2.2.2, HP.out.2.2.2.1, HP.out.1, HP.out.2.2.1, HP.out.2.1⟩
      case measure => simp [intOf]; omega
    · have d1 : decide (k < l.length) = false := by simpa using hlt
      have d2 : decide ((k : Int) < (l.length : Int)) = false := by rw [decide_eq_false_iff_not]; omega
      have hkl : k = l.length := by omega
      have hBl : B < wr.heap.size := hrm.lt
      have HP : Hid (CpLK l w (.returned (.slice (some ⟨B, 0, none⟩) l.length l.length)) wr) := Lib.hid (by
        subst hkl
        rw [Nat.sub_self] at hrm
        have hrm2 : RowT 74 wr B (ys.flatMap KT.cells) := by rw [List.replicate_zero] at hrm; simpa using hrm
        refine ⟨some ⟨B, 0, none⟩, l.length, ys, by rw [HY.out.1], by have h9 := HY.out.2.1; rw [List.take_length] at h9; exact h9, Or.inr ⟨B, rfl, by omega, hBl, HY.out.1.symm, fun h => by have h8 := HY.out.1; rw [h] at h8; simp at h8; omega, hrm2, HY.out.2.2⟩, hb0⟩)
      clear hkl hrm HY hb0 hin hc hn0
      go_wp2
      go_ret
      exact HP.out
set_option maxHeartbeats 8000000 in
set_option maxRecDepth 100000 in
theorem copyK_any (x : KT) (hbk : x.bk ≤ 4500000) (n0 : Nat) (w : World) (hn0 : n0 ≤ w.heap.size) (hin : x.In n0 w) : Calls Tryd.prog 82 #[x.val] w (CpK x w) := by
  obtain ⟨bn, X⟩ := x
  unfold KT.In at hin
  simp only [KT.bk] at hbk
  have hT := fun (W : World) (h : Below w.heap.size w W) => copyE_any X (by omega) n0 W (Nat.le_trans hn0 h.size) (ET.In.keep (Below.keptTo h hn0) X hin)
  have HT := Lib.hid hT
  have HN : Hid (∀ y : ET, nrmE y = nrmE X → nrmK ⟨bn, y⟩ = nrmK ⟨bn, X⟩) := Lib.hid (fun y h => by unfold nrmK; rw [h])
  obtain ⟨op, wd, v, sg, uh, ul, xn, xa, xc, xl⟩ := X
  simp only [KT.val, KT.cells, ET.cells]
  obtain ⟨gx, hgx⟩ : ∃ gx, w.heap.size = gx := ⟨_, rfl⟩
  obtain ⟨wa, hwa⟩ : ∃ wa, w.alloc (.cells #[.string (bs bn), .int .i64 op, .int .i64 wd, .int .u64 (v : Int), .int .i64 sg, .int .i64 uh, .int .i64 ul, .int .i64 xn, .slice xa xl.length xc] 74) = wa := ⟨_, rfl⟩
  have hba : Below w.heap.size w wa := by rw [← hwa]; exact (Below.refl _ _).alloc (Nat.le_refl _) _
  have hsa : wa.heap.size = gx + 1 := by rw [← hwa, World.size_alloc, hgx]
  have BX : RowT 74 wa gx ([] ++ ([.string (bs bn), .int .i64 op, .int .i64 wd, .int .u64 (v : Int), .int .i64 sg, .int .i64 uh, .int .i64 ul, .int .i64 xn, .slice xa xl.length xc] ++ [])) := by unfold RowT; rw [← hwa, ← hgx]; exact World.alloc_heap_new w _
  obtain ⟨w1, hw1⟩ : ∃ w1, wa.alloc (.cells #[.string ⟨#[]⟩, .int .i64 0, .int .i64 0, .int .u64 0, .int .i64 0, .int .i64 0, .int .i64 0, .int .i64 0, .slice none 0 0] 74 (0, 0)) = w1 := ⟨_, rfl⟩
  have hb1 : Below wa.heap.size wa w1 := by rw [← hw1]; exact (Below.refl _ _).alloc (Nat.le_refl _) _
  have hbw : Below w.heap.size w w1 := hba.trans (hb1.mono hba.size)
  have BX1 := BX.keep (hb1.block gx BX.lt)
  have BY1 : RowT 74 w1 (gx + 1) ([] ++ ([.string ⟨#[]⟩, .int .i64 0, .int .i64 0, .int .u64 0, .int .i64 0, .int .i64 0, .int .i64 0, .int .i64 0, .slice none 0 0] ++ [])) := by unfold RowT; rw [← hw1, ← hsa]; exact World.alloc_heap_new wa _
  have hs1 : w1.heap.size = gx + 2 := by rw [← hw1, World.size_alloc, hsa]
  obtain ⟨z0, z1, z2, z3, z4, z5, z6, z7, z8⟩ := BX1.cells9 0 rfl
  simp only [Nat.zero_add] at z1 z2 z3 z4 z5 z6 z7 z8
  have c0 := HT.out w1 hbw
  simp only [ET.val, ET.cells] at c0
  have HB := Lib.hid (And.intro hbw (And.intro BX1 (And.intro BY1 hs1)))
  have HG := Lib.hid hgx
  clear hbk hin hT hba BX hb1 hbw BX1 BY1 hs1 hn0
  go_enter Tryd.func82, Tryd.ntmps82
  go_upto_region 1 with (fail)
  (try rw [hwa])
  (try rw [hgx])
  (try rw [hw1])
  (try rw [hsa])
  go_wp2_with fail
  refine c0.mono ?_
  clear c0 z0 z1 z2 z3 z4 z5 z6 z7 z8
  rintro e W3 ⟨y, rfl, hyn3, hyo3, hbk3⟩
  have HY := Lib.hid (HN.out y hyn3)
  clear hyn3
  obtain ⟨op2, wd2, v2, sg2, uh2, ul2, xn2, xa2, xc2, xl2⟩ := y
  simp only [ET.val, ET.cells]
  have hs1 := HB.out.2.2.2
  have RX3 := HB.out.2.1.keep (hbk3.block gx (by omega))
  have RY3 := HB.out.2.2.1.keep (hbk3.block (gx + 1) (by omega))
  obtain ⟨q0, q1, q2, q3, q4, q5, q6, q7, q8⟩ := RX3.thaw9 0
  obtain ⟨z0, z1, z2, z3, z4, z5, z6, z7, z8⟩ := RX3.cells9 0 rfl
  simp only [Nat.zero_add] at z1 q1 z2 q2 z3 q3 z4 q4 z5 q5 z6 q6 z7 q7 z8 q8
  obtain ⟨W4, hW4⟩ : ∃ W4, ((((((((W3.setCell ⟨gx, 1, none⟩ (.int .i64 op2)).setCell ⟨gx, 2, none⟩ (.int .i64 wd2)).setCell ⟨gx, 3, none⟩ (.int .u64 (v2 : Int))).setCell ⟨gx, 4, none⟩ (.int .i64 sg2)).setCell ⟨gx, 5, none⟩ (.int .i64 uh2)).setCell ⟨gx, 6, none⟩ (.int .i64 ul2)).setCell ⟨gx, 7, none⟩ (.int .i64 xn2)).setCell ⟨gx, 8, none⟩ (.slice xa2 xl2.length xc2)) = W4 := ⟨_, rfl⟩
  have ho4 : ∀ b, b ≠ gx → W4.heap[b]? = W3.heap[b]? := fun b hb => by rw [← hW4, Below.heap_setCell _ _ _ b hb, Below.heap_setCell _ _ _ b hb, Below.heap_setCell _ _ _ b hb, Below.heap_setCell _ _ _ b hb, Below.heap_setCell _ _ _ b hb, Below.heap_setCell _ _ _ b hb, Below.heap_setCell _ _ _ b hb, Below.heap_setCell _ _ _ b hb]
  have hs4 : W4.heap.size = W3.heap.size := by rw [← hW4]; simp only [World.size_setCell]
  have RYV := RY3.keep (ho4 (gx + 1) (by omega))
  have RXV : RowT 74 W4 gx ([] ++ ([.string (bs bn), .int .i64 op2, .int .i64 wd2, .int .u64 (v2 : Int), .int .i64 sg2, .int .i64 uh2, .int .i64 ul2, .int .i64 xn2, .slice xa2 xl2.length xc2] ++ [])) := by
    have h9 : W3.heap[gx]? = some (.cells #[.string (bs bn), .int .i64 op, .int .i64 wd, .int .u64 (v : Int), .int .i64 sg, .int .i64 uh, .int .i64 ul, .int .i64 xn, .slice xa xl.length xc] 74 (0, 0)) := RX3
    show W4.heap[gx]? = _
    rw [← hW4]
    simp [World.setCell, Array.getElem?_modify, h9]
  have HBV : Below w.heap.size w W4 := by
    have h1 := HB.out.1.trans (hbk3.mono HB.out.1.size)
    rw [← hW4]
    exact (Below.setCell (Below.setCell (Below.setCell (Below.setCell (Below.setCell (Below.setCell (Below.setCell (Below.setCell h1 (p := ⟨gx, 1, none⟩) (show w.heap.size ≤ gx by have := HG.out; omega) _) (p := ⟨gx, 2, none⟩) (show w.heap.size ≤ gx by have := HG.out; omega) _) (p := ⟨gx, 3, none⟩) (show w.heap.size ≤ gx by have := HG.out; omega) _) (p := ⟨gx, 4, none⟩) (show w.heap.size ≤ gx by have := HG.out; omega) _) (p := ⟨gx, 5, none⟩) (show w.heap.size ≤ gx by have := HG.out; omega) _) (p := ⟨gx, 6, none⟩) (show w.heap.size ≤ gx by have := HG.out; omega) _) (p := ⟨gx, 7, none⟩) (show w.heap.size ≤ gx by have := HG.out; omega) _) (p := ⟨gx, 8, none⟩) (show w.heap.size ≤ gx by have := HG.out; omega) _)
  clear q0 z0
  obtain ⟨m0, m1, m2, m3, m4, m5, m6, m7, m8⟩ := RXV.cells9 0 rfl
  obtain ⟨y0, y1, y2, y3, y4, y5, y6, y7, y8⟩ := RYV.cells9 0 rfl
  obtain ⟨p0, p1, p2, p3, p4, p5, p6, p7, p8⟩ := RYV.thaw9 0
  have RZ := RYV.put9 0 rfl (.string (bs bn)) (.int .i64 op2) (.int .i64 wd2) (.int .u64 (v2 : Int)) (.int .i64 sg2) (.int .i64 uh2) (.int .i64 ul2) (.int .i64 xn2) (.slice xa2 xl2.length xc2)
  have hoz := fun b hb => putO9 W4 (gx + 1) 0 (.string (bs bn)) (.int .i64 op2) (.int .i64 wd2) (.int .u64 (v2 : Int)) (.int .i64 sg2) (.int .i64 uh2) (.int .i64 ul2) (.int .i64 xn2) (.slice xa2 xl2.length xc2) b hb
  have hbz := below_putO9 HBV (show w.heap.size ≤ gx + 1 by omega) 0 (.string (bs bn)) (.int .i64 op2) (.int .i64 wd2) (.int .u64 (v2 : Int)) (.int .i64 sg2) (.int .i64 uh2) (.int .i64 ul2) (.int .i64 xn2) (.slice xa2 xl2.length xc2)
  simp only [Nat.zero_add] at m1 y1 p1 m2 y2 p2 m3 y3 p3 m4 y4 p4 m5 y5 p5 m6 y6 p6 m7 y7 p7 m8 y8 p8 RZ hoz hbz
  obtain ⟨wz, hwz⟩ : ∃ wz, (((((((((W4.setCell ⟨gx + 1, 0, none⟩ (.string (bs bn))).setCell ⟨gx + 1, 1, none⟩ (.int .i64 op2)).setCell ⟨gx + 1, 2, none⟩ (.int .i64 wd2)).setCell ⟨gx + 1, 3, none⟩ (.int .u64 (v2 : Int))).setCell ⟨gx + 1, 4, none⟩ (.int .i64 sg2)).setCell ⟨gx + 1, 5, none⟩ (.int .i64 uh2)).setCell ⟨gx + 1, 6, none⟩ (.int .i64 ul2)).setCell ⟨gx + 1, 7, none⟩ (.int .i64 xn2)).setCell ⟨gx + 1, 8, none⟩ (.slice xa2 xl2.length xc2)) = wz := ⟨_, rfl⟩
  have hsz : wz.heap.size = W4.heap.size := by rw [← hwz]; simp only [World.size_setCell]
  rw [hwz] at RZ hbz
  simp only [hwz] at hoz
  obtain ⟨t0, t1, t2, t3, t4, t5, t6, t7, t8⟩ := RZ.cells9 0 rfl
  simp only [Nat.zero_add] at t1 t2 t3 t4 t5 t6 t7 t8
  have HP : Hid (CpK ⟨bn, .mk op wd v sg uh ul xn xa xc xl⟩ w (.returned (KT.mk bn (.mk op2 wd2 v2 sg2 uh2 ul2 xn2 xa2 xc2 xl2)).val) wz) := Lib.hid (by
    refine ⟨_, rfl, HY.out, ?_, hbz⟩
    rw [hsz, hs4]
    rw [hs1] at hyo3
    exact (ET.Own.keep _ _ _ (fun b h1 h2 => (hoz b (by omega)).trans (ho4 b (by omega))) hyo3).wider (by have := HG.out; omega) (Nat.le_refl _))
  simp only [KT.val, KT.cells, ET.cells] at HP
  clear hyo3 hbk3 RX3 RY3 RXV RYV RZ hoz hbz hsz HBV ho4 hs4 HY
  go_upto_region 2 with (fail)
  (try rw [hW4])
  go_wp2
  (try rw [hwz])
  have hu := Tryd.underlying74
  refine bodyPost_ret (v := .agg #[.string (bs bn), .int .i64 op2, .int .i64 wd2, .int .u64 (v2 : Int), .int .i64 sg2, .int .i64 uh2, .int .i64 ul2, .int .i64 xn2, .slice xa2 xl2.length xc2]) (by simp [results, Tryd.results82, go_sem, hu, t0, t1, t2, t3, t4, t5, t6, t7, t8]) rfl HP.out
end Go.Proofs.YtbcgeglkmpcnpaaDoor
