/-
  AsE, in one text.
-/
import Derived.Test.YtiipjbafdhijlaaGreatDoorZAD
namespace Go.Proofs.YtiipjbafdhijlaaGreatDoor
open Go Go.RowKit
set_option linter.unusedVariables false
set_option linter.unusedSimpArgs false
theorem XT.dsL_flat (d : Nat) : ∀ l : List XT, XT.dsL d l = l.flatMap (XT.ds d)
 | [] => rfl
 | x :: r => by rw [XT.dsL, XT.dsL_flat d r]; rfl
theorem XT.ds_mk (d : Nat) (op : Int) (nm : Bytes) (n wd : Int) (v : Nat) (a : Option Addr) (c : Nat) (l : List XT) : XT.ds d (.mk op nm n wd v a c l) = d :: l.flatMap (XT.ds (d + 1)) := by rw [XT.ds, XT.dsL_flat]
/-! ### Statements -/
inductive ST where
 | mk (op : Int) (nm : Bytes) (xa : Option Addr) (xc : Nat) (xl : List XT) (sa : Option Addr) (sc : Nat) (sl : List ST)
structure BT where
 nm : Bytes
 x : XT
structure PT where
 nm : Bytes
 out : Bool
 x : XT
inductive IT where
 | mk (op : Int) (nm nf : Bytes) (xa : Option Addr) (xc : Nat) (xl : List XT) (sa : Option Addr) (sc : Nat) (sl : List ST) (la : Option Addr) (lc : Nat) (ll : List IT) (ea : Option Addr) (ec : Nat) (el : List IT) (pa : Option Addr) (pc : Nat) (pl : List BT) (ba : Option Addr) (bc : Nat) (bl : List BT)
structure MT where
 nm : Bytes
 pa : Option Addr
 pc : Nat
 pl : List BT
 ta : Option Addr
 tc : Nat
 tl : List PT
 ia : Option Addr
 ic : Nat
 il : List IT
/-- A file: where its modules lie. -/
structure FT where
 ma : Option Addr
 mc : Nat
 ml : List MT
def ST.op : ST → Int | .mk op _ _ _ _ _ _ _ => op
def ST.nm : ST → Bytes | .mk _ nm _ _ _ _ _ _ => nm
def ST.xl : ST → List XT | .mk _ _ _ _ xl _ _ _ => xl
def ST.sl : ST → List ST | .mk _ _ _ _ _ _ _ sl => sl
def ST.cells : ST → List Value | .mk op nm xa xc xl sa sc sl => [.int .i64 op, .string (bs nm), .slice xa xl.length xc, .slice sa sl.length sc]
def ST.val (x : ST) : Value := .agg x.cells.toArray
def BT.cells : BT → List Value | ⟨bn, x⟩ => .string (bs bn) :: x.cells
def BT.val (x : BT) : Value := .agg x.cells.toArray
def PT.cells : PT → List Value | ⟨bn, po, x⟩ => .string (bs bn) :: .bool po :: x.cells
def PT.val (x : PT) : Value := .agg x.cells.toArray
def IT.cells : IT → List Value | .mk op nm nf xa xc xl sa sc sl la lc ll ea ec el pa pc pl ba bc bl => [.int .i64 op, .string (bs nm), .string (bs nf), .slice xa xl.length xc, .slice sa sl.length sc, .slice la ll.length lc, .slice ea el.length ec, .slice pa pl.length pc, .slice ba bl.length bc]
def IT.val (x : IT) : Value := .agg x.cells.toArray
def MT.cells : MT → List Value | ⟨nm, pa, pc, pl, ta, tc, tl, ia, ic, il⟩ => [.string (bs nm), .slice pa pl.length pc, .slice ta tl.length tc, .slice ia il.length ic]
def MT.val (x : MT) : Value := .agg x.cells.toArray
def FT.cells : FT → List Value | ⟨ma, mc, ml⟩ => [.slice ma ml.length mc]
def FT.val (x : FT) : Value := .agg x.cells.toArray
mutual
def ST.In (n : Nat) (W : World) : ST → Prop
 | .mk _ _ xa _ xl sa _ sl => InRow 6 XT.cells (XT.In n W) n W xl xa ∧ ST.InL n W sl sa
def ST.InL (n : Nat) (W : World) : List ST → Option Addr → Prop
 | [], _ => True
 | x :: r, a => (∃ b o, a = some ⟨b, o, none⟩ ∧ b < n ∧ RowC W b o x.cells) ∧ ST.In n W x ∧ ST.InL n W r (a.map fun p => p.add 4)
end
theorem ST.inL_iff (n : Nat) (W : World) : ∀ (l : List ST) (a : Option Addr), ST.InL n W l a ↔ InRow 4 ST.cells (ST.In n W) n W l a
 | [], a => by rw [ST.InL]; exact Iff.rfl
 | x :: r, a => by rw [ST.InL, ST.inL_iff n W r]; exact Iff.rfl
theorem ST.In_mk (n : Nat) (W : World) {op} {nm} {xa} {xc} {xl} {sa} {sc} {sl} : ST.In n W (.mk op nm xa xc xl sa sc sl) ↔ InRow 6 XT.cells (XT.In n W) n W xl xa ∧ InRow 4 ST.cells (ST.In n W) n W sl sa := by rw [ST.In, ST.inL_iff]
def BT.In (n : Nat) (W : World) (b : BT) : Prop := b.x.In n W
def PT.In (n : Nat) (W : World) (b : PT) : Prop := b.x.In n W
mutual
def IT.In (n : Nat) (W : World) : IT → Prop
 | .mk _ _ _ xa _ xl sa _ sl la _ ll ea _ el pa _ pl ba _ bl => InRow 6 XT.cells (XT.In n W) n W xl xa ∧ InRow 4 ST.cells (ST.In n W) n W sl sa ∧ IT.InL n W ll la ∧ IT.InL n W el ea ∧ InRow 7 BT.cells (BT.In n W) n W pl pa ∧ InRow 7 BT.cells (BT.In n W) n W bl ba
def IT.InL (n : Nat) (W : World) : List IT → Option Addr → Prop
 | [], _ => True
 | x :: r, a => (∃ b o, a = some ⟨b, o, none⟩ ∧ b < n ∧ RowC W b o x.cells) ∧ IT.In n W x ∧ IT.InL n W r (a.map fun p => p.add 9)
end
theorem IT.inL_iff (n : Nat) (W : World) : ∀ (l : List IT) (a : Option Addr), IT.InL n W l a ↔ InRow 9 IT.cells (IT.In n W) n W l a
 | [], a => by rw [IT.InL]; exact Iff.rfl
 | x :: r, a => by rw [IT.InL, IT.inL_iff n W r]; exact Iff.rfl
theorem IT.In_mk (n : Nat) (W : World) {op} {nm} {nf} {xa} {xc} {xl} {sa} {sc} {sl} {la} {lc} {ll} {ea} {ec} {el} {pa} {pc} {pl} {ba} {bc} {bl} : IT.In n W (.mk op nm nf xa xc xl sa sc sl la lc ll ea ec el pa pc pl ba bc bl) ↔ InRow 6 XT.cells (XT.In n W) n W xl xa ∧ InRow 4 ST.cells (ST.In n W) n W sl sa ∧ InRow 9 IT.cells (IT.In n W) n W ll la ∧ InRow 9 IT.cells (IT.In n W) n W el ea ∧ InRow 7 BT.cells (BT.In n W) n W pl pa ∧ InRow 7 BT.cells (BT.In n W) n W bl ba := by rw [IT.In, IT.inL_iff, IT.inL_iff]
def MT.In (n : Nat) (W : World) (m : MT) : Prop := InRow 7 BT.cells (BT.In n W) n W m.pl m.pa ∧ InRow 8 PT.cells (PT.In n W) n W m.tl m.ta ∧ InRow 9 IT.cells (IT.In n W) n W m.il m.ia
def FT.In (n : Nat) (W : World) (m : FT) : Prop := InRow 4 MT.cells (MT.In n W) n W m.ml m.ma
theorem ST.ind {P : ST → Prop} (h : ∀ op nm xa xc xl sa sc sl, (∀ x ∈ sl, P x) → P (.mk op nm xa xc xl sa sc sl)) : ∀ x, P x := ST.rec (motive_1 := P) (motive_2 := fun l => ∀ x ∈ l, P x) (fun op nm xa xc xl sa sc sl ih0 => h op nm xa xc xl sa sc sl ih0) (fun x hx => by cases hx) (fun x r hx hr y hy => by
 rcases List.mem_cons.1 hy with e | e
 ·exact e ▸ hx
 ·exact hr y e)
theorem IT.ind {P : IT → Prop} (h : ∀ op nm nf xa xc xl sa sc sl la lc ll ea ec el pa pc pl ba bc bl, (∀ x ∈ ll, P x) → (∀ x ∈ el, P x) → P (.mk op nm nf xa xc xl sa sc sl la lc ll ea ec el pa pc pl ba bc bl)) : ∀ x, P x := IT.rec (motive_1 := P) (motive_2 := fun l => ∀ x ∈ l, P x) (fun op nm nf xa xc xl sa sc sl la lc ll ea ec el pa pc pl ba bc bl ih0 ih1 => h op nm nf xa xc xl sa sc sl la lc ll ea ec el pa pc pl ba bc bl ih0 ih1) (fun x hx => by cases hx) (fun x r hx hr y hy => by
 rcases List.mem_cons.1 hy with e | e
 ·exact e ▸ hx
 ·exact hr y e)
theorem BT.In.keep {n : Nat} {W W' : World} (hk : KeptTo n W W') (x : BT) : x.In n W → x.In n W' := fun h => XT.In.keep hk _ h
theorem BT.In.less {n m : Nat} {W : World} (hm : n ≤ m) (x : BT) : x.In n W → x.In m W := fun h => XT.In.less hm _ h
theorem ST.In.keep {n : Nat} {W W' : World} (hk : KeptTo n W W') : ∀ x : ST, x.In n W → x.In n W' := ST.ind fun op nm xa xc xl sa sc sl ih0 h => by
 rw [ST.In_mk] at *
 obtain ⟨h0, h1⟩ := h
 exact ⟨h0.keep hk (fun x _ => XT.In.keep hk x), h1.keep hk ih0⟩
theorem ST.In.less {n m : Nat} {W : World} (hm : n ≤ m) : ∀ x : ST, x.In n W → x.In m W := ST.ind fun op nm xa xc xl sa sc sl ih0 h => by
 rw [ST.In_mk] at *
 obtain ⟨h0, h1⟩ := h
 exact ⟨h0.less hm (fun x _ => XT.In.less hm x), h1.less hm ih0⟩
theorem PT.In.keep {n : Nat} {W W' : World} (hk : KeptTo n W W') (x : PT) : x.In n W → x.In n W' := fun h => XT.In.keep hk _ h
theorem PT.In.less {n m : Nat} {W : World} (hm : n ≤ m) (x : PT) : x.In n W → x.In m W := fun h => XT.In.less hm _ h
theorem IT.In.keep {n : Nat} {W W' : World} (hk : KeptTo n W W') : ∀ x : IT, x.In n W → x.In n W' := IT.ind fun op nm nf xa xc xl sa sc sl la lc ll ea ec el pa pc pl ba bc bl ih0 ih1 h => by
 rw [IT.In_mk] at *
 obtain ⟨h0, h1, h2, h3, h4, h5⟩ := h
 exact ⟨h0.keep hk (fun x _ => XT.In.keep hk x), h1.keep hk (fun x _ => ST.In.keep hk x), h2.keep hk ih0, h3.keep hk ih1, h4.keep hk (fun x _ => BT.In.keep hk x), h5.keep hk (fun x _ => BT.In.keep hk x)⟩
theorem IT.In.less {n m : Nat} {W : World} (hm : n ≤ m) : ∀ x : IT, x.In n W → x.In m W := IT.ind fun op nm nf xa xc xl sa sc sl la lc ll ea ec el pa pc pl ba bc bl ih0 ih1 h => by
 rw [IT.In_mk] at *
 obtain ⟨h0, h1, h2, h3, h4, h5⟩ := h
 exact ⟨h0.less hm (fun x _ => XT.In.less hm x), h1.less hm (fun x _ => ST.In.less hm x), h2.less hm ih0, h3.less hm ih1, h4.less hm (fun x _ => BT.In.less hm x), h5.less hm (fun x _ => BT.In.less hm x)⟩
theorem MT.In.keep {n : Nat} {W W' : World} (hk : KeptTo n W W') (x : MT) : x.In n W → x.In n W' := fun ⟨h0, h1, h2⟩ => ⟨h0.keep hk (fun x _ => BT.In.keep hk x), h1.keep hk (fun x _ => PT.In.keep hk x), h2.keep hk (fun x _ => IT.In.keep hk x)⟩
theorem MT.In.less {n m : Nat} {W : World} (hm : n ≤ m) (x : MT) : x.In n W → x.In m W := fun ⟨h0, h1, h2⟩ => ⟨h0.less hm (fun x _ => BT.In.less hm x), h1.less hm (fun x _ => PT.In.less hm x), h2.less hm (fun x _ => IT.In.less hm x)⟩
theorem FT.In.keep {n : Nat} {W W' : World} (hk : KeptTo n W W') (x : FT) : x.In n W → x.In n W' := fun h => InRow.keep hk (fun x _ => MT.In.keep hk x) h
theorem FT.In.less {n m : Nat} {W : World} (hm : n ≤ m) (x : FT) : x.In n W → x.In m W := fun h => InRow.less hm (fun x _ => MT.In.less hm x) h
mutual
def ST.sz : ST → Nat | .mk _ _ _ _ xl _ _ sl => 1 + XT.szL xl + ST.szL sl
def ST.szL : List ST → Nat | [] => 0 | x :: r => ST.sz x + ST.szL r
end
mutual
def ST.dp : ST → Nat | .mk _ _ _ _ xl _ _ sl => 1 + (max (XT.dpL xl) (ST.dpL sl))
def ST.dpL : List ST → Nat | [] => 0 | x :: r => max (ST.dp x) (ST.dpL r)
end
mutual
def ST.ds (d : Nat) : ST → List Nat | .mk _ _ _ _ xl _ _ sl => d :: (XT.dsL (d + 1) xl ++ (ST.dsL (d + 1) sl))
def ST.dsL (d : Nat) : List ST → List Nat | [] => [] | x :: r => ST.ds d x ++ ST.dsL d r
end
mutual
def ST.bk : ST → Nat | .mk _ nm _ _ xl _ _ sl => 1 + nm.length + XT.bkL xl + ST.bkL sl
def ST.bkL : List ST → Nat | [] => 0 | x :: r => ST.bk x + ST.bkL r
end
mutual
def ST.Wf : ST → Prop | .mk _ _ _ _ xl _ _ sl => XT.WfL xl ∧ ST.WfL sl
def ST.WfL : List ST → Prop | [] => True | x :: r => ST.Wf x ∧ ST.WfL r
end
def BT.sz (b : BT) : Nat := 1 + b.x.sz
def BT.dp (b : BT) : Nat := 1 + b.x.dp
def BT.ds (d : Nat) (b : BT) : List Nat := d :: b.x.ds (d + 1)
def BT.bk (b : BT) : Nat := 1 + b.nm.length + b.x.bk
def BT.Wf (b : BT) : Prop := b.x.Wf
def BT.szL : List BT → Nat | [] => 0 | x :: r => x.sz + BT.szL r
def BT.bkL : List BT → Nat | [] => 0 | x :: r => x.bk + BT.bkL r
def BT.dpL : List BT → Nat | [] => 0 | x :: r => max x.dp (BT.dpL r)
def BT.dsL (d : Nat) : List BT → List Nat | [] => [] | x :: r => x.ds d ++ BT.dsL d r
def BT.WfL : List BT → Prop | [] => True | x :: r => x.Wf ∧ BT.WfL r
def PT.sz (b : PT) : Nat := 1 + b.x.sz
def PT.dp (b : PT) : Nat := 1 + b.x.dp
def PT.ds (d : Nat) (b : PT) : List Nat := d :: b.x.ds (d + 1)
def PT.bk (b : PT) : Nat := 1 + b.nm.length + b.x.bk
def PT.Wf (b : PT) : Prop := b.x.Wf
def PT.szL : List PT → Nat | [] => 0 | x :: r => x.sz + PT.szL r
def PT.bkL : List PT → Nat | [] => 0 | x :: r => x.bk + PT.bkL r
def PT.dpL : List PT → Nat | [] => 0 | x :: r => max x.dp (PT.dpL r)
def PT.dsL (d : Nat) : List PT → List Nat | [] => [] | x :: r => x.ds d ++ PT.dsL d r
def PT.WfL : List PT → Prop | [] => True | x :: r => x.Wf ∧ PT.WfL r
mutual
def IT.sz : IT → Nat | .mk _ _ _ _ _ xl _ _ sl _ _ ll _ _ el _ _ pl _ _ bl => 1 + XT.szL xl + ST.szL sl + IT.szL ll + IT.szL el + BT.szL pl + BT.szL bl
def IT.szL : List IT → Nat | [] => 0 | x :: r => IT.sz x + IT.szL r
end
mutual
def IT.dp : IT → Nat | .mk _ _ _ _ _ xl _ _ sl _ _ ll _ _ el _ _ pl _ _ bl => 1 + (max (XT.dpL xl) (max (ST.dpL sl) (max (IT.dpL ll) (max (IT.dpL el) (max (BT.dpL pl) (BT.dpL bl))))))
def IT.dpL : List IT → Nat | [] => 0 | x :: r => max (IT.dp x) (IT.dpL r)
end
mutual
def IT.ds (d : Nat) : IT → List Nat | .mk _ _ _ _ _ xl _ _ sl _ _ ll _ _ el _ _ pl _ _ bl => d :: (XT.dsL (d + 1) xl ++ (ST.dsL (d + 1) sl ++ (IT.dsL (d + 1) ll ++ (IT.dsL (d + 1) el ++ (BT.dsL (d + 1) pl ++ (BT.dsL (d + 1) bl))))))
def IT.dsL (d : Nat) : List IT → List Nat | [] => [] | x :: r => IT.ds d x ++ IT.dsL d r
end
mutual
def IT.bk : IT → Nat | .mk _ nm nf _ _ xl _ _ sl _ _ ll _ _ el _ _ pl _ _ bl => 1 + nm.length + nf.length + XT.bkL xl + ST.bkL sl + IT.bkL ll + IT.bkL el + BT.bkL pl + BT.bkL bl
def IT.bkL : List IT → Nat | [] => 0 | x :: r => IT.bk x + IT.bkL r
end
mutual
def IT.Wf : IT → Prop | .mk _ _ _ _ _ xl _ _ sl _ _ ll _ _ el _ _ pl _ _ bl => XT.WfL xl ∧ ST.WfL sl ∧ IT.WfL ll ∧ IT.WfL el ∧ BT.WfL pl ∧ BT.WfL bl
def IT.WfL : List IT → Prop | [] => True | x :: r => IT.Wf x ∧ IT.WfL r
end
def MT.sz : MT → Nat | ⟨_, _, _, pl, _, _, tl, _, _, il⟩ => 1 + BT.szL pl + PT.szL tl + IT.szL il
def MT.szL : List MT → Nat | [] => 0 | x :: r => MT.sz x + MT.szL r
def MT.dp : MT → Nat | ⟨_, _, _, pl, _, _, tl, _, _, il⟩ => 1 + (max (BT.dpL pl) (max (PT.dpL tl) (IT.dpL il)))
def MT.dpL : List MT → Nat | [] => 0 | x :: r => max (MT.dp x) (MT.dpL r)
def MT.ds (d : Nat) : MT → List Nat | ⟨_, _, _, pl, _, _, tl, _, _, il⟩ => d :: (BT.dsL (d + 1) pl ++ (PT.dsL (d + 1) tl ++ (IT.dsL (d + 1) il)))
def MT.dsL (d : Nat) : List MT → List Nat | [] => [] | x :: r => MT.ds d x ++ MT.dsL d r
def MT.bk : MT → Nat | ⟨nm, _, _, pl, _, _, tl, _, _, il⟩ => 1 + nm.length + BT.bkL pl + PT.bkL tl + IT.bkL il
def MT.bkL : List MT → Nat | [] => 0 | x :: r => MT.bk x + MT.bkL r
def MT.Wf : MT → Prop | ⟨_, _, _, pl, _, _, tl, _, _, il⟩ => BT.WfL pl ∧ PT.WfL tl ∧ IT.WfL il
def MT.WfL : List MT → Prop | [] => True | x :: r => MT.Wf x ∧ MT.WfL r
def FT.sz (f : FT) : Nat := MT.szL f.ml
def FT.dp (f : FT) : Nat := MT.dpL f.ml
def FT.ds (d : Nat) (f : FT) : List Nat := MT.dsL d f.ml
def FT.bk (f : FT) : Nat := 1 + MT.bkL f.ml
def FT.Wf (f : FT) : Prop := MT.WfL f.ml
theorem ST.dsL_flat (d : Nat) : ∀ l : List ST, ST.dsL d l = l.flatMap (ST.ds d)
 | [] => rfl
 | x :: r => by rw [ST.dsL, ST.dsL_flat d r]; rfl
theorem ST.wfL_iff : ∀ l : List ST, ST.WfL l ↔ ∀ x ∈ l, x.Wf
 | [] => by simp [ST.WfL]
 | x :: r => by simp [ST.WfL, ST.wfL_iff r]
theorem ST.szL_mem {x : ST} : ∀ {l : List ST}, x ∈ l → x.sz ≤ ST.szL l
 | y :: r, h => by
  rcases List.mem_cons.1 h with e | e
  ·subst e; simp [ST.szL]
  ·have := ST.szL_mem e; simp [ST.szL]; omega
theorem ST.bkL_mem {x : ST} : ∀ {l : List ST}, x ∈ l → x.bk ≤ ST.bkL l
 | y :: r, h => by
  rcases List.mem_cons.1 h with e | e
  ·subst e; simp [ST.bkL]
  ·have := ST.bkL_mem e; simp [ST.bkL]; omega
theorem ST.szL_app : ∀ l m : List ST, ST.szL (l ++ m) = ST.szL l + ST.szL m
 | [], m => by simp [ST.szL]
 | x :: r, m => by simp [ST.szL, ST.szL_app r m]; omega
theorem ST.dpL_app : ∀ l m : List ST, ST.dpL (l ++ m) = max (ST.dpL l) (ST.dpL m)
 | [], m => by simp [ST.dpL]
 | x :: r, m => by simp [ST.dpL, ST.dpL_app r m, Nat.max_assoc]
theorem ST.bk_pos : ∀ x : ST, 1 ≤ x.bk
 | .mk _ _ _ _ _ _ _ _ => by simp [ST.bk]; omega
theorem ST.sz_pos : ∀ x : ST, 1 ≤ x.sz
 | .mk _ _ _ _ _ _ _ _ => by simp [ST.sz]; omega
theorem ST.bkL_len : ∀ l : List ST, l.length ≤ ST.bkL l
 | [] => by simp [ST.bkL]
 | x :: r => by have := ST.bkL_len r; have := x.bk_pos; simp [ST.bkL]; omega
theorem ST.szL_of : ∀ l : List ST, (∀ x ∈ l, x.sz ≤ x.bk) → ST.szL l ≤ ST.bkL l
 | [], _ => by simp [ST.szL]
 | x :: r, h => by have := h x (by simp); have := ST.szL_of r (fun y hy => h y (by simp [hy])); simp [ST.szL, ST.bkL]; omega
theorem ST.szL_len : ∀ l : List ST, l.length ≤ ST.szL l
 | [] => by simp [ST.szL]
 | x :: r => by have := ST.szL_len r; have := x.sz_pos; simp [ST.szL]; omega
theorem ST.sz_bk : ∀ x : ST, x.sz ≤ x.bk := ST.ind fun op nm xa xc xl sa sc sl ih0 => by
 have := XT.szL_bk xl; have := ST.szL_of sl ih0
 simp [ST.sz, ST.bk]; omega
theorem ST.szL_bk (l : List ST) : ST.szL l ≤ ST.bkL l := ST.szL_of l (fun x _ => x.sz_bk)
theorem ST.ds_mk (d : Nat) {op} {nm} {xa} {xc} {xl} {sa} {sc} {sl} : ST.ds d (.mk op nm xa xc xl sa sc sl) = d :: (xl.flatMap (XT.ds (d + 1)) ++ (sl.flatMap (ST.ds (d + 1)))) := by rw [ST.ds]; simp only [ST.dsL_flat, XT.dsL_flat]
theorem BT.dsL_flat (d : Nat) : ∀ l : List BT, BT.dsL d l = l.flatMap (BT.ds d)
 | [] => rfl
 | x :: r => by rw [BT.dsL, BT.dsL_flat d r]; rfl
theorem BT.wfL_iff : ∀ l : List BT, BT.WfL l ↔ ∀ x ∈ l, x.Wf
 | [] => by simp [BT.WfL]
 | x :: r => by simp [BT.WfL, BT.wfL_iff r]
theorem BT.szL_mem {x : BT} : ∀ {l : List BT}, x ∈ l → x.sz ≤ BT.szL l
 | y :: r, h => by
  rcases List.mem_cons.1 h with e | e
  ·subst e; simp [BT.szL]
  ·have := BT.szL_mem e; simp [BT.szL]; omega
theorem BT.bkL_mem {x : BT} : ∀ {l : List BT}, x ∈ l → x.bk ≤ BT.bkL l
 | y :: r, h => by
  rcases List.mem_cons.1 h with e | e
  ·subst e; simp [BT.bkL]
  ·have := BT.bkL_mem e; simp [BT.bkL]; omega
theorem BT.szL_app : ∀ l m : List BT, BT.szL (l ++ m) = BT.szL l + BT.szL m
 | [], m => by simp [BT.szL]
 | x :: r, m => by simp [BT.szL, BT.szL_app r m]; omega
theorem BT.dpL_app : ∀ l m : List BT, BT.dpL (l ++ m) = max (BT.dpL l) (BT.dpL m)
 | [], m => by simp [BT.dpL]
 | x :: r, m => by simp [BT.dpL, BT.dpL_app r m, Nat.max_assoc]
theorem BT.bk_pos (x : BT) : 1 ≤ x.bk := by simp [BT.bk]; omega
theorem BT.sz_pos (x : BT) : 1 ≤ x.sz := by simp [BT.sz]
theorem BT.bkL_len : ∀ l : List BT, l.length ≤ BT.bkL l
 | [] => by simp [BT.bkL]
 | x :: r => by have := BT.bkL_len r; have := x.bk_pos; simp [BT.bkL]; omega
theorem BT.szL_of : ∀ l : List BT, (∀ x ∈ l, x.sz ≤ x.bk) → BT.szL l ≤ BT.bkL l
 | [], _ => by simp [BT.szL]
 | x :: r, h => by have := h x (by simp); have := BT.szL_of r (fun y hy => h y (by simp [hy])); simp [BT.szL, BT.bkL]; omega
theorem BT.szL_len : ∀ l : List BT, l.length ≤ BT.szL l
 | [] => by simp [BT.szL]
 | x :: r => by have := BT.szL_len r; have := x.sz_pos; simp [BT.szL]; omega
theorem BT.sz_bk (x : BT) : x.sz ≤ x.bk := by have := x.x.sz_bk; simp [BT.sz, BT.bk]; omega
theorem BT.szL_bk (l : List BT) : BT.szL l ≤ BT.bkL l := BT.szL_of l (fun x _ => x.sz_bk)
theorem BT.ds_x (d : Nat) (x : BT) : x.ds d = d :: x.x.ds (d + 1) := rfl
theorem PT.dsL_flat (d : Nat) : ∀ l : List PT, PT.dsL d l = l.flatMap (PT.ds d)
 | [] => rfl
 | x :: r => by rw [PT.dsL, PT.dsL_flat d r]; rfl
theorem PT.wfL_iff : ∀ l : List PT, PT.WfL l ↔ ∀ x ∈ l, x.Wf
 | [] => by simp [PT.WfL]
 | x :: r => by simp [PT.WfL, PT.wfL_iff r]
theorem PT.szL_mem {x : PT} : ∀ {l : List PT}, x ∈ l → x.sz ≤ PT.szL l
 | y :: r, h => by
  rcases List.mem_cons.1 h with e | e
  ·subst e; simp [PT.szL]
  ·have := PT.szL_mem e; simp [PT.szL]; omega
theorem PT.bkL_mem {x : PT} : ∀ {l : List PT}, x ∈ l → x.bk ≤ PT.bkL l
 | y :: r, h => by
  rcases List.mem_cons.1 h with e | e
  ·subst e; simp [PT.bkL]
  ·have := PT.bkL_mem e; simp [PT.bkL]; omega
theorem PT.szL_app : ∀ l m : List PT, PT.szL (l ++ m) = PT.szL l + PT.szL m
 | [], m => by simp [PT.szL]
 | x :: r, m => by simp [PT.szL, PT.szL_app r m]; omega
theorem PT.dpL_app : ∀ l m : List PT, PT.dpL (l ++ m) = max (PT.dpL l) (PT.dpL m)
 | [], m => by simp [PT.dpL]
 | x :: r, m => by simp [PT.dpL, PT.dpL_app r m, Nat.max_assoc]
theorem PT.bk_pos (x : PT) : 1 ≤ x.bk := by simp [PT.bk]; omega
theorem PT.sz_pos (x : PT) : 1 ≤ x.sz := by simp [PT.sz]
theorem PT.bkL_len : ∀ l : List PT, l.length ≤ PT.bkL l
 | [] => by simp [PT.bkL]
 | x :: r => by have := PT.bkL_len r; have := x.bk_pos; simp [PT.bkL]; omega
theorem PT.szL_of : ∀ l : List PT, (∀ x ∈ l, x.sz ≤ x.bk) → PT.szL l ≤ PT.bkL l
 | [], _ => by simp [PT.szL]
 | x :: r, h => by have := h x (by simp); have := PT.szL_of r (fun y hy => h y (by simp [hy])); simp [PT.szL, PT.bkL]; omega
theorem PT.szL_len : ∀ l : List PT, l.length ≤ PT.szL l
 | [] => by simp [PT.szL]
 | x :: r => by have := PT.szL_len r; have := x.sz_pos; simp [PT.szL]; omega
theorem PT.sz_bk (x : PT) : x.sz ≤ x.bk := by have := x.x.sz_bk; simp [PT.sz, PT.bk]; omega
theorem PT.szL_bk (l : List PT) : PT.szL l ≤ PT.bkL l := PT.szL_of l (fun x _ => x.sz_bk)
theorem PT.ds_x (d : Nat) (x : PT) : x.ds d = d :: x.x.ds (d + 1) := rfl
theorem IT.dsL_flat (d : Nat) : ∀ l : List IT, IT.dsL d l = l.flatMap (IT.ds d)
 | [] => rfl
 | x :: r => by rw [IT.dsL, IT.dsL_flat d r]; rfl
theorem IT.wfL_iff : ∀ l : List IT, IT.WfL l ↔ ∀ x ∈ l, x.Wf
 | [] => by simp [IT.WfL]
 | x :: r => by simp [IT.WfL, IT.wfL_iff r]
theorem IT.szL_mem {x : IT} : ∀ {l : List IT}, x ∈ l → x.sz ≤ IT.szL l
 | y :: r, h => by
  rcases List.mem_cons.1 h with e | e
  ·subst e; simp [IT.szL]
  ·have := IT.szL_mem e; simp [IT.szL]; omega
theorem IT.bkL_mem {x : IT} : ∀ {l : List IT}, x ∈ l → x.bk ≤ IT.bkL l
 | y :: r, h => by
  rcases List.mem_cons.1 h with e | e
  ·subst e; simp [IT.bkL]
  ·have := IT.bkL_mem e; simp [IT.bkL]; omega
theorem IT.szL_app : ∀ l m : List IT, IT.szL (l ++ m) = IT.szL l + IT.szL m
 | [], m => by simp [IT.szL]
 | x :: r, m => by simp [IT.szL, IT.szL_app r m]; omega
theorem IT.dpL_app : ∀ l m : List IT, IT.dpL (l ++ m) = max (IT.dpL l) (IT.dpL m)
 | [], m => by simp [IT.dpL]
 | x :: r, m => by simp [IT.dpL, IT.dpL_app r m, Nat.max_assoc]
theorem IT.bk_pos : ∀ x : IT, 1 ≤ x.bk
 | .mk _ _ _ _ _ _ _ _ _ _ _ _ _ _ _ _ _ _ _ _ _ => by simp [IT.bk]; omega
theorem IT.sz_pos : ∀ x : IT, 1 ≤ x.sz
 | .mk _ _ _ _ _ _ _ _ _ _ _ _ _ _ _ _ _ _ _ _ _ => by simp [IT.sz]; omega
theorem IT.bkL_len : ∀ l : List IT, l.length ≤ IT.bkL l
 | [] => by simp [IT.bkL]
 | x :: r => by have := IT.bkL_len r; have := x.bk_pos; simp [IT.bkL]; omega
theorem IT.szL_of : ∀ l : List IT, (∀ x ∈ l, x.sz ≤ x.bk) → IT.szL l ≤ IT.bkL l
 | [], _ => by simp [IT.szL]
 | x :: r, h => by have := h x (by simp); have := IT.szL_of r (fun y hy => h y (by simp [hy])); simp [IT.szL, IT.bkL]; omega
theorem IT.szL_len : ∀ l : List IT, l.length ≤ IT.szL l
 | [] => by simp [IT.szL]
 | x :: r => by have := IT.szL_len r; have := x.sz_pos; simp [IT.szL]; omega
theorem IT.sz_bk : ∀ x : IT, x.sz ≤ x.bk := IT.ind fun op nm nf xa xc xl sa sc sl la lc ll ea ec el pa pc pl ba bc bl ih0 ih1 => by
 have := XT.szL_bk xl; have := ST.szL_bk sl; have := IT.szL_of ll ih0; have := IT.szL_of el ih1; have := BT.szL_bk pl; have := BT.szL_bk bl
 simp [IT.sz, IT.bk]; omega
theorem IT.szL_bk (l : List IT) : IT.szL l ≤ IT.bkL l := IT.szL_of l (fun x _ => x.sz_bk)
theorem IT.ds_mk (d : Nat) {op} {nm} {nf} {xa} {xc} {xl} {sa} {sc} {sl} {la} {lc} {ll} {ea} {ec} {el} {pa} {pc} {pl} {ba} {bc} {bl} : IT.ds d (.mk op nm nf xa xc xl sa sc sl la lc ll ea ec el pa pc pl ba bc bl) = d :: (xl.flatMap (XT.ds (d + 1)) ++ (sl.flatMap (ST.ds (d + 1)) ++ (ll.flatMap (IT.ds (d + 1)) ++ (el.flatMap (IT.ds (d + 1)) ++ (pl.flatMap (BT.ds (d + 1)) ++ (bl.flatMap (BT.ds (d + 1)))))))) := by rw [IT.ds]; simp only [BT.dsL_flat, IT.dsL_flat, ST.dsL_flat, XT.dsL_flat]
theorem MT.dsL_flat (d : Nat) : ∀ l : List MT, MT.dsL d l = l.flatMap (MT.ds d)
 | [] => rfl
 | x :: r => by rw [MT.dsL, MT.dsL_flat d r]; rfl
theorem MT.wfL_iff : ∀ l : List MT, MT.WfL l ↔ ∀ x ∈ l, x.Wf
 | [] => by simp [MT.WfL]
 | x :: r => by simp [MT.WfL, MT.wfL_iff r]
theorem MT.szL_mem {x : MT} : ∀ {l : List MT}, x ∈ l → x.sz ≤ MT.szL l
 | y :: r, h => by
  rcases List.mem_cons.1 h with e | e
  ·subst e; simp [MT.szL]
  ·have := MT.szL_mem e; simp [MT.szL]; omega
theorem MT.bkL_mem {x : MT} : ∀ {l : List MT}, x ∈ l → x.bk ≤ MT.bkL l
 | y :: r, h => by
  rcases List.mem_cons.1 h with e | e
  ·subst e; simp [MT.bkL]
  ·have := MT.bkL_mem e; simp [MT.bkL]; omega
theorem MT.szL_app : ∀ l m : List MT, MT.szL (l ++ m) = MT.szL l + MT.szL m
 | [], m => by simp [MT.szL]
 | x :: r, m => by simp [MT.szL, MT.szL_app r m]; omega
theorem MT.dpL_app : ∀ l m : List MT, MT.dpL (l ++ m) = max (MT.dpL l) (MT.dpL m)
 | [], m => by simp [MT.dpL]
 | x :: r, m => by simp [MT.dpL, MT.dpL_app r m, Nat.max_assoc]
theorem MT.bk_pos (x : MT) : 1 ≤ x.bk := by simp [MT.bk]; omega
theorem MT.sz_pos (x : MT) : 1 ≤ x.sz := by simp [MT.sz]; omega
theorem MT.bkL_len : ∀ l : List MT, l.length ≤ MT.bkL l
 | [] => by simp [MT.bkL]
 | x :: r => by have := MT.bkL_len r; have := x.bk_pos; simp [MT.bkL]; omega
theorem MT.szL_of : ∀ l : List MT, (∀ x ∈ l, x.sz ≤ x.bk) → MT.szL l ≤ MT.bkL l
 | [], _ => by simp [MT.szL]
 | x :: r, h => by have := h x (by simp); have := MT.szL_of r (fun y hy => h y (by simp [hy])); simp [MT.szL, MT.bkL]; omega
theorem MT.szL_len : ∀ l : List MT, l.length ≤ MT.szL l
 | [] => by simp [MT.szL]
 | x :: r => by have := MT.szL_len r; have := x.sz_pos; simp [MT.szL]; omega
theorem MT.sz_bk (x : MT) : x.sz ≤ x.bk := by have := BT.szL_bk x.pl; have := PT.szL_bk x.tl; have := IT.szL_bk x.il; simp [MT.sz, MT.bk]; omega
theorem MT.szL_bk (l : List MT) : MT.szL l ≤ MT.bkL l := MT.szL_of l (fun x _ => x.sz_bk)
theorem MT.ds_x (d : Nat) (x : MT) : x.ds d = d :: (x.pl.flatMap (BT.ds (d + 1)) ++ (x.tl.flatMap (PT.ds (d + 1)) ++ (x.il.flatMap (IT.ds (d + 1))))) := by rw [MT.ds]; simp only [BT.dsL_flat, IT.dsL_flat, PT.dsL_flat]
theorem XT.szL_len : ∀ l : List XT, l.length ≤ XT.szL l
 | [] => by simp [XT.szL]
 | x :: r => by have := XT.szL_len r; have := x.sz_pos; simp [XT.szL]; omega
end Go.Proofs.YtiipjbafdhijlaaGreatDoor
