/-
  Designs as data: expressions, statements, processes, checks, signals, designs: where they lie in memory, how great they are. No program.
-/
import Derived.Test.YtbcgeglkmpcnpaaDoorAsD
namespace Go.Proofs.YtbcgeglkmpcnpaaDoor
open Go Go.RowKit
set_option linter.unusedVariables false
set_option linter.unusedSimpArgs false

inductive ET where
  | mk (op wd : Int) (v : Nat) (sg hi lo xn : Int) (xa : Option Addr) (xc : Nat) (xl : List ET)
inductive TT where
  | mk (op sg hi lo : Int) (xa : Option Addr) (xc : Nat) (xl : List ET) (sa : Option Addr) (sc : Nat) (sl : List TT)
structure QT where
  ck : Bool
  sa : Option Addr
  sc : Nat
  sl : List TT
structure KT where
  nm : Bytes
  x : ET
/-- A signal. -/
structure GT where
  nm : Bytes
  wd : Int
  kd : Int
  ini : Nat
/-- A design: where its signals, processes, checks lie. -/
structure DT where
  ga : Option Addr
  gc : Nat
  gl : List GT
  qa : Option Addr
  qc : Nat
  ql : List QT
  ka : Option Addr
  kc : Nat
  kl : List KT
def ET.cells : ET → List Value | .mk op wd v sg uh ul xn xa xc xl => [.int .i64 op, .int .i64 wd, .int .u64 (v : Int), .int .i64 sg, .int .i64 uh, .int .i64 ul, .int .i64 xn, .slice xa xl.length xc]
def ET.val (x : ET) : Value := .agg x.cells.toArray
def TT.cells : TT → List Value | .mk op sg uh ul xa xc xl sa sc sl => [.int .i64 op, .int .i64 sg, .int .i64 uh, .int .i64 ul, .slice xa xl.length xc, .slice sa sl.length sc]
def TT.val (x : TT) : Value := .agg x.cells.toArray
def QT.cells : QT → List Value | ⟨ck, sa, sc, sl⟩ => [.bool ck, .slice sa sl.length sc]
def QT.val (x : QT) : Value := .agg x.cells.toArray
def KT.cells : KT → List Value | ⟨bn, x⟩ => .string (bs bn) :: x.cells
def KT.val (x : KT) : Value := .agg x.cells.toArray
def GT.cells : GT → List Value | ⟨nm, wd, kd, ini⟩ => [.string (bs nm), .int .i64 wd, .int .i64 kd, .int .u64 (ini : Int)]
def GT.val (x : GT) : Value := .agg x.cells.toArray
def DT.cells : DT → List Value | ⟨ga, gc, gl, qa, qc, ql, ka, kc, kl⟩ => [.slice ga gl.length gc, .slice qa ql.length qc, .slice ka kl.length kc]
def DT.val (x : DT) : Value := .agg x.cells.toArray
mutual
def ET.In (n : Nat) (W : World) : ET → Prop
  | .mk _ _ _ _ _ _ _ xa _ xl => ET.InL n W xl xa
def ET.InL (n : Nat) (W : World) : List ET → Option Addr → Prop
  | [], _ => True
  | x :: r, a => (∃ b o, a = some ⟨b, o, none⟩ ∧ b < n ∧ RowC W b o x.cells) ∧ ET.In n W x ∧ ET.InL n W r (a.map fun p => p.add 8)
end
theorem ET.inL_iff (n : Nat) (W : World) : ∀ (l : List ET) (a : Option Addr), ET.InL n W l a ↔ InRow 8 ET.cells (ET.In n W) n W l a
  | [], a => by rw [ET.InL]; exact Iff.rfl
  | x :: r, a => by rw [ET.InL, ET.inL_iff n W r]; exact Iff.rfl
theorem ET.In_mk (n : Nat) (W : World) {op} {wd} {v} {sg} {uh} {ul} {xn} {xa} {xc} {xl} : ET.In n W (.mk op wd v sg uh ul xn xa xc xl) ↔ InRow 8 ET.cells (ET.In n W) n W xl xa := by rw [ET.In, ET.inL_iff]
theorem ET.ind {P : ET → Prop} (h : ∀ op wd v sg uh ul xn xa xc xl, (∀ x ∈ xl, P x) → P (.mk op wd v sg uh ul xn xa xc xl)) : ∀ x, P x := ET.rec (motive_1 := P) (motive_2 := fun l => ∀ x ∈ l, P x) (fun op wd v sg uh ul xn xa xc xl ih => h op wd v sg uh ul xn xa xc xl ih) (fun x hx => by cases hx) (fun x r hx hr y hy => by
  rcases List.mem_cons.1 hy with e | e
  · exact e ▸ hx
  · exact hr y e)
theorem ET.In.keep {n : Nat} {W W' : World} (hk : KeptTo n W W') : ∀ x : ET, x.In n W → x.In n W' := ET.ind fun op wd v sg uh ul xn xa xc xl ih h0 => by
  rw [ET.In_mk] at *
  exact h0.keep hk ih
theorem ET.In.less {n m : Nat} {W : World} (hm : n ≤ m) : ∀ x : ET, x.In n W → x.In m W := ET.ind fun op wd v sg uh ul xn xa xc xl ih h0 => by
  rw [ET.In_mk] at *
  exact h0.less hm ih
mutual
def TT.In (n : Nat) (W : World) : TT → Prop
  | .mk _ _ _ _ xa _ xl sa _ sl => InRow 8 ET.cells (ET.In n W) n W xl xa ∧ TT.InL n W sl sa
def TT.InL (n : Nat) (W : World) : List TT → Option Addr → Prop
  | [], _ => True
  | x :: r, a => (∃ b o, a = some ⟨b, o, none⟩ ∧ b < n ∧ RowC W b o x.cells) ∧ TT.In n W x ∧ TT.InL n W r (a.map fun p => p.add 6)
end
theorem TT.inL_iff (n : Nat) (W : World) : ∀ (l : List TT) (a : Option Addr), TT.InL n W l a ↔ InRow 6 TT.cells (TT.In n W) n W l a
  | [], a => by rw [TT.InL]; exact Iff.rfl
  | x :: r, a => by rw [TT.InL, TT.inL_iff n W r]; exact Iff.rfl
theorem TT.In_mk (n : Nat) (W : World) {op} {sg} {uh} {ul} {xa} {xc} {xl} {sa} {sc} {sl} : TT.In n W (.mk op sg uh ul xa xc xl sa sc sl) ↔ InRow 8 ET.cells (ET.In n W) n W xl xa ∧ InRow 6 TT.cells (TT.In n W) n W sl sa := by rw [TT.In, TT.inL_iff]
theorem TT.ind {P : TT → Prop} (h : ∀ op sg uh ul xa xc xl sa sc sl, (∀ x ∈ sl, P x) → P (.mk op sg uh ul xa xc xl sa sc sl)) : ∀ x, P x := TT.rec (motive_1 := P) (motive_2 := fun l => ∀ x ∈ l, P x) (fun op sg uh ul xa xc xl sa sc sl ih => h op sg uh ul xa xc xl sa sc sl ih) (fun x hx => by cases hx) (fun x r hx hr y hy => by
  rcases List.mem_cons.1 hy with e | e
  · exact e ▸ hx
  · exact hr y e)
theorem TT.In.keep {n : Nat} {W W' : World} (hk : KeptTo n W W') : ∀ x : TT, x.In n W → x.In n W' := TT.ind fun op sg uh ul xa xc xl sa sc sl ih h => by
  rw [TT.In_mk] at *
  obtain ⟨h0, h1⟩ := h
  exact ⟨h0.keep hk (fun x _ => ET.In.keep hk x), h1.keep hk ih⟩
theorem TT.In.less {n m : Nat} {W : World} (hm : n ≤ m) : ∀ x : TT, x.In n W → x.In m W := TT.ind fun op sg uh ul xa xc xl sa sc sl ih h => by
  rw [TT.In_mk] at *
  obtain ⟨h0, h1⟩ := h
  exact ⟨h0.less hm (fun x _ => ET.In.less hm x), h1.less hm ih⟩
def QT.In (n : Nat) (W : World) (m : QT) : Prop := InRow 6 TT.cells (TT.In n W) n W m.sl m.sa
def KT.In (n : Nat) (W : World) (b : KT) : Prop := b.x.In n W
theorem QT.In.keep {n : Nat} {W W' : World} (hk : KeptTo n W W') (x : QT) : x.In n W → x.In n W' := fun h => InRow.keep hk (fun x _ => TT.In.keep hk x) h
theorem QT.In.less {n m : Nat} {W : World} (hm : n ≤ m) (x : QT) : x.In n W → x.In m W := fun h => InRow.less hm (fun x _ => TT.In.less hm x) h
theorem KT.In.keep {n : Nat} {W W' : World} (hk : KeptTo n W W') (x : KT) : x.In n W → x.In n W' := fun h => ET.In.keep hk x.x h
theorem KT.In.less {n m : Nat} {W : World} (hm : n ≤ m) (x : KT) : x.In n W → x.In m W := fun h => ET.In.less hm x.x h
def DT.In (n : Nat) (W : World) (d : DT) : Prop := InRow 4 GT.cells (fun _ => True) n W d.gl d.ga ∧ InRow 2 QT.cells (QT.In n W) n W d.ql d.qa ∧ InRow 9 KT.cells (KT.In n W) n W d.kl d.ka
theorem DT.In.keep {n : Nat} {W W' : World} (hk : KeptTo n W W') (x : DT) : x.In n W → x.In n W' := fun ⟨h0, h1, h2⟩ => ⟨InRow.keep hk (fun _ _ h => h) h0, InRow.keep hk (fun x _ => QT.In.keep hk x) h1, InRow.keep hk (fun x _ => KT.In.keep hk x) h2⟩
theorem DT.In.less {n m : Nat} {W : World} (hm : n ≤ m) (x : DT) : x.In n W → x.In m W := fun ⟨h0, h1, h2⟩ => ⟨InRow.less hm (fun _ _ h => h) h0, InRow.less hm (fun x _ => QT.In.less hm x) h1, InRow.less hm (fun x _ => KT.In.less hm x) h2⟩
mutual
def ET.sz : ET → Nat | .mk _ _ _ _ _ _ _ _ _ xl => 1 + ET.szL xl
def ET.szL : List ET → Nat | [] => 0 | x :: r => ET.sz x + ET.szL r
end
mutual
def TT.sz : TT → Nat | .mk _ _ _ _ _ _ xl _ _ sl => 1 + ET.szL xl + TT.szL sl
def TT.szL : List TT → Nat | [] => 0 | x :: r => TT.sz x + TT.szL r
end
def QT.sz : QT → Nat | ⟨_, _, _, sl⟩ => 1 + TT.szL sl
def QT.szL : List QT → Nat | [] => 0 | x :: r => QT.sz x + QT.szL r
def KT.sz : KT → Nat | ⟨_, x⟩ => 1 + x.sz
def KT.szL : List KT → Nat | [] => 0 | x :: r => KT.sz x + KT.szL r
mutual
def ET.dp : ET → Nat | .mk _ _ _ _ _ _ _ _ _ xl => 1 + ET.dpL xl
def ET.dpL : List ET → Nat | [] => 0 | x :: r => max (ET.dp x) (ET.dpL r)
end
mutual
def TT.dp : TT → Nat | .mk _ _ _ _ _ _ xl _ _ sl => 1 + max (ET.dpL xl) (TT.dpL sl)
def TT.dpL : List TT → Nat | [] => 0 | x :: r => max (TT.dp x) (TT.dpL r)
end
mutual
def ET.bk : ET → Nat | .mk _ _ _ _ _ _ _ _ _ xl => 1 + ET.bkL xl
def ET.bkL : List ET → Nat | [] => 0 | x :: r => ET.bk x + ET.bkL r
end
mutual
def TT.bk : TT → Nat | .mk _ _ _ _ _ _ xl _ _ sl => 1 + ET.bkL xl + TT.bkL sl
def TT.bkL : List TT → Nat | [] => 0 | x :: r => TT.bk x + TT.bkL r
end
def QT.bk : QT → Nat | ⟨_, _, _, sl⟩ => 1 + TT.bkL sl
def QT.bkL : List QT → Nat | [] => 0 | x :: r => QT.bk x + QT.bkL r
def KT.bk : KT → Nat | ⟨bn, x⟩ => 1 + bn.length + x.bk
def KT.bkL : List KT → Nat | [] => 0 | x :: r => KT.bk x + KT.bkL r
def GT.bk (x : GT) : Nat := 1 + x.nm.length
def GT.bkL : List GT → Nat | [] => 0 | x :: r => x.bk + GT.bkL r
def DT.bk (d : DT) : Nat := 1 + GT.bkL d.gl + QT.bkL d.ql + KT.bkL d.kl
mutual
def ET.Wf : ET → Prop | .mk _ _ v _ _ _ _ _ _ xl => v < 18446744073709551616 ∧ ET.WfL xl
def ET.WfL : List ET → Prop | [] => True | x :: r => ET.Wf x ∧ ET.WfL r
end
mutual
def TT.Wf : TT → Prop | .mk _ _ _ _ _ _ xl _ _ sl => ET.WfL xl ∧ TT.WfL sl
def TT.WfL : List TT → Prop | [] => True | x :: r => TT.Wf x ∧ TT.WfL r
end
def QT.Wf : QT → Prop | ⟨_, _, _, sl⟩ => TT.WfL sl
def QT.WfL : List QT → Prop | [] => True | x :: r => QT.Wf x ∧ QT.WfL r
def KT.Wf : KT → Prop | ⟨_, x⟩ => x.Wf
def KT.WfL : List KT → Prop | [] => True | x :: r => KT.Wf x ∧ KT.WfL r
def GT.Wf (x : GT) : Prop := x.ini < 18446744073709551616
def DT.Wf (d : DT) : Prop := (∀ g ∈ d.gl, g.Wf) ∧ QT.WfL d.ql ∧ KT.WfL d.kl
theorem ET.wfL_iff : ∀ l : List ET, ET.WfL l ↔ ∀ x ∈ l, x.Wf
  | [] => by simp [ET.WfL]
  | x :: r => by simp [ET.WfL, ET.wfL_iff r]
theorem ET.szL_mem {x : ET} : ∀ {l : List ET}, x ∈ l → x.sz ≤ ET.szL l
  | y :: r, h => by
    rcases List.mem_cons.1 h with e | e
    · subst e; simp [ET.szL]
    · have := ET.szL_mem e; simp [ET.szL]; omega
theorem ET.szL_app : ∀ l m : List ET, ET.szL (l ++ m) = ET.szL l + ET.szL m
  | [], m => by simp [ET.szL]
  | x :: r, m => by simp [ET.szL, ET.szL_app r m]; omega
theorem ET.szL_take (l : List ET) (k : Nat) (h : k < l.length) : ET.szL (l.take (k + 1)) = ET.szL (l.take k) + l[k].sz := by
  rw [List.take_succ_eq_append_getElem h, ET.szL_app]; simp [ET.szL]
theorem ET.szL_take_le (l : List ET) (k : Nat) : ET.szL (l.take k) ≤ ET.szL l := by
  have h := ET.szL_app (l.take k) (l.drop k)
  rw [List.take_append_drop] at h
  omega
theorem ET.sz_pos : ∀ x : ET, 1 ≤ x.sz
  | .mk _ _ _ _ _ _ _ _ _ _ => by simp [ET.sz]
theorem ET.szL_len : ∀ l : List ET, l.length ≤ ET.szL l
  | [] => by simp [ET.szL]
  | x :: r => by have := ET.szL_len r; have := x.sz_pos; simp [ET.szL]; omega
theorem ET.bkL_mem {x : ET} : ∀ {l : List ET}, x ∈ l → x.bk ≤ ET.bkL l
  | y :: r, h => by
    rcases List.mem_cons.1 h with e | e
    · subst e; simp [ET.bkL]
    · have := ET.bkL_mem e; simp [ET.bkL]; omega
theorem ET.bkL_app : ∀ l m : List ET, ET.bkL (l ++ m) = ET.bkL l + ET.bkL m
  | [], m => by simp [ET.bkL]
  | x :: r, m => by simp [ET.bkL, ET.bkL_app r m]; omega
theorem ET.bkL_take (l : List ET) (k : Nat) (h : k < l.length) : ET.bkL (l.take (k + 1)) = ET.bkL (l.take k) + l[k].bk := by
  rw [List.take_succ_eq_append_getElem h, ET.bkL_app]; simp [ET.bkL]
theorem ET.bkL_take_le (l : List ET) (k : Nat) : ET.bkL (l.take k) ≤ ET.bkL l := by
  have h := ET.bkL_app (l.take k) (l.drop k)
  rw [List.take_append_drop] at h
  omega
theorem ET.bk_pos : ∀ x : ET, 1 ≤ x.bk
  | .mk _ _ _ _ _ _ _ _ _ _ => by simp [ET.bk]
theorem ET.bkL_len : ∀ l : List ET, l.length ≤ ET.bkL l
  | [] => by simp [ET.bkL]
  | x :: r => by have := ET.bkL_len r; have := x.bk_pos; simp [ET.bkL]; omega
theorem ET.szL_of : ∀ l : List ET, (∀ x ∈ l, x.sz ≤ x.bk) → ET.szL l ≤ ET.bkL l
  | [], _ => by simp [ET.szL]
  | x :: r, h => by have := h x (by simp); have := ET.szL_of r (fun y hy => h y (by simp [hy])); simp [ET.szL, ET.bkL]; omega
theorem ET.sz_bk : ∀ x : ET, x.sz ≤ x.bk := ET.ind fun op wd v sg uh ul xn xa xc xl ih => by
  have := ET.szL_of xl ih
  simp [ET.sz, ET.bk]; omega
theorem ET.szL_bk (l : List ET) : ET.szL l ≤ ET.bkL l := ET.szL_of l (fun x _ => x.sz_bk)
theorem ET.dpL_app : ∀ l m : List ET, ET.dpL (l ++ m) = max (ET.dpL l) (ET.dpL m)
  | [], m => by simp [ET.dpL]
  | x :: r, m => by simp [ET.dpL, ET.dpL_app r m, Nat.max_assoc]
theorem ET.dpL_take (l : List ET) (k : Nat) (h : k < l.length) : ET.dpL (l.take (k + 1)) = max (ET.dpL (l.take k)) l[k].dp := by
  rw [List.take_succ_eq_append_getElem h, ET.dpL_app]; simp [ET.dpL]
theorem ET.dpL_of : ∀ l : List ET, (∀ x ∈ l, x.dp ≤ x.sz) → ET.dpL l ≤ ET.szL l
  | [], _ => by simp [ET.dpL]
  | x :: r, h => by have := h x (by simp); have := ET.dpL_of r (fun y hy => h y (by simp [hy])); simp [ET.szL, ET.dpL]; omega
theorem ET.dp_sz : ∀ x : ET, x.dp ≤ x.sz := ET.ind fun op wd v sg uh ul xn xa xc xl ih => by
  have := ET.dpL_of xl ih
  simp [ET.sz, ET.dp]; omega
theorem ET.dpL_sz (l : List ET) : ET.dpL l ≤ ET.szL l := ET.dpL_of l (fun x _ => x.dp_sz)
theorem TT.wfL_iff : ∀ l : List TT, TT.WfL l ↔ ∀ x ∈ l, x.Wf
  | [] => by simp [TT.WfL]
  | x :: r => by simp [TT.WfL, TT.wfL_iff r]
theorem TT.szL_mem {x : TT} : ∀ {l : List TT}, x ∈ l → x.sz ≤ TT.szL l
  | y :: r, h => by
    rcases List.mem_cons.1 h with e | e
    · subst e; simp [TT.szL]
    · have := TT.szL_mem e; simp [TT.szL]; omega
theorem TT.szL_app : ∀ l m : List TT, TT.szL (l ++ m) = TT.szL l + TT.szL m
  | [], m => by simp [TT.szL]
  | x :: r, m => by simp [TT.szL, TT.szL_app r m]; omega
theorem TT.szL_take (l : List TT) (k : Nat) (h : k < l.length) : TT.szL (l.take (k + 1)) = TT.szL (l.take k) + l[k].sz := by
  rw [List.take_succ_eq_append_getElem h, TT.szL_app]; simp [TT.szL]
theorem TT.szL_take_le (l : List TT) (k : Nat) : TT.szL (l.take k) ≤ TT.szL l := by
  have h := TT.szL_app (l.take k) (l.drop k)
  rw [List.take_append_drop] at h
  omega
theorem TT.sz_pos : ∀ x : TT, 1 ≤ x.sz
  | .mk _ _ _ _ _ _ _ _ _ _ => by simp [TT.sz]; omega
theorem TT.szL_len : ∀ l : List TT, l.length ≤ TT.szL l
  | [] => by simp [TT.szL]
  | x :: r => by have := TT.szL_len r; have := x.sz_pos; simp [TT.szL]; omega
theorem TT.bkL_mem {x : TT} : ∀ {l : List TT}, x ∈ l → x.bk ≤ TT.bkL l
  | y :: r, h => by
    rcases List.mem_cons.1 h with e | e
    · subst e; simp [TT.bkL]
    · have := TT.bkL_mem e; simp [TT.bkL]; omega
theorem TT.bkL_app : ∀ l m : List TT, TT.bkL (l ++ m) = TT.bkL l + TT.bkL m
  | [], m => by simp [TT.bkL]
  | x :: r, m => by simp [TT.bkL, TT.bkL_app r m]; omega
theorem TT.bkL_take (l : List TT) (k : Nat) (h : k < l.length) : TT.bkL (l.take (k + 1)) = TT.bkL (l.take k) + l[k].bk := by
  rw [List.take_succ_eq_append_getElem h, TT.bkL_app]; simp [TT.bkL]
theorem TT.bkL_take_le (l : List TT) (k : Nat) : TT.bkL (l.take k) ≤ TT.bkL l := by
  have h := TT.bkL_app (l.take k) (l.drop k)
  rw [List.take_append_drop] at h
  omega
theorem TT.bk_pos : ∀ x : TT, 1 ≤ x.bk
  | .mk _ _ _ _ _ _ _ _ _ _ => by simp [TT.bk]; omega
theorem TT.bkL_len : ∀ l : List TT, l.length ≤ TT.bkL l
  | [] => by simp [TT.bkL]
  | x :: r => by have := TT.bkL_len r; have := x.bk_pos; simp [TT.bkL]; omega
theorem TT.szL_of : ∀ l : List TT, (∀ x ∈ l, x.sz ≤ x.bk) → TT.szL l ≤ TT.bkL l
  | [], _ => by simp [TT.szL]
  | x :: r, h => by have := h x (by simp); have := TT.szL_of r (fun y hy => h y (by simp [hy])); simp [TT.szL, TT.bkL]; omega
theorem TT.sz_bk : ∀ x : TT, x.sz ≤ x.bk := TT.ind fun op sg uh ul xa xc xl sa sc sl ih => by
  have := ET.szL_bk xl; have := TT.szL_of sl ih
  simp [TT.sz, TT.bk]; omega
theorem TT.szL_bk (l : List TT) : TT.szL l ≤ TT.bkL l := TT.szL_of l (fun x _ => x.sz_bk)
theorem TT.dpL_app : ∀ l m : List TT, TT.dpL (l ++ m) = max (TT.dpL l) (TT.dpL m)
  | [], m => by simp [TT.dpL]
  | x :: r, m => by simp [TT.dpL, TT.dpL_app r m, Nat.max_assoc]
theorem TT.dpL_take (l : List TT) (k : Nat) (h : k < l.length) : TT.dpL (l.take (k + 1)) = max (TT.dpL (l.take k)) l[k].dp := by
  rw [List.take_succ_eq_append_getElem h, TT.dpL_app]; simp [TT.dpL]
theorem TT.dpL_of : ∀ l : List TT, (∀ x ∈ l, x.dp ≤ x.sz) → TT.dpL l ≤ TT.szL l
  | [], _ => by simp [TT.dpL]
  | x :: r, h => by have := h x (by simp); have := TT.dpL_of r (fun y hy => h y (by simp [hy])); simp [TT.szL, TT.dpL]; omega
theorem TT.dp_sz : ∀ x : TT, x.dp ≤ x.sz := TT.ind fun op sg uh ul xa xc xl sa sc sl ih => by
  have := ET.dpL_sz xl; have := TT.dpL_of sl ih
  simp [TT.sz, TT.dp]; omega
theorem TT.dpL_sz (l : List TT) : TT.dpL l ≤ TT.szL l := TT.dpL_of l (fun x _ => x.dp_sz)
theorem QT.wfL_iff : ∀ l : List QT, QT.WfL l ↔ ∀ x ∈ l, x.Wf
  | [] => by simp [QT.WfL]
  | x :: r => by simp [QT.WfL, QT.wfL_iff r]
theorem QT.szL_mem {x : QT} : ∀ {l : List QT}, x ∈ l → x.sz ≤ QT.szL l
  | y :: r, h => by
    rcases List.mem_cons.1 h with e | e
    · subst e; simp [QT.szL]
    · have := QT.szL_mem e; simp [QT.szL]; omega
theorem QT.szL_app : ∀ l m : List QT, QT.szL (l ++ m) = QT.szL l + QT.szL m
  | [], m => by simp [QT.szL]
  | x :: r, m => by simp [QT.szL, QT.szL_app r m]; omega
theorem QT.szL_take (l : List QT) (k : Nat) (h : k < l.length) : QT.szL (l.take (k + 1)) = QT.szL (l.take k) + l[k].sz := by
  rw [List.take_succ_eq_append_getElem h, QT.szL_app]; simp [QT.szL]
theorem QT.szL_take_le (l : List QT) (k : Nat) : QT.szL (l.take k) ≤ QT.szL l := by
  have h := QT.szL_app (l.take k) (l.drop k)
  rw [List.take_append_drop] at h
  omega
theorem QT.sz_pos (x : QT) : 1 ≤ x.sz := by cases x; simp [QT.sz]
theorem QT.szL_len : ∀ l : List QT, l.length ≤ QT.szL l
  | [] => by simp [QT.szL]
  | x :: r => by have := QT.szL_len r; have := x.sz_pos; simp [QT.szL]; omega
theorem QT.bkL_mem {x : QT} : ∀ {l : List QT}, x ∈ l → x.bk ≤ QT.bkL l
  | y :: r, h => by
    rcases List.mem_cons.1 h with e | e
    · subst e; simp [QT.bkL]
    · have := QT.bkL_mem e; simp [QT.bkL]; omega
theorem QT.bkL_app : ∀ l m : List QT, QT.bkL (l ++ m) = QT.bkL l + QT.bkL m
  | [], m => by simp [QT.bkL]
  | x :: r, m => by simp [QT.bkL, QT.bkL_app r m]; omega
theorem QT.bkL_take (l : List QT) (k : Nat) (h : k < l.length) : QT.bkL (l.take (k + 1)) = QT.bkL (l.take k) + l[k].bk := by
  rw [List.take_succ_eq_append_getElem h, QT.bkL_app]; simp [QT.bkL]
theorem QT.bkL_take_le (l : List QT) (k : Nat) : QT.bkL (l.take k) ≤ QT.bkL l := by
  have h := QT.bkL_app (l.take k) (l.drop k)
  rw [List.take_append_drop] at h
  omega
theorem QT.bk_pos (x : QT) : 1 ≤ x.bk := by cases x; simp [QT.bk]
theorem QT.bkL_len : ∀ l : List QT, l.length ≤ QT.bkL l
  | [] => by simp [QT.bkL]
  | x :: r => by have := QT.bkL_len r; have := x.bk_pos; simp [QT.bkL]; omega
theorem QT.szL_of : ∀ l : List QT, (∀ x ∈ l, x.sz ≤ x.bk) → QT.szL l ≤ QT.bkL l
  | [], _ => by simp [QT.szL]
  | x :: r, h => by have := h x (by simp); have := QT.szL_of r (fun y hy => h y (by simp [hy])); simp [QT.szL, QT.bkL]; omega
theorem QT.sz_bk (x : QT) : x.sz ≤ x.bk := by obtain ⟨a, b, c, l⟩ := x; have := TT.szL_bk l; simp [QT.sz, QT.bk]; omega
theorem QT.szL_bk (l : List QT) : QT.szL l ≤ QT.bkL l := QT.szL_of l (fun x _ => x.sz_bk)
theorem KT.wfL_iff : ∀ l : List KT, KT.WfL l ↔ ∀ x ∈ l, x.Wf
  | [] => by simp [KT.WfL]
  | x :: r => by simp [KT.WfL, KT.wfL_iff r]
theorem KT.szL_mem {x : KT} : ∀ {l : List KT}, x ∈ l → x.sz ≤ KT.szL l
  | y :: r, h => by
    rcases List.mem_cons.1 h with e | e
    · subst e; simp [KT.szL]
    · have := KT.szL_mem e; simp [KT.szL]; omega
theorem KT.szL_app : ∀ l m : List KT, KT.szL (l ++ m) = KT.szL l + KT.szL m
  | [], m => by simp [KT.szL]
  | x :: r, m => by simp [KT.szL, KT.szL_app r m]; omega
theorem KT.szL_take (l : List KT) (k : Nat) (h : k < l.length) : KT.szL (l.take (k + 1)) = KT.szL (l.take k) + l[k].sz := by
  rw [List.take_succ_eq_append_getElem h, KT.szL_app]; simp [KT.szL]
theorem KT.szL_take_le (l : List KT) (k : Nat) : KT.szL (l.take k) ≤ KT.szL l := by
  have h := KT.szL_app (l.take k) (l.drop k)
  rw [List.take_append_drop] at h
  omega
theorem KT.sz_pos (x : KT) : 1 ≤ x.sz := by cases x; simp [KT.sz]
theorem KT.szL_len : ∀ l : List KT, l.length ≤ KT.szL l
  | [] => by simp [KT.szL]
  | x :: r => by have := KT.szL_len r; have := x.sz_pos; simp [KT.szL]; omega
theorem KT.bkL_mem {x : KT} : ∀ {l : List KT}, x ∈ l → x.bk ≤ KT.bkL l
  | y :: r, h => by
    rcases List.mem_cons.1 h with e | e
    · subst e; simp [KT.bkL]
    · have := KT.bkL_mem e; simp [KT.bkL]; omega
theorem KT.bkL_app : ∀ l m : List KT, KT.bkL (l ++ m) = KT.bkL l + KT.bkL m
  | [], m => by simp [KT.bkL]
  | x :: r, m => by simp [KT.bkL, KT.bkL_app r m]; omega
theorem KT.bkL_take (l : List KT) (k : Nat) (h : k < l.length) : KT.bkL (l.take (k + 1)) = KT.bkL (l.take k) + l[k].bk := by
  rw [List.take_succ_eq_append_getElem h, KT.bkL_app]; simp [KT.bkL]
theorem KT.bkL_take_le (l : List KT) (k : Nat) : KT.bkL (l.take k) ≤ KT.bkL l := by
  have h := KT.bkL_app (l.take k) (l.drop k)
  rw [List.take_append_drop] at h
  omega
theorem KT.bk_pos (x : KT) : 1 ≤ x.bk := by cases x; simp [KT.bk]; omega
theorem KT.bkL_len : ∀ l : List KT, l.length ≤ KT.bkL l
  | [] => by simp [KT.bkL]
  | x :: r => by have := KT.bkL_len r; have := x.bk_pos; simp [KT.bkL]; omega
theorem KT.szL_of : ∀ l : List KT, (∀ x ∈ l, x.sz ≤ x.bk) → KT.szL l ≤ KT.bkL l
  | [], _ => by simp [KT.szL]
  | x :: r, h => by have := h x (by simp); have := KT.szL_of r (fun y hy => h y (by simp [hy])); simp [KT.szL, KT.bkL]; omega
theorem KT.sz_bk (x : KT) : x.sz ≤ x.bk := by obtain ⟨n, y⟩ := x; have := y.sz_bk; simp [KT.sz, KT.bk]; omega
theorem KT.szL_bk (l : List KT) : KT.szL l ≤ KT.bkL l := KT.szL_of l (fun x _ => x.sz_bk)
theorem ope2 {w : World} {g : Nat} {v0 v1 : Value} {t : TypeId} (h : w.heap[g]? = some (.cells #[v0, v1] t (0, 0))) : w.cell? ⟨g, 0, none⟩ = some v0 ∧ w.cell? ⟨g, 1, none⟩ = some v1 := by
  simp [World.cell?, h]
theorem ope8 {w : World} {g : Nat} {v0 v1 v2 v3 v4 v5 v6 v7 : Value} {t : TypeId} (h : w.heap[g]? = some (.cells #[v0, v1, v2, v3, v4, v5, v6, v7] t (0, 0))) : w.cell? ⟨g, 0, none⟩ = some v0 ∧ w.cell? ⟨g, 1, none⟩ = some v1 ∧ w.cell? ⟨g, 2, none⟩ = some v2 ∧ w.cell? ⟨g, 3, none⟩ = some v3 ∧ w.cell? ⟨g, 4, none⟩ = some v4 ∧ w.cell? ⟨g, 5, none⟩ = some v5 ∧ w.cell? ⟨g, 6, none⟩ = some v6 ∧ w.cell? ⟨g, 7, none⟩ = some v7 := by
  simp [World.cell?, h]
end Go.Proofs.YtbcgeglkmpcnpaaDoor
