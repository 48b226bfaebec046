/-
  Constants by their names; what constant expressions are. No program.
-/
import Derived.Test.YtlbjmnakiflfpaaGreatDoorKpAsM
namespace Go.Proofs.YtlbjmnakiflfpaaGreatDoor
open Go Go.RowKit
set_option linter.unusedVariables false
set_option linter.unusedSimpArgs false
open Go.Sort

/-- A name and what it is. -/
structure NT where
  nm : Bytes
  v : Int
def NT.cells : NT → List Value | ⟨nm, v⟩ => [.string (bs nm), .int .i64 v]
def NT.val (x : NT) : Value := .agg x.cells.toArray
def NT.bk (x : NT) : Nat := 1 + x.nm.length
def NT.bkL : List NT → Nat | [] => 0 | x :: r => x.bk + NT.bkL r
def NT.Wf (x : NT) : Prop := -9223372036854775808 ≤ x.v ∧ x.v ≤ 9223372036854775807
theorem NT.bkL_len : ∀ l : List NT, l.length ≤ NT.bkL l
  | [] => by simp [NT.bkL]
  | x :: r => by have := NT.bkL_len r; simp [NT.bkL, NT.bk]; omega
theorem NT.bkL_mem {x : NT} : ∀ {l : List NT}, x ∈ l → x.bk ≤ NT.bkL l
  | y :: r, h => by
    rcases List.mem_cons.1 h with e | e
    · subst e; simp [NT.bkL]
    · have := NT.bkL_mem e; simp [NT.bkL]; omega
/-- Where constants lie. -/
def NRow (n : Nat) (W : World) (l : List NT) (a : Option Addr) : Prop := InRow 2 NT.cells NT.Wf n W l a
theorem NRow.keep {n : Nat} {W W' : World} {l : List NT} {a : Option Addr} (h : NRow n W l a) (hk : KeptTo n W W') : NRow n W' l a := InRow.keep hk (fun _ _ h => h) h
/-- What the last constant of a name is. -/
def findN (l : List NT) (s : Bytes) : Option Int := (l.reverse.find? fun c => c.nm == s).map (·.v)
theorem findN_nil (s : Bytes) : findN [] s = none := rfl
theorem findN_snoc (l : List NT) (c : NT) (s : Bytes) : findN (l ++ [c]) s = if (c.nm == s) = true then some c.v else findN l s := by
  unfold findN
  rw [List.reverse_append, List.reverse_cons, List.reverse_nil, List.nil_append, List.singleton_append, List.find?_cons]
  cases c.nm == s <;> rfl
theorem findN_take (l : List NT) (s : Bytes) (k : Nat) (h : k < l.length) : findN (l.take (k + 1)) s = if (l[k].nm == s) = true then some l[k].v else findN (l.take k) s := by
  rw [List.take_succ_eq_append_getElem h, findN_snoc]
theorem findN_drop (l : List NT) (s : Bytes) (k : Nat) (h : ∀ c ∈ l.drop k, (c.nm == s) = false) : findN (l.take k) s = findN l s := by
  have e : l = l.take k ++ l.drop k := (List.take_append_drop _ _).symm
  unfold findN
  rw [show l.reverse = (l.drop k).reverse ++ (l.take k).reverse by rw [← List.reverse_append, List.take_append_drop], List.find?_append]
  have : (l.drop k).reverse.find? (fun c => c.nm == s) = none := by
    rw [List.find?_eq_none]; intro c hc; rw [h c (List.mem_reverse.1 hc)]; decide
  rw [this]; rfl
theorem findN_pre (l : List NT) (s : Bytes) (p q : List NT) (c : NT) (he : l.reverse = p ++ c :: q) (hp : ∀ d ∈ p, (d.nm == s) = false) (hc : (c.nm == s) = true) : findN l s = some c.v := by
  unfold findN
  rw [he, List.find?_append, List.find?_cons, hc]
  have : p.find? (fun c => c.nm == s) = none := by
    rw [List.find?_eq_none]; intro c hc; rw [hp c hc]; decide
  rw [this]; rfl
theorem findN_none (l : List NT) (s : Bytes) (h : ∀ c ∈ l, (c.nm == s) = false) : findN l s = none := by
  unfold findN
  have : l.reverse.find? (fun c => c.nm == s) = none := by
    rw [List.find?_eq_none]; intro c hc; rw [h c (List.mem_reverse.1 hc)]; decide
  rw [this]; rfl
theorem findN_mem {l : List NT} {s : Bytes} {v : Int} (h : findN l s = some v) : ∃ c ∈ l, c.nm = s ∧ c.v = v := by
  unfold findN at h
  obtain ⟨c, hc, rfl⟩ := Option.map_eq_some_iff.1 h
  exact ⟨c, List.mem_reverse.1 (List.mem_of_find?_eq_some hc), by simpa using List.find?_some hc, rfl⟩

/-! ### What is a constant's value -/
def kMay (v : Int) : Bool := decide (0 ≤ v) && decide (v ≤ 2147483647)
def kConst (v : Int) : Int × Int := if kMay v = true then (v, 0) else (0, 62)
def kNum (v : Nat) : Int × Int := if v ≤ 2147483647 then ((v : Int), 0) else (0, 62)
def kNamed (env : List NT) (nm : Bytes) : Int × Int := match findN env nm with | none => (0, 60) | some v => kConst v
def kTruth (b : Bool) : Int := if b = true then 1 else 0
/-- What two make. -/
def kTwo (n a b : Int) : Int :=
  if n = 14 then a + b else if n = 15 then a - b else if n = 16 then a * b
  else if n = 17 then a * 2 ^ (min b 31).toNat else if n = 18 then a / 2 ^ b.toNat
  else if n = 19 then kTruth (a == b) else if n = 20 then kTruth (a != b)
  else if n = 21 then kTruth (decide (a < b)) else if n = 22 then kTruth (decide (a ≤ b))
  else if n = 23 then kTruth (decide (b < a)) else if n = 24 then kTruth (decide (b ≤ a))
  else if n = 25 then kTruth (a != 0 && b != 0) else kTruth (a != 0 || b != 0)
def kNot (e : Int × Int) : Int × Int := if e.2 = 0 then (kTruth (e.1 == 0), 0) else (0, e.2)
def kPair (n : Int) (e f : Int × Int) : Int × Int :=
  if 14 ≤ n ∧ n ≤ 26 then (if e.2 = 0 then (if f.2 = 0 then kConst (kTwo n e.1 f.1) else (0, f.2)) else (0, e.2)) else (0, 61)
def kCond (c x y : Int × Int) : Int × Int := if c.2 = 0 then (if c.1 = 0 then y else x) else (0, c.2)
/-- A node's, of its parts'. -/
def kNode (env : List NT) (op : Int) (nm : Bytes) (n wd : Int) (v : Nat) (es : List (Int × Int)) : Int × Int :=
  if op = 1 then (if wd = 0 then kNum v else (0, 61))
  else if op = 2 then kNamed env nm
  else if op = 5 then (if n = 6 then kNot (es.getD 0 (0, 61)) else (0, 61))
  else if op = 6 then kPair n (es.getD 0 (0, 61)) (es.getD 1 (0, 61))
  else if op = 7 then kCond (es.getD 0 (0, 61)) (es.getD 1 (0, 61)) (es.getD 2 (0, 61))
  else (0, 61)
mutual
def evX (env : List NT) : XT → Int × Int
  | .mk op nm n wd v _ _ l => kNode env op nm n wd v (evL env l)
def evL (env : List NT) : List XT → List (Int × Int)
  | [] => []
  | x :: r => evX env x :: evL env r
end
theorem evL_map (env : List NT) : ∀ l : List XT, evL env l = l.map (evX env)
  | [] => rfl
  | x :: r => by rw [evL, evL_map env r]; rfl
theorem evX_mk (env : List NT) (op : Int) (nm : Bytes) (n wd : Int) (v : Nat) (a : Option Addr) (c : Nat) (l : List XT) : evX env (.mk op nm n wd v a c l) = kNode env op nm n wd v (l.map (evX env)) := by rw [evX, evL_map]
/-- What is told lies in bounds, and is 0 with an error. -/
def KOk (e : Int × Int) : Prop := 0 ≤ e.1 ∧ e.1 ≤ 2147483647 ∧ (e.2 ≠ 0 → e.1 = 0) ∧ 0 ≤ e.2 ∧ e.2 ≤ 100
theorem kTruth_01 (b : Bool) : 0 ≤ kTruth b ∧ kTruth b ≤ 1 := by cases b <;> decide
theorem kok_err (n : Int) (h0 : 0 ≤ n) (h : n ≤ 100) : KOk (0, n) := ⟨Int.le_refl 0, (by decide : (0 : Int) ≤ 2147483647), fun _ => rfl, h0, h⟩
theorem kok_const (v : Int) : KOk (kConst v) := by
  unfold kConst kMay
  split
  · rename_i h
    rw [Bool.and_eq_true, decide_eq_true_eq, decide_eq_true_eq] at h
    exact ⟨h.1, h.2, fun h => absurd rfl h, Int.le_refl 0, (by decide : (0 : Int) ≤ 100)⟩
  · exact kok_err _ (by decide) (by decide)
theorem kok_num (v : Nat) : KOk (kNum v) := by
  unfold kNum
  split
  · exact ⟨by simp, by simp; omega, fun h => absurd rfl h, Int.le_refl 0, (by decide : (0 : Int) ≤ 100)⟩
  · exact kok_err _ (by decide) (by decide)
theorem kok_named (env : List NT) (nm : Bytes) : KOk (kNamed env nm) := by
  unfold kNamed
  split
  · exact kok_err _ (by decide) (by decide)
  · exact kok_const _
theorem kok_not {e : Int × Int} (h : KOk e) : KOk (kNot e) := by
  unfold kNot
  split
  · have := kTruth_01 (e.1 == 0); exact ⟨this.1, by show kTruth _ ≤ _; omega, fun h => absurd rfl h, Int.le_refl 0, (by decide : (0 : Int) ≤ 100)⟩
  · exact kok_err _ h.2.2.2.1 h.2.2.2.2
theorem kok_pair (n : Int) {e f : Int × Int} (h : KOk e) (g : KOk f) : KOk (kPair n e f) := by
  unfold kPair
  split
  · split
    · split
      · exact kok_const _
      · exact kok_err _ g.2.2.2.1 g.2.2.2.2
    · exact kok_err _ h.2.2.2.1 h.2.2.2.2
  · exact kok_err _ (by decide) (by decide)
theorem kok_cond {c x y : Int × Int} (h : KOk c) (hx : KOk x) (hy : KOk y) : KOk (kCond c x y) := by
  unfold kCond
  split
  · split
    · exact hy
    · exact hx
  · exact kok_err _ h.2.2.2.1 h.2.2.2.2
theorem kok_node (env : List NT) (op : Int) (nm : Bytes) (n wd : Int) (v : Nat) (es : List (Int × Int)) (h : ∀ e ∈ es, KOk e) : KOk (kNode env op nm n wd v es) := by
  have hg : ∀ i, KOk (es.getD i (0, 61)) := by
    intro i
    rw [List.getD_eq_getElem?_getD]
    cases hi : es[i]? with
    | none => exact kok_err _ (by decide) (by decide)
    | some e => exact h e (List.mem_of_getElem? hi)
  unfold kNode
  split
  · split
    · exact kok_num _
    · exact kok_err _ (by decide) (by decide)
  split
  · exact kok_named _ _
  split
  · split
    · exact kok_not (hg 0)
    · exact kok_err _ (by decide) (by decide)
  split
  · exact kok_pair n (hg 0) (hg 1)
  split
  · exact kok_cond (hg 0) (hg 1) (hg 2)
  · exact kok_err _ (by decide) (by decide)
theorem evX_ok (env : List NT) : ∀ x : XT, KOk (evX env x) := XT.ind fun op nm n wd v a c l ih => by
  rw [evX_mk]
  exact kok_node env op nm n wd v _ (fun e he => by
    obtain ⟨y, hy, rfl⟩ := List.mem_map.1 he
    exact ih y hy)

/-! ### What may be has the parts of its kind -/
theorem mayX_parts {op : Int} {nm : Bytes} {n wd : Int} {v : Nat} {a : Option Addr} {c : Nat} {l : List XT} (h : mayX (.mk op nm n wd v a c l) = true) : (∀ y ∈ l, mayX y = true) ∧ 1 ≤ op ∧ op < 11 ∧ (kx op.toNat).2.2.2.1 ≤ n ∧ n ≤ (kx op.toNat).2.2.2.2 ∧ countB l.length (kx op.toNat).2.1 (kx op.toNat).2.2.1 = true ∧ nameB nm (kx op.toNat).1 = true ∧ numB op wd v = true := by
  rw [mayX, mayXL_all] at h
  simp only [Bool.and_eq_true, decide_eq_true_eq] at h
  obtain ⟨h1, h2, h3, h4, h5, h6, h7⟩ := h
  unfold amongB at h1
  simp only [Bool.and_eq_true, decide_eq_true_eq] at h1
  exact ⟨fun y hy => List.all_eq_true.1 h7 y hy, h1.1, h1.2, h4, h5, h6, h2, h3⟩
theorem may5 {nm : Bytes} {n wd : Int} {v : Nat} {a : Option Addr} {c : Nat} {l : List XT} (h : mayX (.mk 5 nm n wd v a c l) = true) : ∃ x, l = [x] ∧ mayX x = true := by
  obtain ⟨h1, _, _, _, _, h2, _⟩ := mayX_parts h
  have h3 : (l.length : Int) = 1 := by
    have : (((l.length : Int) == 1) || (false && decide ((1 : Int) < l.length))) = true := h2
    simpa using this
  match l, h3 with
  | [x], _ => exact ⟨x, rfl, h1 x (by simp)⟩
  | [], h3 => simp at h3
  | _ :: _ :: _, h3 => simp at h3; omega
theorem may6 {nm : Bytes} {n wd : Int} {v : Nat} {a : Option Addr} {c : Nat} {l : List XT} (h : mayX (.mk 6 nm n wd v a c l) = true) : ∃ x y, l = [x, y] ∧ mayX x = true ∧ mayX y = true := by
  obtain ⟨h1, _, _, _, _, h2, _⟩ := mayX_parts h
  have h3 : (l.length : Int) = 2 := by
    have : (((l.length : Int) == 2) || (false && decide ((2 : Int) < l.length))) = true := h2
    simpa using this
  match l, h3 with
  | [x, y], _ => exact ⟨x, y, rfl, h1 x (by simp), h1 y (by simp)⟩
  | [], h3 => simp at h3
  | [_], h3 => simp at h3
  | _ :: _ :: _ :: _, h3 => simp at h3; omega
theorem may7 {nm : Bytes} {n wd : Int} {v : Nat} {a : Option Addr} {c : Nat} {l : List XT} (h : mayX (.mk 7 nm n wd v a c l) = true) : ∃ x y z, l = [x, y, z] ∧ mayX x = true ∧ mayX y = true ∧ mayX z = true := by
  obtain ⟨h1, _, _, _, _, h2, _⟩ := mayX_parts h
  have h3 : (l.length : Int) = 3 := by
    have : (((l.length : Int) == 3) || (false && decide ((3 : Int) < l.length))) = true := h2
    simpa using this
  match l, h3 with
  | [x, y, z], _ => exact ⟨x, y, z, rfl, h1 x (by simp), h1 y (by simp), h1 z (by simp)⟩
  | [], h3 => simp at h3
  | [_], h3 => simp at h3
  | [_, _], h3 => simp at h3
  | _ :: _ :: _ :: _ :: _, h3 => simp at h3; omega

/-! ### All but one block is as it was -/
structure Kp (H B : Nat) (W W' : World) : Prop where
  low : Below H W W'
  same : ∀ b, b < W.heap.size → b ≠ B → W'.heap[b]? = W.heap[b]?
theorem Kp.refl (H B : Nat) (W : World) : Kp H B W W := ⟨Below.refl _ _, fun _ _ _ => rfl⟩
theorem Kp.size {H B : Nat} {W W' : World} (h : Kp H B W W') : W.heap.size ≤ W'.heap.size := h.low.size
theorem Kp.trans {H B : Nat} {X Y Z : World} (h : Kp H B X Y) (k : Kp H B Y Z) : Kp H B X Z := ⟨h.low.trans k.low, fun b hb hn => (k.same b (Nat.lt_of_lt_of_le hb h.size) hn).trans (h.same b hb hn)⟩
theorem Kp.of {H B : Nat} {W W' : World} (h : Below W.heap.size W W') (hH : H ≤ W.heap.size) : Kp H B W W' := ⟨h.mono hH, fun b hb _ => h.block b hb⟩
theorem Kp.block {H B g : Nat} {W W' : World} {o : Obj} (h : Kp H B W W') (hb : W.heap[g]? = some o) (hn : g ≠ B) : W'.heap[g]? = some o := (h.same g (Array.getElem?_eq_some_iff.1 hb).1 hn).trans hb
theorem Kp.keptTo {H B n : Nat} {W W' : World} (h : Kp H B W W') (hn : n ≤ H) : KeptTo n W W' := Below.keptTo h.low hn
theorem Kp.alloc {H B : Nat} {X Y : World} (h : Kp H B X Y) (hH : H ≤ Y.heap.size) (o : Obj) : Kp H B X (Y.alloc o) := h.trans (Kp.of ((Below.refl _ _).alloc (Nat.le_refl _) o) hH)
theorem Kp.set {H B : Nat} {X Y : World} (h : Kp H B X Y) (hH : H ≤ B) (o : Nat) (v : Value) : Kp H B X (Y.setCell ⟨B, o, none⟩ v) := h.trans ⟨(Below.refl _ _).setCell (p := ⟨B, o, none⟩) hH v, fun b _ hn => Below.heap_setCell Y ⟨B, o, none⟩ v b hn⟩
theorem Kp.below {H B : Nat} {W W' : World} (h : Kp H B W W') (hB : W.heap.size ≤ B) : Below W.heap.size W W' := by
  exact ⟨h.low.os, h.low.tape, h.low.output, h.low.size, fun b hb => h.same b hb (by omega)⟩
end Go.Proofs.YtlbjmnakiflfpaaGreatDoor
