/-
  AsOp, in one text.
-/
import Derived.Test.YtiipjbafdhijlaaGreatDoorZAd
import Derived.Test.YtiipjbafdhijlaaGreatDoorZAE
namespace Go.Proofs.YtiipjbafdhijlaaGreatDoor
open Go Go.ChangeShapes Go.WideShapes Go.ChangeAt Go.RowKit Go.Joins Go.Sort Go.Deep
set_option linter.unusedVariables false
set_option linter.unusedSimpArgs false
section
variable {H : Type} {enc : TypeId × Value → H}
theorem add_plain' (b o j : Nat) : (⟨b, o, none⟩ : Addr).add j = ⟨b, o + j, none⟩ := Addr.add_mid b o j
theorem bulkAll_sum : ∀ l : List (DataW H), Rows.uptoBulkAll l = (l.map Rows.uptoBulk).sum
 | [] => by simp [Rows.uptoBulkAll]
 | d :: r => by simp [Rows.uptoBulkAll, bulkAll_sum r]
theorem sum_le {α β : Type} (f : α → Nat) (g : β → Nat) : ∀ (l : List α) (m : List β), l.length = m.length → (∀ i (h1 : i < l.length) (h2 : i < m.length), f l[i] ≤ g m[i]) → (l.map f).sum ≤ (m.map g).sum
 | [], _, _, _ => by simp
 | x :: r, [], h, _ => by simp at h
 | x :: r, y :: q, h, hi => by
  have h0 := hi 0 (by simp) (by simp)
  have h1 := sum_le f g r q (by simpa using h) (fun i a b => by have := hi (i + 1) (by simpa using a) (by simpa using b); simpa using this)
  simp at h0
  simp
  omega
theorem inrow_of {α : Type} {k : Nat} {cells : α → List Value} {inn : α → Prop} {n : Nat} {W : World} (T : Nat → α) (b o : Nat) (hb : b < n) : ∀ (len s : Nat), (∀ i, s ≤ i → i < s + len → RowC W b (o + i * k) (cells (T i)) ∧ inn (T i)) → InRow k cells inn n W ((List.range' s len).map T) (some ⟨b, o + s * k, none⟩)
 | 0, _, _ => trivial
 | len + 1, s, h => by
  rw [List.range'_succ, List.map_cons]
  refine ⟨⟨b, o + s * k, rfl, hb, (h s (Nat.le_refl _) (by omega)).1⟩, (h s (Nat.le_refl _) (by omega)).2, ?_⟩
  rw [Option.map_some, add_plain', Nat.add_assoc, ← Nat.succ_mul]
  exact inrow_of T b o hb len (s + 1) (fun i h1 h2 => h i (by omega) (by omega))
/-- A slice of structs that came in. -/
theorem row_open {α : Type} {k : Nat} {cells : α → List Value} {inn wf : α → Prop} {bk : α → Nat} {W : World} {e ts : TypeId} {fuel : Nat} {v : Value} {x : DataW H × List MemPlace} (hts : Tryz.prog.underlying ts = some (.slice e)) (hk : Tryz.prog.cellsOf e = k) (hkp : 0 < k) (hcl : ∀ t, (cells t).length = k)
  (IH : ∀ m cs z, m < fuel → DataW.trod enc Tryz.prog W 0 (fun _ => true) true m e cs = some z → ∃ t : α, cs = cells t ∧ inn t ∧ wf t ∧ bk t ≤ Rows.uptoBulk z.1)
  (h : DataW.trod enc Tryz.prog W 0 (fun _ => true) true fuel ts [v] = some x) : ∃ (a : Option Addr) (c : Nat) (l : List α), v = .slice a l.length c ∧ InRow k cells inn W.heap.size W l a ∧ (∀ t ∈ l, wf t) ∧ (l.map bk).sum + 1 ≤ Rows.uptoBulk x.1 ∧ l.length ≤ c ∧ (a = none → c = 0) := by
 rcases DataW.trod_slice hts h with ⟨hcs, rfl⟩ | ⟨a, len, cap, elems, rest, m, rfl, hcs, rfl, _, hl, hc, hlen, hel, _, _⟩
 ·simp only [List.cons.injEq, and_true] at hcs
  exact ⟨none, 0, [], hcs, trivial, by simp, by simp [Rows.uptoBulk], by simp, fun _ => rfl⟩
 ·simp only [List.cons.injEq, and_true] at hcs
  have each : ∀ i (hi : i < len), ∃ t : α, (∀ j u, (cells t)[j]? = some u → W.cell? ((a.add (i * k)).add j) = some u) ∧ inn t ∧ wf t ∧ bk t ≤ Rows.uptoBulk (elems[i]'(by omega)).1 := by
   intro i hi
   have h1 := hel i hi
   rw [List.getElem?_eq_getElem (by omega), Option.bind_eq_some_iff] at h1
   obtain ⟨cs', h2, h3⟩ := h1
   obtain ⟨t, rfl, h4, h5, h6⟩ := IH m cs' _ (by omega) h3
   rw [hk] at h2
   have h7 := (World.cells?_some h2).2.2
   exact ⟨t, fun j u hu => by rw [← hu]; exact h7 j (by rw [← hcl t]; exact (List.getElem?_eq_some_iff.1 hu).1), h4, h5, h6⟩
  by_cases h0 : len = 0
  ·subst h0
   exact ⟨some a, cap, [], hcs, trivial, by simp, by simp [Rows.uptoBulk], by simp, fun h => by cases h⟩
  ·obtain ⟨T, hT⟩ : ∃ T : Nat → α, ∀ i (hi : i < len), (∀ j u, (cells (T i))[j]? = some u → W.cell? ((a.add (i * k)).add j) = some u) ∧ inn (T i) ∧ wf (T i) ∧ bk (T i) ≤ Rows.uptoBulk (elems[i]'(by omega)).1 :=
    ⟨fun i => if h : i < len then Classical.choose (each i h) else Classical.choose (each 0 (by omega)), fun i h => by simp only [dif_pos h]; exact Classical.choose_spec (each i h)⟩
   obtain ⟨b, off, spot⟩ := a
   have c0 : ∃ u, W.cell? (((⟨b, off, spot⟩ : Addr).add (0 * k)).add 0) = some u := by
    have hp : 0 < (cells (T 0)).length := by rw [hcl]; exact hkp
    exact ⟨_, (hT 0 (by omega)).1 0 _ (List.getElem?_eq_getElem hp)⟩
   obtain ⟨u0, hu0⟩ := c0
   have hspot : spot = none := by
    have := World.cell?_spot hu0
    simpa [Addr.add] using this
   subst hspot
   have hb : b < W.heap.size := by
    rw [add_plain', add_plain'] at hu0
    exact block_lt_of_cell hu0
   refine ⟨some ⟨b, off, none⟩, cap, (List.range len).map T, by simpa using hcs, ?_, ?_, ?_, by simpa using hl, fun h => by cases h⟩
   ·have := inrow_of (k := k) (cells := cells) (inn := inn) (n := W.heap.size) (W := W) T b off hb len 0 (fun i _ hi => ⟨fun j u hu => by
     have := (hT i (by omega)).1 j u hu
     rw [add_plain', add_plain'] at this
     exact this, (hT i (by omega)).2.1⟩)
    rw [List.range_eq_range']
    simpa using this
   ·intro t ht
    obtain ⟨i, hi, rfl⟩ := List.mem_map.1 ht
    exact (hT i (by simpa using hi)).2.2.1
   ·have h1 := sum_le bk (fun z : DataW H × List MemPlace => Rows.uptoBulk z.1) ((List.range len).map T) elems (by simp [hlen]) (fun i a b => by
     simp at a
     simpa using (hT i a).2.2.2)
    simp only [Rows.uptoBulk, bulkAll_sum]
    have e : ((elems.map (fun x : DataW H × List MemPlace => x.1)).map Rows.uptoBulk).sum = (elems.map fun z => Rows.uptoBulk z.1).sum := by rw [List.map_map]; rfl
    rw [e]
    omega
theorem XT.bkL_sum : ∀ l : List XT, XT.bkL l = (l.map XT.bk).sum
 | [] => by simp [XT.bkL]
 | x :: r => by simp [XT.bkL, XT.bkL_sum r]
theorem ST.bkL_sum : ∀ l : List ST, ST.bkL l = (l.map ST.bk).sum
 | [] => by simp [ST.bkL]
 | x :: r => by simp [ST.bkL, ST.bkL_sum r]
theorem BT.bkL_sum : ∀ l : List BT, BT.bkL l = (l.map BT.bk).sum
 | [] => by simp [BT.bkL]
 | x :: r => by simp [BT.bkL, BT.bkL_sum r]
theorem PT.bkL_sum : ∀ l : List PT, PT.bkL l = (l.map PT.bk).sum
 | [] => by simp [PT.bkL]
 | x :: r => by simp [PT.bkL, PT.bkL_sum r]
theorem IT.bkL_sum : ∀ l : List IT, IT.bkL l = (l.map IT.bk).sum
 | [] => by simp [IT.bkL]
 | x :: r => by simp [IT.bkL, IT.bkL_sum r]
theorem MT.bkL_sum : ∀ l : List MT, MT.bkL l = (l.map MT.bk).sum
 | [] => by simp [MT.bkL]
 | x :: r => by simp [MT.bkL, MT.bkL_sum r]
set_option maxRecDepth 9000000 in
theorem xt_data {W : World} : ∀ (fuel : Nat) (cs : List Value) (z : DataW H × List MemPlace), DataW.trod enc Tryz.prog W 0 (fun _ => true) true fuel 54 cs = some z → ∃ t : XT, cs = t.cells ∧ t.In W.heap.size W ∧ t.Wf ∧ t.bk ≤ Rows.uptoBulk z.1 := by
 intro fuel
 induction fuel using Nat.strongRecOn with
 | ind fuel ih =>
 intro cs z h
 obtain ⟨xs, n, hfu, rfl, hl, hlen, hf⟩ := DataW.trod_struct Tryz.underlying54 h
 have hl5 : cs.length = 6 := hl.trans (by kernel_rfl)
 match cs, hl5 with
 | [c0, c1, c2, c3, c4, c5], _ =>
  have e0 : DataW.trod enc Tryz.prog W 0 (fun _ => true) true n 3 (([c0, c1, c2, c3, c4, c5].drop 0).take (Tryz.prog.cellsOf 3)) = xs[0]? := hf 0 _ rfl
  have e1 : DataW.trod enc Tryz.prog W 0 (fun _ => true) true n 9 (([c0, c1, c2, c3, c4, c5].drop 1).take (Tryz.prog.cellsOf 9)) = xs[1]? := hf 1 _ rfl
  have e2 : DataW.trod enc Tryz.prog W 0 (fun _ => true) true n 3 (([c0, c1, c2, c3, c4, c5].drop 2).take (Tryz.prog.cellsOf 3)) = xs[2]? := hf 2 _ rfl
  have e3 : DataW.trod enc Tryz.prog W 0 (fun _ => true) true n 3 (([c0, c1, c2, c3, c4, c5].drop 3).take (Tryz.prog.cellsOf 3)) = xs[3]? := hf 3 _ rfl
  have e4 : DataW.trod enc Tryz.prog W 0 (fun _ => true) true n 52 (([c0, c1, c2, c3, c4, c5].drop 4).take (Tryz.prog.cellsOf 52)) = xs[4]? := hf 4 _ rfl
  have e5 : DataW.trod enc Tryz.prog W 0 (fun _ => true) true n 45 (([c0, c1, c2, c3, c4, c5].drop 5).take (Tryz.prog.cellsOf 45)) = xs[5]? := hf 5 _ rfl
  have k0 : Tryz.prog.cellsOf 3 = 1 := by kernel_rfl
  have k1 : Tryz.prog.cellsOf 9 = 1 := by kernel_rfl
  have k2 : Tryz.prog.cellsOf 52 = 1 := by kernel_rfl
  have k3 : Tryz.prog.cellsOf 45 = 1 := by kernel_rfl
  simp only [k0, k1, k2, k3] at e0 e1 e2 e3 e4 e5
  simp only [List.drop_zero, List.drop_succ_cons, List.take_succ_cons, List.take_zero, List.take_nil] at e0 e1 e2 e3 e4 e5
  match xs, hlen with
  | [x0, x1, x2, x3, x4, x5], _ =>
   obtain ⟨op, a0, z0, _⟩ := DataW.trod_int Tryz.underlying3 e0
   obtain ⟨nm, a1, z1, _⟩ := DataW.trod_string Tryz.underlying9 e1
   obtain ⟨xn, a2, z2, _⟩ := DataW.trod_int Tryz.underlying3 e2
   obtain ⟨wd, a3, z3, _⟩ := DataW.trod_int Tryz.underlying3 e3
   obtain ⟨v0, a4, z4, w4⟩ := DataW.trod_int Tryz.underlying52 e4
   have hV := bounds_u64 w4
   obtain ⟨xa, xc, xl, a5, i5, g5, b5, m5, n5⟩ := row_open (k := 6) (cells := XT.cells) (inn := XT.In W.heap.size W) (wf := XT.Wf) (bk := XT.bk) Tryz.underlying45 (by kernel_rfl) (by omega) (fun t => by cases t; rfl) (fun m cs z hm hz => ih m (by omega) cs z hz) e5
   rw [← XT.bkL_sum] at b5
   simp only [List.cons.injEq, and_true] at a0 a1 a2 a3 a4
   subst z0
   subst z1
   subst z2
   subst z3
   subst z4
   refine ⟨(XT.mk op nm.data.toList xn wd v0.toNat xa xc xl), ?_, ?_, ?_, ?_⟩
   ·rw [a0, a1, a2, a3, a4, a5]
    simp only [XT.cells, ← bs_toList, show ((v0.toNat : Nat) : Int) = v0 by omega]
   ·rw [XT.In_mk]
    exact i5
   ·rw [XT.wf_mk]
    exact ⟨by omega, g5⟩
   ·simp only [XT.bk, Rows.uptoBulk, Rows.uptoBulkAll, List.map_cons, List.map_nil]
    omega
set_option maxRecDepth 9000000 in
theorem st_data {W : World} : ∀ (fuel : Nat) (cs : List Value) (z : DataW H × List MemPlace), DataW.trod enc Tryz.prog W 0 (fun _ => true) true fuel 134 cs = some z → ∃ t : ST, cs = t.cells ∧ t.In W.heap.size W ∧ t.Wf ∧ t.bk ≤ Rows.uptoBulk z.1 := by
 intro fuel
 induction fuel using Nat.strongRecOn with
 | ind fuel ih =>
 intro cs z h
 obtain ⟨xs, n, hfu, rfl, hl, hlen, hf⟩ := DataW.trod_struct Tryz.underlying134 h
 have hl5 : cs.length = 4 := hl.trans (by kernel_rfl)
 match cs, hl5 with
 | [c0, c1, c2, c3], _ =>
  have e0 : DataW.trod enc Tryz.prog W 0 (fun _ => true) true n 3 (([c0, c1, c2, c3].drop 0).take (Tryz.prog.cellsOf 3)) = xs[0]? := hf 0 _ rfl
  have e1 : DataW.trod enc Tryz.prog W 0 (fun _ => true) true n 9 (([c0, c1, c2, c3].drop 1).take (Tryz.prog.cellsOf 9)) = xs[1]? := hf 1 _ rfl
  have e2 : DataW.trod enc Tryz.prog W 0 (fun _ => true) true n 45 (([c0, c1, c2, c3].drop 2).take (Tryz.prog.cellsOf 45)) = xs[2]? := hf 2 _ rfl
  have e3 : DataW.trod enc Tryz.prog W 0 (fun _ => true) true n 46 (([c0, c1, c2, c3].drop 3).take (Tryz.prog.cellsOf 46)) = xs[3]? := hf 3 _ rfl
  have k0 : Tryz.prog.cellsOf 3 = 1 := by kernel_rfl
  have k1 : Tryz.prog.cellsOf 9 = 1 := by kernel_rfl
  have k2 : Tryz.prog.cellsOf 45 = 1 := by kernel_rfl
  have k3 : Tryz.prog.cellsOf 46 = 1 := by kernel_rfl
  simp only [k0, k1, k2, k3] at e0 e1 e2 e3
  simp only [List.drop_zero, List.drop_succ_cons, List.take_succ_cons, List.take_zero, List.take_nil] at e0 e1 e2 e3
  match xs, hlen with
  | [x0, x1, x2, x3], _ =>
   obtain ⟨op, a0, z0, _⟩ := DataW.trod_int Tryz.underlying3 e0
   obtain ⟨nm, a1, z1, _⟩ := DataW.trod_string Tryz.underlying9 e1
   obtain ⟨xa, xc, xl, a2, i2, g2, b2, m2, n2⟩ := row_open (k := 6) (cells := XT.cells) (inn := XT.In W.heap.size W) (wf := XT.Wf) (bk := XT.bk) Tryz.underlying45 (by kernel_rfl) (by omega) (fun t => by cases t; rfl) (fun m cs z hm hz => xt_data m cs z hz) e2
   rw [← XT.bkL_sum] at b2
   obtain ⟨sa, sc, sl, a3, i3, g3, b3, m3, n3⟩ := row_open (k := 4) (cells := ST.cells) (inn := ST.In W.heap.size W) (wf := ST.Wf) (bk := ST.bk) Tryz.underlying46 (by kernel_rfl) (by omega) (fun t => by cases t; rfl) (fun m cs z hm hz => ih m (by omega) cs z hz) e3
   rw [← ST.bkL_sum] at b3
   simp only [List.cons.injEq, and_true] at a0 a1
   subst z0
   subst z1
   refine ⟨(ST.mk op nm.data.toList xa xc xl sa sc sl), ?_, ?_, ?_, ?_⟩
   ·rw [a0, a1, a2, a3]
    simp only [ST.cells, ← bs_toList]
   ·rw [ST.In_mk]
    exact ⟨i2, i3⟩
   ·rw [ST.Wf, XT.wfL_iff, ST.wfL_iff]
    exact ⟨g2, g3⟩
   ·simp only [ST.bk, Rows.uptoBulk, Rows.uptoBulkAll, List.map_cons, List.map_nil]
    omega
set_option maxRecDepth 9000000 in
theorem bt_data {W : World} : ∀ (fuel : Nat) (cs : List Value) (z : DataW H × List MemPlace), DataW.trod enc Tryz.prog W 0 (fun _ => true) true fuel 78 cs = some z → ∃ t : BT, cs = t.cells ∧ t.In W.heap.size W ∧ t.Wf ∧ t.bk ≤ Rows.uptoBulk z.1 := by
 intro fuel
 induction fuel using Nat.strongRecOn with
 | ind fuel ih =>
 intro cs z h
 obtain ⟨xs, n, hfu, rfl, hl, hlen, hf⟩ := DataW.trod_struct Tryz.underlying78 h
 have hl5 : cs.length = 7 := hl.trans (by kernel_rfl)
 match cs, hl5 with
 | [c0, c1, c2, c3, c4, c5, c6], _ =>
  have e0 : DataW.trod enc Tryz.prog W 0 (fun _ => true) true n 9 (([c0, c1, c2, c3, c4, c5, c6].drop 0).take (Tryz.prog.cellsOf 9)) = xs[0]? := hf 0 _ rfl
  have e1 : DataW.trod enc Tryz.prog W 0 (fun _ => true) true n 54 (([c0, c1, c2, c3, c4, c5, c6].drop 1).take (Tryz.prog.cellsOf 54)) = xs[1]? := hf 1 _ rfl
  have k0 : Tryz.prog.cellsOf 9 = 1 := by kernel_rfl
  have k1 : Tryz.prog.cellsOf 54 = 6 := by kernel_rfl
  simp only [k0, k1] at e0 e1
  simp only [List.drop_zero, List.drop_succ_cons, List.take_succ_cons, List.take_zero, List.take_nil] at e0 e1
  match xs, hlen with
  | [x0, x1], _ =>
   obtain ⟨bn, a0, z0, _⟩ := DataW.trod_string Tryz.underlying9 e0
   obtain ⟨x, a1, i1, g1, b1⟩ := xt_data n _ _ e1
   simp only [List.cons.injEq, and_true] at a0
   subst z0
   refine ⟨⟨bn.data.toList, x⟩, ?_, ?_, ?_, ?_⟩
   ·show _ = .string (bs bn.data.toList) :: x.cells
    rw [← a1, a0]
    simp only [← bs_toList]
   ·exact i1
   ·exact g1
   ·simp only [BT.bk, Rows.uptoBulk, Rows.uptoBulkAll, List.map_cons, List.map_nil]
    omega
set_option maxRecDepth 9000000 in
theorem pt_data {W : World} : ∀ (fuel : Nat) (cs : List Value) (z : DataW H × List MemPlace), DataW.trod enc Tryz.prog W 0 (fun _ => true) true fuel 76 cs = some z → ∃ t : PT, cs = t.cells ∧ t.In W.heap.size W ∧ t.Wf ∧ t.bk ≤ Rows.uptoBulk z.1 := by
 intro fuel
 induction fuel using Nat.strongRecOn with
 | ind fuel ih =>
 intro cs z h
 obtain ⟨xs, n, hfu, rfl, hl, hlen, hf⟩ := DataW.trod_struct Tryz.underlying76 h
 have hl5 : cs.length = 8 := hl.trans (by kernel_rfl)
 match cs, hl5 with
 | [c0, c1, c2, c3, c4, c5, c6, c7], _ =>
  have e0 : DataW.trod enc Tryz.prog W 0 (fun _ => true) true n 9 (([c0, c1, c2, c3, c4, c5, c6, c7].drop 0).take (Tryz.prog.cellsOf 9)) = xs[0]? := hf 0 _ rfl
  have e1 : DataW.trod enc Tryz.prog W 0 (fun _ => true) true n 4 (([c0, c1, c2, c3, c4, c5, c6, c7].drop 1).take (Tryz.prog.cellsOf 4)) = xs[1]? := hf 1 _ rfl
  have e2 : DataW.trod enc Tryz.prog W 0 (fun _ => true) true n 54 (([c0, c1, c2, c3, c4, c5, c6, c7].drop 2).take (Tryz.prog.cellsOf 54)) = xs[2]? := hf 2 _ rfl
  have k0 : Tryz.prog.cellsOf 9 = 1 := by kernel_rfl
  have k1 : Tryz.prog.cellsOf 4 = 1 := by kernel_rfl
  have k2 : Tryz.prog.cellsOf 54 = 6 := by kernel_rfl
  simp only [k0, k1, k2] at e0 e1 e2
  simp only [List.drop_zero, List.drop_succ_cons, List.take_succ_cons, List.take_zero, List.take_nil] at e0 e1 e2
  match xs, hlen with
  | [x0, x1, x2], _ =>
   obtain ⟨bn, a0, z0, _⟩ := DataW.trod_string Tryz.underlying9 e0
   obtain ⟨po, a1, z1⟩ := DataW.trod_bool Tryz.underlying4 e1
   obtain ⟨x, a2, i2, g2, b2⟩ := xt_data n _ _ e2
   simp only [List.cons.injEq, and_true] at a0 a1
   subst z0
   subst z1
   refine ⟨⟨bn.data.toList, po, x⟩, ?_, ?_, ?_, ?_⟩
   ·show _ = .string (bs bn.data.toList) :: .bool po :: x.cells
    rw [← a2, a0, a1]
    simp only [← bs_toList]
   ·exact i2
   ·exact g2
   ·simp only [PT.bk, Rows.uptoBulk, Rows.uptoBulkAll, List.map_cons, List.map_nil]
    omega
set_option maxRecDepth 9000000 in
theorem it_data {W : World} : ∀ (fuel : Nat) (cs : List Value) (z : DataW H × List MemPlace), DataW.trod enc Tryz.prog W 0 (fun _ => true) true fuel 48 cs = some z → ∃ t : IT, cs = t.cells ∧ t.In W.heap.size W ∧ t.Wf ∧ t.bk ≤ Rows.uptoBulk z.1 := by
 intro fuel
 induction fuel using Nat.strongRecOn with
 | ind fuel ih =>
 intro cs z h
 obtain ⟨xs, n, hfu, rfl, hl, hlen, hf⟩ := DataW.trod_struct Tryz.underlying48 h
 have hl5 : cs.length = 9 := hl.trans (by kernel_rfl)
 match cs, hl5 with
 | [c0, c1, c2, c3, c4, c5, c6, c7, c8], _ =>
  have e0 : DataW.trod enc Tryz.prog W 0 (fun _ => true) true n 3 (([c0, c1, c2, c3, c4, c5, c6, c7, c8].drop 0).take (Tryz.prog.cellsOf 3)) = xs[0]? := hf 0 _ rfl
  have e1 : DataW.trod enc Tryz.prog W 0 (fun _ => true) true n 9 (([c0, c1, c2, c3, c4, c5, c6, c7, c8].drop 1).take (Tryz.prog.cellsOf 9)) = xs[1]? := hf 1 _ rfl
  have e2 : DataW.trod enc Tryz.prog W 0 (fun _ => true) true n 9 (([c0, c1, c2, c3, c4, c5, c6, c7, c8].drop 2).take (Tryz.prog.cellsOf 9)) = xs[2]? := hf 2 _ rfl
  have e3 : DataW.trod enc Tryz.prog W 0 (fun _ => true) true n 45 (([c0, c1, c2, c3, c4, c5, c6, c7, c8].drop 3).take (Tryz.prog.cellsOf 45)) = xs[3]? := hf 3 _ rfl
  have e4 : DataW.trod enc Tryz.prog W 0 (fun _ => true) true n 46 (([c0, c1, c2, c3, c4, c5, c6, c7, c8].drop 4).take (Tryz.prog.cellsOf 46)) = xs[4]? := hf 4 _ rfl
  have e5 : DataW.trod enc Tryz.prog W 0 (fun _ => true) true n 37 (([c0, c1, c2, c3, c4, c5, c6, c7, c8].drop 5).take (Tryz.prog.cellsOf 37)) = xs[5]? := hf 5 _ rfl
  have e6 : DataW.trod enc Tryz.prog W 0 (fun _ => true) true n 37 (([c0, c1, c2, c3, c4, c5, c6, c7, c8].drop 6).take (Tryz.prog.cellsOf 37)) = xs[6]? := hf 6 _ rfl
  have e7 : DataW.trod enc Tryz.prog W 0 (fun _ => true) true n 35 (([c0, c1, c2, c3, c4, c5, c6, c7, c8].drop 7).take (Tryz.prog.cellsOf 35)) = xs[7]? := hf 7 _ rfl
  have e8 : DataW.trod enc Tryz.prog W 0 (fun _ => true) true n 35 (([c0, c1, c2, c3, c4, c5, c6, c7, c8].drop 8).take (Tryz.prog.cellsOf 35)) = xs[8]? := hf 8 _ rfl
  have k0 : Tryz.prog.cellsOf 3 = 1 := by kernel_rfl
  have k1 : Tryz.prog.cellsOf 9 = 1 := by kernel_rfl
  have k2 : Tryz.prog.cellsOf 45 = 1 := by kernel_rfl
  have k3 : Tryz.prog.cellsOf 46 = 1 := by kernel_rfl
  have k4 : Tryz.prog.cellsOf 37 = 1 := by kernel_rfl
  have k5 : Tryz.prog.cellsOf 35 = 1 := by kernel_rfl
  simp only [k0, k1, k2, k3, k4, k5] at e0 e1 e2 e3 e4 e5 e6 e7 e8
  simp only [List.drop_zero, List.drop_succ_cons, List.take_succ_cons, List.take_zero, List.take_nil] at e0 e1 e2 e3 e4 e5 e6 e7 e8
  match xs, hlen with
  | [x0, x1, x2, x3, x4, x5, x6, x7, x8], _ =>
   obtain ⟨op, a0, z0, _⟩ := DataW.trod_int Tryz.underlying3 e0
   obtain ⟨nm, a1, z1, _⟩ := DataW.trod_string Tryz.underlying9 e1
   obtain ⟨nf, a2, z2, _⟩ := DataW.trod_string Tryz.underlying9 e2
   obtain ⟨xa, xc, xl, a3, i3, g3, b3, m3, n3⟩ := row_open (k := 6) (cells := XT.cells) (inn := XT.In W.heap.size W) (wf := XT.Wf) (bk := XT.bk) Tryz.underlying45 (by kernel_rfl) (by omega) (fun t => by cases t; rfl) (fun m cs z hm hz => xt_data m cs z hz) e3
   rw [← XT.bkL_sum] at b3
   obtain ⟨sa, sc, sl, a4, i4, g4, b4, m4, n4⟩ := row_open (k := 4) (cells := ST.cells) (inn := ST.In W.heap.size W) (wf := ST.Wf) (bk := ST.bk) Tryz.underlying46 (by kernel_rfl) (by omega) (fun t => by cases t; rfl) (fun m cs z hm hz => st_data m cs z hz) e4
   rw [← ST.bkL_sum] at b4
   obtain ⟨la, lc, ll, a5, i5, g5, b5, m5, n5⟩ := row_open (k := 9) (cells := IT.cells) (inn := IT.In W.heap.size W) (wf := IT.Wf) (bk := IT.bk) Tryz.underlying37 (by kernel_rfl) (by omega) (fun t => by cases t; rfl) (fun m cs z hm hz => ih m (by omega) cs z hz) e5
   rw [← IT.bkL_sum] at b5
   obtain ⟨ea, ec, el, a6, i6, g6, b6, m6, n6⟩ := row_open (k := 9) (cells := IT.cells) (inn := IT.In W.heap.size W) (wf := IT.Wf) (bk := IT.bk) Tryz.underlying37 (by kernel_rfl) (by omega) (fun t => by cases t; rfl) (fun m cs z hm hz => ih m (by omega) cs z hz) e6
   rw [← IT.bkL_sum] at b6
   obtain ⟨pa, pc, pl, a7, i7, g7, b7, m7, n7⟩ := row_open (k := 7) (cells := BT.cells) (inn := BT.In W.heap.size W) (wf := BT.Wf) (bk := BT.bk) Tryz.underlying35 (by kernel_rfl) (by omega) (fun t => by obtain ⟨bn, x⟩ := t; cases x; rfl) (fun m cs z hm hz => bt_data m cs z hz) e7
   rw [← BT.bkL_sum] at b7
   obtain ⟨ba, bc, bl, a8, i8, g8, b8, m8, n8⟩ := row_open (k := 7) (cells := BT.cells) (inn := BT.In W.heap.size W) (wf := BT.Wf) (bk := BT.bk) Tryz.underlying35 (by kernel_rfl) (by omega) (fun t => by obtain ⟨bn, x⟩ := t; cases x; rfl) (fun m cs z hm hz => bt_data m cs z hz) e8
   rw [← BT.bkL_sum] at b8
   simp only [List.cons.injEq, and_true] at a0 a1 a2
   subst z0
   subst z1
   subst z2
   refine ⟨(IT.mk op nm.data.toList nf.data.toList xa xc xl sa sc sl la lc ll ea ec el pa pc pl ba bc bl), ?_, ?_, ?_, ?_⟩
   ·rw [a0, a1, a2, a3, a4, a5, a6, a7, a8]
    simp only [IT.cells, ← bs_toList]
   ·rw [IT.In_mk]
    exact ⟨i3, i4, i5, i6, i7, i8⟩
   ·rw [IT.Wf, XT.wfL_iff, ST.wfL_iff, IT.wfL_iff, IT.wfL_iff, BT.wfL_iff, BT.wfL_iff]
    exact ⟨g3, g4, g5, g6, g7, g8⟩
   ·simp only [IT.bk, Rows.uptoBulk, Rows.uptoBulkAll, List.map_cons, List.map_nil]
    omega
set_option maxRecDepth 9000000 in
theorem mt_data {W : World} : ∀ (fuel : Nat) (cs : List Value) (z : DataW H × List MemPlace), DataW.trod enc Tryz.prog W 0 (fun _ => true) true fuel 39 cs = some z → ∃ t : MT, cs = t.cells ∧ t.In W.heap.size W ∧ t.Wf ∧ t.bk ≤ Rows.uptoBulk z.1 := by
 intro fuel
 induction fuel using Nat.strongRecOn with
 | ind fuel ih =>
 intro cs z h
 obtain ⟨xs, n, hfu, rfl, hl, hlen, hf⟩ := DataW.trod_struct Tryz.underlying39 h
 have hl5 : cs.length = 4 := hl.trans (by kernel_rfl)
 match cs, hl5 with
 | [c0, c1, c2, c3], _ =>
  have e0 : DataW.trod enc Tryz.prog W 0 (fun _ => true) true n 9 (([c0, c1, c2, c3].drop 0).take (Tryz.prog.cellsOf 9)) = xs[0]? := hf 0 _ rfl
  have e1 : DataW.trod enc Tryz.prog W 0 (fun _ => true) true n 35 (([c0, c1, c2, c3].drop 1).take (Tryz.prog.cellsOf 35)) = xs[1]? := hf 1 _ rfl
  have e2 : DataW.trod enc Tryz.prog W 0 (fun _ => true) true n 36 (([c0, c1, c2, c3].drop 2).take (Tryz.prog.cellsOf 36)) = xs[2]? := hf 2 _ rfl
  have e3 : DataW.trod enc Tryz.prog W 0 (fun _ => true) true n 37 (([c0, c1, c2, c3].drop 3).take (Tryz.prog.cellsOf 37)) = xs[3]? := hf 3 _ rfl
  have k0 : Tryz.prog.cellsOf 9 = 1 := by kernel_rfl
  have k1 : Tryz.prog.cellsOf 35 = 1 := by kernel_rfl
  have k2 : Tryz.prog.cellsOf 36 = 1 := by kernel_rfl
  have k3 : Tryz.prog.cellsOf 37 = 1 := by kernel_rfl
  simp only [k0, k1, k2, k3] at e0 e1 e2 e3
  simp only [List.drop_zero, List.drop_succ_cons, List.take_succ_cons, List.take_zero, List.take_nil] at e0 e1 e2 e3
  match xs, hlen with
  | [x0, x1, x2, x3], _ =>
   obtain ⟨nm, a0, z0, _⟩ := DataW.trod_string Tryz.underlying9 e0
   obtain ⟨pa, pc, pl, a1, i1, g1, b1, m1, n1⟩ := row_open (k := 7) (cells := BT.cells) (inn := BT.In W.heap.size W) (wf := BT.Wf) (bk := BT.bk) Tryz.underlying35 (by kernel_rfl) (by omega) (fun t => by obtain ⟨bn, x⟩ := t; cases x; rfl) (fun m cs z hm hz => bt_data m cs z hz) e1
   rw [← BT.bkL_sum] at b1
   obtain ⟨ta, tc, tl, a2, i2, g2, b2, m2, n2⟩ := row_open (k := 8) (cells := PT.cells) (inn := PT.In W.heap.size W) (wf := PT.Wf) (bk := PT.bk) Tryz.underlying36 (by kernel_rfl) (by omega) (fun t => by obtain ⟨bn, po, x⟩ := t; cases x; rfl) (fun m cs z hm hz => pt_data m cs z hz) e2
   rw [← PT.bkL_sum] at b2
   obtain ⟨ia, ic, il, a3, i3, g3, b3, m3, n3⟩ := row_open (k := 9) (cells := IT.cells) (inn := IT.In W.heap.size W) (wf := IT.Wf) (bk := IT.bk) Tryz.underlying37 (by kernel_rfl) (by omega) (fun t => by cases t; rfl) (fun m cs z hm hz => it_data m cs z hz) e3
   rw [← IT.bkL_sum] at b3
   simp only [List.cons.injEq, and_true] at a0
   subst z0
   refine ⟨⟨nm.data.toList, pa, pc, pl, ta, tc, tl, ia, ic, il⟩, ?_, ?_, ?_, ?_⟩
   ·rw [a0, a1, a2, a3]
    simp only [MT.cells, ← bs_toList]
   ·exact ⟨i1, i2, i3⟩
   ·show BT.WfL pl ∧ PT.WfL tl ∧ IT.WfL il
    rw [BT.wfL_iff, PT.wfL_iff, IT.wfL_iff]
    exact ⟨g1, g2, g3⟩
   ·simp only [MT.bk, Rows.uptoBulk, Rows.uptoBulkAll, List.map_cons, List.map_nil]
    omega
set_option maxRecDepth 9000000 in
theorem ft_data {W : World} : ∀ (fuel : Nat) (cs : List Value) (z : DataW H × List MemPlace), DataW.trod enc Tryz.prog W 0 (fun _ => true) true fuel 24 cs = some z → ∃ t : FT, cs = t.cells ∧ t.In W.heap.size W ∧ t.Wf ∧ t.bk ≤ Rows.uptoBulk z.1 ∧ t.ml.length ≤ t.mc ∧ (t.ma = none → t.mc = 0) := by
 intro fuel
 induction fuel using Nat.strongRecOn with
 | ind fuel ih =>
 intro cs z h
 obtain ⟨xs, n, hfu, rfl, hl, hlen, hf⟩ := DataW.trod_struct Tryz.underlying24 h
 have hl5 : cs.length = 1 := hl.trans (by kernel_rfl)
 match cs, hl5 with
 | [c0], _ =>
  have e0 : DataW.trod enc Tryz.prog W 0 (fun _ => true) true n 22 (([c0].drop 0).take (Tryz.prog.cellsOf 22)) = xs[0]? := hf 0 _ rfl
  have k0 : Tryz.prog.cellsOf 22 = 1 := by kernel_rfl
  simp only [k0] at e0
  simp only [List.drop_zero, List.drop_succ_cons, List.take_succ_cons, List.take_zero, List.take_nil] at e0
  match xs, hlen with
  | [x0], _ =>
   obtain ⟨ma, mc, ml, a0, i0, g0, b0, m0, n0⟩ := row_open (k := 4) (cells := MT.cells) (inn := MT.In W.heap.size W) (wf := MT.Wf) (bk := MT.bk) Tryz.underlying22 (by kernel_rfl) (by omega) (fun t => by cases t; rfl) (fun m cs z hm hz => mt_data m cs z hz) e0
   rw [← MT.bkL_sum] at b0
   refine ⟨⟨ma, mc, ml⟩, ?_, ?_, ?_, ?_, m0, n0⟩
   ·rw [a0]
    simp only [FT.cells]
   ·exact i0
   ·show MT.WfL ml
    rw [MT.wfL_iff]
    exact g0
   ·simp only [FT.bk, Rows.uptoBulk, Rows.uptoBulkAll, List.map_cons, List.map_nil]
    omega
set_option maxRecDepth 9000000 in
theorem xt_of {W : World} {base : Nat} {v : Value} {d : DataW H} {p : List MemPlace} (hv : Value.okWide Tryz.prog W .any base 54 v) (h : DataW.Trod enc Tryz.prog W 0 (fun _ => true) true 54 v d p) : ∃ t : XT, v = t.val ∧ t.In W.heap.size W ∧ t.Wf ∧ t.bk ≤ Rows.uptoBulk d := by
 obtain ⟨cs, rfl, hsz⟩ := okWide_struct Tryz.underlying54 hv
 obtain ⟨fuel, hf⟩ := h
 obtain ⟨t, h1, h2, h3, h4⟩ := xt_data fuel _ _ hf
 refine ⟨t, ?_, h2, h3, h4⟩
 simp only [Value.cells] at h1
 rw [XT.val, ← h1]
set_option maxRecDepth 9000000 in
theorem st_of {W : World} {base : Nat} {v : Value} {d : DataW H} {p : List MemPlace} (hv : Value.okWide Tryz.prog W .any base 134 v) (h : DataW.Trod enc Tryz.prog W 0 (fun _ => true) true 134 v d p) : ∃ t : ST, v = t.val ∧ t.In W.heap.size W ∧ t.Wf ∧ t.bk ≤ Rows.uptoBulk d := by
 obtain ⟨cs, rfl, hsz⟩ := okWide_struct Tryz.underlying134 hv
 obtain ⟨fuel, hf⟩ := h
 obtain ⟨t, h1, h2, h3, h4⟩ := st_data fuel _ _ hf
 refine ⟨t, ?_, h2, h3, h4⟩
 simp only [Value.cells] at h1
 rw [ST.val, ← h1]
set_option maxRecDepth 9000000 in
theorem ft_of {W : World} {base : Nat} {v : Value} {d : DataW H} {p : List MemPlace} (hv : Value.okWide Tryz.prog W .any base 24 v) (h : DataW.Trod enc Tryz.prog W 0 (fun _ => true) true 24 v d p) : ∃ t : FT, v = t.val ∧ t.In W.heap.size W ∧ t.Wf ∧ t.bk ≤ Rows.uptoBulk d ∧ t.ml.length ≤ t.mc ∧ (t.ma = none → t.mc = 0) := by
 obtain ⟨cs, rfl, hsz⟩ := okWide_struct Tryz.underlying24 hv
 obtain ⟨fuel, hf⟩ := h
 obtain ⟨t, h1, h2, h3, h4⟩ := ft_data fuel _ _ hf
 refine ⟨t, ?_, h2, h3, h4⟩
 simp only [Value.cells] at h1
 rw [FT.val, ← h1]
end
end Go.Proofs.YtiipjbafdhijlaaGreatDoor
