/-
  The rows of the laws of sized: arguments opened to trees.
-/
import Derived.Test.YtbcgeglkmpcnpaaDoorEyO
import Derived.Test.YtbcgeglkmpcnpaaDoorEyA
import Derived.Deep.MidRow
namespace Go.Proofs.YtbcgeglkmpcnpaaDoor
open Go Go.ChangeShapes Go.WideShapes Go.ChangeAt Go.RowKit Go.Joins Go.Sort Go.Deep
set_option linter.unusedVariables false
set_option linter.unusedSimpArgs false

section
variable {H : Type} {enc : TypeId × Value → H}
theorem add_plain' (b o j : Nat) : (⟨b, o, none⟩ : Addr).add j = ⟨b, o + j, none⟩ := Addr.add_mid b o j
theorem bulkAll_sum : ∀ l : List (DataW H), Rows.uptoBulkAll l = (l.map Rows.uptoBulk).sum
  | [] => by simp [Rows.uptoBulkAll]
  | d :: r => by simp [Rows.uptoBulkAll, bulkAll_sum r]
theorem sum_le {α β : Type} (f : α → Nat) (g : β → Nat) : ∀ (l : List α) (m : List β), l.length = m.length → (∀ i (h1 : i < l.length) (h2 : i < m.length), f l[i] ≤ g m[i]) → (l.map f).sum ≤ (m.map g).sum
  | [], _, _, _ => by simp
  | x :: r, [], h, _ => by simp at h
  | x :: r, y :: q, h, hi => by
    have h0 := hi 0 (by simp) (by simp)
    have h1 := sum_le f g r q (by simpa using h) (fun i a b => by have := hi (i + 1) (by simpa using a) (by simpa using b); simpa using this)
    simp at h0
    simp
    omega
theorem inrow_of {α : Type} {k : Nat} {cells : α → List Value} {inn : α → Prop} {n : Nat} {W : World} (T : Nat → α) (b o : Nat) (hb : b < n) : ∀ (len s : Nat), (∀ i, s ≤ i → i < s + len → RowC W b (o + i * k) (cells (T i)) ∧ inn (T i)) → InRow k cells inn n W ((List.range' s len).map T) (some ⟨b, o + s * k, none⟩)
  | 0, _, _ => trivial
  | len + 1, s, h => by
    rw [List.range'_succ, List.map_cons]
    refine ⟨⟨b, o + s * k, rfl, hb, (h s (Nat.le_refl _) (by omega)).1⟩, (h s (Nat.le_refl _) (by omega)).2, ?_⟩
    rw [Option.map_some, add_plain', Nat.add_assoc, ← Nat.succ_mul]
    exact inrow_of T b o hb len (s + 1) (fun i h1 h2 => h i (by omega) (by omega))
/-- A slice of structs that came in. -/
theorem row_open {α : Type} {k : Nat} {cells : α → List Value} {inn wf : α → Prop} {bk : α → Nat} {W : World} {e ts : TypeId} {fuel : Nat} {v : Value} {x : DataW H × List MemPlace} (hts : Tryd.prog.underlying ts = some (.slice e)) (hk : Tryd.prog.cellsOf e = k) (hkp : 0 < k) (hcl : ∀ t, (cells t).length = k)
    (IH : ∀ m cs z, m < fuel → DataW.trod enc Tryd.prog W 0 (fun _ => true) true m e cs = some z → ∃ t : α, cs = cells t ∧ inn t ∧ wf t ∧ bk t ≤ Rows.uptoBulk z.1)
    (h : DataW.trod enc Tryd.prog W 0 (fun _ => true) true fuel ts [v] = some x) : ∃ (a : Option Addr) (c : Nat) (l : List α), v = .slice a l.length c ∧ InRow k cells inn W.heap.size W l a ∧ (∀ t ∈ l, wf t) ∧ (l.map bk).sum + 1 ≤ Rows.uptoBulk x.1 ∧ l.length ≤ c ∧ (a = none → c = 0) := by
  rcases DataW.trod_slice hts h with ⟨hcs, rfl⟩ | ⟨a, len, cap, elems, rest, m, rfl, hcs, rfl, _, hl, hc, hlen, hel, _, _⟩
  · simp only [List.cons.injEq, and_true] at hcs
    exact ⟨none, 0, [], hcs, trivial, by simp, by simp [Rows.uptoBulk], by simp, fun _ => rfl⟩
  · simp only [List.cons.injEq, and_true] at hcs
    have each : ∀ i (hi : i < len), ∃ t : α, (∀ j u, (cells t)[j]? = some u → W.cell? ((a.add (i * k)).add j) = some u) ∧ inn t ∧ wf t ∧ bk t ≤ Rows.uptoBulk (elems[i]'(by omega)).1 := by
      intro i hi
      have h1 := hel i hi
      rw [List.getElem?_eq_getElem (by omega), Option.bind_eq_some_iff] at h1
      obtain ⟨cs', h2, h3⟩ := h1
      obtain ⟨t, rfl, h4, h5, h6⟩ := IH m cs' _ (by omega) h3
      rw [hk] at h2
      have h7 := (World.cells?_some h2).2.2
      exact ⟨t, fun j u hu => by rw [← hu]; exact h7 j (by rw [← hcl t]; exact (List.getElem?_eq_some_iff.1 hu).1), h4, h5, h6⟩
    by_cases h0 : len = 0
    · subst h0
      exact ⟨some a, cap, [], hcs, trivial, by simp, by simp [Rows.uptoBulk], by simp, fun h => by cases h⟩
    · obtain ⟨T, hT⟩ : ∃ T : Nat → α, ∀ i (hi : i < len), (∀ j u, (cells (T i))[j]? = some u → W.cell? ((a.add (i * k)).add j) = some u) ∧ inn (T i) ∧ wf (T i) ∧ bk (T i) ≤ Rows.uptoBulk (elems[i]'(by omega)).1 :=
        ⟨fun i => if h : i < len then Classical.choose (each i h) else Classical.choose (each 0 (by omega)), fun i h => by simp only [dif_pos h]; exact Classical.choose_spec (each i h)⟩
      obtain ⟨b, off, spot⟩ := a
      have c0 : ∃ u, W.cell? (((⟨b, off, spot⟩ : Addr).add (0 * k)).add 0) = some u := by
        have hp : 0 < (cells (T 0)).length := by rw [hcl]; exact hkp
        exact ⟨_, (hT 0 (by omega)).1 0 _ (List.getElem?_eq_getElem hp)⟩
      obtain ⟨u0, hu0⟩ := c0
      have hspot : spot = none := by
        have := World.cell?_spot hu0
        simpa [Addr.add] using this
      subst hspot
      have hb : b < W.heap.size := by
        rw [add_plain', add_plain'] at hu0
        exact block_lt_of_cell hu0
      refine ⟨some ⟨b, off, none⟩, cap, (List.range len).map T, by simpa using hcs, ?_, ?_, ?_, by simpa using hl, fun h => by cases h⟩
      · have := inrow_of (k := k) (cells := cells) (inn := inn) (n := W.heap.size) (W := W) T b off hb len 0 (fun i _ hi => ⟨fun j u hu => by
          have := (hT i (by omega)).1 j u hu
          rw [add_plain', add_plain'] at this
          exact this, (hT i (by omega)).2.1⟩)
        rw [List.range_eq_range']
        simpa using this
      · intro t ht
        obtain ⟨i, hi, rfl⟩ := List.mem_map.1 ht
        exact (hT i (by simpa using hi)).2.2.1
      · have h1 := sum_le bk (fun z : DataW H × List MemPlace => Rows.uptoBulk z.1) ((List.range len).map T) elems (by simp [hlen]) (fun i a b => by
          simp at a
          simpa using (hT i a).2.2.2)
        simp only [Rows.uptoBulk, bulkAll_sum]
        have e : ((elems.map (fun x : DataW H × List MemPlace => x.1)).map Rows.uptoBulk).sum = (elems.map fun z => Rows.uptoBulk z.1).sum := by rw [List.map_map]; rfl
        rw [e]
        omega
theorem ET.bkL_sum : ∀ l : List ET, ET.bkL l = (l.map ET.bk).sum
  | [] => by simp [ET.bkL]
  | x :: r => by simp [ET.bkL, ET.bkL_sum r]
theorem TT.bkL_sum : ∀ l : List TT, TT.bkL l = (l.map TT.bk).sum
  | [] => by simp [TT.bkL]
  | x :: r => by simp [TT.bkL, TT.bkL_sum r]
theorem QT.bkL_sum : ∀ l : List QT, QT.bkL l = (l.map QT.bk).sum
  | [] => by simp [QT.bkL]
  | x :: r => by simp [QT.bkL, QT.bkL_sum r]
theorem KT.bkL_sum : ∀ l : List KT, KT.bkL l = (l.map KT.bk).sum
  | [] => by simp [KT.bkL]
  | x :: r => by simp [KT.bkL, KT.bkL_sum r]
theorem GT.bkL_sum : ∀ l : List GT, GT.bkL l = (l.map GT.bk).sum
  | [] => by simp [GT.bkL]
  | x :: r => by simp [GT.bkL, GT.bkL_sum r]
theorem QT.wfL_of : ∀ l : List QT, (∀ x ∈ l, x.Wf) → QT.WfL l
  | [], _ => trivial
  | x :: r, h => ⟨h x (by simp), QT.wfL_of r (fun y hy => h y (by simp [hy]))⟩
theorem KT.wfL_of : ∀ l : List KT, (∀ x ∈ l, x.Wf) → KT.WfL l
  | [], _ => trivial
  | x :: r, h => ⟨h x (by simp), KT.wfL_of r (fun y hy => h y (by simp [hy]))⟩
def GT.In (_ : Nat) (_ : World) (_ : GT) : Prop := True
set_option maxRecDepth 100000 in
theorem et_data {W : World} : ∀ (fuel : Nat) (cs : List Value) (z : DataW H × List MemPlace), DataW.trod enc Tryd.prog W 0 (fun _ => true) true fuel 30 cs = some z → ∃ t : ET, cs = t.cells ∧ t.In W.heap.size W ∧ t.Wf ∧ t.bk ≤ Rows.uptoBulk z.1 := by
  intro fuel
  induction fuel using Nat.strongRecOn with
  | ind fuel ih =>
  intro cs z h
  obtain ⟨xs, n, hfu, rfl, hl, hlen, hf⟩ := DataW.trod_struct Tryd.underlying30 h
  have hl5 : cs.length = 8 := hl.trans (by kernel_rfl)
  match cs, hl5 with
  | [c0, c1, c2, c3, c4, c5, c6, c7], _ =>
    have e0 : DataW.trod enc Tryd.prog W 0 (fun _ => true) true n 3 (([c0, c1, c2, c3, c4, c5, c6, c7].drop 0).take (Tryd.prog.cellsOf 3)) = xs[0]? := hf 0 _ rfl
    have e1 : DataW.trod enc Tryd.prog W 0 (fun _ => true) true n 3 (([c0, c1, c2, c3, c4, c5, c6, c7].drop 1).take (Tryd.prog.cellsOf 3)) = xs[1]? := hf 1 _ rfl
    have e2 : DataW.trod enc Tryd.prog W 0 (fun _ => true) true n 27 (([c0, c1, c2, c3, c4, c5, c6, c7].drop 2).take (Tryd.prog.cellsOf 27)) = xs[2]? := hf 2 _ rfl
    have e3 : DataW.trod enc Tryd.prog W 0 (fun _ => true) true n 3 (([c0, c1, c2, c3, c4, c5, c6, c7].drop 3).take (Tryd.prog.cellsOf 3)) = xs[3]? := hf 3 _ rfl
    have e4 : DataW.trod enc Tryd.prog W 0 (fun _ => true) true n 3 (([c0, c1, c2, c3, c4, c5, c6, c7].drop 4).take (Tryd.prog.cellsOf 3)) = xs[4]? := hf 4 _ rfl
    have e5 : DataW.trod enc Tryd.prog W 0 (fun _ => true) true n 3 (([c0, c1, c2, c3, c4, c5, c6, c7].drop 5).take (Tryd.prog.cellsOf 3)) = xs[5]? := hf 5 _ rfl
    have e6 : DataW.trod enc Tryd.prog W 0 (fun _ => true) true n 3 (([c0, c1, c2, c3, c4, c5, c6, c7].drop 6).take (Tryd.prog.cellsOf 3)) = xs[6]? := hf 6 _ rfl
    have e7 : DataW.trod enc Tryd.prog W 0 (fun _ => true) true n 28 (([c0, c1, c2, c3, c4, c5, c6, c7].drop 7).take (Tryd.prog.cellsOf 28)) = xs[7]? := hf 7 _ rfl
    have k0 : Tryd.prog.cellsOf 3 = 1 := by kernel_rfl
    have k1 : Tryd.prog.cellsOf 27 = 1 := by kernel_rfl
    have k2 : Tryd.prog.cellsOf 28 = 1 := by kernel_rfl
    simp only [k0, k1, k2] at e0 e1 e2 e3 e4 e5 e6 e7
    simp only [List.drop_zero, List.drop_succ_cons, List.take_succ_cons, List.take_zero, List.take_nil] at e0 e1 e2 e3 e4 e5 e6 e7
    match xs, hlen with
    | [x0, x1, x2, x3, x4, x5, x6, x7], _ =>
      obtain ⟨op, a0, z0, _⟩ := DataW.trod_int Tryd.underlying3 e0
      obtain ⟨wd, a1, z1, _⟩ := DataW.trod_int Tryd.underlying3 e1
      obtain ⟨v0, a2, z2, w2⟩ := DataW.trod_int Tryd.underlying27 e2
      have hV := bounds_u64 w2
      obtain ⟨sg, a3, z3, _⟩ := DataW.trod_int Tryd.underlying3 e3
      obtain ⟨uh, a4, z4, _⟩ := DataW.trod_int Tryd.underlying3 e4
      obtain ⟨ul, a5, z5, _⟩ := DataW.trod_int Tryd.underlying3 e5
      obtain ⟨xn, a6, z6, _⟩ := DataW.trod_int Tryd.underlying3 e6
      obtain ⟨xa, xc, xl, a7, i7, g7, b7, m7, n7⟩ := row_open (k := 8) (cells := ET.cells) (inn := ET.In W.heap.size W) (wf := ET.Wf) (bk := ET.bk) Tryd.underlying28 (by kernel_rfl) (by omega) (fun t => by cases t; rfl) (fun m cs z hm hz => ih m (by omega) cs z hz) e7
      rw [← ET.bkL_sum] at b7
      simp only [List.cons.injEq, and_true] at a0 a1 a2 a3 a4 a5 a6
      subst z0
      subst z1
      subst z2
      subst z3
      subst z4
      subst z5
      subst z6
      refine ⟨(ET.mk op wd v0.toNat sg uh ul xn xa xc xl), ?_, ?_, ?_, ?_⟩
      · rw [a0, a1, a2, a3, a4, a5, a6, a7]
        simp only [ET.cells, show ((v0.toNat : Nat) : Int) = v0 by omega]
      · rw [ET.In_mk]
        exact i7
      · rw [ET.wf_mk]
        exact ⟨by omega, g7⟩
      · simp only [ET.bk, Rows.uptoBulk, Rows.uptoBulkAll, List.map_cons, List.map_nil]
        omega
set_option maxRecDepth 100000 in
theorem tt_data {W : World} : ∀ (fuel : Nat) (cs : List Value) (z : DataW H × List MemPlace), DataW.trod enc Tryd.prog W 0 (fun _ => true) true fuel 48 cs = some z → ∃ t : TT, cs = t.cells ∧ t.In W.heap.size W ∧ t.Wf ∧ t.bk ≤ Rows.uptoBulk z.1 := by
  intro fuel
  induction fuel using Nat.strongRecOn with
  | ind fuel ih =>
  intro cs z h
  obtain ⟨xs, n, hfu, rfl, hl, hlen, hf⟩ := DataW.trod_struct Tryd.underlying48 h
  have hl5 : cs.length = 6 := hl.trans (by kernel_rfl)
  match cs, hl5 with
  | [c0, c1, c2, c3, c4, c5], _ =>
    have e0 : DataW.trod enc Tryd.prog W 0 (fun _ => true) true n 3 (([c0, c1, c2, c3, c4, c5].drop 0).take (Tryd.prog.cellsOf 3)) = xs[0]? := hf 0 _ rfl
    have e1 : DataW.trod enc Tryd.prog W 0 (fun _ => true) true n 3 (([c0, c1, c2, c3, c4, c5].drop 1).take (Tryd.prog.cellsOf 3)) = xs[1]? := hf 1 _ rfl
    have e2 : DataW.trod enc Tryd.prog W 0 (fun _ => true) true n 3 (([c0, c1, c2, c3, c4, c5].drop 2).take (Tryd.prog.cellsOf 3)) = xs[2]? := hf 2 _ rfl
    have e3 : DataW.trod enc Tryd.prog W 0 (fun _ => true) true n 3 (([c0, c1, c2, c3, c4, c5].drop 3).take (Tryd.prog.cellsOf 3)) = xs[3]? := hf 3 _ rfl
    have e4 : DataW.trod enc Tryd.prog W 0 (fun _ => true) true n 28 (([c0, c1, c2, c3, c4, c5].drop 4).take (Tryd.prog.cellsOf 28)) = xs[4]? := hf 4 _ rfl
    have e5 : DataW.trod enc Tryd.prog W 0 (fun _ => true) true n 44 (([c0, c1, c2, c3, c4, c5].drop 5).take (Tryd.prog.cellsOf 44)) = xs[5]? := hf 5 _ rfl
    have k0 : Tryd.prog.cellsOf 3 = 1 := by kernel_rfl
    have k1 : Tryd.prog.cellsOf 28 = 1 := by kernel_rfl
    have k2 : Tryd.prog.cellsOf 44 = 1 := by kernel_rfl
    simp only [k0, k1, k2] at e0 e1 e2 e3 e4 e5
    simp only [List.drop_zero, List.drop_succ_cons, List.take_succ_cons, List.take_zero, List.take_nil] at e0 e1 e2 e3 e4 e5
    match xs, hlen with
    | [x0, x1, x2, x3, x4, x5], _ =>
      obtain ⟨op, a0, z0, _⟩ := DataW.trod_int Tryd.underlying3 e0
      obtain ⟨sg, a1, z1, _⟩ := DataW.trod_int Tryd.underlying3 e1
      obtain ⟨uh, a2, z2, _⟩ := DataW.trod_int Tryd.underlying3 e2
      obtain ⟨ul, a3, z3, _⟩ := DataW.trod_int Tryd.underlying3 e3
      obtain ⟨xa, xc, xl, a4, i4, g4, b4, m4, n4⟩ := row_open (k := 8) (cells := ET.cells) (inn := ET.In W.heap.size W) (wf := ET.Wf) (bk := ET.bk) Tryd.underlying28 (by kernel_rfl) (by omega) (fun t => by cases t; rfl) (fun m cs z hm hz => et_data m cs z hz) e4
      rw [← ET.bkL_sum] at b4
      obtain ⟨sa, sc, sl, a5, i5, g5, b5, m5, n5⟩ := row_open (k := 6) (cells := TT.cells) (inn := TT.In W.heap.size W) (wf := TT.Wf) (bk := TT.bk) Tryd.underlying44 (by kernel_rfl) (by omega) (fun t => by cases t; rfl) (fun m cs z hm hz => ih m (by omega) cs z hz) e5
      rw [← TT.bkL_sum] at b5
      simp only [List.cons.injEq, and_true] at a0 a1 a2 a3
      subst z0
      subst z1
      subst z2
      subst z3
      refine ⟨(TT.mk op sg uh ul xa xc xl sa sc sl), ?_, ?_, ?_, ?_⟩
      · rw [a0, a1, a2, a3, a4, a5]
        simp only [TT.cells]
      · rw [TT.In_mk]
        exact ⟨i4, i5⟩
      · rw [TT.Wf, ET.wfL_iff, TT.wfL_iff]
        exact ⟨g4, g5⟩
      · simp only [TT.bk, Rows.uptoBulk, Rows.uptoBulkAll, List.map_cons, List.map_nil]
        omega
set_option maxRecDepth 100000 in
theorem qt_data {W : World} : ∀ (fuel : Nat) (cs : List Value) (z : DataW H × List MemPlace), DataW.trod enc Tryd.prog W 0 (fun _ => true) true fuel 46 cs = some z → ∃ t : QT, cs = t.cells ∧ t.In W.heap.size W ∧ t.Wf ∧ t.bk ≤ Rows.uptoBulk z.1 := by
  intro fuel
  induction fuel using Nat.strongRecOn with
  | ind fuel ih =>
  intro cs z h
  obtain ⟨xs, n, hfu, rfl, hl, hlen, hf⟩ := DataW.trod_struct Tryd.underlying46 h
  have hl5 : cs.length = 2 := hl.trans (by kernel_rfl)
  match cs, hl5 with
  | [c0, c1], _ =>
    have e0 : DataW.trod enc Tryd.prog W 0 (fun _ => true) true n 4 (([c0, c1].drop 0).take (Tryd.prog.cellsOf 4)) = xs[0]? := hf 0 _ rfl
    have e1 : DataW.trod enc Tryd.prog W 0 (fun _ => true) true n 44 (([c0, c1].drop 1).take (Tryd.prog.cellsOf 44)) = xs[1]? := hf 1 _ rfl
    have k0 : Tryd.prog.cellsOf 4 = 1 := by kernel_rfl
    have k1 : Tryd.prog.cellsOf 44 = 1 := by kernel_rfl
    simp only [k0, k1] at e0 e1
    simp only [List.drop_zero, List.drop_succ_cons, List.take_succ_cons, List.take_zero, List.take_nil] at e0 e1
    match xs, hlen with
    | [x0, x1], _ =>
      obtain ⟨ck, a0, z0⟩ := DataW.trod_bool Tryd.underlying4 e0
      obtain ⟨sa, sc, sl, a1, i1, g1, b1, m1, n1⟩ := row_open (k := 6) (cells := TT.cells) (inn := TT.In W.heap.size W) (wf := TT.Wf) (bk := TT.bk) Tryd.underlying44 (by kernel_rfl) (by omega) (fun t => by cases t; rfl) (fun m cs z hm hz => tt_data m cs z hz) e1
      rw [← TT.bkL_sum] at b1
      simp only [List.cons.injEq, and_true] at a0
      subst z0
      refine ⟨⟨ck, sa, sc, sl⟩, ?_, ?_, ?_, ?_⟩
      · rw [a0, a1]
        simp only [QT.cells]
      · exact i1
      · show TT.WfL sl
        rw [TT.wfL_iff]
        exact g1
      · simp only [QT.bk, Rows.uptoBulk, Rows.uptoBulkAll, List.map_cons, List.map_nil]
        omega
set_option maxRecDepth 100000 in
theorem kt_data {W : World} : ∀ (fuel : Nat) (cs : List Value) (z : DataW H × List MemPlace), DataW.trod enc Tryd.prog W 0 (fun _ => true) true fuel 74 cs = some z → ∃ t : KT, cs = t.cells ∧ t.In W.heap.size W ∧ t.Wf ∧ t.bk ≤ Rows.uptoBulk z.1 := by
  intro fuel
  induction fuel using Nat.strongRecOn with
  | ind fuel ih =>
  intro cs z h
  obtain ⟨xs, n, hfu, rfl, hl, hlen, hf⟩ := DataW.trod_struct Tryd.underlying74 h
  have hl5 : cs.length = 9 := hl.trans (by kernel_rfl)
  match cs, hl5 with
  | [c0, c1, c2, c3, c4, c5, c6, c7, c8], _ =>
    have e0 : DataW.trod enc Tryd.prog W 0 (fun _ => true) true n 9 (([c0, c1, c2, c3, c4, c5, c6, c7, c8].drop 0).take (Tryd.prog.cellsOf 9)) = xs[0]? := hf 0 _ rfl
    have e1 : DataW.trod enc Tryd.prog W 0 (fun _ => true) true n 30 (([c0, c1, c2, c3, c4, c5, c6, c7, c8].drop 1).take (Tryd.prog.cellsOf 30)) = xs[1]? := hf 1 _ rfl
    have k0 : Tryd.prog.cellsOf 9 = 1 := by kernel_rfl
    have k1 : Tryd.prog.cellsOf 30 = 8 := by kernel_rfl
    simp only [k0, k1] at e0 e1
    simp only [List.drop_zero, List.drop_succ_cons, List.take_succ_cons, List.take_zero, List.take_nil] at e0 e1
    match xs, hlen with
    | [x0, x1], _ =>
      obtain ⟨bn, a0, z0, _⟩ := DataW.trod_string Tryd.underlying9 e0
      obtain ⟨x, a1, i1, g1, b1⟩ := et_data n _ _ e1
      simp only [List.cons.injEq, and_true] at a0
      subst z0
      refine ⟨⟨bn.data.toList, x⟩, ?_, ?_, ?_, ?_⟩
      · show _ = .string (bs bn.data.toList) :: x.cells
        rw [← a1, a0]
        simp only [← bs_toList]
      · exact i1
      · exact g1
      · simp only [KT.bk, Rows.uptoBulk, Rows.uptoBulkAll, List.map_cons, List.map_nil, List.length_map, Array.length_toList]
        omega
set_option maxRecDepth 100000 in
theorem gt_data {W : World} : ∀ (fuel : Nat) (cs : List Value) (z : DataW H × List MemPlace), DataW.trod enc Tryd.prog W 0 (fun _ => true) true fuel 71 cs = some z → ∃ t : GT, cs = t.cells ∧ t.In W.heap.size W ∧ t.Wf ∧ t.bk ≤ Rows.uptoBulk z.1 := by
  intro fuel
  induction fuel using Nat.strongRecOn with
  | ind fuel ih =>
  intro cs z h
  obtain ⟨xs, n, hfu, rfl, hl, hlen, hf⟩ := DataW.trod_struct Tryd.underlying71 h
  have hl5 : cs.length = 4 := hl.trans (by kernel_rfl)
  match cs, hl5 with
  | [c0, c1, c2, c3], _ =>
    have e0 : DataW.trod enc Tryd.prog W 0 (fun _ => true) true n 9 (([c0, c1, c2, c3].drop 0).take (Tryd.prog.cellsOf 9)) = xs[0]? := hf 0 _ rfl
    have e1 : DataW.trod enc Tryd.prog W 0 (fun _ => true) true n 3 (([c0, c1, c2, c3].drop 1).take (Tryd.prog.cellsOf 3)) = xs[1]? := hf 1 _ rfl
    have e2 : DataW.trod enc Tryd.prog W 0 (fun _ => true) true n 3 (([c0, c1, c2, c3].drop 2).take (Tryd.prog.cellsOf 3)) = xs[2]? := hf 2 _ rfl
    have e3 : DataW.trod enc Tryd.prog W 0 (fun _ => true) true n 27 (([c0, c1, c2, c3].drop 3).take (Tryd.prog.cellsOf 27)) = xs[3]? := hf 3 _ rfl
    have k0 : Tryd.prog.cellsOf 9 = 1 := by kernel_rfl
    have k1 : Tryd.prog.cellsOf 3 = 1 := by kernel_rfl
    have k2 : Tryd.prog.cellsOf 27 = 1 := by kernel_rfl
    simp only [k0, k1, k2] at e0 e1 e2 e3
    simp only [List.drop_zero, List.drop_succ_cons, List.take_succ_cons, List.take_zero, List.take_nil] at e0 e1 e2 e3
    match xs, hlen with
    | [x0, x1, x2, x3], _ =>
      obtain ⟨nm, a0, z0, _⟩ := DataW.trod_string Tryd.underlying9 e0
      obtain ⟨wd, a1, z1, _⟩ := DataW.trod_int Tryd.underlying3 e1
      obtain ⟨kd, a2, z2, _⟩ := DataW.trod_int Tryd.underlying3 e2
      obtain ⟨ini0, a3, z3, w3⟩ := DataW.trod_int Tryd.underlying27 e3
      have hV := bounds_u64 w3
      simp only [List.cons.injEq, and_true] at a0 a1 a2 a3
      subst z0
      subst z1
      subst z2
      subst z3
      refine ⟨⟨nm.data.toList, wd, kd, ini0.toNat⟩, ?_, ?_, ?_, ?_⟩
      · rw [a0, a1, a2, a3]
        simp only [GT.cells, ← bs_toList, show ((ini0.toNat : Nat) : Int) = ini0 by omega]
      · trivial
      · show ini0.toNat < 18446744073709551616
        omega
      · simp only [GT.bk, Rows.uptoBulk, Rows.uptoBulkAll, List.map_cons, List.map_nil, List.length_map, Array.length_toList]
        omega
set_option maxRecDepth 100000 in
theorem dt_data {W : World} : ∀ (fuel : Nat) (cs : List Value) (z : DataW H × List MemPlace), DataW.trod enc Tryd.prog W 0 (fun _ => true) true fuel 26 cs = some z → ∃ t : DT, cs = t.cells ∧ t.In W.heap.size W ∧ t.Wf ∧ t.bk ≤ Rows.uptoBulk z.1 := by
  intro fuel
  induction fuel using Nat.strongRecOn with
  | ind fuel ih =>
  intro cs z h
  obtain ⟨xs, n, hfu, rfl, hl, hlen, hf⟩ := DataW.trod_struct Tryd.underlying26 h
  have hl5 : cs.length = 3 := hl.trans (by kernel_rfl)
  match cs, hl5 with
  | [c0, c1, c2], _ =>
    have e0 : DataW.trod enc Tryd.prog W 0 (fun _ => true) true n 22 (([c0, c1, c2].drop 0).take (Tryd.prog.cellsOf 22)) = xs[0]? := hf 0 _ rfl
    have e1 : DataW.trod enc Tryd.prog W 0 (fun _ => true) true n 23 (([c0, c1, c2].drop 1).take (Tryd.prog.cellsOf 23)) = xs[1]? := hf 1 _ rfl
    have e2 : DataW.trod enc Tryd.prog W 0 (fun _ => true) true n 24 (([c0, c1, c2].drop 2).take (Tryd.prog.cellsOf 24)) = xs[2]? := hf 2 _ rfl
    have k0 : Tryd.prog.cellsOf 22 = 1 := by kernel_rfl
    have k1 : Tryd.prog.cellsOf 23 = 1 := by kernel_rfl
    have k2 : Tryd.prog.cellsOf 24 = 1 := by kernel_rfl
    simp only [k0, k1, k2] at e0 e1 e2
    simp only [List.drop_zero, List.drop_succ_cons, List.take_succ_cons, List.take_zero, List.take_nil] at e0 e1 e2
    match xs, hlen with
    | [x0, x1, x2], _ =>
      obtain ⟨ga, gc, gl, a0, i0, g0, b0, m0, n0⟩ := row_open (k := 4) (cells := GT.cells) (inn := GT.In W.heap.size W) (wf := GT.Wf) (bk := GT.bk) Tryd.underlying22 (by kernel_rfl) (by omega) (fun t => by obtain ⟨a, b, c, d⟩ := t; rfl) (fun m cs z hm hz => gt_data m cs z hz) e0
      rw [← GT.bkL_sum] at b0
      obtain ⟨qa, qc, ql, a1, i1, g1, b1, m1, n1⟩ := row_open (k := 2) (cells := QT.cells) (inn := QT.In W.heap.size W) (wf := QT.Wf) (bk := QT.bk) Tryd.underlying23 (by kernel_rfl) (by omega) (fun t => by obtain ⟨ck, sa, sc, sl⟩ := t; rfl) (fun m cs z hm hz => qt_data m cs z hz) e1
      rw [← QT.bkL_sum] at b1
      obtain ⟨ka, kc, kl, a2, i2, g2, b2, m2, n2⟩ := row_open (k := 9) (cells := KT.cells) (inn := KT.In W.heap.size W) (wf := KT.Wf) (bk := KT.bk) Tryd.underlying24 (by kernel_rfl) (by omega) (fun t => by obtain ⟨bn, x⟩ := t; cases x; rfl) (fun m cs z hm hz => kt_data m cs z hz) e2
      rw [← KT.bkL_sum] at b2
      refine ⟨⟨ga, gc, gl, qa, qc, ql, ka, kc, kl⟩, ?_, ?_, ?_, ?_⟩
      · show _ = [_, _, _]
        rw [a0, a1, a2]
      · exact ⟨i0, i1, i2⟩
      · exact ⟨g0, QT.wfL_of _ g1, KT.wfL_of _ g2⟩
      · simp only [DT.bk, Rows.uptoBulk, Rows.uptoBulkAll, List.map_cons, List.map_nil]
        omega
set_option maxRecDepth 100000 in
theorem et_of {W : World} {base : Nat} {v : Value} {d : DataW H} {p : List MemPlace} (hv : Value.okWide Tryd.prog W .any base 30 v) (h : DataW.Trod enc Tryd.prog W 0 (fun _ => true) true 30 v d p) : ∃ t : ET, v = t.val ∧ t.In W.heap.size W ∧ t.Wf ∧ t.bk ≤ Rows.uptoBulk d := by
  obtain ⟨cs, rfl, hsz⟩ := okWide_struct Tryd.underlying30 hv
  obtain ⟨fuel, hf⟩ := h
  obtain ⟨t, h1, h2, h3, h4⟩ := et_data fuel _ _ hf
  refine ⟨t, ?_, h2, h3, h4⟩
  simp only [Value.cells] at h1
  rw [ET.val, ← h1]
set_option maxRecDepth 100000 in
theorem dt_of {W : World} {base : Nat} {v : Value} {d : DataW H} {p : List MemPlace} (hv : Value.okWide Tryd.prog W .any base 26 v) (h : DataW.Trod enc Tryd.prog W 0 (fun _ => true) true 26 v d p) : ∃ t : DT, v = t.val ∧ t.In W.heap.size W ∧ t.Wf ∧ t.bk ≤ Rows.uptoBulk d := by
  obtain ⟨cs, rfl, hsz⟩ := okWide_struct Tryd.underlying26 hv
  obtain ⟨fuel, hf⟩ := h
  obtain ⟨t, h1, h2, h3, h4⟩ := dt_data fuel _ _ hf
  refine ⟨t, ?_, h2, h3, h4⟩
  simp only [Value.cells] at h1
  rw [DT.val, ← h1]
end
end Go.Proofs.YtbcgeglkmpcnpaaDoor
