/-
  The laws of the queue: arguments opened.
-/
import Derived.Test.YtchboknncfmcpaaRows
import Derived.Test.YtchboknncfmcpaaQaC
import Derived.ProofKit
import Derived.OpenShut
import Derived.LaidMore
import Derived.Deep.Slices
import Derived.Lib.SmallJoins
import Derived.Deep.DeepHandedRow
namespace Go.Proofs.Ytchboknncfmcpaa
open Go Go.ChangeShapes Go.WideShapes Go.ChangeAt Go.RowKit Go.Joins Go.Sort Go.Deep
set_option linter.unusedVariables false
set_option linter.unusedSimpArgs false

structure RV where
  t : Int
  d : Int
  sg : Int
  v : Int
def RV.cells (e : RV) : List Value := [.int .i64 e.t, .int .i64 e.d, .int .i64 e.sg, .int .u64 e.v]
def RV.Wf (e : RV) : Prop := 0 ≤ e.v ∧ e.v < 18446744073709551616
abbrev RvIn (n : Nat) (w : World) (l : List RV) (a : Option Addr) : Prop := InRow 4 RV.cells RV.Wf n w l a
theorem RvIn.keep {n m : Nat} {w w' : World} {l : List RV} {a : Option Addr} (h : RvIn n w l a) (hb : Below m w w') (hn : n ≤ m) : RvIn n w' l a := InRow.keep (Below.keptTo hb hn) (fun _ _ h => h) h
theorem RvIn.cells {n : Nat} {w : World} {l : List RV} {a : Option Addr} (h : RvIn n w l a) {i : Nat} (hi : i < l.length) : ∃ b o, a = some ⟨b, o, none⟩ ∧
    w.cell? ⟨b, o + i * 4, none⟩ = some (.int .i64 l[i].t) ∧ w.cell? ⟨b, o + i * 4 + 1, none⟩ = some (.int .i64 l[i].d) ∧ w.cell? ⟨b, o + i * 4 + 2, none⟩ = some (.int .i64 l[i].sg) ∧ w.cell? ⟨b, o + i * 4 + 3, none⟩ = some (.int .u64 l[i].v) := by
  obtain ⟨b', o', ha, _, hr, _⟩ := h.at hi
  exact ⟨b', o', ha, hr 0 _ rfl, hr 1 _ rfl, hr 2 _ rfl, hr 3 _ rfl⟩
theorem laidOut : laidOutB Try.prog = true := by kernel_rfl
theorem own14 : ownKnob Try.prog.godebug = none := by kernel_rfl
theorem bounds_u64' {n : Int} (h : (Lit.int .u64 n).wf = true) : 0 ≤ n ∧ n < 18446744073709551616 := by
  have h1 := bounds_u64 h
  constructor <;> omega
section
variable {H : Type} {enc : TypeId × Value → H}
theorem add_plain' (b o j : Nat) : (⟨b, o, none⟩ : Addr).add j = ⟨b, o + j, none⟩ := Addr.add_mid b o j
theorem inrow_of {α : Type} {k : Nat} {cells : α → List Value} {inn : α → Prop} {n : Nat} {W : World} (T : Nat → α) (b o : Nat) (hb : b < n) : ∀ (len s : Nat), (∀ i, s ≤ i → i < s + len → RowC W b (o + i * k) (cells (T i)) ∧ inn (T i)) → InRow k cells inn n W ((List.range' s len).map T) (some ⟨b, o + s * k, none⟩)
  | 0, _, _ => trivial
  | len + 1, s, h => by
    rw [List.range'_succ, List.map_cons]
    refine ⟨⟨b, o + s * k, rfl, hb, (h s (Nat.le_refl _) (by omega)).1⟩, (h s (Nat.le_refl _) (by omega)).2, ?_⟩
    rw [Option.map_some, add_plain', Nat.add_assoc, ← Nat.succ_mul]
    exact inrow_of T b o hb len (s + 1) (fun i h1 h2 => h i (by omega) (by omega))
/-- A slice of structs that came in. -/
theorem row_open {α : Type} {k : Nat} {cells : α → List Value} {inn : α → Prop} {W : World} {e ts : TypeId} {fuel : Nat} {v : Value} {x : DataW H × List MemPlace} (hts : Try.prog.underlying ts = some (.slice e)) (hk : Try.prog.cellsOf e = k) (hkp : 0 < k) (hcl : ∀ t, (cells t).length = k)
    (IH : ∀ m cs z, DataW.trod enc Try.prog W 0 (fun _ => true) true m e cs = some z → ∃ t : α, cs = cells t ∧ inn t)
    (h : DataW.trod enc Try.prog W 0 (fun _ => true) true fuel ts [v] = some x) : ∃ (a : Option Addr) (c : Nat) (l : List α), v = .slice a l.length c ∧ InRow k cells inn W.heap.size W l a ∧ l.length ≤ c ∧ (a = none → c = 0) := by
  rcases DataW.trod_slice hts h with ⟨hcs, rfl⟩ | ⟨a, len, cap, elems, rest, m, rfl, hcs, rfl, _, hl, hc, hlen, hel, _, _⟩
  · simp only [List.cons.injEq, and_true] at hcs
    exact ⟨none, 0, [], hcs, trivial, by simp, fun _ => rfl⟩
  · simp only [List.cons.injEq, and_true] at hcs
    have each : ∀ i (hi : i < len), ∃ t : α, (∀ j u, (cells t)[j]? = some u → W.cell? ((a.add (i * k)).add j) = some u) ∧ inn t := by
      intro i hi
      have h1 := hel i hi
      rw [List.getElem?_eq_getElem (by omega), Option.bind_eq_some_iff] at h1
      obtain ⟨cs', h2, h3⟩ := h1
      obtain ⟨t, rfl, h4⟩ := IH m cs' _ h3
      rw [hk] at h2
      have h7 := (World.cells?_some h2).2.2
      exact ⟨t, fun j u hu => by rw [← hu]; exact h7 j (by rw [← hcl t]; exact (List.getElem?_eq_some_iff.1 hu).1), h4⟩
    by_cases h0 : len = 0
    · subst h0
      exact ⟨some a, cap, [], hcs, trivial, by simp, fun h => by cases h⟩
    · obtain ⟨T, hT⟩ : ∃ T : Nat → α, ∀ i (hi : i < len), (∀ j u, (cells (T i))[j]? = some u → W.cell? ((a.add (i * k)).add j) = some u) ∧ inn (T i) :=
        ⟨fun i => if h : i < len then Classical.choose (each i h) else Classical.choose (each 0 (by omega)), fun i h => by simp only [dif_pos h]; exact Classical.choose_spec (each i h)⟩
      obtain ⟨b, off, spot⟩ := a
      have c0 : ∃ u, W.cell? (((⟨b, off, spot⟩ : Addr).add (0 * k)).add 0) = some u := by
        have hp : 0 < (cells (T 0)).length := by rw [hcl]; exact hkp
        exact ⟨_, (hT 0 (by omega)).1 0 _ (List.getElem?_eq_getElem hp)⟩
      obtain ⟨u0, hu0⟩ := c0
      have hspot : spot = none := by
        have := World.cell?_spot hu0
        simpa [Addr.add] using this
      subst hspot
      have hb : b < W.heap.size := by
        rw [add_plain', add_plain'] at hu0
        exact block_lt_of_cell hu0
      refine ⟨some ⟨b, off, none⟩, cap, (List.range len).map T, by simpa using hcs, ?_, by simpa using hl, fun h => by cases h⟩
      have := inrow_of (k := k) (cells := cells) (inn := inn) (n := W.heap.size) (W := W) T b off hb len 0 (fun i _ hi => ⟨fun j u hu => by
        have := (hT i (by omega)).1 j u hu
        rw [add_plain', add_plain'] at this
        exact this, (hT i (by omega)).2⟩)
      rw [List.range_eq_range']
      simpa using this
set_option maxRecDepth 100000 in
theorem ev_data {W : World} (fuel : Nat) (cs : List Value) (z : DataW H × List MemPlace) (h : DataW.trod enc Try.prog W 0 (fun _ => true) true fuel 35 cs = some z) : ∃ t : EV, cs = t.cells ∧ t.Wf := by
  obtain ⟨xs, n, hfu, rfl, hl, hlen, hf⟩ := DataW.trod_struct Try.underlying35 h
  have hl5 : cs.length = 5 := hl.trans (by kernel_rfl)
  match cs, hl5 with
  | [c0, c1, c2, c3, c4], _ =>
    have e0 : DataW.trod enc Try.prog W 0 (fun _ => true) true n 3 (([c0, c1, c2, c3, c4].drop 0).take (Try.prog.cellsOf 3)) = xs[0]? := hf 0 _ rfl
    have e1 : DataW.trod enc Try.prog W 0 (fun _ => true) true n 3 (([c0, c1, c2, c3, c4].drop 1).take (Try.prog.cellsOf 3)) = xs[1]? := hf 1 _ rfl
    have e2 : DataW.trod enc Try.prog W 0 (fun _ => true) true n 3 (([c0, c1, c2, c3, c4].drop 2).take (Try.prog.cellsOf 3)) = xs[2]? := hf 2 _ rfl
    have e3 : DataW.trod enc Try.prog W 0 (fun _ => true) true n 3 (([c0, c1, c2, c3, c4].drop 3).take (Try.prog.cellsOf 3)) = xs[3]? := hf 3 _ rfl
    have e4 : DataW.trod enc Try.prog W 0 (fun _ => true) true n 25 (([c0, c1, c2, c3, c4].drop 4).take (Try.prog.cellsOf 25)) = xs[4]? := hf 4 _ rfl
    have k0 : Try.prog.cellsOf 3 = 1 := by kernel_rfl
    have k1 : Try.prog.cellsOf 25 = 1 := by kernel_rfl
    simp only [k0, k1] at e0 e1 e2 e3 e4
    simp only [List.drop_zero, List.drop_succ_cons, List.take_succ_cons, List.take_zero, List.take_nil] at e0 e1 e2 e3 e4
    match xs, hlen with
    | [x0, x1, x2, x3, x4], _ =>
      obtain ⟨i0, a0, z0, w0⟩ := DataW.trod_int Try.underlying3 e0
      obtain ⟨i1, a1, z1, w1⟩ := DataW.trod_int Try.underlying3 e1
      obtain ⟨i2, a2, z2, w2⟩ := DataW.trod_int Try.underlying3 e2
      obtain ⟨i3, a3, z3, w3⟩ := DataW.trod_int Try.underlying3 e3
      obtain ⟨i4, a4, z4, w4⟩ := DataW.trod_int Try.underlying25 e4
      simp only [List.cons.injEq, and_true] at a0 a1 a2 a3 a4
      exact ⟨⟨i0, i1, i2, i3, i4⟩, by rw [a0, a1, a2, a3, a4]; rfl, bounds_u64' w4⟩
set_option maxRecDepth 100000 in
theorem rv_data {W : World} (fuel : Nat) (cs : List Value) (z : DataW H × List MemPlace) (h : DataW.trod enc Try.prog W 0 (fun _ => true) true fuel 44 cs = some z) : ∃ t : RV, cs = t.cells ∧ t.Wf := by
  obtain ⟨xs, n, hfu, rfl, hl, hlen, hf⟩ := DataW.trod_struct Try.underlying44 h
  have hl5 : cs.length = 4 := hl.trans (by kernel_rfl)
  match cs, hl5 with
  | [c0, c1, c2, c3], _ =>
    have e0 : DataW.trod enc Try.prog W 0 (fun _ => true) true n 3 (([c0, c1, c2, c3].drop 0).take (Try.prog.cellsOf 3)) = xs[0]? := hf 0 _ rfl
    have e1 : DataW.trod enc Try.prog W 0 (fun _ => true) true n 3 (([c0, c1, c2, c3].drop 1).take (Try.prog.cellsOf 3)) = xs[1]? := hf 1 _ rfl
    have e2 : DataW.trod enc Try.prog W 0 (fun _ => true) true n 3 (([c0, c1, c2, c3].drop 2).take (Try.prog.cellsOf 3)) = xs[2]? := hf 2 _ rfl
    have e3 : DataW.trod enc Try.prog W 0 (fun _ => true) true n 25 (([c0, c1, c2, c3].drop 3).take (Try.prog.cellsOf 25)) = xs[3]? := hf 3 _ rfl
    have k0 : Try.prog.cellsOf 3 = 1 := by kernel_rfl
    have k1 : Try.prog.cellsOf 25 = 1 := by kernel_rfl
    simp only [k0, k1] at e0 e1 e2 e3
    simp only [List.drop_zero, List.drop_succ_cons, List.take_succ_cons, List.take_zero, List.take_nil] at e0 e1 e2 e3
    match xs, hlen with
    | [x0, x1, x2, x3], _ =>
      obtain ⟨i0, a0, z0, w0⟩ := DataW.trod_int Try.underlying3 e0
      obtain ⟨i1, a1, z1, w1⟩ := DataW.trod_int Try.underlying3 e1
      obtain ⟨i2, a2, z2, w2⟩ := DataW.trod_int Try.underlying3 e2
      obtain ⟨i3, a3, z3, w3⟩ := DataW.trod_int Try.underlying25 e3
      simp only [List.cons.injEq, and_true] at a0 a1 a2 a3
      exact ⟨⟨i0, i1, i2, i3⟩, by rw [a0, a1, a2, a3]; rfl, bounds_u64' w3⟩
set_option maxRecDepth 100000 in
theorem qv_data {W : World} (fuel : Nat) (cs : List Value) (z : DataW H × List MemPlace) (h : DataW.trod enc Try.prog W 0 (fun _ => true) true fuel 24 cs = some z) : ∃ (a : Option Addr) (c : Nat) (l : List EV) (now dl nx : Int), cs = [.slice a l.length c, .int .i64 now, .int .i64 dl, .int .i64 nx] ∧ EvIn W.heap.size W l a ∧ l.length ≤ c ∧ (a = none → c = 0) := by
  obtain ⟨xs, n, hfu, rfl, hl, hlen, hf⟩ := DataW.trod_struct Try.underlying24 h
  have hl5 : cs.length = 4 := hl.trans (by kernel_rfl)
  match cs, hl5 with
  | [c0, c1, c2, c3], _ =>
    have e0 : DataW.trod enc Try.prog W 0 (fun _ => true) true n 22 (([c0, c1, c2, c3].drop 0).take (Try.prog.cellsOf 22)) = xs[0]? := hf 0 _ rfl
    have e1 : DataW.trod enc Try.prog W 0 (fun _ => true) true n 3 (([c0, c1, c2, c3].drop 1).take (Try.prog.cellsOf 3)) = xs[1]? := hf 1 _ rfl
    have e2 : DataW.trod enc Try.prog W 0 (fun _ => true) true n 3 (([c0, c1, c2, c3].drop 2).take (Try.prog.cellsOf 3)) = xs[2]? := hf 2 _ rfl
    have e3 : DataW.trod enc Try.prog W 0 (fun _ => true) true n 3 (([c0, c1, c2, c3].drop 3).take (Try.prog.cellsOf 3)) = xs[3]? := hf 3 _ rfl
    have k0 : Try.prog.cellsOf 22 = 1 := by kernel_rfl
    have k1 : Try.prog.cellsOf 3 = 1 := by kernel_rfl
    simp only [k0, k1] at e0 e1 e2 e3
    simp only [List.drop_zero, List.drop_succ_cons, List.take_succ_cons, List.take_zero, List.take_nil] at e0 e1 e2 e3
    match xs, hlen with
    | [x0, x1, x2, x3], _ =>
      obtain ⟨sa, sc, sl, a0, g0, m0, n0⟩ := row_open (k := 5) (cells := EV.cells) (inn := EV.Wf) Try.underlying22 (by kernel_rfl) (by omega) (fun t => rfl) ev_data e0
      obtain ⟨i1, a1, z1, w1⟩ := DataW.trod_int Try.underlying3 e1
      obtain ⟨i2, a2, z2, w2⟩ := DataW.trod_int Try.underlying3 e2
      obtain ⟨i3, a3, z3, w3⟩ := DataW.trod_int Try.underlying3 e3
      simp only [List.cons.injEq, and_true] at a1 a2 a3
      exact ⟨sa, sc, sl, i1, i2, i3, by rw [a0, a1, a2, a3], g0, m0, n0⟩
theorem q_of {W : World} {base : Nat} {v : Value} {d : DataW H} {p : List MemPlace} (hv : Value.okWide Try.prog W .any base 24 v) (h : DataW.Trod enc Try.prog W 0 (fun _ => true) true 24 v d p) : ∃ (a : Option Addr) (c : Nat) (l : List EV) (now dl nx : Int), v = .agg #[.slice a l.length c, .int .i64 now, .int .i64 dl, .int .i64 nx] ∧ EvIn W.heap.size W l a ∧ l.length ≤ c ∧ (a = none → c = 0) := by
  obtain ⟨cs, rfl, hsz⟩ := okWide_struct Try.underlying24 hv
  obtain ⟨fuel, hf⟩ := h
  obtain ⟨a, c, l, now, dl, nx, h1, h2⟩ := qv_data fuel _ _ hf
  refine ⟨a, c, l, now, dl, nx, ?_, h2⟩
  simp only [Value.cells] at h1
  rw [← h1]
theorem r_of {W : World} {base : Nat} {v : Value} {d : DataW H} {p : List MemPlace} (hv : Value.okWide Try.prog W .any base 44 v) (h : DataW.Trod enc Try.prog W 0 (fun _ => true) true 44 v d p) : ∃ (t d sg u : Int), v = .agg #[.int .i64 t, .int .i64 d, .int .i64 sg, .int .u64 u] ∧ 0 ≤ u ∧ u < 18446744073709551616 := by
  obtain ⟨cs, rfl, hsz⟩ := okWide_struct Try.underlying44 hv
  obtain ⟨fuel, hf⟩ := h
  obtain ⟨t, h1, h2⟩ := rv_data fuel _ _ hf
  refine ⟨t.t, t.d, t.sg, t.v, ?_, h2⟩
  simp only [Value.cells] at h1
  rw [show (#[.int .i64 t.t, .int .i64 t.d, .int .i64 t.sg, .int .u64 t.v] : Array Value) = t.cells.toArray from rfl, ← h1]
theorem rs_of {W : World} {base : Nat} {v : Value} {d : DataW H} {p : List MemPlace} (h : DataW.Trod enc Try.prog W 0 (fun _ => true) true 41 v d p) (hc : ∃ a n c, v = .slice a n c) : ∃ (a : Option Addr) (c : Nat) (l : List RV), v = .slice a l.length c ∧ RvIn W.heap.size W l a := by
  obtain ⟨fuel, hf⟩ := h
  obtain ⟨a0, n0, c0, rfl⟩ := hc
  obtain ⟨a, c, l, h1, h2, _⟩ := row_open (k := 4) (cells := RV.cells) (inn := RV.Wf) Try.underlying41 (by kernel_rfl) (by omega) (fun t => rfl) rv_data hf
  exact ⟨a, c, l, h1, h2⟩
end
end Go.Proofs.Ytchboknncfmcpaa
