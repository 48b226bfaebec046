/-
  The laws of stage 2: arguments opened: a text, a token, tokens.
-/
import Derived.Test.YtigdegjhajdmhaaDoorScLd
import Derived.Test.YtigdegjhajdmhaaDoorScLw
namespace Go.Proofs.YtigdegjhajdmhaaDoor
open Go Go.ChangeShapes Go.WideShapes Go.ChangeAt Go.RowKit Go.Joins Go.Sort Go.Deep
set_option linter.unusedVariables false
section
variable {H : Type} {enc : TypeId × Value → H}

theorem add_plain' (b o j : Nat) : (⟨b, o, none⟩ : Addr).add j = ⟨b, o + j, none⟩ := Addr.add_mid b o j
theorem byte_u8 {n : Int} (h : (Lit.int .u8 n).wf = true) : (((UInt8.ofNat n.toNat).toNat : Nat) : Int) = n := by
  have := bounds_u8 h
  rw [UInt8.toNat_ofNat_of_lt' (by show n.toNat < 256; omega)]
  omega
/-- A text that came in. -/
theorem text_of {W : World} {a : Option Addr} {n c : Nat} {d : DataW H} {p : List MemPlace} (h : DataW.Trod enc Tryd.prog W 0 (fun _ => true) true 22 (.slice a n c) d p) : ∃ l : Bytes, l.length = n ∧ n ≤ c ∧ BytesAt W a l ∧ (a = none → c = 0) := by
  obtain ⟨fuel, hf⟩ := h
  rcases open_ints Tryd.underlying22 Tryd.underlying5 (by kernel_rfl) hf with ⟨hcs, _⟩ | ⟨a', len, cap, zs, hcs, _, hl, hm, hz, _, hcell, hwf⟩
  · simp [Value.cells] at hcs
    obtain ⟨rfl, rfl, rfl⟩ := hcs
    exact ⟨[], rfl, Nat.le_refl _, .inl rfl, fun _ => rfl⟩
  · simp [Value.cells] at hcs
    obtain ⟨rfl, rfl, rfl⟩ := hcs
    simp only [if_true] at hz
    refine ⟨(zs.take n).map fun z => UInt8.ofNat z.toNat, by simp; omega, hl, ?_, fun h => by cases h⟩
    by_cases h0 : n = 0
    · subst h0; exact .inl (by simp)
    · obtain ⟨b, off, spot⟩ := a'
      have hspot : spot = none := by
        have := hcell 0 (by omega)
        simpa [Addr.add] using World.cell?_spot this
      subst hspot
      refine .inr ⟨b, off, rfl, fun j hj => ?_⟩
      have hj' : j < n := by simp at hj; omega
      have h1 := hcell j (by omega)
      rw [add_plain'] at h1
      rw [h1, List.getElem_map, List.getElem_take]
      have h2 : zs.getD j 0 = zs[j]'(by omega) := by simp [List.getD, show j < zs.length by omega]
      rw [h2, byte_u8 (hwf _ (List.getElem_mem _))]
theorem weights_mem {P : Program} {e : TypeId} {d : DataW H} : ∀ {l : List (DataW H)}, d ∈ l → ∀ x ∈ d.weights P e, x ∈ DataW.weightsAll P e l
  | [], h, _, _ => absurd h (by simp)
  | a :: l, h, x, hx => by
    rw [DataW.weightsAll, List.mem_append]
    rcases List.mem_cons.1 h with rfl | h
    · exact .inl hx
    · exact .inr (weights_mem h x hx)
theorem weights_first {P : Program} {t : TypeId} {ts : List TypeId} {d : DataW H} {ds : List (DataW H)} (h : (DataW.weightsEach P (#[t].toList ++ ts) ([d] ++ ds)).all (· ≤ reachBytes) = true) : ∀ x ∈ d.weights P t, x ≤ reachBytes := by
  intro x hx
  have : x ∈ DataW.weightsEach P (t :: ts) (d :: ds) := by rw [DataW.weightsEach, List.mem_append]; exact .inl hx
  exact of_decide_eq_true (List.all_eq_true.1 h x this)
/-- A token's five cells, read as data. -/
theorem tok_data {W : World} {base : Nat} {sp : Nat → Bool} {held : Bool} {fuel : Nat} {cs : List Value} {x : DataW H × List MemPlace} (h : DataW.trod enc Tryd.prog W base sp held fuel 32 cs = some x) : ∃ t : G5, cs = [.int .i64 t.k, .string (bs t.s), .int .i64 t.W, .int .u64 (t.V : Int), .int .i64 t.p] ∧ t.V < 18446744073709551616 ∧ ∃ a b c e, x.1 = .agg [a, .lit (.string t.s), b, c, e] := by
  obtain ⟨xs, n, _, rfl, hl, hlen, hf⟩ := DataW.trod_struct Tryd.underlying32 h
  have hl5 : cs.length = 5 := hl.trans (by kernel_rfl)
  match cs, hl5 with
  | [c0, c1, c2, c3, c4], _ =>
    have e0 : DataW.trod enc Tryd.prog W base sp held n 3 (([c0, c1, c2, c3, c4].drop 0).take (Tryd.prog.cellsOf 3)) = xs[0]? := hf 0 _ rfl
    have e1 : DataW.trod enc Tryd.prog W base sp held n 9 (([c0, c1, c2, c3, c4].drop 1).take (Tryd.prog.cellsOf 9)) = xs[1]? := hf 1 _ rfl
    have e2 : DataW.trod enc Tryd.prog W base sp held n 3 (([c0, c1, c2, c3, c4].drop 2).take (Tryd.prog.cellsOf 3)) = xs[2]? := hf 2 _ rfl
    have e3 : DataW.trod enc Tryd.prog W base sp held n 30 (([c0, c1, c2, c3, c4].drop 3).take (Tryd.prog.cellsOf 30)) = xs[3]? := hf 3 _ rfl
    have e4 : DataW.trod enc Tryd.prog W base sp held n 3 (([c0, c1, c2, c3, c4].drop 4).take (Tryd.prog.cellsOf 3)) = xs[4]? := hf 4 _ rfl
    have k1 : Tryd.prog.cellsOf 3 = 1 := by kernel_rfl
    have k2 : Tryd.prog.cellsOf 9 = 1 := by kernel_rfl
    have k3 : Tryd.prog.cellsOf 30 = 1 := by kernel_rfl
    simp only [k1, k2, k3] at e0 e1 e2 e3 e4
    simp only [List.drop_zero, List.drop_succ_cons, List.take_succ_cons, List.take_zero] at e0 e1 e2 e3 e4
    match xs, hlen with
    | [x0, x1, x2, x3, x4], _ =>
      obtain ⟨k, a0, _, _⟩ := DataW.trod_int Tryd.underlying3 e0
      obtain ⟨s, a1, z1, _⟩ := DataW.trod_string Tryd.underlying9 e1
      obtain ⟨Wd, a2, _, _⟩ := DataW.trod_int Tryd.underlying3 e2
      obtain ⟨V, a3, _, wV⟩ := DataW.trod_int Tryd.underlying30 e3
      obtain ⟨at', a4, _, _⟩ := DataW.trod_int Tryd.underlying3 e4
      simp only [List.cons.injEq, and_true] at a0 a1 a2 a3 a4
      have hV := bounds_u64 wV
      refine ⟨⟨k, s.data.toList, Wd, V.toNat, at'⟩, ?_, ?_, x0.1, x2.1, x3.1, x4.1, by rw [z1]; rfl⟩
      · rw [a0, a1, a2, a3, a4]
        simp only [← bs_toList, show ((V.toNat : Nat) : Int) = V by omega]
      · show V.toNat < 18446744073709551616; omega
theorem tok_of {W : World} {base : Nat} {v : Value} {d : DataW H} {p : List MemPlace} (hv : Value.okWide Tryd.prog W .any base 32 v) (h : DataW.Trod enc Tryd.prog W 0 (fun _ => true) true 32 v d p) : ∃ t : G5, v = .agg #[.int .i64 t.k, .string (bs t.s), .int .i64 t.W, .int .u64 (t.V : Int), .int .i64 t.p] ∧ t.V < 18446744073709551616 := by
  obtain ⟨cs, rfl, hsz⟩ := okWide_struct Tryd.underlying32 hv
  obtain ⟨fuel, hf⟩ := h
  have hf' : DataW.trod enc Tryd.prog W 0 (fun _ => true) true fuel 32 cs.toList = some (d, p) := hf
  obtain ⟨t, e, hV, _⟩ := tok_data hf'
  exact ⟨t, by rw [← e], hV⟩
/-- Tokens that came in. -/
theorem toks_of {W : World} {a : Option Addr} {n c : Nat} {d : DataW H} {p : List MemPlace} (h : DataW.Trod enc Tryd.prog W 0 (fun _ => true) true 24 (.slice a n c) d p) (hw : ∀ x ∈ d.weights Tryd.prog 24, x ≤ reachBytes) : ∃ l : List G5, l.length = n ∧ n ≤ c ∧ LiesA W a l ∧ n ≤ maxLen ∧ (l = [] ∨ ∃ b o, a = some ⟨b, o, none⟩ ∧ b < W.heap.size) ∧ (∀ t ∈ l, t.V < 18446744073709551616) ∧ ∀ t ∈ l, t.s.length ≤ reachBytes := by
  obtain ⟨fuel, hf⟩ := h
  have c5 : Tryd.prog.cellsOf 32 = 5 := by kernel_rfl
  rcases open_slice Tryd.underlying24 hf with ⟨hcs, _⟩ | ⟨a', len, cap, m, nn, D, Pl, hcs, _, hl, hm, hmm, hx, hi⟩
  · simp [Value.cells] at hcs
    obtain ⟨rfl, rfl, rfl⟩ := hcs
    exact ⟨[], rfl, Nat.le_refl _, .inl rfl, Nat.zero_le _, .inl rfl, by simp, by simp⟩
  · simp [Value.cells] at hcs
    obtain ⟨rfl, rfl, rfl⟩ := hcs
    simp only [if_true] at hmm
    subst hmm
    have each : ∀ i, i < n → ∃ t : G5, (t.V < 18446744073709551616 ∧ t.s.length ≤ reachBytes) ∧ W.cell? (a'.add (i * 5)) = some (.int .i64 t.k) ∧ W.cell? (a'.add (i * 5 + 1)) = some (.string (bs t.s)) ∧ W.cell? (a'.add (i * 5 + 2)) = some (.int .i64 t.W) ∧ W.cell? (a'.add (i * 5 + 3)) = some (.int .u64 (t.V : Int)) ∧ W.cell? (a'.add (i * 5 + 4)) = some (.int .i64 t.p) := by
      intro i hin
      obtain ⟨cs', h1, h2⟩ := hi i (by omega)
      obtain ⟨t, rfl, hV, xa, xb, xc, xe, hD⟩ := tok_data h2
      have hS : t.s.length ≤ reachBytes := hw _ (by
        have hd : d = .slice ((List.range n).map D) ((List.range (m - n)).map fun j => D (n + j)) := (Prod.mk.inj hx).1
        rw [hd, DataW.weights]
        simp only [Tryd.underlying24]
        refine List.mem_cons_of_mem _ (List.mem_append.2 (.inl (weights_mem (d := D i) (List.mem_map.2 ⟨i, List.mem_range.2 hin, rfl⟩) _ ?_)))
        have hD' : D i = .agg [xa, .lit (.string t.s), xb, xc, xe] := hD
        rw [hD', DataW.weights]
        simp only [Tryd.underlying32]
        simp [DataW.weightsEach, DataW.weights])
      rw [c5] at h1
      have hc := (World.cells?_some h1).2.2
      refine ⟨t, ⟨hV, hS⟩, ?_, ?_, ?_, ?_, ?_⟩
      · have := hc 0 (by omega); simpa [add_add] using this
      · have := hc 1 (by omega); simpa [add_add] using this
      · have := hc 2 (by omega); simpa [add_add] using this
      · have := hc 3 (by omega); simpa [add_add] using this
      · have := hc 4 (by omega); simpa [add_add] using this
    obtain ⟨T, hT⟩ : ∃ T : Nat → G5, ∀ i, i < n → ((T i).V < 18446744073709551616 ∧ (T i).s.length ≤ reachBytes) ∧ W.cell? (a'.add (i * 5)) = some (.int .i64 (T i).k) ∧ W.cell? (a'.add (i * 5 + 1)) = some (.string (bs (T i).s)) ∧ W.cell? (a'.add (i * 5 + 2)) = some (.int .i64 (T i).W) ∧ W.cell? (a'.add (i * 5 + 3)) = some (.int .u64 ((T i).V : Int)) ∧ W.cell? (a'.add (i * 5 + 4)) = some (.int .i64 (T i).p) :=
      ⟨fun i => if h : i < n then Classical.choose (each i h) else ⟨0, [], 0, 0, 0⟩, fun i h => by simp only [dif_pos h]; exact Classical.choose_spec (each i h)⟩
    by_cases h0 : n = 0
    · subst h0
      exact ⟨[], rfl, hl, .inl rfl, Nat.zero_le _, .inl rfl, by simp, by simp⟩
    · obtain ⟨b, off, spot⟩ := a'
      have hspot : spot = none := by
        have := (hT 0 (by omega)).2.1
        simpa [Addr.add] using World.cell?_spot this
      subst hspot
      have hb : b < W.heap.size := by
        have := (hT 0 (by omega)).2.1
        rw [add_plain'] at this
        exact lt_cell this
      refine ⟨(List.range n).map T, by simp, hl, .inr ⟨b, off, rfl, fun i hi' => ?_⟩, by omega, .inr ⟨b, off, rfl, hb⟩, ?_, ?_⟩
      · have hin : i < n := by simpa using hi'
        have e : ((List.range n).map T)[i] = T i := by simp
        obtain ⟨_, h1, h2, h3, h4, h5⟩ := hT i hin
        simp only [add_plain', ← Nat.add_assoc] at h1 h2 h3 h4 h5
        rw [e]
        exact ⟨h1, h2, h3, h4, h5⟩
      · intro t ht
        obtain ⟨i, hi', rfl⟩ := List.mem_map.1 ht
        exact (hT i (by simpa using hi')).1.1
      · intro t ht
        obtain ⟨i, hi', rfl⟩ := List.mem_map.1 ht
        exact (hT i (by simpa using hi')).1.2
end
end Go.Proofs.YtigdegjhajdmhaaDoor
