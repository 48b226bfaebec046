/-
  The reference: numbers with a width, figures, tokens.
-/
import Derived.Test.YtigdegjhajdmhaaDoorScRu
import Derived.Test.YtigdegjhajdmhaaDoorScFt
import Derived.Test.YtigdegjhajdmhaaDoorI
import Derived.Laws.Rows
namespace Go.Proofs.YtigdegjhajdmhaaDoor
open Go Go.RowKit
set_option linter.unusedVariables false
set_option linter.unusedSimpArgs false
open Go.Sort

/-- What the reference tells of a token: nothing but the error, where it is wrong. -/
def gotV (t : Tk) (i : Nat) : Value := if t.err = 0 then .agg #[.int .i64 t.k, .string (bs t.s), .int .i64 (t.W : Int), .int .u64 (t.V : Int), .int .i64 (i : Int), .int .i64 (t.size : Int), .int .i64 0] else .agg #[.int .i64 0, .string (bs []), .int .i64 0, .int .u64 0, .int .i64 0, .int .i64 0, .int .i64 t.err]
def Got0 (w : World) (g : Nat) : Prop := w.heap[g]? = some (.cells #[.int .i64 0, .string ⟨#[]⟩, .int .i64 0, .int .u64 0, .int .i64 0, .int .i64 0, .int .i64 0] 42 (0, 0))
theorem Got0.new (w : World) : Got0 (w.alloc (.cells #[.int .i64 0, .string ⟨#[]⟩, .int .i64 0, .int .u64 0, .int .i64 0, .int .i64 0, .int .i64 0] 42)) w.heap.size := by
  unfold Got0
  show (w.heap.push _)[w.heap.size]? = _
  simp
theorem Got0.lt {w : World} {g : Nat} (h : Got0 w g) : g < w.heap.size := by
  unfold Got0 at h
  rcases Nat.lt_or_ge g w.heap.size with h1 | h1
  · exact h1
  · rw [Array.getElem?_eq_none h1] at h; cases h
theorem Got0.below {w w' : World} {g : Nat} (h : Got0 w g) (hb : Below w.heap.size w w') : Got0 w' g := by
  have := h.lt
  unfold Got0 at *
  rw [hb.block g this]; exact h
theorem Got0.alloc {w : World} {g : Nat} (h : Got0 w g) (x : Obj) : Got0 (w.alloc x) g := h.below ((Below.refl _ _).alloc (Nat.le_refl _) x)
theorem Got0.cells {w : World} {g : Nat} (h : Got0 w g) : w.cell? ⟨g, 0, none⟩ = some (.int .i64 0) ∧ w.cell? ⟨g, 1, none⟩ = some (.string ⟨#[]⟩) ∧ w.cell? ⟨g, 2, none⟩ = some (.int .i64 0) ∧ w.cell? ⟨g, 3, none⟩ = some (.int .u64 0) ∧ w.cell? ⟨g, 4, none⟩ = some (.int .i64 0) ∧ w.cell? ⟨g, 5, none⟩ = some (.int .i64 0) ∧ w.cell? ⟨g, 6, none⟩ = some (.int .i64 0) := by
  unfold Got0 at h
  simp [World.cell?, h]
theorem Got0.free {w : World} {g : Nat} (h : Got0 w g) (i : Nat) : w.frozen? ⟨g, i, none⟩ = false := by
  unfold Got0 at h
  simp [World.frozen?, h]

/-- A row of seven cells laid over. -/
def _root_.Go.World.got7 (w : World) (g : Nat) (a b c d e f h : Value) : World := ((((((w.setCell ⟨g, 0, none⟩ a).setCell ⟨g, 1, none⟩ b).setCell ⟨g, 2, none⟩ c).setCell ⟨g, 3, none⟩ d).setCell ⟨g, 4, none⟩ e).setCell ⟨g, 5, none⟩ f).setCell ⟨g, 6, none⟩ h
theorem got7_eq (w : World) (g : Nat) (a b c d e f h : Value) : ((((((w.setCell ⟨g, 0, none⟩ a).setCell ⟨g, 1, none⟩ b).setCell ⟨g, 2, none⟩ c).setCell ⟨g, 3, none⟩ d).setCell ⟨g, 4, none⟩ e).setCell ⟨g, 5, none⟩ f).setCell ⟨g, 6, none⟩ h = w.got7 g a b c d e f h := rfl
theorem got7_at {w : World} {g : Nat} (hg : Got0 w g) (a b c d e f h : Value) : (w.got7 g a b c d e f h).heap[g]? = some (.cells #[a, b, c, d, e, f, h] 42 (0, 0)) := by
  unfold Got0 at hg
  unfold World.got7
  simp [World.setCell, Array.getElem?_modify, hg]
theorem got7_cells {w : World} {g : Nat} (hg : Got0 w g) (a b c d e f h : Value) : (w.got7 g a b c d e f h).cell? ⟨g, 0, none⟩ = some a ∧ (w.got7 g a b c d e f h).cell? ⟨g, 1, none⟩ = some b ∧ (w.got7 g a b c d e f h).cell? ⟨g, 2, none⟩ = some c ∧ (w.got7 g a b c d e f h).cell? ⟨g, 3, none⟩ = some d ∧ (w.got7 g a b c d e f h).cell? ⟨g, 4, none⟩ = some e ∧ (w.got7 g a b c d e f h).cell? ⟨g, 5, none⟩ = some f ∧ (w.got7 g a b c d e f h).cell? ⟨g, 6, none⟩ = some h := by
  have := got7_at hg a b c d e f h
  simp [World.cell?, this]
theorem got7_below {B : Nat} {w0 w : World} (hb : Below B w0 w) {g : Nat} (hg : B ≤ g) (a b c d e f h : Value) : Below B w0 (w.got7 g a b c d e f h) := by
  unfold World.got7
  exact ((((((hb.setCell (p := ⟨g, 0, none⟩) hg a).setCell (p := ⟨g, 1, none⟩) hg b).setCell (p := ⟨g, 2, none⟩) hg c).setCell (p := ⟨g, 3, none⟩) hg d).setCell (p := ⟨g, 4, none⟩) hg e).setCell (p := ⟨g, 5, none⟩) hg f).setCell (p := ⟨g, 6, none⟩) hg h

theorem numR_ok (r : Nat) (l : Bytes) : (numR r l).1 = (decide (l ≠ []) && allD r l) := by
  unfold numR
  cases h : allD r l with
  | true => cases l <;> simp
  | false => simp
theorem numR_fits (r : Nat) (l : Bytes) (h : allD r l = true) : (numR r l).2.1 = decide (num r l < 18446744073709551616) ∧ (numR r l).2.2 = num r l % 18446744073709551616 := by
  unfold numR
  rw [if_pos h]; exact ⟨rfl, rfl⟩
theorem rb_one (c : UInt8) (r : Bytes) : ((rbS (c :: r)).1 = 0 ∧ (rbS (c :: r)).2.2.2 = false) ∨ ((rbS (c :: r)).1 ≠ 0 ∧ (rbS (c :: r)).1 ≤ 16 ∧ (rbS (c :: r)).2.2.2 = true ∧ (rbS (c :: r)).2.2.1 = r) := by
  unfold rbS
  simp only
  split
  · exact .inr ⟨by simp, by simp, rfl, rfl⟩
  · split
    · exact .inr ⟨by simp, by simp, rfl, rfl⟩
    · split
      · exact .inr ⟨by simp, by simp, rfl, rfl⟩
      · exact .inl ⟨rfl, rfl⟩
/-- What follows of the width's and the value's numbers. -/
def judgeW (F : Bool) (wv : Nat) (G : Bool) (vv : Nat) (size : Nat) : Tk := if F = false ∨ wv < 1 ∨ 64 < wv ∨ G = false ∨ holdsI wv vv = false then badT 22 else ⟨3, [], wv, vv, size, 0⟩
theorem judge_ok {wv vv size : Nat} (h1 : ¬ wv < 1) (h2 : ¬ 64 < wv) (h3 : holdsI (wv : Int) vv = true) : judgeW true wv true vv size = ⟨3, [], wv, vv, size, 0⟩ := by
  unfold judgeW
  rw [if_neg]
  rintro (h | h | h | h | h)
  · cases h
  · exact h1 h
  · exact h2 h
  · cases h
  · rw [h3] at h; cases h
theorem wide_judge (m : Bytes) (n : Nat) (c : UInt8) (r : Bytes) (hm : m.drop (n + 1) = c :: r) (hd : allD 10 (m.take n) = true) (hb : (rbS (c :: r)).1 ≠ 0) : wideS m n =
    if (numR (rbS (c :: r)).1 (r.take (run inName r))).1 = false then badT 21
    else judgeW (numR 10 (m.take n)).2.1 (numR 10 (m.take n)).2.2 (numR (rbS (c :: r)).1 (r.take (run inName r))).2.1 (numR (rbS (c :: r)).1 (r.take (run inName r))).2.2 (n + 2 + run inName r) := by
  rcases rb_one c r with ⟨h0, _⟩ | ⟨_, _, h2, h3⟩
  · exact absurd h0 hb
  · unfold wideS
    rw [hm, h2, h3, if_neg (by decide), numR_ok]
    obtain ⟨f1, f2⟩ := numR_fits 10 (m.take n) hd
    rw [f1, f2]
    generalize rbS (c :: r) = RB at *
    generalize r.take (run inName r) = D at *
    generalize num 10 (m.take n) = N at *
    by_cases hD : D = []
    · subst hD; rw [if_pos rfl]; simp
    · rw [if_neg hD]
      cases ha : allD RB.1 D with
      | false => rw [if_pos rfl]; simp
      | true =>
        obtain ⟨g1, g2⟩ := numR_fits RB.1 D ha
        rw [if_neg (by decide), if_neg (show ¬ (decide (D ≠ []) && true) = false by simp [hD]), g1, g2]
        generalize num RB.1 D = V at *
        unfold judgeW
        by_cases hN : N < 18446744073709551616
        · have eN : N % 18446744073709551616 = N := Nat.mod_eq_of_lt hN
          rw [if_neg (show ¬¬ N < 18446744073709551616 from fun h => h hN), eN, decide_eq_true hN]
          by_cases h64 : 64 < N
          · rw [if_pos h64, if_pos (.inr (.inr (.inl h64)))]
          · rw [if_neg h64]
            by_cases hV : V < 18446744073709551616
            · have eV : V % 18446744073709551616 = V := Nat.mod_eq_of_lt hV
              rw [if_neg (show ¬¬ V < 18446744073709551616 from fun h => h hV), eV, decide_eq_true hV]
              by_cases hh : holdsI N V = false
              · rw [if_pos hh, if_pos (.inr (.inr (.inr (.inr hh))))]
              · rw [if_neg hh, if_neg]
                rintro (h | h | h | h | h)
                · cases h
                · apply hh
                  have : N = 0 := by omega
                  subst this
                  rfl
                · exact h64 h
                · cases h
                · exact hh h
            · rw [if_pos (show ¬ V < 18446744073709551616 from hV), decide_eq_false hV, if_pos (.inr (.inr (.inr (.inl rfl))))]
        · rw [if_pos (show ¬ N < 18446744073709551616 from hN), decide_eq_false hN, if_pos (.inl rfl)]
theorem numR_lt (r : Nat) (l : Bytes) : (numR r l).2.2 < 18446744073709551616 := by
  unfold numR
  split
  · exact Nat.mod_lt _ (by decide)
  · decide

theorem gotV_bad (e : Int) (he : e ≠ 0) (i : Nat) : gotV (badT e) i = .agg #[.int .i64 0, .string (bs []), .int .i64 0, .int .u64 0, .int .i64 0, .int .i64 0, .int .i64 e] := by unfold gotV badT; rw [if_neg he]
theorem gotV_ok (k : Int) (s : Bytes) (W V n i : Nat) : gotV ⟨k, s, W, V, n, 0⟩ i = .agg #[.int .i64 k, .string (bs s), .int .i64 (W : Int), .int .u64 (V : Int), .int .i64 (i : Int), .int .i64 (n : Int), .int .i64 0] := rfl
theorem refbase_b (c : UInt8) (r : Bytes) (w : World) : Calls Tryd.prog 58 #[.int .u8 (c.toNat : Int)] w fun e w' => e = .returned (.int .u64 ((rbS (c :: r)).1 : Int)) ∧ Below w.heap.size w w' := by
  refine (refbase_any c r w).mono ?_
  rintro e w' ⟨h, rfl⟩
  exact ⟨h, Below.refl _ _⟩
set_option maxHeartbeats 8000000 in
set_option maxRecDepth 100000 in
theorem refwide_any (l : Bytes) (hl : l.length ≤ 70000) (i n : Nat) (hin : i + n < l.length) (hd : allD 10 ((l.drop i).take n) = true) (w : World) : Calls Tryd.prog 49 #[.string (bs l), .int .i64 (i : Int), .int .i64 (n : Int)] w fun e w' => e = .returned (gotV (wideS (l.drop i) n) i) ∧ Below w.heap.size w w' := by
  obtain ⟨j, hj⟩ : ∃ j, i + n = j := ⟨_, rfl⟩
  obtain ⟨k, hk⟩ : ∃ k, j + 1 = k := ⟨_, rfl⟩
  have a1 : IntKind.i64.wrap ((i : Int) + (n : Int)) = (j : Int) := by rw [show (i : Int) + (n : Int) = (j : Int) by omega]; exact IntWalk.i64_in _ (by omega)
  have a2 : IntKind.i64.wrap ((j : Int) + 1) = (k : Int) := by rw [show (j : Int) + 1 = (k : Int) by omega]; exact IntWalk.i64_in _ (by omega)
  by_cases hkl : k < l.length
  · have dA : decide ((l.length : Int) ≤ (k : Int)) = false := by rw [decide_eq_false_iff_not]; omega
    have dB : decide (l.length ≤ k) = false := by rw [decide_eq_false_iff_not]; omega
    have x1 : (k : Int) < (l.length : Int) := by omega
    have hm : (l.drop i).drop (n + 1) = l[k] :: l.drop (k + 1) := by rw [List.drop_drop, show i + (n + 1) = k by omega, List.getElem_cons_drop]
    have HMM := Lib.hid hm
    have HJ := fun (hb : (rbS (l[k] :: l.drop (k + 1))).1 ≠ 0) => wide_judge (l.drop i) n l[k] (l.drop (k + 1)) hm hd hb
    have HJH := Lib.hid HJ
    have rb := rb_one l[k] (l.drop (k + 1))
    have hbs := fun w => refbase_b l[k] (l.drop (k + 1)) w
    have HRB : Hid ((rbS (l[k] :: l.drop (k + 1))).1 = 0 → wideS (l.drop i) n = badT 21) := Lib.hid (fun h0 => by
      rcases rb with ⟨_, h2⟩ | ⟨h1, _⟩
      · unfold wideS; rw [hm, h2, if_pos rfl]
      · exact absurd h0 h1)
    clear HJ hm
    generalize (rbS (l[k] :: l.drop (k + 1))).1 = b at *
    by_cases hb0 : b = 0
    · subst hb0
      have HE := Lib.hid (HRB.out rfl)
      have HJK := Lib.hid (And.intro hj hk)
      clear HRB HJH rb hj hk HMM
      go_enter Tryd.func49, Tryd.ntmps49
      have rs := Got0.new w
      have hB : Below w.heap.size w (w.alloc (.cells #[.int .i64 0, .string ⟨#[]⟩, .int .i64 0, .int .u64 0, .int .i64 0, .int .i64 0, .int .i64 0] 42)) := (Below.refl _ _).alloc (Nat.le_refl _) _
      go_wp2_with fail
      refine (hbs _).mono ?_
      rintro e1 w1 ⟨rfl, hb1⟩
      replace rs := rs.below hb1
      replace hB := hB.trans (hb1.mono hB.size)
      clear hbs hb1
      obtain ⟨x0, x1c, x2c, x3c, x4c, x5c, x6c⟩ := rs.cells
      have y0 := rs.free 0
      have y1 := rs.free 1
      have y2 := rs.free 2
      have y3 := rs.free 3
      have y4 := rs.free 4
      have y5 := rs.free 5
      have y6 := rs.free 6
      go_wp2
      rw [got7_eq]
      have F := got7_cells rs (.int .i64 0) (.string ⟨#[]⟩) (.int .i64 0) (.int .u64 0) (.int .i64 0) (.int .i64 0) (.int .i64 21)
      obtain ⟨f0, f1, f2, f3, f4, f5, f6⟩ := F
      refine bodyPost_ret (v := .agg #[.int .i64 0, .string ⟨#[]⟩, .int .i64 0, .int .u64 0, .int .i64 0, .int .i64 0, .int .i64 21]) (by simp only [results, Tryd.results49]; simp [go_sem, f0, f1, f2, f3, f4, f5, f6]) rfl ⟨by rw [HE.out, gotV_bad 21 (by decide)]; rfl, ?_⟩
      exact got7_below hB (by first | (simp; done) | omega) _ _ _ _ _ _ _
    · have hb16 : b ≤ 16 := by rcases rb with ⟨h, _⟩ | ⟨_, h, _⟩; exact absurd h hb0; exact h
      have e0 : ((b : Int) == 0) = false := by rw [beq_eq_false_iff_ne]; omega
      have HJ := Lib.hid (HJH.out hb0)
      obtain ⟨k1, hk1⟩ : ∃ k1, k + 1 = k1 := ⟨_, rfl⟩
      have a3 : IntKind.i64.wrap ((k : Int) + 1) = (k1 : Int) := by rw [show (k : Int) + 1 = (k1 : Int) by omega]; exact IntWalk.i64_in _ (by omega)
      rw [hk1] at HJ
      have hru := fun w => refrunat_any l (by omega) k1 (by omega) w
      have hle := run_le inName (l.drop k1)
      rw [List.length_drop] at hle
      obtain ⟨m, hmm⟩ : ∃ m, run inName (l.drop k1) = m := ⟨_, rfl⟩
      rw [hmm] at hru hle HJ
      obtain ⟨k2, hk2⟩ : ∃ k2, k1 + m = k2 := ⟨_, rfl⟩
      have a4 : IntKind.i64.wrap ((k1 : Int) + (m : Int)) = (k2 : Int) := by rw [show (k1 : Int) + (m : Int) = (k2 : Int) by omega]; exact IntWalk.i64_in _ (by omega)
      have hnm := fun w => refnumber_any ((l.drop k1).take m) (by simp; omega) b (by omega) hb16 w
      have hnw := fun w => refnumber_any ((l.drop i).take n) (by simp; omega) 10 (by omega) (by omega) w
      have hvlt := numR_lt b ((l.drop k1).take m)
      have hwlt := numR_lt 10 ((l.drop i).take n)
      obtain ⟨K, G, vv, hV⟩ : ∃ a b' c, numR b ((l.drop k1).take m) = (a, b', c) := ⟨_, _, _, rfl⟩
      obtain ⟨K2, F, wv, hW⟩ : ∃ a b' c, numR 10 ((l.drop i).take n) = (a, b', c) := ⟨_, _, _, rfl⟩
      rw [hV] at hnm HJ hvlt
      rw [hW] at hnw HJ hwlt
      simp only at hnm hnw hvlt hwlt
      have HVL := Lib.hid hvlt
      have HWL := Lib.hid hwlt
      clear HRB HJH rb hmm hV hW hvlt hwlt
      have sl1 : k2 - k1 = m := by omega
      have sl2 : j - i = n := by omega
      have sl3 : (k1 : Int) ≤ (k2 : Int) := by omega
      have sl4 : (k2 : Int) ≤ (l.length : Int) := by omega
      have sl5 : (i : Int) ≤ (j : Int) := by omega
      have sl6 : (j : Int) ≤ (l.length : Int) := by omega
      have HJK := Lib.hid (And.intro hj (And.intro hk (And.intro hk1 hk2)))
      clear hj hk hk1 hk2 HMM hle
      go_enter Tryd.func49, Tryd.ntmps49
      have rs := Got0.new w
      have hB : Below w.heap.size w (w.alloc (.cells #[.int .i64 0, .string ⟨#[]⟩, .int .i64 0, .int .u64 0, .int .i64 0, .int .i64 0, .int .i64 0] 42)) := (Below.refl _ _).alloc (Nat.le_refl _) _
      go_wp2_with fail
      refine (hbs _).mono ?_
      rintro e1 w1 ⟨rfl, hb1⟩
      replace rs := rs.below hb1
      replace hB := hB.trans (hb1.mono hB.size)
      clear hb1
      go_wp2_with fail
      refine (hru _).mono ?_
      rintro e2 w2 ⟨rfl, rfl⟩
      go_wp2_with fail
      try simp only [List.append_eq, List.cons_append, List.nil_append]
      refine wp_region_var 13 14 9 _ _ (.cells #[.bool false, .bool false, .int .u64 0] 65) (.cells #[.bool K, .bool G, .int .u64 (vv : Int)] 65) (by kernel_rfl) (by kernel_rfl) rfl rfl rfl rfl rfl (by decide) (by kernel_rfl) (by kernel_rfl) (fun a w => by simp [go_sem, ptrTo]) ?_
      refine wpG_quiet (by decide) (by decide) (by rfl) rfl (by simp) ?_; apply Exists.intro; refine ⟨?_, ?_⟩
      · intro SS hS KK hKK; go_big_quiet_op; (first | exact hKK | exact ⟨_, fun _ => rfl, hKK⟩)
      refine wpG_quiet (by decide) (by decide) (by rfl) rfl (by simp) ?_; apply Exists.intro; refine ⟨?_, ?_⟩
      · intro SS hS KK hKK; go_big_quiet_op; (first | exact hKK | exact ⟨_, fun _ => rfl, hKK⟩)
      refine wpG_quiet (by decide) (by decide) (by rfl) rfl (by simp) ?_; apply Exists.intro; refine ⟨?_, ?_⟩
      · intro SS hS KK hKK; go_big_quiet_op; (first | exact hKK | exact ⟨_, fun _ => rfl, hKK⟩)
      refine wpG_quiet (by decide) (by decide) (by rfl) rfl (by simp) ?_; apply Exists.intro; refine ⟨?_, ?_⟩
      · intro SS hS KK hKK; go_big_quiet_op; (first | exact hKK | exact ⟨_, fun _ => rfl, hKK⟩)
      refine wpG_quiet (by decide) (by decide) (by rfl) rfl (by simp) ?_; apply Exists.intro; refine ⟨?_, ?_⟩
      · intro SS hS KK hKK; go_big_quiet_op; (first | exact hKK | exact ⟨_, fun _ => rfl, hKK⟩)
      refine wpG_quiet (by decide) (by decide) (by rfl) rfl (by simp) ?_; apply Exists.intro; refine ⟨?_, ?_⟩
      · intro SS hS KK hKK; go_big_quiet_op; (first | exact hKK | exact ⟨_, fun _ => rfl, hKK⟩)
      refine wpG_quiet (by decide) (by decide) (by rfl) rfl (by simp) ?_; apply Exists.intro; refine ⟨?_, ?_⟩
      · intro SS hS KK hKK; go_big_quiet_op; (first | exact hKK | exact ⟨_, fun _ => rfl, hKK⟩)
      refine wpG_quiet (by decide) (by decide) (by rfl) rfl (by simp) ?_; apply Exists.intro; refine ⟨?_, ?_⟩
      · intro SS hS KK hKK; go_big_quiet_op; (first | exact hKK | exact ⟨_, fun _ => rfl, hKK⟩)
      refine wpG_quiet (by decide) (by decide) (by rfl) rfl (by simp) ?_; apply Exists.intro; refine ⟨?_, ?_⟩
      · intro SS hS KK hKK; go_big_quiet_op; (first | exact hKK | exact ⟨_, fun _ => rfl, hKK⟩)
      refine wpG_quiet (by decide) (by decide) (by rfl) rfl (by simp) ?_; apply Exists.intro; refine ⟨?_, ?_⟩
      · intro SS hS KK hKK; go_big_quiet_op; (first | exact hKK | exact ⟨_, fun _ => rfl, hKK⟩)
      refine wpG_quiet (by decide) (by decide) (by rfl) rfl (by simp) ?_; apply Exists.intro; refine ⟨?_, ?_⟩
      · intro SS hS KK hKK; go_big_quiet_op; (first | exact hKK | exact ⟨_, fun _ => rfl, hKK⟩)
      refine wpG_quiet (by decide) (by decide) (by rfl) rfl (by simp) ?_; apply Exists.intro; refine ⟨?_, ?_⟩
      · intro SS hS KK hKK; go_big_quiet_op; (apply Exists.intro; refine ⟨fun p => ?_, ?_⟩; (focus (first | (go_at_call 58; exact calls_regS hS p (hbs _)) | (go_at_call 50; exact calls_regS hS p (hnm _)))); exact hKK)
      refine wpG_quiet (by decide) (by decide) (by rfl) rfl (by simp) ?_; apply Exists.intro; refine ⟨?_, ?_⟩
      · intro SS hS KK hKK; go_big_quiet_op; (apply Exists.intro; refine ⟨fun p => ?_, ?_⟩; (focus (first | (go_at_call 58; exact calls_regS hS p (hbs _)) | (go_at_call 50; exact calls_regS hS p (hnm _)))); exact hKK)
      refine wpG_var rfl ?_
      simp only [Act.put, List.setIfInBounds_toArray, List.set_cons_zero, List.set_cons_succ]
      refine wpG_store rfl rfl ⟨rfl, fun gs ws hbs2 hgs hos => ?_⟩ ?_
      · have cs0 := cell_of_row ws gs 0 _ _ _ hos; have cs1 := cell_of_row ws gs 1 _ _ _ hos; have cs2 := cell_of_row ws gs 2 _ _ _ hos; have fs0 := frozen_row hos 0; have fs1 := frozen_row hos 1; have fs2 := frozen_row hos 2; exact ⟨_, by simp [go_sem, ptrTo, cs0, cs1, cs2, fs0, fs1, fs2]; rfl, ((hbs2.setCell (by simpa using hgs) _).setCell (by simpa using hgs) _).setCell (by simpa using hgs) _, by simp [World.setCell, Array.getElem?_modify, hos]⟩
      refine wpG_nil ?_
      intro g3 w3 hb3 hg3 hos
      simp only [ptrTo, List.setIfInBounds_toArray, List.set_cons_zero, List.set_cons_succ]
      have nv : NumAt w3 g3 K G (vv : Int) := hos
      replace rs := rs.below hb3
      replace hB := hB.trans (hb3.mono hB.size)
      clear hb3 hos hbs hru hnm
      cases K with
      | false =>
        have HE : Hid (wideS (l.drop i) n = badT 21) := Lib.hid (by rw [HJ.out, if_pos rfl])
        obtain ⟨n0, n1, n2⟩ := nv.cells
        obtain ⟨x0, x1c, x2c, x3c, x4c, x5c, x6c⟩ := rs.cells
        have y0 := rs.free 0
        have y1 := rs.free 1
        have y2 := rs.free 2
        have y3 := rs.free 3
        have y4 := rs.free 4
        have y5 := rs.free 5
        have y6 := rs.free 6
        go_wp2
        rw [got7_eq]
        have F := got7_cells rs (.int .i64 0) (.string ⟨#[]⟩) (.int .i64 0) (.int .u64 0) (.int .i64 0) (.int .i64 0) (.int .i64 21)
        obtain ⟨f0, f1, f2, f3, f4, f5, f6⟩ := F
        refine bodyPost_ret (v := .agg #[.int .i64 0, .string ⟨#[]⟩, .int .i64 0, .int .u64 0, .int .i64 0, .int .i64 0, .int .i64 21]) (by simp only [results, Tryd.results49]; simp [go_sem, f0, f1, f2, f3, f4, f5, f6]) rfl ⟨by rw [HE.out, gotV_bad 21 (by decide)]; rfl, ?_⟩
        exact got7_below hB (by first | (simp; done) | omega) _ _ _ _ _ _ _
      | true =>
        obtain ⟨n0, n1, n2⟩ := nv.cells
        replace HJ : Hid (wideS (l.drop i) n = judgeW F wv G vv (n + 2 + m)) := Lib.hid (by rw [HJ.out, if_neg (by decide)])
        have hvl := HVL.out
        have hwl := HWL.out
        go_wp2_with fail
        refine (hnw _).mono ?_
        rintro e4 w4 ⟨rfl, hb4⟩
        replace rs := rs.below hb4
        replace nv := nv.below hb4
        replace hB := hB.trans (hb4.mono hB.size)
        clear hb4 hnw n0 n1 n2
        have nw := NumAt.new w4 K2 F (wv : Int)
        replace rs := rs.alloc (.cells #[.bool K2, .bool F, .int .u64 (wv : Int)] 65)
        replace nv := nv.alloc (.cells #[.bool K2, .bool F, .int .u64 (wv : Int)] 65)
        replace hB : Below w.heap.size w (w4.alloc (.cells #[.bool K2, .bool F, .int .u64 (wv : Int)] 65)) := hB.alloc hB.size _
        obtain ⟨n0, n1, n2⟩ := nv.cells
        obtain ⟨m0, m1, m2⟩ := nw.cells
        have hfi := fun w => fits_any (wv : Int) vv hvl w
        obtain ⟨hh, hhh⟩ : ∃ b, holdsI (wv : Int) vv = b := ⟨_, rfl⟩
        rw [hhh] at hfi
        have HH := Lib.hid hhh
        clear hhh hvl
        obtain ⟨N2, hN2⟩ : ∃ N2, n + 2 + m = N2 := ⟨_, rfl⟩
        have HN2 := Lib.hid hN2
        clear hN2
        go_upto_region 9 with (fail)
        generalize w4.alloc (.cells #[.bool K2, .bool F, .int .u64 (wv : Int)] 65) = w5 at *
        generalize w4.heap.size = g4 at *
        cases F with
        | false =>
          have HE : Hid (wideS (l.drop i) n = badT 22) := Lib.hid (by rw [HJ.out]; unfold judgeW; rw [if_pos (.inl rfl)])
          obtain ⟨x0, x1c, x2c, x3c, x4c, x5c, x6c⟩ := rs.cells
          have y0 := rs.free 0
          have y1 := rs.free 1
          have y2 := rs.free 2
          have y3 := rs.free 3
          have y4 := rs.free 4
          have y5 := rs.free 5
          have y6 := rs.free 6
          go_wp2
          rw [got7_eq]
          have F := got7_cells rs (.int .i64 0) (.string ⟨#[]⟩) (.int .i64 0) (.int .u64 0) (.int .i64 0) (.int .i64 0) (.int .i64 22)
          obtain ⟨f0, f1, f2, f3, f4, f5, f6⟩ := F
          refine bodyPost_ret (v := .agg #[.int .i64 0, .string ⟨#[]⟩, .int .i64 0, .int .u64 0, .int .i64 0, .int .i64 0, .int .i64 22]) (by simp only [results, Tryd.results49]; simp [go_sem, f0, f1, f2, f3, f4, f5, f6]) rfl ⟨by rw [HE.out, gotV_bad 22 (by decide)]; rfl, ?_⟩
          exact got7_below hB (by first | (simp; done) | omega) _ _ _ _ _ _ _
        | true =>
          by_cases h1 : wv < 1
          · have z1 : decide ((wv : Int) < 1) = true := by rw [decide_eq_true_eq]; omega
            have z1b : decide (wv < 1) = true := by simpa using h1
            have HE : Hid (wideS (l.drop i) n = badT 22) := Lib.hid (by rw [HJ.out]; unfold judgeW; rw [if_pos (.inr (.inl h1))])
            obtain ⟨x0, x1c, x2c, x3c, x4c, x5c, x6c⟩ := rs.cells
            have y0 := rs.free 0
            have y1 := rs.free 1
            have y2 := rs.free 2
            have y3 := rs.free 3
            have y4 := rs.free 4
            have y5 := rs.free 5
            have y6 := rs.free 6
            go_wp2
            rw [got7_eq]
            have F := got7_cells rs (.int .i64 0) (.string ⟨#[]⟩) (.int .i64 0) (.int .u64 0) (.int .i64 0) (.int .i64 0) (.int .i64 22)
            obtain ⟨f0, f1, f2, f3, f4, f5, f6⟩ := F
            refine bodyPost_ret (v := .agg #[.int .i64 0, .string ⟨#[]⟩, .int .i64 0, .int .u64 0, .int .i64 0, .int .i64 0, .int .i64 22]) (by simp only [results, Tryd.results49]; simp [go_sem, f0, f1, f2, f3, f4, f5, f6]) rfl ⟨by rw [HE.out, gotV_bad 22 (by decide)]; rfl, ?_⟩
            exact got7_below hB (by first | (simp; done) | omega) _ _ _ _ _ _ _
          · have z1 : decide ((wv : Int) < 1) = false := by rw [decide_eq_false_iff_not]; omega
            have z1b : decide (wv < 1) = false := by rw [decide_eq_false_iff_not]; exact h1
            by_cases h2 : 64 < wv
            · have z2 : decide ((64 : Int) < (wv : Int)) = true := by rw [decide_eq_true_eq]; omega
              have z2b : decide (64 < wv) = true := by simpa using h2
              have HE : Hid (wideS (l.drop i) n = badT 22) := Lib.hid (by rw [HJ.out]; unfold judgeW; rw [if_pos (.inr (.inr (.inl h2)))])
              obtain ⟨x0, x1c, x2c, x3c, x4c, x5c, x6c⟩ := rs.cells
              have y0 := rs.free 0
              have y1 := rs.free 1
              have y2 := rs.free 2
              have y3 := rs.free 3
              have y4 := rs.free 4
              have y5 := rs.free 5
              have y6 := rs.free 6
              go_wp2
              rw [got7_eq]
              have F := got7_cells rs (.int .i64 0) (.string ⟨#[]⟩) (.int .i64 0) (.int .u64 0) (.int .i64 0) (.int .i64 0) (.int .i64 22)
              obtain ⟨f0, f1, f2, f3, f4, f5, f6⟩ := F
              refine bodyPost_ret (v := .agg #[.int .i64 0, .string ⟨#[]⟩, .int .i64 0, .int .u64 0, .int .i64 0, .int .i64 0, .int .i64 22]) (by simp only [results, Tryd.results49]; simp [go_sem, f0, f1, f2, f3, f4, f5, f6]) rfl ⟨by rw [HE.out, gotV_bad 22 (by decide)]; rfl, ?_⟩
              exact got7_below hB (by first | (simp; done) | omega) _ _ _ _ _ _ _
            · have z2 : decide ((64 : Int) < (wv : Int)) = false := by rw [decide_eq_false_iff_not]; omega
              have z2b : decide (64 < wv) = false := by rw [decide_eq_false_iff_not]; exact h2
              cases G with
              | false =>
                have HE : Hid (wideS (l.drop i) n = badT 22) := Lib.hid (by rw [HJ.out]; unfold judgeW; rw [if_pos (.inr (.inr (.inr (.inl rfl))))])
                obtain ⟨x0, x1c, x2c, x3c, x4c, x5c, x6c⟩ := rs.cells
                have y0 := rs.free 0
                have y1 := rs.free 1
                have y2 := rs.free 2
                have y3 := rs.free 3
                have y4 := rs.free 4
                have y5 := rs.free 5
                have y6 := rs.free 6
                go_wp2
                rw [got7_eq]
                have F := got7_cells rs (.int .i64 0) (.string ⟨#[]⟩) (.int .i64 0) (.int .u64 0) (.int .i64 0) (.int .i64 0) (.int .i64 22)
                obtain ⟨f0, f1, f2, f3, f4, f5, f6⟩ := F
                refine bodyPost_ret (v := .agg #[.int .i64 0, .string ⟨#[]⟩, .int .i64 0, .int .u64 0, .int .i64 0, .int .i64 0, .int .i64 22]) (by simp only [results, Tryd.results49]; simp [go_sem, f0, f1, f2, f3, f4, f5, f6]) rfl ⟨by rw [HE.out, gotV_bad 22 (by decide)]; rfl, ?_⟩
                exact got7_below hB (by first | (simp; done) | omega) _ _ _ _ _ _ _
              | true =>
                cases hh with
                | false =>
                  have HE : Hid (wideS (l.drop i) n = badT 22) := Lib.hid (by rw [HJ.out]; unfold judgeW; rw [if_pos (.inr (.inr (.inr (.inr HH.out))))])
                  have cw : IntKind.i64.wrap (wv : Int) = (wv : Int) := IntWalk.i64_in _ (by omega)
                  have cw2 : wrap64 (wv : Int) = (wv : Int) := IntWalk.wrap64_in _ ⟨by omega, by omega⟩
                  go_wp2_with fail
                  refine (hfi _).mono ?_
                  rintro e6 w6 ⟨rfl, rfl⟩
                  obtain ⟨x0, x1c, x2c, x3c, x4c, x5c, x6c⟩ := rs.cells
                  have y0 := rs.free 0
                  have y1 := rs.free 1
                  have y2 := rs.free 2
                  have y3 := rs.free 3
                  have y4 := rs.free 4
                  have y5 := rs.free 5
                  have y6 := rs.free 6
                  go_wp2
                  rw [got7_eq]
                  have F := got7_cells rs (.int .i64 0) (.string ⟨#[]⟩) (.int .i64 0) (.int .u64 0) (.int .i64 0) (.int .i64 0) (.int .i64 22)
                  obtain ⟨f0, f1, f2, f3, f4, f5, f6⟩ := F
                  refine bodyPost_ret (v := .agg #[.int .i64 0, .string ⟨#[]⟩, .int .i64 0, .int .u64 0, .int .i64 0, .int .i64 0, .int .i64 22]) (by simp only [results, Tryd.results49]; simp [go_sem, f0, f1, f2, f3, f4, f5, f6]) rfl ⟨by rw [HE.out, gotV_bad 22 (by decide)]; rfl, ?_⟩
                  exact got7_below hB (by first | (simp; done) | omega) _ _ _ _ _ _ _
                | true =>
                  have HE : Hid (wideS (l.drop i) n = ⟨3, [], wv, vv, N2, 0⟩) := Lib.hid (by rw [HJ.out, HN2.out, judge_ok h1 h2 HH.out])
                  have sz : (k2 : Int) - (i : Int) = (N2 : Int) := by have := HJK.out; have := HN2.out; omega
                  have sz2 : IntKind.i64.wrap ((k2 : Int) - (i : Int)) = (N2 : Int) := by rw [sz]; exact IntWalk.i64_in _ (by have := HN2.out; have := HJK.out; omega)
                  have cw : IntKind.i64.wrap (wv : Int) = (wv : Int) := IntWalk.i64_in _ (by omega)
                  have cw2 : wrap64 (wv : Int) = (wv : Int) := IntWalk.wrap64_in _ ⟨by omega, by omega⟩
                  go_wp2_with fail
                  refine (hfi _).mono ?_
                  rintro e6 w6 ⟨rfl, rfl⟩
                  obtain ⟨x0, x1c, x2c, x3c, x4c, x5c, x6c⟩ := rs.cells
                  have y0 := rs.free 0
                  have y1 := rs.free 1
                  have y2 := rs.free 2
                  have y3 := rs.free 3
                  have y4 := rs.free 4
                  have y5 := rs.free 5
                  have y6 := rs.free 6
                  go_wp2
                  rw [got7_eq]
                  have F := got7_cells rs (.int .i64 3) (.string ⟨#[]⟩) (.int .i64 (wv : Int)) (.int .u64 (vv : Int)) (.int .i64 (i : Int)) (.int .i64 (N2 : Int)) (.int .i64 0)
                  obtain ⟨f0, f1, f2, f3, f4, f5, f6⟩ := F
                  refine bodyPost_ret (v := .agg #[.int .i64 3, .string ⟨#[]⟩, .int .i64 (wv : Int), .int .u64 (vv : Int), .int .i64 (i : Int), .int .i64 (N2 : Int), .int .i64 0]) (by simp only [results, Tryd.results49]; simp [go_sem, f0, f1, f2, f3, f4, f5, f6]) rfl ⟨by rw [HE.out]; rfl, ?_⟩
                  exact got7_below hB (by first | (simp; done) | omega) _ _ _ _ _ _ _
  · have dA : decide ((l.length : Int) ≤ (k : Int)) = true := by rw [decide_eq_true_eq]; omega
    have dB : decide (l.length ≤ k) = true := by rw [decide_eq_true_eq]; omega
    have HE : Hid (wideS (l.drop i) n = badT 21) := Lib.hid (by have hm : (l.drop i).drop (n + 1) = [] := by { rw [List.drop_drop]; exact List.drop_eq_nil_of_le (by omega) }; unfold wideS; rw [hm]; rfl)
    have HJK := Lib.hid (And.intro hj hk)
    clear hj hk
    go_enter Tryd.func49, Tryd.ntmps49
    go_wp2
    refine bodyPost_ret (v := .agg #[.int .i64 0, .string ⟨#[]⟩, .int .i64 0, .int .u64 0, .int .i64 0, .int .i64 0, .int .i64 21]) (by simp [results, Tryd.results49, go_sem]) rfl ⟨by rw [HE.out, gotV_bad 21 (by decide)]; rfl, (Below.refl _ _).alloc (Nat.le_refl _) _⟩

theorem number_figures (m : Bytes) (n : Nat) (hn : run digit m = n) : ([39] : Bytes).isPrefixOf (m.drop n) = false → 0 < n → numberS m = if (match m.drop n with | [] => false | c :: _ => letter c) = true then badT 21 else if (numR 10 (m.take n)).2.1 = false then badT 22 else ⟨3, [], 0, (numR 10 (m.take n)).2.2, n, 0⟩ := by
  intro h1 hpos
  have hd : allD 10 (m.take n) = true := by rw [← hn]; exact allD_run m
  obtain ⟨f1, f2⟩ := numR_fits 10 (m.take n) hd
  rw [f1, f2]
  have hst : ∀ c r, m.drop n = c :: r → digit c = false := fun c r h => by
    have hlt : n < m.length := by
      rcases Nat.lt_or_ge n m.length with h' | h'
      · exact h'
      · rw [List.drop_eq_nil_of_le h'] at h; cases h
    have hc : m[n] = c := by
      have := List.getElem_cons_drop hlt
      rw [h] at this
      exact (List.cons.inj this).1
    rw [← hc]
    cases hq : digit m[n] with
    | false => rfl
    | true =>
      have h2 := all_take_succ digit m n hlt
      have h3 : (m.take n).all digit = true := by rw [← hn]; exact take_run digit m
      rw [h3, hq] at h2
      have : n + 1 ≤ run digit m := by
        have h4 : m = m.take (n + 1) ++ m.drop (n + 1) := (List.take_append_drop _ _).symm
        rw [h4, run_app, run_all digit _ h2, if_pos rfl, List.length_take]
        omega
      omega
  unfold numberS
  rw [hn, if_neg (by rw [h1]; decide)]
  have e2 : (0 < run inName (m.drop n)) ↔ (match m.drop n with | [] => false | c :: _ => letter c) = true := by
    cases hm : m.drop n with
    | nil => simp [run]
    | cons c r =>
      have hdc := hst c r hm
      simp only [run, List.takeWhile_cons, inName, hdc, Bool.or_false]
      cases hl : letter c <;> simp
  generalize num 10 (m.take n) = N
  by_cases h2 : 0 < run inName (m.drop n)
  · rw [if_pos h2, if_pos (e2.1 h2)]
  · rw [if_neg h2, if_neg (fun h => h2 (e2.2 h))]
    by_cases hN : N < 18446744073709551616
    · rw [if_neg (fun h => h hN), if_neg (by simpa using hN), Nat.mod_eq_of_lt hN]
    · rw [if_pos hN, if_pos (by simpa using hN)]
end Go.Proofs.YtigdegjhajdmhaaDoor
