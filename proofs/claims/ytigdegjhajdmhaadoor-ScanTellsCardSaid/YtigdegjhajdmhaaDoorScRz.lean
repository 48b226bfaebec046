/-
  The reference: a token.
-/
import Derived.Test.YtigdegjhajdmhaaDoorScRy
namespace Go.Proofs.YtigdegjhajdmhaaDoor
open Go Go.RowKit
set_option linter.unusedVariables false
set_option linter.unusedSimpArgs false
open Go.Sort

theorem find_len (m : Bytes) (k : Nat) (hk : 0 < k) : ∀ L : List Bytes, (∀ s ∈ L, s.length = k) → L.find? (fun s => s.isPrefixOf m) = if L.contains (m.take k) = true then some (m.take k) else none
  | [], _ => by simp
  | s :: L, h => by
    have hs := h s (by simp)
    have ih := find_len m k hk L (fun t ht => h t (by simp [ht]))
    rw [List.find?_cons]
    by_cases hp : s.isPrefixOf m = true
    · have e : m.take k = s := by
        rw [List.isPrefixOf_iff_prefix, List.prefix_iff_eq_take, hs] at hp
        exact hp.symm
      rw [hp, e]
      simp
    · have e : (m.take k == s) = false := by
        rw [beq_eq_false_iff_ne]
        intro e
        apply hp
        rw [List.isPrefixOf_iff_prefix, ← e]
        exact List.take_prefix _ _
      rw [Bool.not_eq_true] at hp
      rw [hp, ih, List.contains_cons, e, Bool.false_or]
def twos : List Bytes := signList.take 9
def ones : List Bytes := signList.drop 9
theorem twos_ones : signList = twos ++ ones := (List.take_append_drop 9 signList).symm
theorem twos_len : ∀ s ∈ twos, s.length = 2 := by decide
theorem ones_len : ∀ s ∈ ones, s.length = 1 := by decide
theorem sign_two (m : Bytes) (h : m ≠ []) : signS m = if (decide (2 ≤ m.length) && signList.contains (m.take 2)) = true then m.take 2 else if signList.contains (m.take 1) = true then m.take 1 else [] := by
  have l1 : (m.take 1).length = 1 := by
    rw [List.length_take]
    have : 0 < m.length := List.length_pos_iff.2 h
    omega
  have c1 : signList.contains (m.take 1) = ones.contains (m.take 1) := by
    rw [twos_ones, List.contains_eq_mem, List.contains_eq_mem]
    congr 1
    rw [List.mem_append]
    apply propext
    constructor
    · rintro (h' | h')
      · have := twos_len _ h'; omega
      · exact h'
    · exact .inr
  have c2 : (decide (2 ≤ m.length) && signList.contains (m.take 2)) = twos.contains (m.take 2) := by
    by_cases h2 : 2 ≤ m.length
    · have l2 : (m.take 2).length = 2 := by rw [List.length_take]; omega
      rw [decide_eq_true h2, Bool.true_and, twos_ones, List.contains_eq_mem, List.contains_eq_mem]
      congr 1
      rw [List.mem_append]
      apply propext
      constructor
      · rintro (h' | h')
        · exact h'
        · have := ones_len _ h'; omega
      · exact .inl
    · rw [decide_eq_false h2, Bool.false_and]
      symm
      rw [List.contains_eq_mem, decide_eq_false_iff_not]
      intro h'
      have := twos_len _ h'
      rw [List.length_take] at this
      omega
  rw [c1, c2]
  unfold signS
  rw [twos_ones, List.find?_append, find_len m 2 (by omega) twos twos_len, find_len m 1 (by omega) ones ones_len]
  cases twos.contains (m.take 2) <;> cases ones.contains (m.take 1) <;> simp
theorem refSignB_any (s : Bytes) (hs : s.length ≤ 100000) (w : World) : Calls Tryd.prog 36 #[.string (bs s)] w fun e w' => e = .returned (.bool (signList.contains s)) ∧ ∃ n, w' = w.drewN n := by
  have := refSign_any s hs w
  rw [among_signs, sign_mem] at this
  exact this
theorem Got0.drewN {w : World} {g : Nat} (h : Got0 w g) (n : Nat) : Got0 (w.drewN n) g := h

set_option maxHeartbeats 8000000 in
set_option maxRecDepth 100000 in
theorem reftoken_any (l : Bytes) (hl : l.length ≤ 70000) (i : Nat) (hi : i < l.length) (w : World) : Calls Tryd.prog 15 #[.string (bs l), .int .i64 (i : Int)] w fun e w' => e = .returned (gotV (tokenS (l.drop i)) i) ∧ Below w.heap.size w w' := by
  have x1 : (i : Int) < (l.length : Int) := by omega
  have hL := fun w => refletter_any l[i] w
  have hD := fun w => refdigit_any l[i] w
  have hdc : l.drop i = l[i] :: l.drop (i + 1) := (List.getElem_cons_drop hi).symm
  have HT : Hid (tokenS (l.drop i) = if letter l[i] = true then nameS (l.drop i) else if digit l[i] = true then numberS (l.drop i) else if signS (l.drop i) = [] then badT 20 else ⟨4, signS (l.drop i), 0, 0, (signS (l.drop i)).length, 0⟩) := Lib.hid (by rw [hdc]; rfl)
  have hfg := fun h w => figures_any l hl i hi h w
  have HS := Lib.hid (sign_two (l.drop i) (by rw [hdc]; exact List.cons_ne_nil _ _))
  clear hdc
  generalize letter l[i] = bl at *
  generalize digit l[i] = bd at *
  cases bl with
  | true =>
    replace HT : Hid (tokenS (l.drop i) = nameS (l.drop i)) := Lib.hid (by rw [HT.out, if_pos rfl])
    have hru := fun w => refrunat_any l (by omega) i (by omega) w
    have hle := run_le inName (l.drop i)
    rw [List.length_drop] at hle
    obtain ⟨n, hn⟩ : ∃ n, run inName (l.drop i) = n := ⟨_, rfl⟩
    have HNM : Hid (nameS (l.drop i) = if 64 < n then badT 2 else ⟨if isWord ((l.drop i).take n) = true then 2 else 1, (l.drop i).take n, 0, 0, n, 0⟩) := Lib.hid (by rw [← hn]; rfl)
    rw [hn] at hru hle
    clear hn hfg HS hD
    by_cases h64 : 64 < n
    · have d1 : decide ((64 : Int) < (n : Int)) = true := by rw [decide_eq_true_eq]; omega
      have d2 : decide (64 < n) = true := by simpa using h64
      have HE : Hid (tokenS (l.drop i) = badT 2) := Lib.hid (by rw [HT.out, HNM.out, if_pos h64])
      go_enter Tryd.func15, Tryd.ntmps15
      have rs := Got0.new w
      have hB : Below w.heap.size w (w.alloc (.cells #[.int .i64 0, .string ⟨#[]⟩, .int .i64 0, .int .u64 0, .int .i64 0, .int .i64 0, .int .i64 0] 42)) := (Below.refl _ _).alloc (Nat.le_refl _) _
      go_wp2_with fail
      refine (hL _).mono ?_
      rintro e1 w1 ⟨rfl, rfl⟩
      generalize w.alloc (.cells #[.int .i64 0, .string ⟨#[]⟩, .int .i64 0, .int .u64 0, .int .i64 0, .int .i64 0, .int .i64 0] 42) = w0 at *
      go_wp2_with fail
      refine (hru _).mono ?_
      rintro e2 w2 ⟨rfl, rfl⟩
      clear hru hL
      obtain ⟨x0, x1c, x2c, x3c, x4c, x5c, x6c⟩ := rs.cells
      have y0 := rs.free 0
      have y1 := rs.free 1
      have y2 := rs.free 2
      have y3 := rs.free 3
      have y4 := rs.free 4
      have y5 := rs.free 5
      have y6 := rs.free 6
      go_wp2
      rw [got7_eq]
      have F := got7_cells rs (.int .i64 0) (.string ⟨#[]⟩) (.int .i64 0) (.int .u64 0) (.int .i64 0) (.int .i64 0) (.int .i64 2)
      obtain ⟨f0, f1, f2, f3, f4, f5, f6⟩ := F
      refine bodyPost_ret (v := .agg #[.int .i64 0, .string ⟨#[]⟩, .int .i64 0, .int .u64 0, .int .i64 0, .int .i64 0, .int .i64 2]) (by simp only [results, Tryd.results15]; simp [go_sem, f0, f1, f2, f3, f4, f5, f6]) rfl ⟨by rw [HE.out, gotV_bad 2 (by decide)]; rfl, ?_⟩
      exact got7_below hB (by first | (simp; done) | omega) _ _ _ _ _ _ _
    · have d1 : decide ((64 : Int) < (n : Int)) = false := by rw [decide_eq_false_iff_not]; omega
      have d2 : decide (64 < n) = false := by rw [decide_eq_false_iff_not]; exact h64
      obtain ⟨j, hj⟩ : ∃ j, i + n = j := ⟨_, rfl⟩
      have a1 : IntKind.i64.wrap ((i : Int) + (n : Int)) = (j : Int) := by rw [show (i : Int) + (n : Int) = (j : Int) by omega]; exact IntWalk.i64_in _ (by omega)
      have sl2 : j - i = n := by omega
      have sl5 : (i : Int) ≤ (j : Int) := by omega
      have sl6 : (j : Int) ≤ (l.length : Int) := by omega
      have hwo := fun w => refWord_any ((l.drop i).take n) (by simp; omega) w
      obtain ⟨T, hT⟩ : ∃ T, (l.drop i).take n = T := ⟨_, rfl⟩
      have HTT := Lib.hid hT
      replace HNM : Hid (nameS (l.drop i) = ⟨if isWord T = true then 2 else 1, T, 0, 0, n, 0⟩) := Lib.hid (by rw [HNM.out, if_neg h64, hT])
      have slT : List.take n (List.drop i l) = T := hT
      rw [hT] at hwo
      have HJ := Lib.hid hj
      clear hj hT
      generalize isWord T = bw at *
      cases bw with
      | true =>
        have HE : Hid (tokenS (l.drop i) = ⟨2, T, 0, 0, n, 0⟩) := Lib.hid (by rw [HT.out, HNM.out]; rfl)
        go_enter Tryd.func15, Tryd.ntmps15
        have rs := Got0.new w
        have hB : Below w.heap.size w (w.alloc (.cells #[.int .i64 0, .string ⟨#[]⟩, .int .i64 0, .int .u64 0, .int .i64 0, .int .i64 0, .int .i64 0] 42)) := (Below.refl _ _).alloc (Nat.le_refl _) _
        go_wp2_with fail
        refine (hL _).mono ?_
        rintro e1 w1 ⟨rfl, rfl⟩
        generalize w.alloc (.cells #[.int .i64 0, .string ⟨#[]⟩, .int .i64 0, .int .u64 0, .int .i64 0, .int .i64 0, .int .i64 0] 42) = w0 at *
        go_wp2_with fail
        refine (hru _).mono ?_
        rintro e2 w2 ⟨rfl, rfl⟩
        go_wp2_with fail
        refine (hwo _).mono ?_
        rintro e3 w3 ⟨rfl, q3, rfl⟩
        replace rs := rs.drewN q3
        replace hB := below_drewN hB q3
        clear hru hL hwo
        obtain ⟨x0, x1c, x2c, x3c, x4c, x5c, x6c⟩ := rs.cells
        have y0 := rs.free 0
        have y1 := rs.free 1
        have y2 := rs.free 2
        have y3 := rs.free 3
        have y4 := rs.free 4
        have y5 := rs.free 5
        have y6 := rs.free 6
        go_wp2
        rw [got7_eq]
        have F := got7_cells rs (.int .i64 2) (.string (bs T)) (.int .i64 0) (.int .u64 0) (.int .i64 (i : Int)) (.int .i64 (n : Int)) (.int .i64 0)
        obtain ⟨f0, f1, f2, f3, f4, f5, f6⟩ := F
        refine bodyPost_ret (v := .agg #[.int .i64 2, .string (bs T), .int .i64 0, .int .u64 0, .int .i64 (i : Int), .int .i64 (n : Int), .int .i64 0]) (by simp only [results, Tryd.results15]; simp [go_sem, f0, f1, f2, f3, f4, f5, f6]) rfl ⟨by rw [HE.out]; rfl, ?_⟩
        exact got7_below hB (by first | (simp; done) | omega) _ _ _ _ _ _ _
      | false =>
        have HE : Hid (tokenS (l.drop i) = ⟨1, T, 0, 0, n, 0⟩) := Lib.hid (by rw [HT.out, HNM.out]; rfl)
        go_enter Tryd.func15, Tryd.ntmps15
        have rs := Got0.new w
        have hB : Below w.heap.size w (w.alloc (.cells #[.int .i64 0, .string ⟨#[]⟩, .int .i64 0, .int .u64 0, .int .i64 0, .int .i64 0, .int .i64 0] 42)) := (Below.refl _ _).alloc (Nat.le_refl _) _
        go_wp2_with fail
        refine (hL _).mono ?_
        rintro e1 w1 ⟨rfl, rfl⟩
        generalize w.alloc (.cells #[.int .i64 0, .string ⟨#[]⟩, .int .i64 0, .int .u64 0, .int .i64 0, .int .i64 0, .int .i64 0] 42) = w0 at *
        go_wp2_with fail
        refine (hru _).mono ?_
        rintro e2 w2 ⟨rfl, rfl⟩
        go_wp2_with fail
        refine (hwo _).mono ?_
        rintro e3 w3 ⟨rfl, q3, rfl⟩
        replace rs := rs.drewN q3
        replace hB := below_drewN hB q3
        clear hru hL hwo
        obtain ⟨x0, x1c, x2c, x3c, x4c, x5c, x6c⟩ := rs.cells
        have y0 := rs.free 0
        have y1 := rs.free 1
        have y2 := rs.free 2
        have y3 := rs.free 3
        have y4 := rs.free 4
        have y5 := rs.free 5
        have y6 := rs.free 6
        go_wp2
        rw [got7_eq]
        have F := got7_cells rs (.int .i64 1) (.string (bs T)) (.int .i64 0) (.int .u64 0) (.int .i64 (i : Int)) (.int .i64 (n : Int)) (.int .i64 0)
        obtain ⟨f0, f1, f2, f3, f4, f5, f6⟩ := F
        refine bodyPost_ret (v := .agg #[.int .i64 1, .string (bs T), .int .i64 0, .int .u64 0, .int .i64 (i : Int), .int .i64 (n : Int), .int .i64 0]) (by simp only [results, Tryd.results15]; simp [go_sem, f0, f1, f2, f3, f4, f5, f6]) rfl ⟨by rw [HE.out]; rfl, ?_⟩
        exact got7_below hB (by first | (simp; done) | omega) _ _ _ _ _ _ _
  | false =>
    have CD : ∀ w, Calls Tryd.prog 34 #[.int .u8 (l[i].toNat : Int)] w fun e w' => e = .returned (.bool bd) ∧ w = w' := hD
    cases bd with
    | true =>
      have HE : Hid (tokenS (l.drop i) = numberS (l.drop i)) := Lib.hid (by rw [HT.out, if_neg (by decide), if_pos rfl])
      have hff := fun w => hfg rfl w
      obtain ⟨v0, v1, v2, v3, v4, v5, v6, hv⟩ := gotV_form (numberS (l.drop i)) i
      rw [hv] at hff
      have HV := Lib.hid hv
      clear hv hfg HS HT hD
      go_enter Tryd.func15, Tryd.ntmps15
      have rs := Got0.new w
      have hB : Below w.heap.size w (w.alloc (.cells #[.int .i64 0, .string ⟨#[]⟩, .int .i64 0, .int .u64 0, .int .i64 0, .int .i64 0, .int .i64 0] 42)) := (Below.refl _ _).alloc (Nat.le_refl _) _
      go_wp2_with fail
      refine (hL _).mono ?_
      rintro e1 w1 ⟨rfl, rfl⟩
      generalize w.alloc (.cells #[.int .i64 0, .string ⟨#[]⟩, .int .i64 0, .int .u64 0, .int .i64 0, .int .i64 0, .int .i64 0] 42) = w0 at *
      go_wp2_with fail
      refine (CD _).mono ?_
      rintro e2 w2 ⟨rfl, rfl⟩
      go_wp2_with fail
      refine (hff _).mono ?_
      rintro e3 w3 ⟨rfl, hb3⟩
      replace rs := rs.below hb3
      replace hB := hB.trans (hb3.mono hB.size)
      clear hb3 hff hL CD
      obtain ⟨x0, x1c, x2c, x3c, x4c, x5c, x6c⟩ := rs.cells
      have y0 := rs.free 0
      have y1 := rs.free 1
      have y2 := rs.free 2
      have y3 := rs.free 3
      have y4 := rs.free 4
      have y5 := rs.free 5
      have y6 := rs.free 6
      go_wp2
      rw [got7_eq]
      have F := got7_cells rs (.int .i64 v0) (.string (bs v1)) (.int .i64 (v2 : Int)) (.int .u64 (v3 : Int)) (.int .i64 (v4 : Int)) (.int .i64 (v5 : Int)) (.int .i64 v6)
      obtain ⟨f0, f1, f2, f3, f4, f5, f6⟩ := F
      refine bodyPost_ret (v := .agg #[.int .i64 v0, .string (bs v1), .int .i64 (v2 : Int), .int .u64 (v3 : Int), .int .i64 (v4 : Int), .int .i64 (v5 : Int), .int .i64 v6]) (by simp only [results, Tryd.results15]; simp [go_sem, f0, f1, f2, f3, f4, f5, f6]) rfl ⟨by rw [HE.out, HV.out], ?_⟩
      exact got7_below hB (by first | (simp; done) | omega) _ _ _ _ _ _ _
    | false =>
      clear hfg hD
      replace HT : Hid (tokenS (l.drop i) = if signS (l.drop i) = [] then badT 20 else ⟨4, signS (l.drop i), 0, 0, (signS (l.drop i)).length, 0⟩) := Lib.hid (by rw [HT.out, if_neg (by decide), if_neg (by decide)])
      obtain ⟨i1, hi1⟩ : ∃ j, i + 1 = j := ⟨_, rfl⟩
      obtain ⟨i2, hi2⟩ : ∃ j, i + 2 = j := ⟨_, rfl⟩
      have a1 : IntKind.i64.wrap ((i : Int) + 1) = (i1 : Int) := by rw [show (i : Int) + 1 = (i1 : Int) by omega]; exact IntWalk.i64_in _ (by omega)
      have a2 : IntKind.i64.wrap ((i : Int) + 2) = (i2 : Int) := by rw [show (i : Int) + 2 = (i2 : Int) by omega]; exact IntWalk.i64_in _ (by omega)
      have q1 : (i : Int) ≤ (i1 : Int) := by omega
      have q2 : (i1 : Int) ≤ (l.length : Int) := by omega
      have q3 : i1 - i = 1 := by omega
      obtain ⟨T1, hT1⟩ : ∃ T, (l.drop i).take 1 = T := ⟨_, rfl⟩
      obtain ⟨T2, hT2⟩ : ∃ T, (l.drop i).take 2 = T := ⟨_, rfl⟩
      have lT1 : T1.length = 1 := by rw [← hT1, List.length_take, List.length_drop]; omega
      have lT2 : i1 < l.length → T2.length = 2 := fun h => by rw [← hT2, List.length_take, List.length_drop]; omega
      have hs1 := fun w => refSignB_any T1 (by omega) w
      have hs2 := fun h w => refSignB_any T2 (by have := lT2 h; omega) w
      have slT1 : List.take 1 (List.drop i l) = T1 := hT1
      have HLT : Hid (i1 < l.length → T2.length = 2) := Lib.hid lT2
      have HL1 : Hid (T1.length = 1) := Lib.hid lT1
      replace HS : Hid (signS (l.drop i) = if (decide (i1 < l.length) && signList.contains T2) = true then T2 else if signList.contains T1 = true then T1 else []) := Lib.hid (by
        have := HS.out
        rw [hT1, hT2, List.length_drop, show decide (2 ≤ l.length - i) = decide (i1 < l.length) by congr 1; apply propext; omega] at this
        exact this)
      have HI := Lib.hid (And.intro hi1 hi2)
      generalize signList.contains T1 = c1 at *
      generalize signList.contains T2 = c2 at *
      have H12 := Lib.hid (And.intro hT1 hT2)
      clear hT1 lT1 lT2
      by_cases hlt : i1 < l.length
      · have d1 : decide ((i1 : Int) < (l.length : Int)) = true := by rw [decide_eq_true_eq]; omega
        have d2 : decide (i1 < l.length) = true := by simpa using hlt
        have q4 : (i : Int) ≤ (i2 : Int) := by omega
        have q5 : (i2 : Int) ≤ (l.length : Int) := by omega
        have q6 : i2 - i = 2 := by omega
        have slT2 : List.take 2 (List.drop i l) = T2 := hT2
        clear hT2 hi1 hi2
        cases c2 with
        | true =>
          have HE : Hid (tokenS (l.drop i) = ⟨4, T2, 0, 0, 2, 0⟩) := Lib.hid (by have h1 := HLT.out hlt; rw [HT.out, HS.out, decide_eq_true hlt, if_pos (show (true && true) = true from rfl), if_neg (fun h => by rw [h] at h1; simp at h1), h1])
          go_enter Tryd.func15, Tryd.ntmps15
          have rs := Got0.new w
          have hB : Below w.heap.size w (w.alloc (.cells #[.int .i64 0, .string ⟨#[]⟩, .int .i64 0, .int .u64 0, .int .i64 0, .int .i64 0, .int .i64 0] 42)) := (Below.refl _ _).alloc (Nat.le_refl _) _
          go_wp2_with fail
          refine (hL _).mono ?_
          rintro e1 w1 ⟨rfl, rfl⟩
          generalize w.alloc (.cells #[.int .i64 0, .string ⟨#[]⟩, .int .i64 0, .int .u64 0, .int .i64 0, .int .i64 0, .int .i64 0] 42) = w0 at *
          go_wp2_with fail
          refine (CD _).mono ?_
          rintro e2 w2 ⟨rfl, rfl⟩
          go_wp2_with fail
          refine (hs2 hlt _).mono ?_
          rintro e3 w3 ⟨rfl, p3, rfl⟩
          replace rs := rs.drewN p3
          replace hB := below_drewN hB p3
          generalize w0.drewN p3 = w3 at *
          clear hs1 hs2 hL CD
          obtain ⟨x0, x1c, x2c, x3c, x4c, x5c, x6c⟩ := rs.cells
          have y0 := rs.free 0
          have y1 := rs.free 1
          have y2 := rs.free 2
          have y3 := rs.free 3
          have y4 := rs.free 4
          have y5 := rs.free 5
          have y6 := rs.free 6
          go_wp2
          rw [got7_eq]
          have F := got7_cells rs (.int .i64 4) (.string (bs T2)) (.int .i64 0) (.int .u64 0) (.int .i64 (i : Int)) (.int .i64 2) (.int .i64 0)
          obtain ⟨f0, f1, f2, f3, f4, f5, f6⟩ := F
          refine bodyPost_ret (v := .agg #[.int .i64 4, .string (bs T2), .int .i64 0, .int .u64 0, .int .i64 (i : Int), .int .i64 2, .int .i64 0]) (by simp only [results, Tryd.results15]; simp [go_sem, f0, f1, f2, f3, f4, f5, f6]) rfl ⟨by rw [HE.out]; rfl, ?_⟩
          exact got7_below hB (by first | (simp; done) | omega) _ _ _ _ _ _ _
        | false =>
          have HSS : Hid (signS (l.drop i) = if c1 = true then T1 else []) := Lib.hid (by rw [HS.out, Bool.and_false, if_neg (by decide)])
          cases c1 with
          | true =>
            have HE : Hid (tokenS (l.drop i) = ⟨4, T1, 0, 0, 1, 0⟩) := Lib.hid (by have h1 := HL1.out; rw [HT.out, HSS.out, if_pos rfl, if_neg (fun h => by rw [h] at h1; simp at h1), h1])
            go_enter Tryd.func15, Tryd.ntmps15
            have rs := Got0.new w
            have hB : Below w.heap.size w (w.alloc (.cells #[.int .i64 0, .string ⟨#[]⟩, .int .i64 0, .int .u64 0, .int .i64 0, .int .i64 0, .int .i64 0] 42)) := (Below.refl _ _).alloc (Nat.le_refl _) _
            go_wp2_with fail
            refine (hL _).mono ?_
            rintro e1 w1 ⟨rfl, rfl⟩
            generalize w.alloc (.cells #[.int .i64 0, .string ⟨#[]⟩, .int .i64 0, .int .u64 0, .int .i64 0, .int .i64 0, .int .i64 0] 42) = w0 at *
            go_wp2_with fail
            refine (CD _).mono ?_
            rintro e2 w2 ⟨rfl, rfl⟩
            go_wp2_with fail
            refine (hs2 hlt _).mono ?_
            rintro e3 w3 ⟨rfl, p3, rfl⟩
            replace rs := rs.drewN p3
            replace hB := below_drewN hB p3
            generalize w0.drewN p3 = w3 at *
            go_wp2_with fail
            refine (hs1 _).mono ?_
            rintro e4 w4 ⟨rfl, p4, rfl⟩
            replace rs := rs.drewN p4
            replace hB := below_drewN hB p4
            clear hs1 hs2 hL CD
            obtain ⟨x0, x1c, x2c, x3c, x4c, x5c, x6c⟩ := rs.cells
            have y0 := rs.free 0
            have y1 := rs.free 1
            have y2 := rs.free 2
            have y3 := rs.free 3
            have y4 := rs.free 4
            have y5 := rs.free 5
            have y6 := rs.free 6
            go_wp2
            rw [got7_eq]
            have F := got7_cells rs (.int .i64 4) (.string (bs T1)) (.int .i64 0) (.int .u64 0) (.int .i64 (i : Int)) (.int .i64 1) (.int .i64 0)
            obtain ⟨f0, f1, f2, f3, f4, f5, f6⟩ := F
            refine bodyPost_ret (v := .agg #[.int .i64 4, .string (bs T1), .int .i64 0, .int .u64 0, .int .i64 (i : Int), .int .i64 1, .int .i64 0]) (by simp only [results, Tryd.results15]; simp [go_sem, f0, f1, f2, f3, f4, f5, f6]) rfl ⟨by rw [HE.out]; rfl, ?_⟩
            exact got7_below hB (by first | (simp; done) | omega) _ _ _ _ _ _ _
          | false =>
            have HE : Hid (tokenS (l.drop i) = badT 20) := Lib.hid (by rw [HT.out, HSS.out]; rfl)
            go_enter Tryd.func15, Tryd.ntmps15
            have rs := Got0.new w
            have hB : Below w.heap.size w (w.alloc (.cells #[.int .i64 0, .string ⟨#[]⟩, .int .i64 0, .int .u64 0, .int .i64 0, .int .i64 0, .int .i64 0] 42)) := (Below.refl _ _).alloc (Nat.le_refl _) _
            go_wp2_with fail
            refine (hL _).mono ?_
            rintro e1 w1 ⟨rfl, rfl⟩
            generalize w.alloc (.cells #[.int .i64 0, .string ⟨#[]⟩, .int .i64 0, .int .u64 0, .int .i64 0, .int .i64 0, .int .i64 0] 42) = w0 at *
            go_wp2_with fail
            refine (CD _).mono ?_
            rintro e2 w2 ⟨rfl, rfl⟩
            go_wp2_with fail
            refine (hs2 hlt _).mono ?_
            rintro e3 w3 ⟨rfl, p3, rfl⟩
            replace rs := rs.drewN p3
            replace hB := below_drewN hB p3
            generalize w0.drewN p3 = w3 at *
            go_wp2_with fail
            refine (hs1 _).mono ?_
            rintro e4 w4 ⟨rfl, p4, rfl⟩
            replace rs := rs.drewN p4
            replace hB := below_drewN hB p4
            clear hs1 hs2 hL CD
            obtain ⟨x0, x1c, x2c, x3c, x4c, x5c, x6c⟩ := rs.cells
            have y0 := rs.free 0
            have y1 := rs.free 1
            have y2 := rs.free 2
            have y3 := rs.free 3
            have y4 := rs.free 4
            have y5 := rs.free 5
            have y6 := rs.free 6
            go_wp2
            rw [got7_eq]
            have F := got7_cells rs (.int .i64 0) (.string ⟨#[]⟩) (.int .i64 0) (.int .u64 0) (.int .i64 0) (.int .i64 0) (.int .i64 20)
            obtain ⟨f0, f1, f2, f3, f4, f5, f6⟩ := F
            refine bodyPost_ret (v := .agg #[.int .i64 0, .string ⟨#[]⟩, .int .i64 0, .int .u64 0, .int .i64 0, .int .i64 0, .int .i64 20]) (by simp only [results, Tryd.results15]; simp [go_sem, f0, f1, f2, f3, f4, f5, f6]) rfl ⟨by rw [HE.out, gotV_bad 20 (by decide)]; rfl, ?_⟩
            exact got7_below hB (by first | (simp; done) | omega) _ _ _ _ _ _ _
      · have d1 : decide ((i1 : Int) < (l.length : Int)) = false := by rw [decide_eq_false_iff_not]; omega
        have d2 : decide (i1 < l.length) = false := by rw [decide_eq_false_iff_not]; exact hlt
        clear hT2 hi1 hi2
        have HSS : Hid (signS (l.drop i) = if c1 = true then T1 else []) := Lib.hid (by rw [HS.out, decide_eq_false hlt, Bool.false_and, if_neg (by decide)])
        cases c1 with
        | true =>
          have HE : Hid (tokenS (l.drop i) = ⟨4, T1, 0, 0, 1, 0⟩) := Lib.hid (by have h1 := HL1.out; rw [HT.out, HSS.out, if_pos rfl, if_neg (fun h => by rw [h] at h1; simp at h1), h1])
          go_enter Tryd.func15, Tryd.ntmps15
          have rs := Got0.new w
          have hB : Below w.heap.size w (w.alloc (.cells #[.int .i64 0, .string ⟨#[]⟩, .int .i64 0, .int .u64 0, .int .i64 0, .int .i64 0, .int .i64 0] 42)) := (Below.refl _ _).alloc (Nat.le_refl _) _
          go_wp2_with fail
          refine (hL _).mono ?_
          rintro e1 w1 ⟨rfl, rfl⟩
          generalize w.alloc (.cells #[.int .i64 0, .string ⟨#[]⟩, .int .i64 0, .int .u64 0, .int .i64 0, .int .i64 0, .int .i64 0] 42) = w0 at *
          go_wp2_with fail
          refine (CD _).mono ?_
          rintro e2 w2 ⟨rfl, rfl⟩
          go_wp2_with fail
          refine (hs1 _).mono ?_
          rintro e4 w4 ⟨rfl, p4, rfl⟩
          replace rs := rs.drewN p4
          replace hB := below_drewN hB p4
          clear hs1 hs2 hL CD
          obtain ⟨x0, x1c, x2c, x3c, x4c, x5c, x6c⟩ := rs.cells
          have y0 := rs.free 0
          have y1 := rs.free 1
          have y2 := rs.free 2
          have y3 := rs.free 3
          have y4 := rs.free 4
          have y5 := rs.free 5
          have y6 := rs.free 6
          go_wp2
          rw [got7_eq]
          have F := got7_cells rs (.int .i64 4) (.string (bs T1)) (.int .i64 0) (.int .u64 0) (.int .i64 (i : Int)) (.int .i64 1) (.int .i64 0)
          obtain ⟨f0, f1, f2, f3, f4, f5, f6⟩ := F
          refine bodyPost_ret (v := .agg #[.int .i64 4, .string (bs T1), .int .i64 0, .int .u64 0, .int .i64 (i : Int), .int .i64 1, .int .i64 0]) (by simp only [results, Tryd.results15]; simp [go_sem, f0, f1, f2, f3, f4, f5, f6]) rfl ⟨by rw [HE.out]; rfl, ?_⟩
          exact got7_below hB (by first | (simp; done) | omega) _ _ _ _ _ _ _
        | false =>
          have HE : Hid (tokenS (l.drop i) = badT 20) := Lib.hid (by rw [HT.out, HSS.out]; rfl)
          go_enter Tryd.func15, Tryd.ntmps15
          have rs := Got0.new w
          have hB : Below w.heap.size w (w.alloc (.cells #[.int .i64 0, .string ⟨#[]⟩, .int .i64 0, .int .u64 0, .int .i64 0, .int .i64 0, .int .i64 0] 42)) := (Below.refl _ _).alloc (Nat.le_refl _) _
          go_wp2_with fail
          refine (hL _).mono ?_
          rintro e1 w1 ⟨rfl, rfl⟩
          generalize w.alloc (.cells #[.int .i64 0, .string ⟨#[]⟩, .int .i64 0, .int .u64 0, .int .i64 0, .int .i64 0, .int .i64 0] 42) = w0 at *
          go_wp2_with fail
          refine (CD _).mono ?_
          rintro e2 w2 ⟨rfl, rfl⟩
          go_wp2_with fail
          refine (hs1 _).mono ?_
          rintro e4 w4 ⟨rfl, p4, rfl⟩
          replace rs := rs.drewN p4
          replace hB := below_drewN hB p4
          clear hs1 hs2 hL CD
          obtain ⟨x0, x1c, x2c, x3c, x4c, x5c, x6c⟩ := rs.cells
          have y0 := rs.free 0
          have y1 := rs.free 1
          have y2 := rs.free 2
          have y3 := rs.free 3
          have y4 := rs.free 4
          have y5 := rs.free 5
          have y6 := rs.free 6
          go_wp2
          rw [got7_eq]
          have F := got7_cells rs (.int .i64 0) (.string ⟨#[]⟩) (.int .i64 0) (.int .u64 0) (.int .i64 0) (.int .i64 0) (.int .i64 20)
          obtain ⟨f0, f1, f2, f3, f4, f5, f6⟩ := F
          refine bodyPost_ret (v := .agg #[.int .i64 0, .string ⟨#[]⟩, .int .i64 0, .int .u64 0, .int .i64 0, .int .i64 0, .int .i64 20]) (by simp only [results, Tryd.results15]; simp [go_sem, f0, f1, f2, f3, f4, f5, f6]) rfl ⟨by rw [HE.out, gotV_bad 20 (by decide)]; rfl, ?_⟩
          exact got7_below hB (by first | (simp; done) | omega) _ _ _ _ _ _ _
end Go.Proofs.YtigdegjhajdmhaaDoor
