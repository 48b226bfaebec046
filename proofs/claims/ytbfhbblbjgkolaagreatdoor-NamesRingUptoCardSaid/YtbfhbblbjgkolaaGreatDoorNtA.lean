/-
  The reference of names: rows of texts: more, apart, behind, tell.
-/
import Derived.Test.YtbfhbblbjgkolaaGreatDoorNmZ
import Derived.Laws.AppendOwn
import Derived.Laws.AppendOwnNone
import Derived.OwnWalk
import Derived.WalkSpells
import Derived.Deep.LoopGhost
namespace Go.Proofs.YtbfhbblbjgkolaaGreatDoor
open Go Go.RowKit
set_option linter.unusedVariables false
set_option linter.unusedSimpArgs false
open Go.Sort

theorem lies_keep7 {n0 : Nat} {W W' : World} {a : Option Addr} {l : List Bytes} (h : LiesS W a l) (hb : Below n0 W W') (hn : n0 = W.heap.size := by rfl) : LiesS W' a l := by
  subst hn
  rcases h with h | ⟨b, o, h1, h2⟩
  · exact .inl h
  · refine .inr ⟨b, o, h1, fun i hi => ?_⟩
    have h3 := h2 i hi
    have hlt : b < W.heap.size := by
      by_cases hb2 : b < W.heap.size
      · exact hb2
      · simp [World.cell?, Array.getElem?_eq_none (show W.heap.size ≤ b by omega)] at h3
    simp only [World.cell?] at h3 ⊢
    rw [hb.block b hlt]
    exact h3
/-- A row of texts, as a value. -/
def TV (W : World) (v : Value) (l : List Bytes) : Prop := ∃ a c, v = .slice a l.length c ∧ (a = none → c = 0) ∧ LiesS W a l
theorem TV.keep {W W' : World} {v : Value} {l : List Bytes} (h : TV W v l) (hb : Below W.heap.size W W') : TV W' v l := by
  obtain ⟨a, c, h1, h2, h3⟩ := h
  exact ⟨a, c, h1, h2, lies_keep7 h3 hb⟩
theorem TV.nil (W : World) : TV W (.slice none 0 0) [] := ⟨none, 0, rfl, fun _ => rfl, .inl rfl⟩
theorem TV.own {W : World} {base : Nat} {v : Value} {l : List Bytes} (h : W.ownsRow base 9 1 v l.length (strs l)) : TV W v l := by
  rcases h.2 with ⟨rfl, h2⟩ | ⟨g, cap, cur, rfl, hg, hh, h3, h4, h5, h6⟩
  · have : l = [] := List.length_eq_zero_iff.1 h2
    subst this
    exact TV.nil W
  · refine ⟨_, _, rfl, fun e => (by cases e), .inr ⟨g, 0, rfl, fun i hi => ?_⟩⟩
    have hc : (strs l)[i]? = some (.string (bs l[i])) := by simp [strs, hi]
    have h9 := h.cells (g := g) rfl i _ hc
    rw [Addr.add_mid] at h9
    exact h9
theorem lies_new7 (w : World) (s : Bytes) (t : TypeId) : LiesS (w.alloc (.cells #[.string (bs s)] t)) (some ⟨w.heap.size, 0, none⟩) [s] := by
  refine .inr ⟨_, _, rfl, fun i hi => ?_⟩
  have h0 : i = 0 := by simp at hi; omega
  subst h0
  have h9 := news_one w (.string (bs s)) t 0 _ rfl
  rw [Addr.add_mid] at h9
  exact h9
theorem info_str7 : (Tryz.prog.info? 9).map (fun i => (i.zero, i.size, i.bytes)) = some (some (.string ⟨#[]⟩), 1, 16) := by kernel_rfl
theorem strs_one7 : ∀ (l : List Bytes), ∀ u ∈ strs l, u.oneCell' = true := by
  intro l u hu
  obtain ⟨s, _, rfl⟩ := List.mem_map.1 hu
  rfl
theorem own_shape7 {w : World} {B e size n : Nat} {v : Value} {xs : List Value} (h : w.ownsRow B e size v n xs) : ∃ a c, v = .slice a n c ∧ (a = none → c = 0) := by
  rcases h.2 with ⟨rfl, rfl⟩ | ⟨g, cap, cur, rfl, _⟩
  · exact ⟨none, 0, rfl, fun _ => rfl⟩
  · exact ⟨_, _, rfl, fun h => by cases h⟩
theorem wpList_append_strs7 {w : World} {ops : Array Oper} {rest : List Oper} {op : Oper} {a : Act} {Q : Exit → Act → World → Prop} (hgd : op.guard = none) (s x : Operand)
    (ho : op.op = .call { callee := .builtin .append, args := #[s, x], argTypes := #[38, 38] })
    (base : Nat) (v : Value) (n : Nat) (xs : List Value) (hs : a.eval s = v) (hown : w.ownsRow base 9 1 v n xs)
    (ad : Option Addr) (l : List Bytes) (c : Nat) (hx : a.eval x = .slice ad l.length c) (hc : ad = none → c = 0) (hl : LiesS w ad l) (hn : n + l.length ≤ 4000000) (hbase : base ≤ w.heap.size)
    (h : ∀ v' w', w'.ownsRow base 9 1 v' (n + l.length) (xs ++ strs l) → w.grownBy w' v.ownBlock → wpList Tryz.prog ops Q rest (a.put op.dst v') w') : wpList Tryz.prog ops Q (op :: rest) a w := by
  obtain ⟨i0, hi0, hz0, hz1, hz2⟩ := info_parts info_str7
  cases ad with
  | none =>
    have hl0 : l = [] := by
      rcases hl with hl | ⟨b, o, h, _⟩
      · exact hl
      · cases h
    subst hl0
    rw [hc rfl] at hx
    refine wpList_append_own_none hgd s x 38 ho base 9 i0 1 Tryz.underlying38 hi0 v n xs hs hown hx ?_
    refine h v w ?_ ⟨rfl, rfl, rfl, Nat.le_refl _, fun _ _ _ => rfl⟩
    simpa [strs] using hown
  | some ad =>
    have hnews : ∀ j u, (strs l)[j]? = some u → w.cell? (ad.add j) = some u := by
      rcases hl with hl | ⟨b, o, h, h2⟩
      · subst hl; intro j u hu; simp [strs] at hu
      · have h3 := Option.some.inj h
        subst h3
        intro j u hu
        rw [strs, List.getElem?_map] at hu
        by_cases hj : j < l.length
        · rw [List.getElem?_eq_getElem hj] at hu
          rw [Addr.add_mid, ← Option.some.inj hu]
          exact h2 j hj
        · rw [List.getElem?_eq_none (by omega)] at hu; cases hu
    exact wpList_append_own w hgd s x 38 ho base 9 i0 _ 1 16 Tryz.underlying38 hi0 hz0 hz1 hz2 rfl (by decide) v n xs hs hown ad l.length c (strs l) hx (by simp [strs]) hnews (strs_one7 l) (by simp only [maxLen]; omega) (by omega) hbase (fun v' w' h1 h2 _ => h v' w' h1 h2)
theorem own_empty7 (w : World) : (w.alloc (.cells #[] 9)).ownsRow w.heap.size 9 1 (.slice (some ⟨w.heap.size, 0, none⟩) 0 0) 0 [] := ⟨rfl, .inr ⟨w.heap.size, 0, #[], rfl, Nat.le_refl _, World.alloc_heap_new w _, Nat.le_refl _, by decide, rfl, rfl⟩⟩
/-- One text behind a row, in a new row. -/
theorem snoc7 {w1 w5 w7 : World} {l : List Bytes} {s : Bytes} {v5 v7 : Value} {O : Obj} (own5 : w5.ownsRow w1.heap.size 9 1 v5 l.length (strs l)) (hg5 : (w1.alloc (.cells #[] 9)).grownBy w5 (some w1.heap.size)) (own7 : w7.ownsRow w1.heap.size 9 1 v7 (l.length + 1) (strs l ++ strs [s])) (hg7 : (w5.alloc O).grownBy w7 v5.ownBlock) : TV w7 v7 (l ++ [s]) ∧ Below w1.heap.size w1 w7 := by
  refine ⟨TV.own (base := w1.heap.size) ?_, ?_⟩
  · have e1 : (l ++ [s]).length = l.length + 1 := by simp
    have e2 : strs (l ++ [s]) = strs l ++ strs [s] := by simp [strs]
    rw [e1, e2]; exact own7
  · have h5 := hg5.size
    rw [World.size_alloc] at h5
    have b5 : Below w1.heap.size w1 w5 := ((Below.refl _ _).alloc (Nat.le_refl _) _).grown hg5 (by simp) (fun k e => by cases e; exact Nat.le_refl _)
    exact (b5.alloc (by omega) O).grown hg7 (by rw [World.size_alloc]; omega) (fun k e => (own5.lt k e).1)
/-- A text more. -/
def more1 (l : List Bytes) (s : Bytes) : List Bytes := if l.contains s = true then l else l ++ [s]
theorem more1_addN (l : List Bytes) (s : Bytes) : more1 l s = addN l [s] := by unfold more1; rw [addN, addN]
theorem more1_len (l : List Bytes) (s : Bytes) : (more1 l s).length ≤ l.length + 1 := by unfold more1; split <;> simp
set_option maxHeartbeats 4000000 in
set_option maxRecDepth 100000 in
theorem refapart_any (l m : List Bytes) (hll : l.length ≤ 4000000) (hmm : m.length ≤ 4000000) (a b : Option Addr) (c d : Nat) (W : World) (hl : LiesS W a l) (hm : LiesS W b m) : Calls Tryz.prog 122 #[.slice a l.length c, .slice b m.length d] W fun e W' => e = .returned (.bool (l.all fun n => !m.contains n)) ∧ Below W.heap.size W W' := by
  obtain ⟨R, hR⟩ : ∃ R, (l.all fun n => !m.contains n) = R := ⟨_, rfl⟩
  rw [hR]
  have HR := Lib.hid hR
  have HL := Lib.hid (And.intro hl hm)
  clear hR hl hm
  go_enter Tryz.func122, Tryz.ntmps122
  go_wp2
  go_loopg [5] l.length (fun g u wr => ∃ k : Nat, u = .int .i64 k ∧ k + g = l.length ∧ ((l.drop k).all fun n => !m.contains n) = R ∧ Below W.heap.size W wr)
  case atStart => exact ⟨0, rfl, by omega, by rw [List.drop_zero]; exact HR.out, Below.refl _ _⟩
  case round =>
    obtain ⟨k, rfl, hk, hdr, hbw⟩ := hrel
    have HD := Lib.hid hdr
    have HB := Lib.hid hbw
    clear hdr
    by_cases hlt : k < l.length
    · have d1 : decide (k < l.length) = true := by simpa using hlt
      have d2 : decide ((k : Int) < (l.length : Int)) = true := by rw [decide_eq_true_eq]; omega
      have x1 : (k : Int) < (l.length : Int) := by omega
      obtain ⟨b1, o1, rfl, hL1⟩ := (lies_keep7 HL.out.1 hbw).resolve_left (by intro h; rw [h] at hlt; simp at hlt)
      have r0 := hL1 k hlt
      have hdk : ((l.drop k).all fun n => !m.contains n) = ((!m.contains l[k]) && ((l.drop (k + 1)).all fun n => !m.contains n)) := by rw [← List.getElem_cons_drop hlt, List.all_cons]
      have HK := Lib.hid hdk
      have q := fun s => amongS_any b d m s (by omega) wr (lies_keep7 HL.out.2 hbw)
      clear hL1 hdk hbw
      obtain ⟨t, ht⟩ : ∃ t, l[k] = t := ⟨_, rfl⟩
      rw [ht] at r0 HK
      clear ht
      replace q := q t
      obtain ⟨KK, hKK⟩ : ∃ KK, m.contains t = KK := ⟨_, rfl⟩
      rw [hKK] at q
      have HKK := Lib.hid hKK
      clear hKK
      go_wp2_with fail
      refine q.mono ?_
      clear q
      rintro e w1 ⟨rfl, n, hw1⟩
      have HB1 : Hid (Below W.heap.size W w1) := Lib.hid (by rw [hw1]; exact below_drewN HB.out n)
      clear hw1 r0
      cases KK with
      | true =>
        have HE : Hid (R = false) := Lib.hid (by rw [← HD.out, HK.out, HKK.out]; rfl)
        clear HK HD HR
        go_wp2
        go_ret
        exact ⟨ret_bool HE.out.symm, HB1.out⟩
      | false =>
        have HE : Hid (((l.drop (k + 1)).all fun n => !m.contains n) = R) := Lib.hid (by rw [← HD.out, HK.out, HKK.out]; rfl)
        clear HK HD HR
        go_wp2
        cases gk with
        | zero => omega
        | succ gg =>
          go_roundg gg
          case rel => exact ⟨k + 1, rfl, by omega, HE.out, HB1.out⟩
          case measure => omega
    · have d1 : decide (k < l.length) = false := by simpa using hlt
      have d2 : decide ((k : Int) < (l.length : Int)) = false := by rw [decide_eq_false_iff_not]; omega
      have HE : Hid (R = true) := Lib.hid (by rw [← HD.out, List.drop_eq_nil_of_le (by omega)]; rfl)
      clear HD HR
      go_wp2
      go_ret
      exact ⟨ret_bool HE.out.symm, hbw⟩
set_option maxHeartbeats 4000000 in
set_option maxRecDepth 100000 in
theorem refbehind_any (l m : List Bytes) (hll : l.length ≤ 4000000) (hmm : m.length ≤ 4000000) (a b : Option Addr) (c d : Nat) (W : World) (hl : LiesS W a l) (hm : LiesS W b m) : Calls Tryz.prog 44 #[.slice a l.length c, .slice b m.length d] W fun e W' => e = .returned (.bool (l.all fun n => m.contains n)) ∧ Below W.heap.size W W' := by
  obtain ⟨R, hR⟩ : ∃ R, (l.all fun n => m.contains n) = R := ⟨_, rfl⟩
  rw [hR]
  have HR := Lib.hid hR
  have HL := Lib.hid (And.intro hl hm)
  clear hR hl hm
  go_enter Tryz.func44, Tryz.ntmps44
  go_wp2
  go_loopg [5] l.length (fun g u wr => ∃ k : Nat, u = .int .i64 k ∧ k + g = l.length ∧ ((l.drop k).all fun n => m.contains n) = R ∧ Below W.heap.size W wr)
  case atStart => exact ⟨0, rfl, by omega, by rw [List.drop_zero]; exact HR.out, Below.refl _ _⟩
  case round =>
    obtain ⟨k, rfl, hk, hdr, hbw⟩ := hrel
    have HD := Lib.hid hdr
    have HB := Lib.hid hbw
    clear hdr
    by_cases hlt : k < l.length
    · have d1 : decide (k < l.length) = true := by simpa using hlt
      have d2 : decide ((k : Int) < (l.length : Int)) = true := by rw [decide_eq_true_eq]; omega
      have x1 : (k : Int) < (l.length : Int) := by omega
      obtain ⟨b1, o1, rfl, hL1⟩ := (lies_keep7 HL.out.1 hbw).resolve_left (by intro h; rw [h] at hlt; simp at hlt)
      have r0 := hL1 k hlt
      have hdk : ((l.drop k).all fun n => m.contains n) = ((m.contains l[k]) && ((l.drop (k + 1)).all fun n => m.contains n)) := by rw [← List.getElem_cons_drop hlt, List.all_cons]
      have HK := Lib.hid hdk
      have q := fun s => amongS_any b d m s (by omega) wr (lies_keep7 HL.out.2 hbw)
      clear hL1 hdk hbw
      obtain ⟨t, ht⟩ : ∃ t, l[k] = t := ⟨_, rfl⟩
      rw [ht] at r0 HK
      clear ht
      replace q := q t
      obtain ⟨KK, hKK⟩ : ∃ KK, m.contains t = KK := ⟨_, rfl⟩
      rw [hKK] at q
      have HKK := Lib.hid hKK
      clear hKK
      go_wp2_with fail
      refine q.mono ?_
      clear q
      rintro e w1 ⟨rfl, n, hw1⟩
      have HB1 : Hid (Below W.heap.size W w1) := Lib.hid (by rw [hw1]; exact below_drewN HB.out n)
      clear hw1 r0
      cases KK with
      | false =>
        have HE : Hid (R = false) := Lib.hid (by rw [← HD.out, HK.out, HKK.out]; rfl)
        clear HK HD HR
        go_wp2
        go_ret
        exact ⟨ret_bool HE.out.symm, HB1.out⟩
      | true =>
        have HE : Hid (((l.drop (k + 1)).all fun n => m.contains n) = R) := Lib.hid (by rw [← HD.out, HK.out, HKK.out]; rfl)
        clear HK HD HR
        go_wp2
        cases gk with
        | zero => omega
        | succ gg =>
          go_roundg gg
          case rel => exact ⟨k + 1, rfl, by omega, HE.out, HB1.out⟩
          case measure => omega
    · have d1 : decide (k < l.length) = false := by simpa using hlt
      have d2 : decide ((k : Int) < (l.length : Int)) = false := by rw [decide_eq_false_iff_not]; omega
      have HE : Hid (R = true) := Lib.hid (by rw [← HD.out, List.drop_eq_nil_of_le (by omega)]; rfl)
      clear HD HR
      go_wp2
      go_ret
      exact ⟨ret_bool HE.out.symm, hbw⟩
set_option maxHeartbeats 4000000 in
set_option maxRecDepth 100000 in
theorem refmore_any (l : List Bytes) (s : Bytes) (hll : l.length ≤ 3500000) (a : Option Addr) (c : Nat) (hc : a = none → c = 0) (W : World) (hl : LiesS W a l) : Calls Tryz.prog 54 #[.slice a l.length c, .string (bs s)] W fun e W' => ∃ v, e = .returned v ∧ TV W' v (more1 l s) ∧ Below W.heap.size W W' := by
  have q := amongS_any a c l s (by omega) W hl
  obtain ⟨KK, hKK⟩ : ∃ KK, l.contains s = KK := ⟨_, rfl⟩
  rw [hKK] at q
  have HK := Lib.hid hKK
  have HL := Lib.hid hl
  clear hKK hl
  go_enter Tryz.func54, Tryz.ntmps54
  go_wp2_with fail
  refine q.mono ?_
  clear q
  rintro e w1 ⟨rfl, n, hw1⟩
  have hb1 : Below W.heap.size W w1 := by rw [hw1]; exact below_drewN (Below.refl _ _) n
  have H1 := Lib.hid (lies_keep7 HL.out hb1)
  have HB1 := Lib.hid hb1
  clear hw1 hb1
  cases KK with
  | true =>
    go_wp2
    go_ret
    exact ⟨_, rfl, by rw [show more1 l s = l by unfold more1; rw [if_pos HK.out]]; exact ⟨a, c, rfl, hc, H1.out⟩, HB1.out⟩
  | false =>
    go_wp2_with (first | (at_builtin; refine wpList_append_strs7 rfl (.tmp 9) (.tmp 10) rfl w1.heap.size (.slice (some ⟨w1.heap.size, 0, none⟩) 0 0) 0 [] rfl (own_empty7 w1) a l c rfl hc (lies_keep7 H1.out ((Below.refl _ _).alloc (Nat.le_refl _) _)) (by omega) (by simp) ?_; intro v5 w5 own5 hg5; rw [Nat.zero_add, List.nil_append] at own5; have hz5 := hg5.size; rw [World.size_alloc] at hz5) | (at_builtin; refine wpList_append_strs7 rfl (.tmp 11) (.tmp 13) rfl w1.heap.size v5 l.length (strs l) rfl (own5.alloc _) (some ⟨w5.heap.size, 0, none⟩) [s] 1 rfl (by intro h; cases h) (lies_new7 _ _ _) (by simp; omega) (by rw [World.size_alloc]; omega) ?_; intro v7 w7 own7 hg7))
    have HS := Lib.hid (snoc7 own5 hg5 own7 hg7)
    clear own5 hg5 own7 hg7
    go_ret
    exact ⟨_, rfl, by rw [show more1 l s = l ++ [s] by unfold more1; rw [if_neg (by rw [HK.out]; decide)]]; exact HS.out.1, HB1.out.trans (HS.out.2.mono HB1.out.size)⟩
end Go.Proofs.YtbfhbblbjgkolaaGreatDoor
