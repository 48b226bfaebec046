/-
  NtM, in one text.
-/
import Derived.Test.YtiipjbafdhijlaaGreatDoorZmP
import Derived.Laws.AppendOwn
import Derived.Laws.AppendOwnNone
import Derived.OwnWalk
import Derived.WalkSpells
import Derived.Deep.LoopGhost
import Derived.Deep.RegionHeld3
namespace Go.Proofs.YtiipjbafdhijlaaGreatDoor
open Go Go.RowKit
set_option linter.unusedVariables false
set_option linter.unusedSimpArgs false
open Go.Sort
theorem lies_keep7 {n0 : Nat} {W W' : World} {a : Option Addr} {l : List Bytes} (h : LiesS W a l) (hb : Below n0 W W') (hn : n0 = W.heap.size := by rfl) : LiesS W' a l := by
 subst hn
 rcases h with h | ⟨b, o, h1, h2⟩
 ·exact .inl h
 ·refine .inr ⟨b, o, h1, fun i hi => ?_⟩
  have h3 := h2 i hi
  have hlt : b < W.heap.size := by
   by_cases hb2 : b < W.heap.size
   ·exact hb2
   ·simp [World.cell?, Array.getElem?_eq_none (show W.heap.size ≤ b by omega)] at h3
  simp only [World.cell?] at h3 ⊢
  rw [hb.block b hlt]
  exact h3
/-- A row of texts, as a value. -/
def TV (W : World) (v : Value) (l : List Bytes) : Prop := ∃ a c, v = .slice a l.length c ∧ (a = none → c = 0) ∧ LiesS W a l
theorem TV.nil (W : World) : TV W (.slice none 0 0) [] := ⟨none, 0, rfl, fun _ => rfl, .inl rfl⟩
theorem TV.own {W : World} {base : Nat} {v : Value} {l : List Bytes} (h : W.ownsRow base 9 1 v l.length (strs l)) : TV W v l := by
 rcases h.2 with ⟨rfl, h2⟩ | ⟨g, cap, cur, rfl, hg, hh, h3, h4, h5, h6⟩
 ·have : l = [] := List.length_eq_zero_iff.1 h2
  subst this
  exact TV.nil W
 ·refine ⟨_, _, rfl, fun e => (by cases e), .inr ⟨g, 0, rfl, fun i hi => ?_⟩⟩
  have hc : (strs l)[i]? = some (.string (bs l[i])) := by simp [strs, hi]
  have h9 := h.cells (g := g) rfl i _ hc
  rw [Addr.add_mid] at h9
  exact h9
theorem lies_new7 (w : World) (s : Bytes) (t : TypeId) : LiesS (w.alloc (.cells #[.string (bs s)] t)) (some ⟨w.heap.size, 0, none⟩) [s] := by
 refine .inr ⟨_, _, rfl, fun i hi => ?_⟩
 have h0 : i = 0 := by simp at hi; omega
 subst h0
 have h9 := news_one w (.string (bs s)) t 0 _ rfl
 rw [Addr.add_mid] at h9
 exact h9
theorem info_str7 : (Tryz.prog.info? 9).map (fun i => (i.zero, i.size, i.bytes)) = some (some (.string ⟨#[]⟩), 1, 16) := by kernel_rfl
theorem strs_one7 : ∀ (l : List Bytes), ∀ u ∈ strs l, u.oneCell' = true := by
 intro l u hu
 obtain ⟨s, _, rfl⟩ := List.mem_map.1 hu
 rfl
theorem own_shape7 {w : World} {B e size n : Nat} {v : Value} {xs : List Value} (h : w.ownsRow B e size v n xs) : ∃ a c, v = .slice a n c ∧ (a = none → c = 0) := by
 rcases h.2 with ⟨rfl, rfl⟩ | ⟨g, cap, cur, rfl, _⟩
 ·exact ⟨none, 0, rfl, fun _ => rfl⟩
 ·exact ⟨_, _, rfl, fun h => by cases h⟩
theorem wpList_append_strs7 {w : World} {ops : Array Oper} {rest : List Oper} {op : Oper} {a : Act} {Q : Exit → Act → World → Prop} (hgd : op.guard = none) (s x : Operand)
  (ho : op.op = .call { callee := .builtin .append, args := #[s, x], argTypes := #[29, 29] })
  (base : Nat) (v : Value) (n : Nat) (xs : List Value) (hs : a.eval s = v) (hown : w.ownsRow base 9 1 v n xs)
  (ad : Option Addr) (l : List Bytes) (c : Nat) (hx : a.eval x = .slice ad l.length c) (hc : ad = none → c = 0) (hl : LiesS w ad l) (hn : n + l.length ≤ 12000000) (hbase : base ≤ w.heap.size)
  (h : ∀ v' w', w'.ownsRow base 9 1 v' (n + l.length) (xs ++ strs l) → w.grownBy w' v.ownBlock → wpList Tryz.prog ops Q rest (a.put op.dst v') w') : wpList Tryz.prog ops Q (op :: rest) a w := by
 obtain ⟨i0, hi0, hz0, hz1, hz2⟩ := info_parts info_str7
 cases ad with
 | none =>
  have hl0 : l = [] := by
   rcases hl with hl | ⟨b, o, h, _⟩
   ·exact hl
   ·cases h
  subst hl0
  rw [hc rfl] at hx
  refine wpList_append_own_none hgd s x 29 ho base 9 i0 1 Tryz.underlying29 hi0 v n xs hs hown hx ?_
  refine h v w ?_ ⟨rfl, rfl, rfl, Nat.le_refl _, fun _ _ _ => rfl⟩
  simpa [strs] using hown
 | some ad =>
  have hnews : ∀ j u, (strs l)[j]? = some u → w.cell? (ad.add j) = some u := by
   rcases hl with hl | ⟨b, o, h, h2⟩
   ·subst hl; intro j u hu; simp [strs] at hu
   ·have h3 := Option.some.inj h
    subst h3
    intro j u hu
    rw [strs, List.getElem?_map] at hu
    by_cases hj : j < l.length
    ·rw [List.getElem?_eq_getElem hj] at hu
     rw [Addr.add_mid, ← Option.some.inj hu]
     exact h2 j hj
    ·rw [List.getElem?_eq_none (by omega)] at hu; cases hu
  exact wpList_append_own w hgd s x 29 ho base 9 i0 _ 1 16 Tryz.underlying29 hi0 hz0 hz1 hz2 rfl (by decide) v n xs hs hown ad l.length c (strs l) hx (by simp [strs]) hnews (strs_one7 l) (by simp only [maxLen]; omega) (by omega) hbase (fun v' w' h1 h2 _ => h v' w' h1 h2)
theorem own_empty7 (w : World) : (w.alloc (.cells #[] 9)).ownsRow w.heap.size 9 1 (.slice (some ⟨w.heap.size, 0, none⟩) 0 0) 0 [] := ⟨rfl, .inr ⟨w.heap.size, 0, #[], rfl, Nat.le_refl _, World.alloc_heap_new w _, Nat.le_refl _, by decide, rfl, rfl⟩⟩
/-- One text behind a row, in a new row. -/
theorem snoc7 {w1 w5 w7 : World} {l : List Bytes} {s : Bytes} {v5 v7 : Value} {O : Obj} (own5 : w5.ownsRow w1.heap.size 9 1 v5 l.length (strs l)) (hg5 : (w1.alloc (.cells #[] 9)).grownBy w5 (some w1.heap.size)) (own7 : w7.ownsRow w1.heap.size 9 1 v7 (l.length + 1) (strs l ++ strs [s])) (hg7 : (w5.alloc O).grownBy w7 v5.ownBlock) : TV w7 v7 (l ++ [s]) ∧ Below w1.heap.size w1 w7 := by
 refine ⟨TV.own (base := w1.heap.size) ?_, ?_⟩
 ·have e1 : (l ++ [s]).length = l.length + 1 := by simp
  have e2 : strs (l ++ [s]) = strs l ++ strs [s] := by simp [strs]
  rw [e1, e2]; exact own7
 ·have h5 := hg5.size
  rw [World.size_alloc] at h5
  have b5 : Below w1.heap.size w1 w5 := ((Below.refl _ _).alloc (Nat.le_refl _) _).grown hg5 (by simp) (fun k e => by cases e; exact Nat.le_refl _)
  exact (b5.alloc (by omega) O).grown hg7 (by rw [World.size_alloc]; omega) (fun k e => (own5.lt k e).1)
/-- A text more. -/
def more1 (l : List Bytes) (s : Bytes) : List Bytes := if l.contains s = true then l else l ++ [s]
theorem more1_addN (l : List Bytes) (s : Bytes) : more1 l s = addN l [s] := by unfold more1; rw [addN, addN]
theorem more1_len (l : List Bytes) (s : Bytes) : (more1 l s).length ≤ l.length + 1 := by unfold more1; split <;> simp
set_option maxHeartbeats 4000000 in
set_option maxRecDepth 100000 in
theorem refapart_any (l m : List Bytes) (hll : l.length ≤ 12000000) (hmm : m.length ≤ 12000000) (a b : Option Addr) (c d : Nat) (W : World) (hl : LiesS W a l) (hm : LiesS W b m) : Calls Tryz.prog 98 #[.slice a l.length c, .slice b m.length d] W fun e W' => e = .returned (.bool (l.all fun n => !m.contains n)) ∧ Below W.heap.size W W' := by
 obtain ⟨R, hR⟩ : ∃ R, (l.all fun n => !m.contains n) = R := ⟨_, rfl⟩
 rw [hR]
 have HR := Lib.hid hR
 have HL := Lib.hid (And.intro hl hm)
 clear hR hl hm
 go_enter Tryz.func98, Tryz.ntmps98
 go_wp2
 go_loopg [5] l.length (fun g u wr => ∃ k : Nat, u = .int .i64 k ∧ k + g = l.length ∧ ((l.drop k).all fun n => !m.contains n) = R ∧ Below W.heap.size W wr)
 case atStart => exact ⟨0, rfl, by omega, by rw [List.drop_zero]; exact HR.out, Below.refl _ _⟩
 case round =>
  obtain ⟨k, rfl, hk, hdr, hbw⟩ := hrel
  have HD := Lib.hid hdr
  have HB := Lib.hid hbw
  clear hdr
  by_cases hlt : k < l.length
  ·have d1 : decide (k < l.length) = true := by simpa using hlt
   have d2 : decide ((k : Int) < (l.length : Int)) = true := by rw [decide_eq_true_eq]; omega
   have x1 : (k : Int) < (l.length : Int) := by omega
   obtain ⟨b1, o1, rfl, hL1⟩ := (lies_keep7 HL.out.1 hbw).resolve_left (by intro h; rw [h] at hlt; simp at hlt)
   have r0 := hL1 k hlt
   have hdk : ((l.drop k).all fun n => !m.contains n) = ((!m.contains l[k]) && ((l.drop (k + 1)).all fun n => !m.contains n)) := by rw [← List.getElem_cons_drop hlt, List.all_cons]
   have HK := Lib.hid hdk
   have q := fun s => amongS_any b d m s (by omega) wr (lies_keep7 HL.out.2 hbw)
   clear hL1 hdk hbw
   obtain ⟨t, ht⟩ : ∃ t, l[k] = t := ⟨_, rfl⟩
   rw [ht] at r0 HK
   clear ht
   replace q := q t
   obtain ⟨KK, hKK⟩ : ∃ KK, m.contains t = KK := ⟨_, rfl⟩
   rw [hKK] at q
   have HKK := Lib.hid hKK
   clear hKK
   go_wp2_with fail
   refine q.mono ?_
   clear q
   rintro e w1 ⟨rfl, n, hw1⟩
   have HB1 : Hid (Below W.heap.size W w1) := Lib.hid (by rw [hw1]; exact below_drewN HB.out n)
   clear hw1 r0
   cases KK with
   | true =>
    have HE : Hid (R = false) := Lib.hid (by rw [← HD.out, HK.out, HKK.out]; rfl)
    clear HK HD HR
    go_wp2
    go_ret
    exact ⟨ret_bool HE.out.symm, HB1.out⟩
   | false =>
    have HE : Hid (((l.drop (k + 1)).all fun n => !m.contains n) = R) := Lib.hid (by rw [← HD.out, HK.out, HKK.out]; rfl)
    clear HK HD HR
    go_wp2
    cases gk with
    | zero => omega
    | succ gg =>
     go_roundg gg
     case rel => exact ⟨k + 1, rfl, by omega, HE.out, HB1.out⟩
     case measure => omega
  ·have d1 : decide (k < l.length) = false := by simpa using hlt
   have d2 : decide ((k : Int) < (l.length : Int)) = false := by rw [decide_eq_false_iff_not]; omega
   have HE : Hid (R = true) := Lib.hid (by rw [← HD.out, List.drop_eq_nil_of_le (by omega)]; rfl)
   clear HD HR
   go_wp2
   go_ret
   exact ⟨ret_bool HE.out.symm, hbw⟩
set_option maxHeartbeats 4000000 in
set_option maxRecDepth 100000 in
theorem refbehind_any (l m : List Bytes) (hll : l.length ≤ 12000000) (hmm : m.length ≤ 12000000) (a b : Option Addr) (c d : Nat) (W : World) (hl : LiesS W a l) (hm : LiesS W b m) : Calls Tryz.prog 34 #[.slice a l.length c, .slice b m.length d] W fun e W' => e = .returned (.bool (l.all fun n => m.contains n)) ∧ Below W.heap.size W W' := by
 obtain ⟨R, hR⟩ : ∃ R, (l.all fun n => m.contains n) = R := ⟨_, rfl⟩
 rw [hR]
 have HR := Lib.hid hR
 have HL := Lib.hid (And.intro hl hm)
 clear hR hl hm
 go_enter Tryz.func34, Tryz.ntmps34
 go_wp2
 go_loopg [5] l.length (fun g u wr => ∃ k : Nat, u = .int .i64 k ∧ k + g = l.length ∧ ((l.drop k).all fun n => m.contains n) = R ∧ Below W.heap.size W wr)
 case atStart => exact ⟨0, rfl, by omega, by rw [List.drop_zero]; exact HR.out, Below.refl _ _⟩
 case round =>
  obtain ⟨k, rfl, hk, hdr, hbw⟩ := hrel
  have HD := Lib.hid hdr
  have HB := Lib.hid hbw
  clear hdr
  by_cases hlt : k < l.length
  ·have d1 : decide (k < l.length) = true := by simpa using hlt
   have d2 : decide ((k : Int) < (l.length : Int)) = true := by rw [decide_eq_true_eq]; omega
   have x1 : (k : Int) < (l.length : Int) := by omega
   obtain ⟨b1, o1, rfl, hL1⟩ := (lies_keep7 HL.out.1 hbw).resolve_left (by intro h; rw [h] at hlt; simp at hlt)
   have r0 := hL1 k hlt
   have hdk : ((l.drop k).all fun n => m.contains n) = ((m.contains l[k]) && ((l.drop (k + 1)).all fun n => m.contains n)) := by rw [← List.getElem_cons_drop hlt, List.all_cons]
   have HK := Lib.hid hdk
   have q := fun s => amongS_any b d m s (by omega) wr (lies_keep7 HL.out.2 hbw)
   clear hL1 hdk hbw
   obtain ⟨t, ht⟩ : ∃ t, l[k] = t := ⟨_, rfl⟩
   rw [ht] at r0 HK
   clear ht
   replace q := q t
   obtain ⟨KK, hKK⟩ : ∃ KK, m.contains t = KK := ⟨_, rfl⟩
   rw [hKK] at q
   have HKK := Lib.hid hKK
   clear hKK
   go_wp2_with fail
   refine q.mono ?_
   clear q
   rintro e w1 ⟨rfl, n, hw1⟩
   have HB1 : Hid (Below W.heap.size W w1) := Lib.hid (by rw [hw1]; exact below_drewN HB.out n)
   clear hw1 r0
   cases KK with
   | false =>
    have HE : Hid (R = false) := Lib.hid (by rw [← HD.out, HK.out, HKK.out]; rfl)
    clear HK HD HR
    go_wp2
    go_ret
    exact ⟨ret_bool HE.out.symm, HB1.out⟩
   | true =>
    have HE : Hid (((l.drop (k + 1)).all fun n => m.contains n) = R) := Lib.hid (by rw [← HD.out, HK.out, HKK.out]; rfl)
    clear HK HD HR
    go_wp2
    cases gk with
    | zero => omega
    | succ gg =>
     go_roundg gg
     case rel => exact ⟨k + 1, rfl, by omega, HE.out, HB1.out⟩
     case measure => omega
  ·have d1 : decide (k < l.length) = false := by simpa using hlt
   have d2 : decide ((k : Int) < (l.length : Int)) = false := by rw [decide_eq_false_iff_not]; omega
   have HE : Hid (R = true) := Lib.hid (by rw [← HD.out, List.drop_eq_nil_of_le (by omega)]; rfl)
   clear HD HR
   go_wp2
   go_ret
   exact ⟨ret_bool HE.out.symm, hbw⟩
set_option maxHeartbeats 4000000 in
set_option maxRecDepth 100000 in
theorem refmore_any (l : List Bytes) (s : Bytes) (hll : l.length ≤ 10500000) (a : Option Addr) (c : Nat) (hc : a = none → c = 0) (W : World) (hl : LiesS W a l) : Calls Tryz.prog 40 #[.slice a l.length c, .string (bs s)] W fun e W' => ∃ v, e = .returned v ∧ TV W' v (more1 l s) ∧ Below W.heap.size W W' := by
 have q := amongS_any a c l s (by omega) W hl
 obtain ⟨KK, hKK⟩ : ∃ KK, l.contains s = KK := ⟨_, rfl⟩
 rw [hKK] at q
 have HK := Lib.hid hKK
 have HL := Lib.hid hl
 clear hKK hl
 go_enter Tryz.func40, Tryz.ntmps40
 go_wp2_with fail
 refine q.mono ?_
 clear q
 rintro e w1 ⟨rfl, n, hw1⟩
 have hb1 : Below W.heap.size W w1 := by rw [hw1]; exact below_drewN (Below.refl _ _) n
 have H1 := Lib.hid (lies_keep7 HL.out hb1)
 have HB1 := Lib.hid hb1
 clear hw1 hb1
 cases KK with
 | true =>
  go_wp2
  go_ret
  exact ⟨_, rfl, by rw [show more1 l s = l by unfold more1; rw [if_pos HK.out]]; exact ⟨a, c, rfl, hc, H1.out⟩, HB1.out⟩
 | false =>
  go_wp2_with (first | (at_builtin; refine wpList_append_strs7 rfl (.tmp 9) (.tmp 10) rfl w1.heap.size (.slice (some ⟨w1.heap.size, 0, none⟩) 0 0) 0 [] rfl (own_empty7 w1) a l c rfl hc (lies_keep7 H1.out ((Below.refl _ _).alloc (Nat.le_refl _) _)) (by omega) (by simp) ?_; intro v5 w5 own5 hg5; rw [Nat.zero_add, List.nil_append] at own5; have hz5 := hg5.size; rw [World.size_alloc] at hz5) | (at_builtin; refine wpList_append_strs7 rfl (.tmp 11) (.tmp 13) rfl w1.heap.size v5 l.length (strs l) rfl (own5.alloc _) (some ⟨w5.heap.size, 0, none⟩) [s] 1 rfl (by intro h; cases h) (lies_new7 _ _ _) (by simp; omega) (by rw [World.size_alloc]; omega) ?_; intro v7 w7 own7 hg7))
  have HS := Lib.hid (snoc7 own5 hg5 own7 hg7)
  clear own5 hg5 own7 hg7
  go_ret
  exact ⟨_, rfl, by rw [show more1 l s = l ++ [s] by unfold more1; rw [if_neg (by rw [HK.out]; decide)]]; exact HS.out.1, HB1.out.trans (HS.out.2.mono HB1.out.size)⟩
end Go.Proofs.YtiipjbafdhijlaaGreatDoor
namespace Go.Proofs.YtiipjbafdhijlaaGreatDoor
open Go Go.RowKit
set_option linter.unusedVariables false
set_option linter.unusedSimpArgs false
open Go.Sort
/-- A scope, as a value. -/
def ScV (W : World) (v : Value) (s : List Bytes × Bool) : Prop := ∃ a c, v = .agg #[.slice a s.1.length c, .bool s.2] ∧ (a = none → c = 0) ∧ LiesS W a s.1
theorem ScV.keep {W W' : World} {v : Value} {s : List Bytes × Bool} (h : ScV W v s) (hb : Below W.heap.size W W') : ScV W' v s := by
 obtain ⟨a, c, h1, h2, h3⟩ := h
 exact ⟨a, c, h1, h2, lies_keep7 h3 hb⟩
theorem tell_end7 {g : Nat} {W w1 w5 w7 : World} {l : List Bytes} {s : Bytes} {v5 v7 : Value} {O : Obj} {R : Bool} (hlow : Below g W w1) (hz : g + 2 ≤ w1.heap.size) (hbr : w1.heap[g + 1]? = some (.cells #[.slice none 0 0, .bool false] 42 (0, 0))) (own5 : w5.ownsRow w1.heap.size 9 1 v5 l.length (strs l)) (hg5 : (w1.alloc (.cells #[] 9)).grownBy w5 (some w1.heap.size)) (own7 : w7.ownsRow w1.heap.size 9 1 v7 (l.length + [s].length) (strs l ++ strs [s])) (hg7 : (w5.alloc O).grownBy w7 v5.ownBlock) :
  TV ((w7.setCell ⟨g + 1, 0, none⟩ v7).setCell ⟨g + 1, 1, none⟩ (.bool R)) v7 (l ++ [s]) ∧ Below g w1 ((w7.setCell ⟨g + 1, 0, none⟩ v7).setCell ⟨g + 1, 1, none⟩ (.bool R)) ∧ w7.heap[g + 1]? = some (.cells #[.slice none 0 0, .bool false] 42 (0, 0)) := by
 obtain ⟨-, hb⟩ := snoc7 own5 hg5 own7 hg7
 refine ⟨TV.own (base := w1.heap.size) ?_, ((hb.mono (by omega)).setCell (p := ⟨g + 1, 0, none⟩) (by show g ≤ g + 1; omega) _).setCell (p := ⟨g + 1, 1, none⟩) (by show g ≤ g + 1; omega) _, (hb.block (g + 1) (by omega)).trans hbr⟩
 have h1 := ownsRow_setCell_below (ownsRow_setCell_below own7 (a := ⟨g + 1, 0, none⟩) (by show g + 1 < w1.heap.size; omega) v7) (a := ⟨g + 1, 1, none⟩) (by show g + 1 < w1.heap.size; omega) (.bool R)
 have e1 : (l ++ [s]).length = l.length + [s].length := by simp
 have e2 : strs (l ++ [s]) = strs l ++ strs [s] := by simp [strs]
 rw [e1, e2]; exact h1
set_option maxHeartbeats 4000000 in
set_option maxRecDepth 100000 in
theorem reftell_any (l : List Bytes) (ok : Bool) (s : Bytes) (hll : l.length ≤ 10500000) (a : Option Addr) (c : Nat) (hc : a = none → c = 0) (W : World) (hl : LiesS W a l) : Calls Tryz.prog 42 #[.agg #[.slice a l.length c, .bool ok], .string (bs s)] W fun e W' => ∃ v, e = .returned v ∧ ScV W' v (tell1 (l, ok) s) ∧ Below W.heap.size W W' := by
 obtain ⟨g, hg⟩ : ∃ g, W.heap.size = g := ⟨_, rfl⟩
 obtain ⟨w0, hw0⟩ : ∃ w0, (W.alloc (.cells #[.slice a l.length c, .bool ok] 42)).alloc (.cells #[.slice none 0 0, .bool false] 42) = w0 := ⟨_, rfl⟩
 have hz0 : w0.heap.size = g + 2 := by rw [← hw0]; simp [hg]
 have lo0 : Below g W w0 := by rw [← hw0]; exact ((Below.refl _ _).alloc (by omega) _).alloc (by simp; omega) _
 have bx0 : w0.heap[g]? = some (.cells #[.slice a l.length c, .bool ok] 42 (0, 0)) := by rw [← hw0, ← hg]; exact block_alloc (World.alloc_heap_new W _) _
 have br0 : w0.heap[g + 1]? = some (.cells #[.slice none 0 0, .bool false] 42 (0, 0)) := by rw [← hw0, ← hg]; have := World.alloc_heap_new (W.alloc (.cells #[.slice a l.length c, .bool ok] 42)) (.cells #[.slice none 0 0, .bool false] 42); rwa [World.size_alloc] at this
 have y0 : w0.cell? ⟨g, 0, none⟩ = some (.slice a l.length c) := by simp [World.cell?, bx0]
 have y1 : w0.cell? ⟨g, 1, none⟩ = some (.bool ok) := by simp [World.cell?, bx0]
 have hl2 := lies_keep7 hl lo0 hg.symm
 have q := amongS_any a c l s (by omega) w0 hl2
 obtain ⟨KK, hKK⟩ : ∃ KK, l.contains s = KK := ⟨_, rfl⟩
 rw [hKK] at q
 have HL := Lib.hid (And.intro hl2 (And.intro lo0 (And.intro bx0 br0)))
 obtain ⟨R, hR⟩ : ∃ R, (ok && !KK) = R := ⟨_, rfl⟩
 have HR := Lib.hid hR
 have htl : tell1 (l, ok) s = (l ++ [s], R) := by unfold tell1; simp only [hKK, hR]
 rw [htl, hg]
 clear hR htl hKK hl hl2 lo0 bx0 br0
 go_enter Tryz.func42, Tryz.ntmps42
 cases ok with
 | false =>
  obtain rfl : false = R := HR.out
  clear q
  obtain ⟨w1, hw1⟩ : ∃ w1, w0 = w1 := ⟨_, rfl⟩
  have H1 : Hid (LiesS w1 a l) := Lib.hid (by rw [← hw1]; exact HL.out.1)
  have HW1 : Hid (Below g W w1 ∧ w1.heap[g]? = some (.cells #[.slice a l.length c, .bool false] 42 (0, 0)) ∧ w1.heap[g + 1]? = some (.cells #[.slice none 0 0, .bool false] 42 (0, 0)) ∧ g + 2 ≤ w1.heap.size) := Lib.hid (by rw [← hw1]; exact ⟨HL.out.2.1, HL.out.2.2.1, HL.out.2.2.2, by omega⟩)
  rw [hw1] at hw0 y0 y1 hz0
  have HLo := Lib.hid (show True ∧ Below g W w1 from ⟨trivial, HW1.out.1⟩)
  clear HL
  have HL : Hid (True ∧ Below g W w1 ∧ True) := Lib.hid ⟨trivial, HW1.out.1, trivial⟩
  clear hw1 HLo hz0
  have ga : ∀ O, (w1.alloc O).cell? ⟨g, 0, none⟩ = some (.slice a l.length c) := fun O => alloc_cell y0 O
  go_wp2_with (first | (at_builtin; refine wpList_append_strs7 rfl (.tmp 15) (.tmp 17) rfl w1.heap.size (.slice (some ⟨w1.heap.size, 0, none⟩) 0 0) 0 [] rfl (own_empty7 w1) a l c rfl hc (lies_keep7 H1.out ((Below.refl _ _).alloc (Nat.le_refl _) _)) (by omega) (by simp) ?_; intro v5 w5 own5 hg5; rw [Nat.zero_add, List.nil_append] at own5; have hz5 := hg5.size; rw [World.size_alloc] at hz5) | (at_builtin; refine wpList_append_strs7 rfl (.tmp 18) (.tmp 20) rfl w1.heap.size v5 l.length (strs l) rfl (own5.alloc _) (some ⟨w5.heap.size, 0, none⟩) [s] 1 rfl (by intro h; cases h) (lies_new7 _ _ _) (by simp; omega) (by rw [World.size_alloc]; omega) ?_; intro v7 w7 own7 hg7; replace own7 : w7.ownsRow w1.heap.size 9 1 v7 (l.length + 1) (strs l ++ strs [s]) := own7; obtain ⟨a7, c7, rfl, hc7⟩ := own_shape7 own7; have HE := Lib.hid (tell_end7 HW1.out.1 HW1.out.2.2.2 HW1.out.2.2.1 own5 hg5 own7 hg7 (R := false)); have hbr := (HE.out).2.2; have e0 : w7.cell? ⟨g + 1, 0, none⟩ = some (.slice none 0 0) := (by simp [World.cell?, hbr]); have e1 : w7.cell? ⟨g + 1, 1, none⟩ = some (.bool false) := (by simp [World.cell?, hbr]); have f0 : w7.frozen? ⟨g + 1, 0, none⟩ = false := (by simp [World.frozen?, hbr]); have f1 : w7.frozen? ⟨g + 1, 1, none⟩ = false := (by simp [World.frozen?, hbr]); obtain ⟨u, hu⟩ : ∃ u, (w7.setCell ⟨g + 1, 0, none⟩ (.slice a7 (l.length + 1) c7)).setCell ⟨g + 1, 1, none⟩ (.bool false) = u := ⟨_, rfl⟩; have hbu : u.heap[g + 1]? = some (.cells #[.slice a7 (l.length + 1) c7, .bool false] 42 (0, 0)) := (by rw [← hu]; simp [World.setCell, Array.getElem?_modify, hbr]); have z0 : u.cell? ⟨g + 1, 0, none⟩ = some (.slice a7 (l.length + 1) c7) := (by simp [World.cell?, hbu]); have z1 : u.cell? ⟨g + 1, 1, none⟩ = some (.bool false) := (by simp [World.cell?, hbu]); have HZ := Lib.hid (And.intro hu (And.intro z0 z1)); clear hu hbu z0 z1 hbr own5 hg5 own7 hg7))
  obtain ⟨hu, z0, z1⟩ := HZ.out
  refine bodyPost_ret (v := .agg #[.slice a7 (l.length + 1) c7, .bool false]) (by simp [results, Tryz.results42, go_sem, hu, z0, z1]) rfl ?_
  rw [hu]
  have hE := HE.out
  rw [hu] at hE
  obtain ⟨a8, c8, h8, h9, h10⟩ := hE.1
  injection h8 with h8 h11 h12
  subst h8; subst h12
  exact ⟨_, rfl, ⟨a7, c7, by simp, h9, h10⟩, HL.out.2.1.trans (hE.2.1.mono (Nat.le_refl _))⟩
 | true =>
  go_wp2_with fail
  (try rw [hw0])
  refine q.mono ?_
  clear q hw0 y0 y1
  rintro e w1 ⟨rfl, n, hw1⟩
  have H1 : Hid (LiesS w1 a l) := Lib.hid (by rw [hw1]; exact HL.out.1)
  have HW1 : Hid (Below g W w1 ∧ w1.heap[g]? = some (.cells #[.slice a l.length c, .bool true] 42 (0, 0)) ∧ w1.heap[g + 1]? = some (.cells #[.slice none 0 0, .bool false] 42 (0, 0)) ∧ g + 2 ≤ w1.heap.size) := Lib.hid (by rw [hw1]; exact ⟨below_drewN HL.out.2.1 n, HL.out.2.2.1, HL.out.2.2.2, by show g + 2 ≤ w0.heap.size; omega⟩)
  obtain rfl : (!KK) = R := by rw [← HR.out]; simp
  have y0 : w1.cell? ⟨g, 0, none⟩ = some (.slice a l.length c) := by simp [World.cell?, HW1.out.2.1]
  have ga : ∀ O, (w1.alloc O).cell? ⟨g, 0, none⟩ = some (.slice a l.length c) := fun O => alloc_cell y0 O
  clear HL
  have HL : Hid (True ∧ Below g W w1 ∧ True) := Lib.hid ⟨trivial, HW1.out.1, trivial⟩
  clear hw1 hz0
  go_wp2_with (first | (at_builtin; refine wpList_append_strs7 rfl (.tmp 15) (.tmp 17) rfl w1.heap.size (.slice (some ⟨w1.heap.size, 0, none⟩) 0 0) 0 [] rfl (own_empty7 w1) a l c rfl hc (lies_keep7 H1.out ((Below.refl _ _).alloc (Nat.le_refl _) _)) (by omega) (by simp) ?_; intro v5 w5 own5 hg5; rw [Nat.zero_add, List.nil_append] at own5; have hz5 := hg5.size; rw [World.size_alloc] at hz5) | (at_builtin; refine wpList_append_strs7 rfl (.tmp 18) (.tmp 20) rfl w1.heap.size v5 l.length (strs l) rfl (own5.alloc _) (some ⟨w5.heap.size, 0, none⟩) [s] 1 rfl (by intro h; cases h) (lies_new7 _ _ _) (by simp; omega) (by rw [World.size_alloc]; omega) ?_; intro v7 w7 own7 hg7; replace own7 : w7.ownsRow w1.heap.size 9 1 v7 (l.length + 1) (strs l ++ strs [s]) := own7; obtain ⟨a7, c7, rfl, hc7⟩ := own_shape7 own7; have HE := Lib.hid (tell_end7 HW1.out.1 HW1.out.2.2.2 HW1.out.2.2.1 own5 hg5 own7 hg7 (R := (!KK))); have hbr := (HE.out).2.2; have e0 : w7.cell? ⟨g + 1, 0, none⟩ = some (.slice none 0 0) := (by simp [World.cell?, hbr]); have e1 : w7.cell? ⟨g + 1, 1, none⟩ = some (.bool false) := (by simp [World.cell?, hbr]); have f0 : w7.frozen? ⟨g + 1, 0, none⟩ = false := (by simp [World.frozen?, hbr]); have f1 : w7.frozen? ⟨g + 1, 1, none⟩ = false := (by simp [World.frozen?, hbr]); obtain ⟨u, hu⟩ : ∃ u, (w7.setCell ⟨g + 1, 0, none⟩ (.slice a7 (l.length + 1) c7)).setCell ⟨g + 1, 1, none⟩ (.bool (!KK)) = u := ⟨_, rfl⟩; have hbu : u.heap[g + 1]? = some (.cells #[.slice a7 (l.length + 1) c7, .bool (!KK)] 42 (0, 0)) := (by rw [← hu]; simp [World.setCell, Array.getElem?_modify, hbr]); have z0 : u.cell? ⟨g + 1, 0, none⟩ = some (.slice a7 (l.length + 1) c7) := (by simp [World.cell?, hbu]); have z1 : u.cell? ⟨g + 1, 1, none⟩ = some (.bool (!KK)) := (by simp [World.cell?, hbu]); have HZ := Lib.hid (And.intro hu (And.intro z0 z1)); clear hu hbu z0 z1 hbr own5 hg5 own7 hg7))
  obtain ⟨hu, z0, z1⟩ := HZ.out
  refine bodyPost_ret (v := .agg #[.slice a7 (l.length + 1) c7, .bool (!KK)]) (by simp [results, Tryz.results42, go_sem, hu, z0, z1]) rfl ?_
  rw [hu]
  have hE := HE.out
  rw [hu] at hE
  obtain ⟨a8, c8, h8, h9, h10⟩ := hE.1
  injection h8 with h8 h11 h12
  subst h8; subst h12
  exact ⟨_, rfl, ⟨a7, c7, by simp, h9, h10⟩, HL.out.2.1.trans (hE.2.1.mono (Nat.le_refl _))⟩
end Go.Proofs.YtiipjbafdhijlaaGreatDoor
namespace Go.Proofs.YtiipjbafdhijlaaGreatDoor
open Go Go.RowKit
set_option linter.unusedVariables false
set_option linter.unusedSimpArgs false
open Go.Sort
def IT.l7 : IT → List IT | .mk _ _ _ _ _ _ _ _ _ _ _ ll _ _ _ _ _ _ _ _ _ => ll
def IT.e7 : IT → List IT | .mk _ _ _ _ _ _ _ _ _ _ _ _ _ _ el _ _ _ _ _ _ => el
theorem cell_drawn7 {w : World} {p : Addr} {v : Value} (h : w.cell? p = some v) (n : Nat) : (w.drewN n).cell? p = some v := h
theorem addN_len7 : ∀ (m out : List Bytes), (addN out m).length ≤ out.length + m.length
 | [], out => by simp [addN]
 | s :: r, out => by
  have h := addN_len7 r (if out.contains s = true then out else out ++ [s])
  rw [addN]
  have h2 : (if out.contains s = true then out else out ++ [s]).length ≤ out.length + 1 := by split <;> simp
  simp only [List.length_cons]
  omega
theorem instL_len7 : ∀ l : List IT, (∀ x ∈ l, (instI x).length ≤ x.sz) → (instL l).length ≤ IT.szL l
 | [], _ => Nat.le_refl _
 | x :: r, h => by
  rw [instL, List.length_append, IT.szL]
  have := h x (by simp)
  have := instL_len7 r (fun y hy => h y (by simp [hy]))
  omega
theorem instI_len7 : ∀ x : IT, (instI x).length ≤ x.sz := IT.ind fun op nm nf xa xc xl sa sc sl la lc ll ea ec el pa pc pl ba bc bl ih0 ih1 => by
 have h0 := instL_len7 ll ih0
 have h1 := instL_len7 el ih1
 rw [instI, IT.sz, List.length_append, List.length_append]
 have : (if op = 7 then [nf] else []).length ≤ 1 := by split <;> simp
 omega
theorem usesL_len7 (l : List IT) (out : List Bytes) : (usesL out l).length ≤ out.length + IT.szL l := by
 rw [usesL_is]
 have h1 := addN_len7 (instL l) out
 have h2 := instL_len7 l (fun x _ => instI_len7 x)
 omega
theorem usesL_take7 (out : List Bytes) : ∀ (l : List IT) (k : Nat) (h : k < l.length), usesL out (l.take (k + 1)) = usesI (usesL out (l.take k)) l[k] := by
 intro l
 induction l generalizing out with
 | nil => intro k h; simp at h
 | cons x r ih =>
  intro k h
  cases k with
  | zero => simp [usesL]
  | succ j =>
   rw [List.take_succ_cons, List.take_succ_cons, usesL, usesL]
   simp only [List.getElem_cons_succ]
   exact ih (usesI out x) j (by simpa using h)
theorem szL_at7 (l : List IT) (k : Nat) (h : k < l.length) : IT.szL (l.take k) + l[k].sz ≤ IT.szL l := by
 induction l generalizing k with
 | nil => simp at h
 | cons x r ih =>
  cases k with
  | zero => simp [IT.szL]
  | succ j =>
   rw [List.take_succ_cons, IT.szL, IT.szL]
   simp only [List.getElem_cons_succ]
   have := ih j (by simpa using h)
   omega
/-- A call that tells a row of texts. -/
def RowP (F : List Bytes) (w : World) (e : Ending) (w' : World) : Prop := ∃ v, e = .returned v ∧ TV w' v F ∧ Below w.heap.size w w'
theorem usesI_mk7 (out : List Bytes) (op : Int) (nm nf : Bytes) (xa : Option Addr) (xc : Nat) (xl : List XT) (sa : Option Addr) (sc : Nat) (sl : List ST) (la : Option Addr) (lc : Nat) (ll : List IT) (ea : Option Addr) (ec : Nat) (el : List IT) (pa : Option Addr) (pc : Nat) (pl : List BT) (ba : Option Addr) (bc : Nat) (bl : List BT) :
  usesI out (.mk op nm nf xa xc xl sa sc sl la lc ll ea ec el pa pc pl ba bc bl) = usesL (usesL (if op = 7 then more1 out nf else out) ll) el := by
 rw [usesI, more1_addN]
set_option maxHeartbeats 8000000 in
set_option maxRecDepth 100000 in
theorem refuses_of (n0 : Nat) (l : List IT) (hll : l.length ≤ 12000000)
  (hc0 : ∀ x ∈ l, ∀ (out : List Bytes) (a : Option Addr) (c : Nat) (a2 : Option Addr) (c2 : Nat) (w : World), out.length + IT.szL x.l7 ≤ 9000000 → n0 ≤ w.heap.size → (a = none → c = 0) → LiesS w a out → InRow 9 IT.cells (IT.In n0 w) n0 w x.l7 a2 → Calls Tryz.prog 58 #[.slice a out.length c, .slice a2 x.l7.length c2] w (RowP (usesL out x.l7) w))
  (hc1 : ∀ x ∈ l, ∀ (out : List Bytes) (a : Option Addr) (c : Nat) (a2 : Option Addr) (c2 : Nat) (w : World), out.length + IT.szL x.e7 ≤ 9000000 → n0 ≤ w.heap.size → (a = none → c = 0) → LiesS w a out → InRow 9 IT.cells (IT.In n0 w) n0 w x.e7 a2 → Calls Tryz.prog 58 #[.slice a out.length c, .slice a2 x.e7.length c2] w (RowP (usesL out x.e7) w))
  (out : List Bytes) (a : Option Addr) (c : Nat) (a2 : Option Addr) (c2 : Nat) (w : World) (hsz : out.length + IT.szL l ≤ 9000000) (hn0 : n0 ≤ w.heap.size) (hcn : a = none → c = 0) (hl : LiesS w a out) (hin : InRow 9 IT.cells (IT.In n0 w) n0 w l a2) :
  Calls Tryz.prog 58 #[.slice a out.length c, .slice a2 l.length c2] w (RowP (usesL out l) w) := by
 obtain ⟨F, hF⟩ : ∃ F, usesL out l = F := ⟨_, rfl⟩
 rw [hF]
 have HF := Lib.hid hF
 have HI := Lib.hid hin
 have HC := Lib.hid (And.intro hc0 hc1)
 have hst : TV w (.slice a out.length c) (usesL out (l.take 0)) := by rw [List.take_zero]; exact ⟨a, c, rfl, hcn, hl⟩
 have H0 := Lib.hid hst
 have HSZ := Lib.hid hsz
 clear hF hin hc0 hc1 hst hl hsz
 go_enter Tryz.func58, Tryz.ntmps58
 go_wp2
 go_loopg [0, 5] l.length (fun g v u wr => ∃ k : Nat, u = .int .i64 k ∧ k + g = l.length ∧ TV wr v (usesL out (l.take k)) ∧ Below w.heap.size w wr)
 case atStart => exact ⟨0, rfl, by omega, H0.out, Below.refl _ _⟩
 case round =>
  obtain ⟨k, rfl, hk, htv, hbw⟩ := hrel
  clear H0
  obtain ⟨aM, cM, rfl, hcM, hlM⟩ := htv
  obtain ⟨M, hM⟩ : ∃ M, usesL out (l.take k) = M := ⟨_, rfl⟩
  rw [hM] at hlM ⊢
  by_cases hlt : k < l.length
  ·have d1 : decide (k < l.length) = true := by simpa using hlt
   have d2 : decide ((k : Int) < (l.length : Int)) = true := by rw [decide_eq_true_eq]; omega
   have x1 : (k : Int) < (l.length : Int) := by omega
   have hkt : KeptTo n0 w wr := Below.keptTo hbw hn0
   obtain ⟨b, o, rfl, hb, hr, hx⟩ := InRow.at (InRow.keep hkt (fun x _ h => IT.In.keep hkt x h) HI.out) hlt
   have hnx := usesL_take7 out l k hlt
   have hml := usesL_len7 (l.take k) out
   have hsa := szL_at7 l k hlt
   rw [hM] at hnx hml
   have hc0 := HC.out.1 l[k] (List.getElem_mem hlt)
   have hc1 := HC.out.2 l[k] (List.getElem_mem hlt)
   obtain ⟨x, hxg⟩ : ∃ x, l[k] = x := ⟨_, rfl⟩
   rw [hxg] at hr hx hnx hsa hc0 hc1
   have hMl : M.length + x.sz ≤ 9000000 := by have := HSZ.out; omega
   obtain ⟨op2, nm2, nf2, xa2, xc2, xl2, sa2, sc2, sl2, la2, lc2, ll2, ea2, ec2, el2, pa2, pc2, pl2, ba2, bc2, bl2⟩ := x
   rw [usesI_mk7] at hnx
   rw [IT.In_mk] at hx
   simp only [IT.sz] at hMl
   simp only [IT.l7, IT.e7] at hc0 hc1
   have r0 : wr.cell? ⟨b, o + k * 9, none⟩ = some (.int .i64 op2) := hr 0 _ rfl
   have r1 : wr.cell? ⟨b, o + k * 9 + 1, none⟩ = some (.string (bs nm2)) := hr 1 _ rfl
   have r2 : wr.cell? ⟨b, o + k * 9 + 2, none⟩ = some (.string (bs nf2)) := hr 2 _ rfl
   have r3 : wr.cell? ⟨b, o + k * 9 + 3, none⟩ = some (.slice xa2 xl2.length xc2) := hr 3 _ rfl
   have r4 : wr.cell? ⟨b, o + k * 9 + 4, none⟩ = some (.slice sa2 sl2.length sc2) := hr 4 _ rfl
   have r5 : wr.cell? ⟨b, o + k * 9 + 5, none⟩ = some (.slice la2 ll2.length lc2) := hr 5 _ rfl
   have r6 : wr.cell? ⟨b, o + k * 9 + 6, none⟩ = some (.slice ea2 el2.length ec2) := hr 6 _ rfl
   have r7 : wr.cell? ⟨b, o + k * 9 + 7, none⟩ = some (.slice pa2 pl2.length pc2) := hr 7 _ rfl
   have r8 : wr.cell? ⟨b, o + k * 9 + 8, none⟩ = some (.slice ba2 bl2.length bc2) := hr 8 _ rfl
   obtain ⟨N1, hN1⟩ : ∃ N, (if op2 = 7 then more1 M nf2 else M) = N := ⟨_, rfl⟩
   rw [hN1] at hnx
   have hN1l : N1.length ≤ M.length + 1 := by
    rw [← hN1]
    split
    ·exact more1_len _ _
    ·omega
   obtain ⟨N2, hN2⟩ : ∃ N, usesL N1 ll2 = N := ⟨_, rfl⟩
   have hN2l := usesL_len7 ll2 N1
   rw [hN2] at hnx hN2l
   have q0 : ∀ (V : World) (a : Option Addr) (c : Nat), Below wr.heap.size wr V → (a = none → c = 0) → LiesS V a N1 → Calls Tryz.prog 58 #[.slice a N1.length c, .slice la2 ll2.length lc2] V (RowP N2 V) := fun V a c hV h1 h2 => by
    have h9 := hc0 N1 a c la2 lc2 V (by omega) (by have := hbw.size; have := hV.size; omega) h1 h2 (InRow.keep (Below.keptTo hV (by have := hbw.size; omega)) (fun x _ h => IT.In.keep (Below.keptTo hV (by have := hbw.size; omega)) x h) hx.2.2.1)
    rw [hN2] at h9
    exact h9
   obtain ⟨N3, hN3⟩ : ∃ N, usesL N2 el2 = N := ⟨_, rfl⟩
   rw [hN3] at hnx
   have q1 : ∀ (V : World) (a : Option Addr) (c : Nat), Below wr.heap.size wr V → (a = none → c = 0) → LiesS V a N2 → Calls Tryz.prog 58 #[.slice a N2.length c, .slice ea2 el2.length ec2] V (RowP N3 V) := fun V a c hV h1 h2 => by
    have h9 := hc1 N2 a c ea2 ec2 V (by omega) (by have := hbw.size; have := hV.size; omega) h1 h2 (InRow.keep (Below.keptTo hV (by have := hbw.size; omega)) (fun x _ h => IT.In.keep (Below.keptTo hV (by have := hbw.size; omega)) x h) hx.2.2.2.1)
    rw [hN3] at h9
    exact h9
   have HQ := Lib.hid (And.intro q0 q1)
   have HW := Lib.hid (And.intro hbw hnx)
   have hzw := hbw.size
   have HN1 := Lib.hid hN1
   clear hr hx hnx hsa hc0 hc1 hxg q0 q1 hbw hkt hM hml hN1 hN2 hN3
   by_cases h7 : op2 = 7
   ·subst h7
    have hN7 : more1 M nf2 = N1 := by rw [← HN1.out, if_pos rfl]
    have q := refmore_any M nf2 (by omega) aM cM hcM wr hlM
    rw [hN7] at q
    clear HN1 hN7 hlM hcM
    go_wp2_with fail
    refine q.mono ?_
    clear q
    rintro e w1 ⟨v, rfl, ⟨a7, c7, rfl, hc7, hl7⟩, hb1⟩
    replace r0 := keep_cell hb1 r0
    replace r5 := keep_cell hb1 r5
    replace r6 := keep_cell hb1 r6
    clear r1 r2 r3 r4 r7 r8
    have HA := Lib.hid (And.intro hb1 (And.intro hc7 hl7))
    clear hb1 hc7 hl7
    have hzA : wr.heap.size ≤ w1.drew.heap.size := HA.out.1.size
    go_upto_region 6 with (fail)
    have r5A := fun n => cell_drawn7 r5 n
    go_region_held3 (fun u1 => u1.cell? ⟨b, o + k * 9 + 5, none⟩ = some (.slice la2 ll2.length lc2) ∧ u1.cell? ⟨b, o + k * 9 + 6, none⟩ = some (.slice ea2 el2.length ec2)) (first | exact ⟨r5, r6⟩ | exact ⟨r5N, r6N⟩ | exact ⟨r5M, r6M⟩) (first | (go_at_call_of 58 (Value.slice ea2 el2.length ec2); refine (HQ.out.2 w2 a8 c8 (HA.out.1.drew.trans (H8.out.2.2.mono hzA)) H8.out.1 H8.out.2.1).mono ?_; rintro e w3 ⟨v9, rfl, ⟨a9, c9, rfl, hc9, hl9⟩, hb3⟩; have r5M := keep_cell hb3 r5N; have r6M := keep_cell hb3 r6N; have H9 := Lib.hid (And.intro hc9 (And.intro hl9 hb3)); clear hc9 hl9 hb3) | (go_at_call 58; refine (HQ.out.1 w1.drew a7 c7 HA.out.1.drew HA.out.2.1 (lies_keep7 HA.out.2.2 (Below.refl _ _).drew)).mono ?_; rintro e w2 ⟨v8, rfl, ⟨a8, c8, rfl, hc8, hl8⟩, hb2⟩; have r5N := keep_cell hb2 (show w1.drew.cell? _ = _ from r5); have r6N := keep_cell hb2 (show w1.drew.cell? _ = _ from r6); have H8 := Lib.hid (And.intro hc8 (And.intro hl8 hb2)); clear hc8 hl8 hb2))
    have HFN : Hid (TV w3 (.slice a9 N3.length c9) (usesL out (l.take (k + 1))) ∧ Below w.heap.size w w3) := Lib.hid (by
     refine ⟨by rw [HW.out.2]; exact ⟨a9, c9, rfl, H9.out.1, H9.out.2.1⟩, HW.out.1.trans ((HA.out.1.mono hzw).trans ?_)⟩
     have z1 : w.heap.size ≤ w1.heap.size := Nat.le_trans hzw HA.out.1.size
     exact (Below.refl w.heap.size w1).drew.trans ((H8.out.2.2.mono z1).trans (H9.out.2.2.mono (Nat.le_trans z1 H8.out.2.2.size))))
    clear H8 H9 r5 r6 r5N r6N r5M r6M r5A HA HQ HW
    go_wp2
    cases gk with
    | zero => omega
    | succ gg =>
     go_roundg gg
     case rel => exact ⟨k + 1, rfl, by omega, HFN.out⟩
     case measure => omega
   ·have h7b : (op2 == 7) = false := by simpa using h7
    have hN7 : M = N1 := by rw [← HN1.out, if_neg h7]
    subst hN7
    obtain ⟨w1, hw1⟩ : ∃ w1, wr = w1 := ⟨_, rfl⟩
    have hb1 : Below wr.heap.size wr w1 := by rw [← hw1]; exact Below.refl _ _
    obtain ⟨a7, ha7⟩ : ∃ a, aM = a := ⟨_, rfl⟩
    obtain ⟨c7, hc7'⟩ : ∃ a, cM = a := ⟨_, rfl⟩
    have hc7 : a7 = none → c7 = 0 := by rw [← ha7, ← hc7']; exact hcM
    have hl7 : LiesS w1 a7 M := by rw [← ha7, ← hw1]; exact hlM
    rw [ha7, hc7']
    have HW1 := Lib.hid hw1
    rw [hw1]
    clear HN1 hlM hcM hw1 ha7 hc7'
    replace r0 := keep_cell hb1 r0
    replace r5 := keep_cell hb1 r5
    replace r6 := keep_cell hb1 r6
    clear r1 r2 r3 r4 r7 r8
    have HA := Lib.hid (And.intro hb1 (And.intro hc7 hl7))
    clear hb1 hc7 hl7
    have hzA : wr.heap.size ≤ w1.drew.heap.size := HA.out.1.size
    go_upto_region 6 with (fail)
    have r5A := fun n => cell_drawn7 r5 n
    go_region_held3 (fun u1 => u1.cell? ⟨b, o + k * 9 + 5, none⟩ = some (.slice la2 ll2.length lc2) ∧ u1.cell? ⟨b, o + k * 9 + 6, none⟩ = some (.slice ea2 el2.length ec2)) (first | exact ⟨r5, r6⟩ | exact ⟨r5N, r6N⟩ | exact ⟨r5M, r6M⟩) (first | (go_at_call_of 58 (Value.slice ea2 el2.length ec2); refine (HQ.out.2 w2 a8 c8 (HA.out.1.drew.trans (H8.out.2.2.mono hzA)) H8.out.1 H8.out.2.1).mono ?_; rintro e w3 ⟨v9, rfl, ⟨a9, c9, rfl, hc9, hl9⟩, hb3⟩; have r5M := keep_cell hb3 r5N; have r6M := keep_cell hb3 r6N; have H9 := Lib.hid (And.intro hc9 (And.intro hl9 hb3)); clear hc9 hl9 hb3) | (go_at_call 58; refine (HQ.out.1 w1.drew a7 c7 HA.out.1.drew HA.out.2.1 (lies_keep7 HA.out.2.2 (Below.refl _ _).drew)).mono ?_; rintro e w2 ⟨v8, rfl, ⟨a8, c8, rfl, hc8, hl8⟩, hb2⟩; have r5N := keep_cell hb2 (show w1.drew.cell? _ = _ from r5); have r6N := keep_cell hb2 (show w1.drew.cell? _ = _ from r6); have H8 := Lib.hid (And.intro hc8 (And.intro hl8 hb2)); clear hc8 hl8 hb2))
    have HFN : Hid (TV w3 (.slice a9 N3.length c9) (usesL out (l.take (k + 1))) ∧ Below w.heap.size w w3) := Lib.hid (by
     refine ⟨by rw [HW.out.2]; exact ⟨a9, c9, rfl, H9.out.1, H9.out.2.1⟩, HW.out.1.trans ((HA.out.1.mono hzw).trans ?_)⟩
     have z1 : w.heap.size ≤ w1.heap.size := Nat.le_trans hzw HA.out.1.size
     exact (Below.refl w.heap.size w1).drew.trans ((H8.out.2.2.mono z1).trans (H9.out.2.2.mono (Nat.le_trans z1 H8.out.2.2.size))))
    clear H8 H9 r5 r6 r5N r6N r5M r6M r5A HA HQ HW
    go_wp2
    cases gk with
    | zero => omega
    | succ gg =>
     go_roundg gg
     case rel => exact ⟨k + 1, rfl, by omega, HFN.out⟩
     case measure => omega
  ·have d1 : decide (k < l.length) = false := by simpa using hlt
   have d2 : decide ((k : Int) < (l.length : Int)) = false := by rw [decide_eq_false_iff_not]; omega
   have HE : Hid (TV wr (.slice aM M.length cM) F) := Lib.hid (by
    rw [← HF.out, show usesL out l = M by rw [← hM, List.take_of_length_le (by omega)]]
    exact ⟨aM, cM, rfl, hcM, hlM⟩)
   clear hM hlM
   go_wp2
   go_ret
   exact ⟨_, rfl, HE.out, hbw⟩
end Go.Proofs.YtiipjbafdhijlaaGreatDoor
namespace Go.Proofs.YtiipjbafdhijlaaGreatDoor
open Go Go.RowKit
set_option linter.unusedVariables false
set_option linter.unusedSimpArgs false
open Go.Sort
theorem szL_len7 : ∀ l : List IT, l.length ≤ IT.szL l
 | [] => Nat.le_refl _
 | x :: r => by
  have h := szL_len7 r
  have h2 : 1 ≤ x.sz := by obtain ⟨op, nm, nf, xa, xc, xl, sa, sc, sl, la, lc, ll, ea, ec, el, pa, pc, pl, ba, bc, bl⟩ := x; rw [IT.sz]; omega
  rw [IT.szL, List.length_cons]; omega
/-- What items are made of, behind what is there. -/
def UsC (l : List IT) : Prop := ∀ (n0 : Nat) (out : List Bytes) (a : Option Addr) (c : Nat) (a2 : Option Addr) (c2 : Nat) (w : World), out.length + IT.szL l ≤ 9000000 → n0 ≤ w.heap.size → (a = none → c = 0) → LiesS w a out → InRow 9 IT.cells (IT.In n0 w) n0 w l a2 → Calls Tryz.prog 58 #[.slice a out.length c, .slice a2 l.length c2] w (RowP (usesL out l) w)
theorem usC_of (l : List IT) (h : ∀ x ∈ l, UsC x.l7 ∧ UsC x.e7) : UsC l := fun n0 out a c a2 c2 w h1 h2 h3 h4 h5 =>
 refuses_of n0 l (by have := szL_len7 l; omega) (fun x hx out a c a2 c2 w g1 g2 g3 g4 g5 => (h x hx).1 n0 out a c a2 c2 w g1 g2 g3 g4 g5) (fun x hx out a c a2 c2 w g1 g2 g3 g4 g5 => (h x hx).2 n0 out a c a2 c2 w g1 g2 g3 g4 g5) out a c a2 c2 w h1 h2 h3 h4 h5
theorem usC_in : ∀ x : IT, UsC x.l7 ∧ UsC x.e7 := IT.ind fun op nm nf xa xc xl sa sc sl la lc ll ea ec el pa pc pl ba bc bl ih0 ih1 => ⟨usC_of ll ih0, usC_of el ih1⟩
theorem refuses_any (l : List IT) : UsC l := usC_of l (fun x _ => usC_in x)
theorem szM_il7 (x : MT) : IT.szL x.il ≤ x.sz := by obtain ⟨nm, pa, pc, pl, ta, tc, tl, ia, ic, il⟩ := x; simp only [MT.sz]; omega
set_option maxHeartbeats 4000000 in
set_option maxRecDepth 100000 in
theorem refUses_any (x : MT) (hsz : IT.szL x.il ≤ 9000000) (n0 : Nat) (w : World) (hn0 : n0 ≤ w.heap.size) (hx : x.In n0 w) : Calls Tryz.prog 35 #[x.val] w (RowP (usesM x) w) := by
 have hq : ∀ V, Below w.heap.size w V → Calls Tryz.prog 58 #[.slice none 0 0, .slice x.ia x.il.length x.ic] V (RowP (usesM x) V) := fun V hV => by
  have h9 := refuses_any x.il n0 [] none 0 x.ia x.ic V (by simpa using hsz) (by have := hV.size; omega) (fun _ => rfl) (.inl rfl) (InRow.keep (Below.keptTo hV hn0) (fun y _ h => IT.In.keep (Below.keptTo hV hn0) y h) hx.2.2)
  rw [usesL_is] at h9
  exact h9
 obtain ⟨U, hU⟩ : ∃ U, usesM x = U := ⟨_, rfl⟩
 rw [hU]
 simp only [hU] at hq
 clear hU hx hsz
 obtain ⟨nm, pa, pc, pl, ta, tc, tl, ia, ic, il⟩ := x
 simp only [MT.val, MT.cells] at hq ⊢
 obtain ⟨w1, hw1⟩ : ∃ w1, w.alloc (.cells #[.string (bs nm), .slice pa pl.length pc, .slice ta tl.length tc, .slice ia il.length ic] 39) = w1 := ⟨_, rfl⟩
 have hb : Below w.heap.size w w1 := by rw [← hw1]; exact (Below.refl _ _).alloc (Nat.le_refl _) _
 have BX : w1.heap[w.heap.size]? = some (.cells #[.string (bs nm), .slice pa pl.length pc, .slice ta tl.length tc, .slice ia il.length ic] 39 (0, 0)) := by rw [← hw1]; exact World.alloc_heap_new w _
 have y3 : w1.cell? ⟨w.heap.size, 3, none⟩ = some (.slice ia il.length ic) := by simp [World.cell?, BX]
 have q := hq w1 hb
 have HB := Lib.hid hb
 clear hq hb BX
 go_enter Tryz.func35, Tryz.ntmps35
 go_wp2_with fail
 (try rw [hw1])
 refine q.mono ?_
 clear q hw1 y3
 rintro e w2 ⟨v, rfl, ht, hb2⟩
 have HT := Lib.hid (And.intro ht (HB.out.trans (hb2.mono HB.out.size)))
 obtain ⟨a, c, rfl, -, -⟩ := ht
 clear hb2
 go_wp2
 go_ret
 exact ⟨_, rfl, HT.out⟩
set_option maxHeartbeats 8000000 in
set_option maxRecDepth 100000 in
theorem refFind_any (W : World) (n0 : Nat) (f : FT) (s : Bytes) (hs : s.length ≤ 12000000) (hn0 : n0 ≤ W.heap.size) (hin : f.In n0 W) (hll : f.ml.length ≤ 6000000) :
  Calls Tryz.prog 39 #[f.val, .string (bs s)] W fun e W' => Below W.heap.size W W' ∧ ((f.ml.find? (fun m => m.nm == s) = none ∧ e = .returned (.tuple #[.agg #[.string ⟨#[]⟩, .slice none 0 0, .slice none 0 0, .slice none 0 0], .bool false])) ∨
   ∃ m ∈ f.ml, f.ml.find? (fun m => m.nm == s) = some m ∧ e = .returned (.tuple #[MT.val m, .bool true])) := by
 obtain ⟨ma, mc, ml⟩ := f
 have hin : InRow 4 MT.cells (MT.In n0 W) n0 W ml ma := hin
 simp only at hll ⊢
 simp only [FT.val, FT.cells]
 obtain ⟨FD, hFD⟩ : ∃ FD, ml.find? (fun m => m.nm == s) = FD := ⟨_, rfl⟩
 rw [hFD]
 obtain ⟨g, hg⟩ : ∃ g, W.heap.size = g := ⟨_, rfl⟩
 rw [hg] at hn0 ⊢
 obtain ⟨W1, hW1⟩ : ∃ W1, (W.alloc (.cells #[.slice ma ml.length mc] 24)).alloc (.cells #[.string ⟨#[]⟩, .slice none 0 0, .slice none 0 0, .slice none 0 0] 39) = W1 := ⟨_, rfl⟩
 have hz1 : W1.heap.size = g + 2 := by rw [← hW1]; simp [hg]
 have hB1 : Below g W W1 := by rw [← hW1]; exact ((Below.refl _ _).alloc (by omega) _).alloc (by simp; omega) _
 have BF : W1.heap[g]? = some (.cells #[.slice ma ml.length mc] 24 (0, 0)) := by rw [← hW1, ← hg]; exact block_alloc (World.alloc_heap_new W _) _
 have BR : W1.heap[g + 1]? = some (.cells #[.string ⟨#[]⟩, .slice none 0 0, .slice none 0 0, .slice none 0 0] 39 (0, 0)) := by
  rw [← hW1, ← hg]; have := World.alloc_heap_new (W.alloc (.cells #[.slice ma ml.length mc] 24)) (.cells #[.string ⟨#[]⟩, .slice none 0 0, .slice none 0 0, .slice none 0 0] 39); rwa [World.size_alloc] at this
 have y0 : W1.cell? ⟨g, 0, none⟩ = some (.slice ma ml.length mc) := by simp [World.cell?, BF]
 have hin1 := InRow.keep (Below.keptTo hB1 hn0) (fun x _ h => h) hin
 have HH := Lib.hid (And.intro hin1 (And.intro hFD (And.intro hB1 BR)))
 clear hin hin1 hFD hB1 BF BR
 go_enter Tryz.func39, Tryz.ntmps39
 go_wp2_with fail
 (try rw [hW1])
 clear hW1
 go_loopg [6] ml.length (fun gh u wr => ∃ k : Nat, u = .int .i64 k ∧ k + gh = ml.length ∧ (ml.drop k).find? (fun m => m.nm == s) = FD ∧ wr = W1)
 case atStart => exact ⟨0, rfl, by omega, HH.out.2.1, rfl⟩
 case round =>
  obtain ⟨k, rfl, hk, hfd, rfl⟩ := hrel
  by_cases hlt : k < ml.length
  ·have d1 : decide (k < ml.length) = true := by simpa using hlt
   have d2 : decide ((k : Int) < (ml.length : Int)) = true := by rw [decide_eq_true_eq]; omega
   have x1 : (k : Int) < (ml.length : Int) := by omega
   obtain ⟨b, o, rfl, hb, hr, hxin⟩ := (HH.out.1).at hlt
   rw [← List.getElem_cons_drop hlt, List.find?_cons] at hfd
   have hxm : ml[k] ∈ ml := List.getElem_mem hlt
   obtain ⟨x, hxk⟩ : ∃ x, ml[k] = x := ⟨_, rfl⟩
   rw [hxk] at hfd hr hxm
   have HX := Lib.hid (And.intro hfd hxm)
   clear hfd hxin hxk hxm
   obtain ⟨nm, pa, pc, pl, ta, tc, tl, ia, ic, il⟩ := x
   have r0 : wr.cell? ⟨b, o + k * 4, none⟩ = some (.string (bs nm)) := hr 0 _ rfl
   have r1 : wr.cell? ⟨b, o + k * 4 + 1, none⟩ = some (.slice pa pl.length pc) := hr 1 _ rfl
   have r2 : wr.cell? ⟨b, o + k * 4 + 2, none⟩ = some (.slice ta tl.length tc) := hr 2 _ rfl
   have r3 : wr.cell? ⟨b, o + k * 4 + 3, none⟩ = some (.slice ia il.length ic) := hr 3 _ rfl
   clear hr
   cases hc : nm == s with
   | false =>
    have HN : Hid ((ml.drop (k + 1)).find? (fun m => m.nm == s) = FD) := Lib.hid (by
     have h1 := HX.out.1
     simp only [hc] at h1
     exact h1)
    clear HX
    go_wp2_with fail
    cases gk with
    | zero => omega
    | succ gg =>
     go_roundg gg
     case rel => exact ⟨k + 1, rfl, by omega, HN.out, rfl⟩
     case measure => omega
   | true =>
    have HE : Hid (FD = some ⟨nm, pa, pc, pl, ta, tc, tl, ia, ic, il⟩) := Lib.hid (by
     have h1 := HX.out.1
     simp only [hc] at h1
     exact h1.symm)
    have hbr := HH.out.2.2.2
    have c0 : wr.cell? ⟨g + 1, 0, none⟩ = some (.string ⟨#[]⟩) := by simp [World.cell?, hbr]
    have c1 : wr.cell? ⟨g + 1, 1, none⟩ = some (.slice none 0 0) := by simp [World.cell?, hbr]
    have c2 : wr.cell? ⟨g + 1, 2, none⟩ = some (.slice none 0 0) := by simp [World.cell?, hbr]
    have c3 : wr.cell? ⟨g + 1, 3, none⟩ = some (.slice none 0 0) := by simp [World.cell?, hbr]
    have f0 : wr.frozen? ⟨g + 1, 0, none⟩ = false := by simp [World.frozen?, hbr]
    have f1 : wr.frozen? ⟨g + 1, 1, none⟩ = false := by simp [World.frozen?, hbr]
    have f2 : wr.frozen? ⟨g + 1, 2, none⟩ = false := by simp [World.frozen?, hbr]
    have f3 : wr.frozen? ⟨g + 1, 3, none⟩ = false := by simp [World.frozen?, hbr]
    obtain ⟨u, hu⟩ : ∃ u, ((((wr.setCell ⟨g + 1, 0, none⟩ (.string (bs nm))).setCell ⟨g + 1, 1, none⟩ (.slice pa pl.length pc)).setCell ⟨g + 1, 2, none⟩ (.slice ta tl.length tc)).setCell ⟨g + 1, 3, none⟩ (.slice ia il.length ic)) = u := ⟨_, rfl⟩
    have ZB : u.heap[g + 1]? = some (.cells #[.string (bs nm), .slice pa pl.length pc, .slice ta tl.length tc, .slice ia il.length ic] 39 (0, 0)) := by rw [← hu]; simp [World.setCell, Array.getElem?_modify, hbr]
    have z0 : u.cell? ⟨g + 1, 0, none⟩ = some (.string (bs nm)) := by simp [World.cell?, ZB]
    have z1 : u.cell? ⟨g + 1, 1, none⟩ = some (.slice pa pl.length pc) := by simp [World.cell?, ZB]
    have z2 : u.cell? ⟨g + 1, 2, none⟩ = some (.slice ta tl.length tc) := by simp [World.cell?, ZB]
    have z3 : u.cell? ⟨g + 1, 3, none⟩ = some (.slice ia il.length ic) := by simp [World.cell?, ZB]
    have hlow : Below g W u := by rw [← hu]; exact ((((HH.out.2.2.1.setCell (p := ⟨g + 1, 0, none⟩) (by show g ≤ g + 1; omega) _).setCell (p := ⟨g + 1, 1, none⟩) (by show g ≤ g + 1; omega) _).setCell (p := ⟨g + 1, 2, none⟩) (by show g ≤ g + 1; omega) _).setCell (p := ⟨g + 1, 3, none⟩) (by show g ≤ g + 1; omega) _)
    have HZ := Lib.hid (And.intro hu (And.intro z0 (And.intro z1 (And.intro z2 (And.intro z3 hlow)))))
    clear hbr hu ZB z0 z1 z2 z3 hlow
    go_wp2_with fail
    obtain ⟨hu, z0, z1, z2, z3, hlow⟩ := HZ.out
    refine bodyPost_ret (v := .tuple #[.agg #[.string (bs nm), .slice pa pl.length pc, .slice ta tl.length tc, .slice ia il.length ic], .bool true]) (by simp [results, Tryz.results39, go_sem, hu, z0, z1, z2, z3]) rfl ?_
    rw [hu]
    exact ⟨hlow, .inr ⟨_, HX.out.2, HE.out, rfl⟩⟩
  ·have d1 : decide (k < ml.length) = false := by simpa using hlt
   have d2 : decide ((k : Int) < (ml.length : Int)) = false := by rw [decide_eq_false_iff_not]; omega
   have HE : Hid (FD = none) := Lib.hid (by rw [← hfd, List.drop_eq_nil_of_le (by omega)]; rfl)
   have hbr := HH.out.2.2.2
   have c0 : wr.cell? ⟨g + 1, 0, none⟩ = some (.string ⟨#[]⟩) := by simp [World.cell?, hbr]
   have c1 : wr.cell? ⟨g + 1, 1, none⟩ = some (.slice none 0 0) := by simp [World.cell?, hbr]
   have c2 : wr.cell? ⟨g + 1, 2, none⟩ = some (.slice none 0 0) := by simp [World.cell?, hbr]
   have c3 : wr.cell? ⟨g + 1, 3, none⟩ = some (.slice none 0 0) := by simp [World.cell?, hbr]
   have f0 : wr.frozen? ⟨g + 1, 0, none⟩ = false := by simp [World.frozen?, hbr]
   have f1 : wr.frozen? ⟨g + 1, 1, none⟩ = false := by simp [World.frozen?, hbr]
   have f2 : wr.frozen? ⟨g + 1, 2, none⟩ = false := by simp [World.frozen?, hbr]
   have f3 : wr.frozen? ⟨g + 1, 3, none⟩ = false := by simp [World.frozen?, hbr]
   obtain ⟨u, hu⟩ : ∃ u, ((((wr.setCell ⟨g + 1, 0, none⟩ (.string ⟨#[]⟩)).setCell ⟨g + 1, 1, none⟩ (.slice none 0 0)).setCell ⟨g + 1, 2, none⟩ (.slice none 0 0)).setCell ⟨g + 1, 3, none⟩ (.slice none 0 0)) = u := ⟨_, rfl⟩
   have ZB : u.heap[g + 1]? = some (.cells #[.string ⟨#[]⟩, .slice none 0 0, .slice none 0 0, .slice none 0 0] 39 (0, 0)) := by rw [← hu]; simp [World.setCell, Array.getElem?_modify, hbr]
   have z0 : u.cell? ⟨g + 1, 0, none⟩ = some (.string ⟨#[]⟩) := by simp only [World.cell?, ZB]; rfl
   have z1 : u.cell? ⟨g + 1, 1, none⟩ = some (.slice none 0 0) := by simp only [World.cell?, ZB]; rfl
   have z2 : u.cell? ⟨g + 1, 2, none⟩ = some (.slice none 0 0) := by simp only [World.cell?, ZB]; rfl
   have z3 : u.cell? ⟨g + 1, 3, none⟩ = some (.slice none 0 0) := by simp only [World.cell?, ZB]; rfl
   have hlow : Below g W u := by rw [← hu]; exact ((((HH.out.2.2.1.setCell (p := ⟨g + 1, 0, none⟩) (by show g ≤ g + 1; omega) _).setCell (p := ⟨g + 1, 1, none⟩) (by show g ≤ g + 1; omega) _).setCell (p := ⟨g + 1, 2, none⟩) (by show g ≤ g + 1; omega) _).setCell (p := ⟨g + 1, 3, none⟩) (by show g ≤ g + 1; omega) _)
   have HZ := Lib.hid (And.intro hu (And.intro z0 (And.intro z1 (And.intro z2 (And.intro z3 hlow)))))
   clear hbr hu ZB z0 z1 z2 z3 hlow hfd
   go_wp2_with fail
   obtain ⟨hu, z0, z1, z2, z3, hlow⟩ := HZ.out
   refine bodyPost_ret (v := .tuple #[.agg #[.string ⟨#[]⟩, .slice none 0 0, .slice none 0 0, .slice none 0 0], .bool false]) (by simp [results, Tryz.results39, go_sem, hu, z0, z1, z2, z3]) rfl ?_
   rw [hu]
   exact ⟨hlow, .inl ⟨HE.out, rfl⟩⟩
end Go.Proofs.YtiipjbafdhijlaaGreatDoor
namespace Go.Proofs.YtiipjbafdhijlaaGreatDoor
open Go Go.RowKit
set_option linter.unusedVariables false
set_option linter.unusedSimpArgs false
open Go.Sort
def ST.l7 : ST → List ST | .mk _ _ _ _ _ _ _ sl => sl
theorem ST.szL_len7 : ∀ l : List ST, l.length ≤ ST.szL l
 | [] => Nat.le_refl _
 | x :: r => by
  have h := ST.szL_len7 r
  have h2 := x.sz_pos
  rw [ST.szL, List.length_cons]; omega
theorem ST.szL_at7 (l : List ST) (k : Nat) (h : k < l.length) : ST.szL (l.take k) + l[k].sz ≤ ST.szL l := by
 induction l generalizing k with
 | nil => simp at h
 | cons x r ih =>
  cases k with
  | zero => simp [ST.szL]
  | succ j =>
   rw [List.take_succ_cons, ST.szL, ST.szL]
   simp only [List.getElem_cons_succ]
   have := ih j (by simpa using h)
   omega
/-! ### Items -/
end Go.Proofs.YtiipjbafdhijlaaGreatDoor
namespace Go.Proofs.YtiipjbafdhijlaaGreatDoor
open Go Go.RowKit
set_option linter.unusedVariables false
set_option linter.unusedSimpArgs false
open Go.Sort
theorem more_take7 (A l : List Bytes) (k : Nat) (h : k < l.length) : addN A (l.take (k + 1)) = more1 (addN A (l.take k)) l[k] := by
 rw [List.take_succ_eq_append_getElem h, addN_app, more1_addN]
theorem PT.szL_len7 : ∀ l : List PT, l.length ≤ PT.szL l
 | [] => Nat.le_refl _
 | x :: r => by have h := PT.szL_len7 r; rw [PT.szL, PT.sz, List.length_cons]; omega
theorem BT.szL_len7 : ∀ l : List BT, l.length ≤ BT.szL l
 | [] => Nat.le_refl _
 | x :: r => by have h := BT.szL_len7 r; rw [BT.szL, BT.sz, List.length_cons]; omega
end Go.Proofs.YtiipjbafdhijlaaGreatDoor
