/-
  Contracts of whole calls: one theorem a function.
-/
import Derived.Test.YtemolkkpigkanaaF
import Derived.Test.YtemolkkpigkanaaB
import Derived.Test.YtemolkkpigkanaaR
import Derived.Test.YtemolkkpigkanaaK
namespace Go.Proofs.Ytemolkkpigkanaa
open Go Go.RowKit

theorem told {P : Program} {f : FuncId} {a : Array Value} {w : World} {r r' : R} (h : r = r') (hc : Calls P f a w fun e w' => e = rv r ∧ Below w.heap.size w w') : Calls P f a w fun e w' => e = rv r' ∧ Below w.heap.size w w' := by subst h; exact hc
/-- The same, the value written out. -/
theorem tolds {P : Program} {f : FuncId} {a : Array Value} {w : World} {r : R} (W : Int) (V : BitVec 64) (E : Int) (h : r = (W, V, E)) (hc : Calls P f a w fun e w' => e = rv r ∧ Below w.heap.size w w') : Calls P f a w fun e w' => e = .returned (.tuple #[.agg #[.int .i64 W, .int .u64 (u V)], .int .i64 E]) ∧ Below w.heap.size w w' := by subst h; exact hc

theorem ok_one {V : BitVec 64} (h : ok 1 V = true) : V = 0#64 ∨ V = 1#64 := by
  have h3 := (ok_range h).2.2
  have hm : msk 1 = 1#64 := by decide
  rw [hm, BitVec.le_def] at h3
  have h1 : (1#64).toNat = 1 := rfl
  rw [h1] at h3
  have : V.toNat = 0 ∨ V.toNat = 1 := by omega
  rcases this with h | h
  · left; apply BitVec.eq_of_toNat_eq; rw [h]; rfl
  · right; apply BitVec.eq_of_toNat_eq; rw [h]; rfl
theorem no_one {V : BitVec 64} (h : ok 1 V = true) : some' 1 (~~~V &&& msk 1) = sUn 6 1 V := by
  have e : sUn 6 1 V = one (V == 0#64) := by simp [sUn, h]
  rw [e]
  rcases ok_one h with rfl | rfl <;> decide

theorem un_any (op W : Int) (hW : (Lit.int .i64 W).wf = true) (V : BitVec 64) (w : World) : Calls Try.prog 13 #[.int .i64 op, .agg #[.int .i64 W, .int .u64 (u V)]] w fun e w' => e = rv (sUn op W V) ∧ Below w.heap.size w w' := by
  by_cases h : ok W V = true
  · by_cases e1 : op = 1
    · subst e1; exact told (by simp [sUn, h]) (bitv_un_1 W hW V h w)
    by_cases e2 : op = 2
    · subst e2; exact told (by simp [sUn, h]) (bitv_un_2 W hW V h w)
    by_cases e3 : op = 3
    · subst e3; exact told (by simp [sUn, h]) (bitv_un_3 W hW V h w)
    by_cases e4 : op = 4
    · subst e4; exact told (by simp [sUn, h]) (bitv_un_4 W hW V h w)
    by_cases e5 : op = 5
    · subst e5; exact told (by simp only [sUn, h]; rfl) (bitv_un_5 W hW V h w)
    by_cases e6 : op = 6
    · subst e6
      by_cases e7 : W = 1
      · subst e7; exact told (no_one h) (bitv_un_6 V h w)
      · exact told (by simp [sUn, h, e7]) (bitv_un_6bad W hW V h e7 w)
    · exact told (by simp [sUn, h, e1, e2, e3, e4, e5, e6]) (bitv_un_no op e1 e2 e3 e4 e5 e6 W hW V h w)
  · have h' : ok W V = false := by simpa using h
    exact told (by simp [sUn, h']) (bitv_un_bad op W hW V h' w)


theorem bin_any (op W : Int) (hW : (Lit.int .i64 W).wf = true) (V : BitVec 64) (W2 : Int) (hW2 : (Lit.int .i64 W2).wf = true) (V2 : BitVec 64) (w : World) : Calls Try.prog 20 #[.int .i64 op, .agg #[.int .i64 W, .int .u64 (u V)], .agg #[.int .i64 W2, .int .u64 (u V2)]] w fun e w' => e = rv (sBin op W V W2 V2) ∧ Below w.heap.size w w' := by
  by_cases h : (ok W V && ok W2 V2) = true
  · obtain ⟨k1, k2⟩ : ok W V = true ∧ ok W2 V2 = true := by simpa using h
    by_cases e17 : op = 17
    · subst e17; exact told (by simp [sBin, k1, k2]) (bin_17 W hW V W2 hW2 V2 h w)
    by_cases e18 : op = 18
    · subst e18; exact told (by simp [sBin, k1, k2]) (bin_18 W hW V W2 hW2 V2 h w)
    by_cases ew : W = W2
    · subst ew
      by_cases e11 : op = 11
      · subst e11; exact told (by simp [sBin, k1, k2]) (bin_11 W hW V V2 h w)
      by_cases e12 : op = 12
      · subst e12; exact told (by simp [sBin, k1, k2]) (bin_12 W hW V V2 h w)
      by_cases e13 : op = 13
      · subst e13; exact told (by simp [sBin, k1, k2]) (bin_13 W hW V V2 h w)
      by_cases e14 : op = 14
      · subst e14; exact told (by simp [sBin, k1, k2]) (bin_14 W hW V V2 h w)
      by_cases e15 : op = 15
      · subst e15; exact told (by simp [sBin, k1, k2]) (bin_15 W hW V V2 h w)
      by_cases e16 : op = 16
      · subst e16; exact told (by simp [sBin, k1, k2]) (bin_16 W hW V V2 h w)
      by_cases e19 : op = 19
      · subst e19; exact told (by simp [sBin, k1, k2]) (bin_19 W hW V V2 h w)
      by_cases e20 : op = 20
      · subst e20; exact told (by simp [sBin, k1, k2]) (bin_20 W hW V V2 h w)
      by_cases e21 : op = 21
      · subst e21; exact told (by simp [sBin, k1, k2]) (bin_21 W hW V V2 h w)
      by_cases e22 : op = 22
      · subst e22; exact told (by simp [sBin, k1, k2]) (bin_22 W hW V V2 h w)
      by_cases e23 : op = 23
      · subst e23; exact told (by simp [sBin, k1, k2]) (bin_23 W hW V V2 h w)
      by_cases e24 : op = 24
      · subst e24; exact told (by simp [sBin, k1, k2]) (bin_24 W hW V V2 h w)
      by_cases e25 : op = 25
      · subst e25
        by_cases e1 : W = 1
        · subst e1; exact told (by simp [sBin, k1, k2]) (bin_25 V V2 h w)
        · exact told (by simp [sBin, k1, k2, e1]) (bin_25bad W hW V V2 e1 h w)
      by_cases e26 : op = 26
      · subst e26
        by_cases e1 : W = 1
        · subst e1; exact told (by simp [sBin, k1, k2]) (bin_26 V V2 h w)
        · exact told (by simp [sBin, k1, k2, e1]) (bin_26bad W hW V V2 e1 h w)
      exact told (by simp [sBin, k1, k2, e17, e18, e11, e12, e13, e14, e15, e16, e19, e20, e21, e22, e23, e24, e25, e26]) (bin_no op e17 e18 e11 e12 e13 e14 e15 e16 e19 e20 e21 e22 e23 e24 e25 e26 W hW V V2 h w)
    · exact told (by simp [sBin, k1, k2, e17, e18, ew]) (bin_apart op e17 e18 W hW V W2 hW2 V2 ew h w)
  · have h' : (ok W V && ok W2 V2) = false := by simpa using h
    have h2 : ok W V = false ∨ ok W2 V2 = false := by cases e : ok W V <;> simp_all
    exact told (by simp [sBin, h2]) (bin_bad op W hW V W2 hW2 V2 h' w)

theorem cond_any (Wc : Int) (hWc : (Lit.int .i64 Wc).wf = true) (Vc : BitVec 64) (W : Int) (hW : (Lit.int .i64 W).wf = true) (V : BitVec 64) (W2 : Int) (hW2 : (Lit.int .i64 W2).wf = true) (V2 : BitVec 64) (w : World) : Calls Try.prog 39 #[.agg #[.int .i64 Wc, .int .u64 (u Vc)], .agg #[.int .i64 W, .int .u64 (u V)], .agg #[.int .i64 W2, .int .u64 (u V2)]] w fun e w' => e = rv (sCond Wc Vc W V W2 V2) ∧ Below w.heap.size w w' := by
  by_cases h : (ok Wc Vc && (ok W V && ok W2 V2)) = true
  · by_cases e1 : Wc = 1
    · subst e1
      by_cases ew : W = W2
      · subst ew
        by_cases ev : Vc = 1#64
        · exact told (by unfold sCond; rw [if_neg (by rw [h]; decide), if_neg (by simp), if_neg (by simp), if_pos ev]) (cond_yes Vc W hW V V2 h ev w)
        · exact told (by unfold sCond; rw [if_neg (by rw [h]; decide), if_neg (by simp), if_neg (by simp), if_neg ev]) (cond_no Vc W hW V V2 h ev w)
      · exact told (by unfold sCond; rw [if_neg (by rw [h]; decide), if_neg (by simp), if_pos ew]) (cond_apart Vc W hW V W2 hW2 V2 h ew w)
    · exact told (by unfold sCond; rw [if_neg (by rw [h]; decide), if_pos e1]) (cond_wide Wc hWc Vc W hW V W2 hW2 V2 h e1 w)
  · have h' : (ok Wc Vc && (ok W V && ok W2 V2)) = false := by simpa using h
    exact told (by unfold sCond; rw [if_pos h']) (cond_bad Wc hWc Vc W hW V W2 hW2 V2 h' w)

theorem ext_any (op n : Int) (hn : (Lit.int .i64 n).wf = true) (W : Int) (hW : (Lit.int .i64 W).wf = true) (V : BitVec 64) (w : World) : Calls Try.prog 29 #[.int .i64 op, .int .i64 n, .agg #[.int .i64 W, .int .u64 (u V)]] w fun e w' => e = rv (sExt op n W V) ∧ Below w.heap.size w w' := by
  by_cases h : ok W V = true
  · obtain ⟨r1, r2, _⟩ := ok_range h
    by_cases h1 : n < 1
    · exact told (by simp [sExt, h, h1]) (ext_low op n W hW V h h1 w)
    by_cases h2 : 64 < n
    · exact told (by simp [sExt, h, h1, h2]) (ext_high op n W hW V h (by omega) h2 w)
    have p1 : 1 ≤ n := by omega
    have p2 : n ≤ 64 := by omega
    by_cases e1 : op = 31
    · subst e1
      by_cases h3 : W ≤ n
      · exact told (by simp [sExt, h, h1, h2, h3]) (ext_31 n hn W hW V h p1 p2 h3 w)
      · exact told (by simp [sExt, h, h1, h2, h3]) (ext_31bad n W hW V h p1 p2 h3 w)
    by_cases e2 : op = 32
    · subst e2
      by_cases h3 : W ≤ n
      · exact told (by simp [sExt, h, h1, h2, h3]) (ext_32 n hn W hW V h p1 p2 h3 r1 r2 w)
      · exact told (by simp [sExt, h, h1, h2, h3]) (ext_32bad n W hW V h p1 p2 h3 w)
    by_cases e3 : op = 33
    · subst e3
      by_cases h3 : n ≤ W
      · exact told (by simp [sExt, h, h1, h2, h3]) (ext_33 n hn W hW V h p1 p2 h3 w)
      · exact told (by simp [sExt, h, h1, h2, h3]) (ext_33bad n W hW V h p1 p2 h3 w)
    · exact told (by simp [sExt, h, h1, h2, e1, e2, e3]) (ext_no op n W hW V h p1 p2 e1 e2 e3 w)
  · have h' : ok W V = false := by simpa using h
    exact told (by simp [sExt, h']) (ext_bad op n W hW V h' w)

theorem wth_range {W hi lo : Int} (h : wth W hi lo = true) : 0 ≤ lo ∧ lo ≤ hi ∧ hi < W := by
  unfold wth at h; simp only [Bool.and_eq_true, decide_eq_true_eq] at h; exact ⟨h.1.1, h.1.2, h.2⟩

theorem slice_any (W : Int) (hW : (Lit.int .i64 W).wf = true) (V : BitVec 64) (hi lo : Int) (w : World) : Calls Try.prog 28 #[.agg #[.int .i64 W, .int .u64 (u V)], .int .i64 hi, .int .i64 lo] w fun e w' => e = rv (sSlice W V hi lo) ∧ Below w.heap.size w w' := by
  by_cases h : ok W V = true
  · by_cases h1 : wth W hi lo = true
    · obtain ⟨a, b, c⟩ := wth_range h1
      exact told (by simp [sSlice, h, h1]) (slice_in W hW V hi lo h h1 a b (by have := (ok_range h).2.1; omega) w)
    · have h1' : wth W hi lo = false := by simpa using h1
      exact told (by simp [sSlice, h, h1']) (slice_out W hW V hi lo h h1' w)
  · have h' : ok W V = false := by simpa using h
    exact told (by simp [sSlice, h']) (slice_bad W hW V hi lo h' w)

theorem set_any (W : Int) (hW : (Lit.int .i64 W).wf = true) (V : BitVec 64) (hi lo : Int) (W2 : Int) (hW2 : (Lit.int .i64 W2).wf = true) (V2 : BitVec 64) (w : World) : Calls Try.prog 27 #[.agg #[.int .i64 W, .int .u64 (u V)], .int .i64 hi, .int .i64 lo, .agg #[.int .i64 W2, .int .u64 (u V2)]] w fun e w' => e = rv (sSet W V hi lo W2 V2) ∧ Below w.heap.size w w' := by
  by_cases h : (ok W V && ok W2 V2) = true
  · obtain ⟨k1, k2⟩ : ok W V = true ∧ ok W2 V2 = true := by simpa using h
    by_cases h1 : wth W hi lo = true
    · obtain ⟨a, b, c⟩ := wth_range h1
      have r := (ok_range k1).2.1
      by_cases e : W2 = hi - lo + 1
      · exact told (by unfold sSet; rw [if_neg (by rw [h]; decide), if_neg (by rw [h1]; decide), if_neg (by simp [e])]) (set_in W hW V hi lo W2 hW2 V2 h h1 a b (by omega) e w)
      · exact told (by unfold sSet; rw [if_neg (by rw [h]; decide), if_neg (by rw [h1]; decide), if_pos e]) (set_apart W hW V hi lo W2 hW2 V2 h h1 a b (by omega) e w)
    · have h1' : wth W hi lo = false := by simpa using h1
      exact told (by unfold sSet; rw [if_neg (by rw [h]; decide), if_pos h1']) (set_out W hW V hi lo W2 hW2 V2 h h1' w)
  · have h' : (ok W V && ok W2 V2) = false := by simpa using h
    exact told (by unfold sSet; rw [if_pos h']) (set_bad W hW V hi lo W2 hW2 V2 h' w)

theorem cat_any (w : World) (l : List (Int × BitVec 64)) (b off cap : Nat) (hl : l.length ≤ 1000) (hne : 0 < l.length) (hrow : Row w b off l) (hbl : b < w.heap.size) : Calls Try.prog 22 #[.slice (some ⟨b, off, none⟩) l.length cap] w fun e w' => e = rv (sCat l) ∧ Below w.heap.size w w' := by
  have hn : l ≠ [] := by intro e; subst e; simp at hne
  by_cases h : allOk l = true
  · by_cases h2 : 64 < wide l
    · exact told (by unfold sCat; rw [if_neg hn, if_neg (by rw [h]; decide), if_pos h2]) (cat_wide w l b off cap hl hne hrow hbl h h2)
    · exact told (by unfold sCat; rw [if_neg hn, if_neg (by rw [h]; decide), if_neg h2]) (cat_in w l b off cap hl hne hrow hbl h h2)
  · have h' : allOk l = false := by simpa using h
    exact told (by unfold sCat; rw [if_neg hn, if_pos h']) (cat_bad w l b off cap hl hne hrow hbl h')
end Go.Proofs.Ytemolkkpigkanaa
