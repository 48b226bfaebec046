/-
  What an expression is, whose names are constants: the evaluator at work.
-/
import Derived.Test.YtlbjmnakiflfpaaGreatDoorKpKsD
import Derived.BigQuiet
import Derived.Deep.QuietTactic
import Derived.Deep.RegionHeld3
namespace Go.Proofs.YtlbjmnakiflfpaaGreatDoor
open Go Go.RowKit
set_option linter.unusedVariables false
set_option linter.unusedSimpArgs false
open Go.Sort

/-- The evaluator at work, at block ev. -/
structure EvAt (W : World) (ev pm n0 : Nat) (l : List NT) (a : Option Addr) (c : Nat) : Prop where
  con : ConAt W ev l a c 168 [.map (some pm)]
  tab : W.heap[pm]? = some (.map pairTab 13)
  row : NRow n0 W l a
theorem EvAt.lt {W : World} {ev pm n0 : Nat} {l : List NT} {a : Option Addr} {c : Nat} (h : EvAt W ev pm n0 l a c) : ev < W.heap.size := h.con.lt
theorem EvAt.keep {W W' : World} {ev pm n0 : Nat} {l : List NT} {a : Option Addr} {c : Nat} (h : EvAt W ev pm n0 l a c) (hn : n0 ≤ ev) (hb : Below W.heap.size W W') : EvAt W' ev pm n0 l a c := ⟨h.con.keep hb, block_kept h.tab hb, h.row.keep (Below.keptTo hb (by have := h.lt; omega))⟩
theorem EvAt.alloc {W : World} {ev pm n0 : Nat} {l : List NT} {a : Option Addr} {c : Nat} (h : EvAt W ev pm n0 l a c) (hn : n0 ≤ ev) (o : Obj) : EvAt (W.alloc o) ev pm n0 l a c := h.keep hn ((Below.refl _ _).alloc (Nat.le_refl _) o)
theorem EvAt.open {W : World} {ev pm n0 : Nat} {l : List NT} {a : Option Addr} {c : Nat} (h : EvAt W ev pm n0 l a c) : W.cell? ⟨ev, 3, none⟩ = some (.map (some pm)) := by
  obtain ⟨⟨k, vm, h, _⟩, _⟩ := h
  simp [World.cell?, h]
/-- What a part's evaluation leaves. -/
def PartC (H ev pm n0 : Nat) (l : List NT) (a : Option Addr) (c : Nat) (x : XT) : Prop := ∀ W : World, EvAt W ev pm n0 l a c → x.In n0 W →
  Calls Tryz.prog 108 #[.pointer (some ⟨ev, 0, none⟩), x.val] W fun e W' => e = .returned (.tuple #[.int .i64 (evX l x).1, .int .i64 (evX l x).2]) ∧ EvAt W' ev pm n0 l a c ∧ Kp H ev W W'
theorem Kp.cell {H B b o : Nat} {W W' : World} {v : Value} (h : Kp H B W W') (hb : b ≠ B) (hv : W.cell? ⟨b, o, none⟩ = some v) : W'.cell? ⟨b, o, none⟩ = some v := by
  obtain ⟨ob, h1, h2⟩ := cells_of_cell hv
  rw [← hv]
  exact World.cell?_of_block (a := ⟨b, o, none⟩) (h.same b (Array.getElem?_eq_some_iff.1 h1).1 hb)
theorem below_drawn2 {n : Nat} {w w' : World} (h : Below n w w') (k : Nat) : Below n w (w'.drewN k) := ⟨h.os, h.tape, h.output, h.size, h.block⟩
theorem open6b {w : World} {g : Nat} {v0 v1 v2 v3 v4 v5 : Value} {t : TypeId} (h : w.heap[g]? = some (.cells #[v0, v1, v2, v3, v4, v5] t (0, 0))) : w.cell? ⟨g, 0, none⟩ = some v0 ∧ w.cell? ⟨g, 1, none⟩ = some v1 ∧ w.cell? ⟨g, 2, none⟩ = some v2 ∧ w.cell? ⟨g, 3, none⟩ = some v3 ∧ w.cell? ⟨g, 4, none⟩ = some v4 ∧ w.cell? ⟨g, 5, none⟩ = some v5 := open6 h

set_option maxHeartbeats 4000000 in
set_option maxRecDepth 3000000 in
theorem named_any (H ev pm n0 : Nat) (hnH : n0 ≤ H) (hH : H ≤ ev) (hpm : pm ≠ ev) (l : List NT) (hbk : NT.bkL l ≤ 1500000) (a : Option Addr) (c : Nat) (s : Bytes) (hs : s.length ≤ 2000000) (W : World) (hE : EvAt W ev pm n0 l a c) : Calls Tryz.prog 132 #[.pointer (some ⟨ev, 0, none⟩), .string (bs s)] W fun e W' => e = .returned (.tuple #[.int .i64 (kNamed l s).1, .int .i64 (kNamed l s).2]) ∧ EvAt W' ev pm n0 l a c ∧ Kp H ev W W' := by
  have hlt := hE.lt
  have hf := find_any H ev n0 hnH hH l hbk s hs a c _ _ W hE.row hE.con
  have HI : Hid (kNamed l s = match findN l s with | none => (0, 60) | some v => kConst v) := Lib.hid rfl
  generalize kNamed l s = R at *
  generalize findN l s = F at *
  cases F with
  | none =>
    have HE : Hid (R = (0, 60)) := Lib.hid HI.out
    simp only [Option.getD_none, Option.isSome_none] at hf
    go_enter Tryz.func132, Tryz.ntmps132
    go_wp2_with fail
    refine hf.mono ?_
    rintro e W1 ⟨rfl, hC, hk⟩
    go_wp2
    go_ret2
    exact ⟨by rw [HE.out]; rfl, ⟨hC, hk.block hE.tab hpm, hE.row.keep (hk.keptTo hnH)⟩, hk⟩
  | some v =>
    have HE : Hid (R = kConst v) := Lib.hid HI.out
    simp only [Option.getD_some, Option.isSome_some] at hf
    have hc := fun w => constant_any v w
    obtain ⟨K1, hK1⟩ : ∃ z, (kConst v).1 = z := ⟨_, rfl⟩
    obtain ⟨K2, hK2⟩ : ∃ z, (kConst v).2 = z := ⟨_, rfl⟩
    rw [hK1, hK2] at hc
    have HKK := Lib.hid (And.intro hK1 hK2)
    clear hK1 hK2
    go_enter Tryz.func132, Tryz.ntmps132
    go_wp2_with fail
    refine hf.mono ?_
    rintro e W1 ⟨rfl, hC, hk⟩
    go_wp2_with fail
    refine (hc _).mono ?_
    rintro e W2 ⟨rfl, rfl⟩
    go_wp2
    go_ret2
    exact ⟨by rw [HE.out, HKK.out.1, HKK.out.2]; rfl, ⟨hC, hk.block hE.tab hpm, hE.row.keep (hk.keptTo hnH)⟩, hk⟩

set_option maxHeartbeats 4000000 in
set_option maxRecDepth 3000000 in
theorem not_any (H ev pm n0 : Nat) (hnH : n0 ≤ H) (hH : H ≤ ev) (hpm : pm ≠ ev) (l : List NT) (hbk : NT.bkL l ≤ 1500000) (a : Option Addr) (c : Nat) (x : XT) (hc : PartC H ev pm n0 l a c x) (W : World) (hE : EvAt W ev pm n0 l a c) (hx : x.In n0 W) : Calls Tryz.prog 133 #[.pointer (some ⟨ev, 0, none⟩), x.val] W fun e W' => e = .returned (.tuple #[.int .i64 (kNot (evX l x)).1, .int .i64 (kNot (evX l x)).2]) ∧ EvAt W' ev pm n0 l a c ∧ Kp H ev W W' := by
  have hlt := hE.lt
  obtain ⟨op, nm, xn, wd, v, xa, xc, xl⟩ := x
  have hE1 := hE.alloc (by omega) (.cells #[.int .i64 op, .string (bs nm), .int .i64 xn, .int .i64 wd, .int .u64 (v : Int), .slice xa xl.length xc] 25)
  have hK1 : Kp H ev W (W.alloc (.cells #[.int .i64 op, .string (bs nm), .int .i64 xn, .int .i64 wd, .int .u64 (v : Int), .slice xa xl.length xc] 25)) := (Kp.refl _ _ _).alloc (by omega) (.cells #[.int .i64 op, .string (bs nm), .int .i64 xn, .int .i64 wd, .int .u64 (v : Int), .slice xa xl.length xc] 25)
  have hcx := hc (W.alloc (.cells #[.int .i64 op, .string (bs nm), .int .i64 xn, .int .i64 wd, .int .u64 (v : Int), .slice xa xl.length xc] 25)) hE1 (XT.In.keep (hK1.keptTo hnH) _ hx)
  have HI : Hid (kNot (evX l (.mk op nm xn wd v xa xc xl)) = kNot (evX l (.mk op nm xn wd v xa xc xl))) := Lib.hid rfl
  generalize evX l (.mk op nm xn wd v xa xc xl) = r at *
  obtain ⟨r1, r2⟩ := r
  obtain ⟨R, hR⟩ : ∃ R, kNot (r1, r2) = R := ⟨_, rfl⟩
  rw [hR]
  have HR := Lib.hid hR
  simp only [XT.val, XT.cells] at hcx ⊢
  clear hc hx hR HI
  go_enter Tryz.func133, Tryz.ntmps133
  go_wp2_with fail
  refine hcx.mono ?_
  rintro e W2 ⟨rfl, hE2, hk2⟩
  clear hcx
  by_cases h0 : r2 = 0
  · subst h0
    have HE : Hid (R = (kTruth (r1 == 0), 0)) := Lib.hid HR.out.symm
    obtain ⟨b, hb⟩ : ∃ b, (r1 == 0) = b := ⟨_, rfl⟩
    rw [hb] at HE
    go_wp2_with fail
    refine (truth_any _ _).mono ?_
    rintro e w1 ⟨rfl, rfl⟩
    go_wp2
    go_ret2
    exact ⟨by rw [HE.out]; rfl, hE2, hK1.trans hk2⟩
  · have d1 : (r2 != 0) = true := by simpa using h0
    have HE : Hid (R = (0, r2)) := Lib.hid (by rw [← HR.out]; simp [kNot, h0])
    go_wp2
    go_ret2
    exact ⟨by rw [HE.out]; rfl, hE2, hK1.trans hk2⟩

set_option maxHeartbeats 4000000 in
set_option maxRecDepth 3000000 in
theorem choice_any (H ev pm n0 : Nat) (hnH : n0 ≤ H) (hH : H ≤ ev) (hpm : pm ≠ ev) (l : List NT) (hbk : NT.bkL l ≤ 1500000) (a : Option Addr) (c : Nat) (x y z : XT) (hcx : PartC H ev pm n0 l a c x) (hcy : PartC H ev pm n0 l a c y) (hcz : PartC H ev pm n0 l a c z) (W : World) (hE : EvAt W ev pm n0 l a c) (hx : x.In n0 W) (hy : y.In n0 W) (hz : z.In n0 W) : Calls Tryz.prog 135 #[.pointer (some ⟨ev, 0, none⟩), x.val, y.val, z.val] W fun e W' => e = .returned (.tuple #[.int .i64 (kCond (evX l x) (evX l y) (evX l z)).1, .int .i64 (kCond (evX l x) (evX l y) (evX l z)).2]) ∧ EvAt W' ev pm n0 l a c ∧ Kp H ev W W' := by
  have hlt := hE.lt
  obtain ⟨op, nm, xn, wd, v, xa, xc, xl⟩ := x
  obtain ⟨op2, nm2, xn2, wd2, v2, xa2, xc2, xl2⟩ := y
  obtain ⟨op3, nm3, xn3, wd3, v3, xa3, xc3, xl3⟩ := z
  have hE1 := ((hE.alloc (by omega) (.cells #[.int .i64 op, .string (bs nm), .int .i64 xn, .int .i64 wd, .int .u64 (v : Int), .slice xa xl.length xc] 25)).alloc (by omega) (.cells #[.int .i64 op2, .string (bs nm2), .int .i64 xn2, .int .i64 wd2, .int .u64 (v2 : Int), .slice xa2 xl2.length xc2] 25)).alloc (by omega) (.cells #[.int .i64 op3, .string (bs nm3), .int .i64 xn3, .int .i64 wd3, .int .u64 (v3 : Int), .slice xa3 xl3.length xc3] 25)
  have hK1 : Kp H ev W (((W.alloc (.cells #[.int .i64 op, .string (bs nm), .int .i64 xn, .int .i64 wd, .int .u64 (v : Int), .slice xa xl.length xc] 25)).alloc (.cells #[.int .i64 op2, .string (bs nm2), .int .i64 xn2, .int .i64 wd2, .int .u64 (v2 : Int), .slice xa2 xl2.length xc2] 25)).alloc (.cells #[.int .i64 op3, .string (bs nm3), .int .i64 xn3, .int .i64 wd3, .int .u64 (v3 : Int), .slice xa3 xl3.length xc3] 25)) := (((Kp.refl _ _ _).alloc (by omega) (.cells #[.int .i64 op, .string (bs nm), .int .i64 xn, .int .i64 wd, .int .u64 (v : Int), .slice xa xl.length xc] 25)).alloc (by simp; omega) (.cells #[.int .i64 op2, .string (bs nm2), .int .i64 xn2, .int .i64 wd2, .int .u64 (v2 : Int), .slice xa2 xl2.length xc2] 25)).alloc (by simp; omega) (.cells #[.int .i64 op3, .string (bs nm3), .int .i64 xn3, .int .i64 wd3, .int .u64 (v3 : Int), .slice xa3 xl3.length xc3] 25)
  have B1 := block_alloc (block_alloc (World.alloc_heap_new W (.cells #[.int .i64 op, .string (bs nm), .int .i64 xn, .int .i64 wd, .int .u64 (v : Int), .slice xa xl.length xc] 25)) (.cells #[.int .i64 op2, .string (bs nm2), .int .i64 xn2, .int .i64 wd2, .int .u64 (v2 : Int), .slice xa2 xl2.length xc2] 25)) (.cells #[.int .i64 op3, .string (bs nm3), .int .i64 xn3, .int .i64 wd3, .int .u64 (v3 : Int), .slice xa3 xl3.length xc3] 25)
  have B2 := block_alloc (World.alloc_heap_new (W.alloc (.cells #[.int .i64 op, .string (bs nm), .int .i64 xn, .int .i64 wd, .int .u64 (v : Int), .slice xa xl.length xc] 25)) (.cells #[.int .i64 op2, .string (bs nm2), .int .i64 xn2, .int .i64 wd2, .int .u64 (v2 : Int), .slice xa2 xl2.length xc2] 25)) (.cells #[.int .i64 op3, .string (bs nm3), .int .i64 xn3, .int .i64 wd3, .int .u64 (v3 : Int), .slice xa3 xl3.length xc3] 25)
  have B3 := World.alloc_heap_new ((W.alloc (.cells #[.int .i64 op, .string (bs nm), .int .i64 xn, .int .i64 wd, .int .u64 (v : Int), .slice xa xl.length xc] 25)).alloc (.cells #[.int .i64 op2, .string (bs nm2), .int .i64 xn2, .int .i64 wd2, .int .u64 (v2 : Int), .slice xa2 xl2.length xc2] 25)) (.cells #[.int .i64 op3, .string (bs nm3), .int .i64 xn3, .int .i64 wd3, .int .u64 (v3 : Int), .slice xa3 xl3.length xc3] 25)
  simp only [World.size_alloc] at B2 B3
  have hc1 := hcx (((W.alloc (.cells #[.int .i64 op, .string (bs nm), .int .i64 xn, .int .i64 wd, .int .u64 (v : Int), .slice xa xl.length xc] 25)).alloc (.cells #[.int .i64 op2, .string (bs nm2), .int .i64 xn2, .int .i64 wd2, .int .u64 (v2 : Int), .slice xa2 xl2.length xc2] 25)).alloc (.cells #[.int .i64 op3, .string (bs nm3), .int .i64 xn3, .int .i64 wd3, .int .u64 (v3 : Int), .slice xa3 xl3.length xc3] 25)) hE1 (XT.In.keep (hK1.keptTo hnH) _ hx)
  generalize evX l (XT.mk op nm xn wd v xa xc xl) = r at *
  obtain ⟨q, hq⟩ : ∃ q, evX l (XT.mk op2 nm2 xn2 wd2 v2 xa2 xc2 xl2) = q := ⟨_, rfl⟩
  obtain ⟨p, hp⟩ : ∃ p, evX l (XT.mk op3 nm3 xn3 wd3 v3 xa3 xc3 xl3) = p := ⟨_, rfl⟩
  rw [hq, hp]
  have HQ := Lib.hid (And.intro hq hp)
  clear hq hp
  obtain ⟨r1, r2⟩ := r
  obtain ⟨R, hR⟩ : ∃ R, kCond (r1, r2) q p = R := ⟨_, rfl⟩
  rw [hR]
  have HR := Lib.hid hR
  have HC := Lib.hid (And.intro hcy hcz)
  have HX := Lib.hid (And.intro hy hz)
  simp only [XT.val, XT.cells] at hc1 ⊢
  clear hcx hcy hcz hx hy hz hR
  go_enter Tryz.func135, Tryz.ntmps135
  go_wp2_with fail
  refine hc1.mono ?_
  rintro e W2 ⟨rfl, hE2, hk2⟩
  clear hc1
  have hK2 := hK1.trans hk2
  replace B1 := hk2.block B1 (by omega)
  replace B2 := hk2.block B2 (by omega)
  replace B3 := hk2.block B3 (by omega)
  by_cases h0 : r2 = 0
  · subst h0
    by_cases h1 : r1 = 0
    · subst h1
      have HE : Hid (R = p) := Lib.hid HR.out.symm
      have hc3 := HC.out.2 W2 hE2 (XT.In.keep (hK2.keptTo hnH) _ HX.out.2)
      obtain ⟨x0, x1, x2, x3, x4, x5⟩ := open6 B3
      rw [HQ.out.2] at hc3
      simp only [XT.val, XT.cells] at hc3
      obtain ⟨p1, p2⟩ := p
      go_wp2_with fail
      refine hc3.mono ?_
      rintro e W3 ⟨rfl, hE3, hk3⟩
      go_wp2
      go_ret2
      exact ⟨by rw [HE.out]; rfl, hE3, hK2.trans hk3⟩
    · have d1 : (r1 != 0) = true := by simpa using h1
      have HE : Hid (R = q) := Lib.hid (by rw [← HR.out]; simp [kCond, h1])
      have hc3 := HC.out.1 W2 hE2 (XT.In.keep (hK2.keptTo hnH) _ HX.out.1)
      obtain ⟨x0, x1, x2, x3, x4, x5⟩ := open6 B2
      rw [HQ.out.1] at hc3
      simp only [XT.val, XT.cells] at hc3
      obtain ⟨q1, q2⟩ := q
      go_wp2_with fail
      refine hc3.mono ?_
      rintro e W3 ⟨rfl, hE3, hk3⟩
      go_wp2
      go_ret2
      exact ⟨by rw [HE.out]; rfl, hE3, hK2.trans hk3⟩
  · have d1 : (r2 != 0) = true := by simpa using h0
    have HE : Hid (R = (0, r2)) := Lib.hid (by rw [← HR.out]; simp [kCond, h0])
    go_wp2
    go_ret2
    exact ⟨by rw [HE.out]; rfl, hE2, hK2⟩

set_option maxHeartbeats 8000000 in
set_option maxRecDepth 3000000 in
theorem pairw_yes (H ev pm n0 : Nat) (hnH : n0 ≤ H) (hH : H ≤ ev) (hpm : pm ≠ ev) (l : List NT) (hbk : NT.bkL l ≤ 1500000) (a : Option Addr) (c : Nat) (nm : Bytes) (xn wd : Int) (v : Nat) (b o : Nat) (xc : Nat) (p q : XT) (hn : 14 ≤ xn ∧ xn ≤ 26) (hcp : PartC H ev pm n0 l a c p) (hcq : PartC H ev pm n0 l a c q) (W : World) (hE : EvAt W ev pm n0 l a c) (hin : InRow 6 XT.cells (XT.In n0 W) n0 W [p, q] (some ⟨b, o, none⟩)) : Calls Tryz.prog 134 #[.pointer (some ⟨ev, 0, none⟩), .agg #[.int .i64 6, .string (bs nm), .int .i64 xn, .int .i64 wd, .int .u64 (v : Int), .slice (some ⟨b, o, none⟩) 2 xc]] W fun e W' => e = .returned (.tuple #[.int .i64 (kPair xn (evX l p) (evX l q)).1, .int .i64 (kPair xn (evX l p) (evX l q)).2]) ∧ EvAt W' ev pm n0 l a c ∧ Kp H ev W W' := by
  have hlt := hE.lt
  obtain ⟨b0, o0, he0, hb, hr0, hx0⟩ := hin.at (i := 0) (by simp)
  obtain ⟨b1, o1, he1, hb1, hr1, hx1⟩ := hin.at (i := 1) (by simp)
  obtain ⟨rfl, rfl⟩ : b = b0 ∧ o = o0 := by have := Option.some.inj he0; injection this with h1 h2; exact ⟨h1, h2⟩
  obtain ⟨rfl, rfl⟩ : b = b1 ∧ o = o1 := by have := Option.some.inj he1; injection this with h1 h2; exact ⟨h1, h2⟩
  clear he1 hb1 he0
  simp only [List.getElem_cons_zero, List.getElem_cons_succ, Nat.zero_mul, Nat.one_mul, Nat.add_zero] at hr0 hr1 hx0 hx1
  have hE1 := hE.alloc (by omega) (.cells #[.int .i64 6, .string (bs nm), .int .i64 xn, .int .i64 wd, .int .u64 (v : Int), .slice (some ⟨b, o, none⟩) 2 xc] 25)
  have hK1 : Kp H ev W (W.alloc (.cells #[.int .i64 6, .string (bs nm), .int .i64 xn, .int .i64 wd, .int .u64 (v : Int), .slice (some ⟨b, o, none⟩) 2 xc] 25)) := (Kp.refl _ _ _).alloc (by omega) (.cells #[.int .i64 6, .string (bs nm), .int .i64 xn, .int .i64 wd, .int .u64 (v : Int), .slice (some ⟨b, o, none⟩) 2 xc] 25)
  have BX := World.alloc_heap_new W (.cells #[.int .i64 6, .string (bs nm), .int .i64 xn, .int .i64 wd, .int .u64 (v : Int), .slice (some ⟨b, o, none⟩) 2 xc] 25)
  obtain ⟨P, hP⟩ : ∃ P, evX l p = P := ⟨_, rfl⟩
  obtain ⟨Q, hQ⟩ : ∃ Q, evX l q = Q := ⟨_, rfl⟩
  have okP := evX_ok l p
  have okQ := evX_ok l q
  rw [hP] at okP
  rw [hQ] at okQ
  rw [hP, hQ]
  obtain ⟨P1, P2⟩ := P
  obtain ⟨Q1, Q2⟩ := Q
  obtain ⟨R, hR⟩ : ∃ R, kPair xn (P1, P2) (Q1, Q2) = R := ⟨_, rfl⟩
  rw [hR]
  have HR := Lib.hid hR
  have HPQ := Lib.hid (And.intro hP hQ)
  have HC := Lib.hid (And.intro hcp hcq)
  have HX := Lib.hid (And.intro hx0 hx1)
  have HRW := Lib.hid (And.intro hr0 hr1)
  have HOK := Lib.hid (And.intro okP okQ)
  clear hP hQ hR hcp hcq hx0 hx1 hr0 hr1 hin okP okQ
  obtain ⟨F, hlk, heF, hcF⟩ := pair_fn xn hn
  have HF := Lib.hid hcF
  clear hcF
  go_enter Tryz.func134, Tryz.ntmps134
  go_upto_region 1 with (fail)
  clear hE
  generalize hW1 : W.alloc (.cells #[.int .i64 6, .string (bs nm), .int .i64 xn, .int .i64 wd, .int .u64 (v : Int), .slice (some ⟨b, o, none⟩) 2 xc] 25) = W1 at *
  have hz1 := hE1.lt
  have hg1 : W.heap.size < W1.heap.size := by rw [← hW1]; simp
  clear hW1
  obtain ⟨z0, z1, z2, z3, z4, z5⟩ := open6 BX
  have y0 := hE1.open
  have z0R := cell_regrown z0
  have z1R := cell_regrown z1
  have z2R := cell_regrown z2
  have z3R := cell_regrown z3
  have z4R := cell_regrown z4
  have z5R := cell_regrown z5
  have y0R := cell_regrown y0
  have hlR := fun dq os => hlk pm (grow (redrawn W1 dq) os) (((below_regrown W1 dq os).block pm (Array.getElem?_eq_some_iff.1 hE1.tab).1).trans hE1.tab)
  refine wp_region_quiet_below (by kernel_rfl) (by kernel_rfl) ?_
  repeat (go_big_quiet_step (fail))
  refine wpQuiet_nil ?_
  intro _ hw'
  obtain ⟨⟨dq, osq⟩, hw''⟩ := hw'
  subst hw''
  have hbq := below_regrown W1 dq osq
  have BX2 := block_kept BX hbq
  have hE2 := hE1.keep (by omega) hbq
  have hK2 := hK1.trans (Kp.of (H := H) (B := ev) hbq (by omega))
  clear z0R z1R z2R z3R z4R z5R y0R hlR hE1 hK1 z0 z1 z2 z3 z4 z5 y0 hlk
  have hg2 : W.heap.size < (grow (redrawn W1 dq) osq).heap.size := Nat.lt_of_lt_of_le hg1 hbq.size
  clear BX hbq
  generalize grow (redrawn W1 dq) osq = W2 at *
  have hz2 := hE2.lt
  obtain ⟨op2, nm2, xn2, wd2, v2, xa2, xc2, xl2⟩ := p
  obtain ⟨op3, nm3, xn3, wd3, v3, xa3, xc3, xl3⟩ := q
  have hr : RowC W2 b o (XT.mk op2 nm2 xn2 wd2 v2 xa2 xc2 xl2).cells := fun j v hv => hK2.keptTo hnH b _ v hb (HRW.out.1 j v hv)
  have r0 : W2.cell? ⟨b, o, none⟩ = some (.int .i64 op2) := hr 0 _ rfl
  have r1 : W2.cell? ⟨b, o + 1, none⟩ = some (.string (bs nm2)) := hr 1 _ rfl
  have r2 : W2.cell? ⟨b, o + 2, none⟩ = some (.int .i64 xn2) := hr 2 _ rfl
  have r3 : W2.cell? ⟨b, o + 3, none⟩ = some (.int .i64 wd2) := hr 3 _ rfl
  have r4 : W2.cell? ⟨b, o + 4, none⟩ = some (.int .u64 (v2 : Int)) := hr 4 _ rfl
  have r5 : W2.cell? ⟨b, o + 5, none⟩ = some (.slice xa2 xl2.length xc2) := hr 5 _ rfl
  obtain ⟨z0, z1, z2, z3, z4, z5⟩ := open6 BX2
  have hcp := HC.out.1 W2 hE2 (XT.In.keep (hK2.keptTo hnH) _ HX.out.1)
  rw [HPQ.out.1] at hcp
  simp only [XT.val, XT.cells] at hcp
  clear hr hE2
  go_wp2_with fail
  refine hcp.mono ?_
  rintro e W3 ⟨rfl, hE3, hk3⟩
  clear hcp z0 z1 z2 z3 z4 z5 r0 r1 r2 r3 r4 r5
  have hK3 := hK2.trans hk3
  have BX3 := hk3.block BX2 (by omega)
  have hz3 := hE3.lt
  clear hk3 BX2 hK2
  by_cases h0 : P2 = 0
  · subst h0
    have hr : RowC W3 b (o + 6) (XT.mk op3 nm3 xn3 wd3 v3 xa3 xc3 xl3).cells := fun j v hv => hK3.keptTo hnH b _ v hb (HRW.out.2 j v hv)
    have r0 : W3.cell? ⟨b, o + 6, none⟩ = some (.int .i64 op3) := hr 0 _ rfl
    have r1 : W3.cell? ⟨b, o + 6 + 1, none⟩ = some (.string (bs nm3)) := hr 1 _ rfl
    have r2 : W3.cell? ⟨b, o + 6 + 2, none⟩ = some (.int .i64 xn3) := hr 2 _ rfl
    have r3 : W3.cell? ⟨b, o + 6 + 3, none⟩ = some (.int .i64 wd3) := hr 3 _ rfl
    have r4 : W3.cell? ⟨b, o + 6 + 4, none⟩ = some (.int .u64 (v3 : Int)) := hr 4 _ rfl
    have r5 : W3.cell? ⟨b, o + 6 + 5, none⟩ = some (.slice xa3 xl3.length xc3) := hr 5 _ rfl
    obtain ⟨z0, z1, z2, z3, z4, z5⟩ := open6 BX3
    have hcq := HC.out.2 W3 hE3 (XT.In.keep (hK3.keptTo hnH) _ HX.out.2)
    rw [HPQ.out.2] at hcq
    simp only [XT.val, XT.cells] at hcq
    clear hr hE3
    go_wp2_with fail
    refine hcq.mono ?_
    rintro e W4 ⟨rfl, hE4, hk4⟩
    clear hcq z0 z1 z2 z3 z4 z5 r0 r1 r2 r3 r4 r5
    have hK4 := hK3.trans hk4
    clear hk4 hK3 BX3
    by_cases g0 : Q2 = 0
    · subst g0
      have hF := fun w => HF.out P1 Q1 HOK.out.1.1 HOK.out.1.2.1 HOK.out.2.1 HOK.out.2.2.1 w
      have HE : Hid (R = kConst (kTwo xn P1 Q1)) := Lib.hid (by rw [← HR.out, kPair, if_pos hn]; rfl)
      obtain ⟨T, hT⟩ : ∃ T, kTwo xn P1 Q1 = T := ⟨_, rfl⟩
      rw [hT] at hF HE
      have hc := fun w => constant_any T w
      obtain ⟨K1, hk1⟩ : ∃ z, (kConst T).1 = z := ⟨_, rfl⟩
      obtain ⟨K2, hk2⟩ : ∃ z, (kConst T).2 = z := ⟨_, rfl⟩
      rw [hk1, hk2] at hc
      have HKK := Lib.hid (And.intro hk1 hk2)
      clear hT hk1 hk2
      go_wp2_with fail
      refine (hF _).mono ?_
      rintro e w5 ⟨rfl, rfl⟩
      go_wp2_with fail
      refine (hc _).mono ?_
      rintro e w6 ⟨rfl, rfl⟩
      go_wp2
      go_ret2
      exact ⟨by rw [HE.out, HKK.out.1, HKK.out.2]; rfl, hE4, hK4⟩
    · have d1 : (Q2 != 0) = true := by simpa using g0
      have HE : Hid (R = (0, Q2)) := Lib.hid (by rw [← HR.out, kPair, if_pos hn]; simp [g0])
      go_wp2
      go_ret2
      exact ⟨by rw [HE.out]; rfl, hE4, hK4⟩
  · have d1 : (P2 != 0) = true := by simpa using h0
    have HE : Hid (R = (0, P2)) := Lib.hid (by rw [← HR.out, kPair, if_pos hn]; simp [h0])
    go_wp2
    go_ret2
    exact ⟨by rw [HE.out]; rfl, hE3, hK3⟩

set_option maxHeartbeats 8000000 in
set_option maxRecDepth 3000000 in
theorem pairw_out (H ev pm n0 : Nat) (hnH : n0 ≤ H) (hH : H ≤ ev) (hpm : pm ≠ ev) (l : List NT) (hbk : NT.bkL l ≤ 1500000) (a : Option Addr) (c : Nat) (nm : Bytes) (xn wd : Int) (v : Nat) (b o : Nat) (xc : Nat) (p q : XT) (hn : ¬ (14 ≤ xn ∧ xn ≤ 26)) (hcp : PartC H ev pm n0 l a c p) (hcq : PartC H ev pm n0 l a c q) (W : World) (hE : EvAt W ev pm n0 l a c) (hin : InRow 6 XT.cells (XT.In n0 W) n0 W [p, q] (some ⟨b, o, none⟩)) : Calls Tryz.prog 134 #[.pointer (some ⟨ev, 0, none⟩), .agg #[.int .i64 6, .string (bs nm), .int .i64 xn, .int .i64 wd, .int .u64 (v : Int), .slice (some ⟨b, o, none⟩) 2 xc]] W fun e W' => e = .returned (.tuple #[.int .i64 (kPair xn (evX l p) (evX l q)).1, .int .i64 (kPair xn (evX l p) (evX l q)).2]) ∧ EvAt W' ev pm n0 l a c ∧ Kp H ev W W' := by
  have hlt := hE.lt
  obtain ⟨b0, o0, he0, hb, hr0, hx0⟩ := hin.at (i := 0) (by simp)
  obtain ⟨b1, o1, he1, hb1, hr1, hx1⟩ := hin.at (i := 1) (by simp)
  obtain ⟨rfl, rfl⟩ : b = b0 ∧ o = o0 := by have := Option.some.inj he0; injection this with h1 h2; exact ⟨h1, h2⟩
  obtain ⟨rfl, rfl⟩ : b = b1 ∧ o = o1 := by have := Option.some.inj he1; injection this with h1 h2; exact ⟨h1, h2⟩
  clear he1 hb1 he0
  simp only [List.getElem_cons_zero, List.getElem_cons_succ, Nat.zero_mul, Nat.one_mul, Nat.add_zero] at hr0 hr1 hx0 hx1
  have hE1 := hE.alloc (by omega) (.cells #[.int .i64 6, .string (bs nm), .int .i64 xn, .int .i64 wd, .int .u64 (v : Int), .slice (some ⟨b, o, none⟩) 2 xc] 25)
  have hK1 : Kp H ev W (W.alloc (.cells #[.int .i64 6, .string (bs nm), .int .i64 xn, .int .i64 wd, .int .u64 (v : Int), .slice (some ⟨b, o, none⟩) 2 xc] 25)) := (Kp.refl _ _ _).alloc (by omega) (.cells #[.int .i64 6, .string (bs nm), .int .i64 xn, .int .i64 wd, .int .u64 (v : Int), .slice (some ⟨b, o, none⟩) 2 xc] 25)
  have BX := World.alloc_heap_new W (.cells #[.int .i64 6, .string (bs nm), .int .i64 xn, .int .i64 wd, .int .u64 (v : Int), .slice (some ⟨b, o, none⟩) 2 xc] 25)
  obtain ⟨P, hP⟩ : ∃ P, evX l p = P := ⟨_, rfl⟩
  obtain ⟨Q, hQ⟩ : ∃ Q, evX l q = Q := ⟨_, rfl⟩
  have okP := evX_ok l p
  have okQ := evX_ok l q
  rw [hP] at okP
  rw [hQ] at okQ
  rw [hP, hQ]
  obtain ⟨P1, P2⟩ := P
  obtain ⟨Q1, Q2⟩ := Q
  obtain ⟨R, hR⟩ : ∃ R, kPair xn (P1, P2) (Q1, Q2) = R := ⟨_, rfl⟩
  rw [hR]
  have HR := Lib.hid hR
  have HPQ := Lib.hid (And.intro hP hQ)
  have HC := Lib.hid (And.intro hcp hcq)
  have HX := Lib.hid (And.intro hx0 hx1)
  have HRW := Lib.hid (And.intro hr0 hr1)
  have HOK := Lib.hid (And.intro okP okQ)
  clear hP hQ hR hcp hcq hx0 hx1 hr0 hr1 hin okP okQ
  have hlk := fun (b : Nat) (w : World) hb => pair_no hn b w hb
  have HE : Hid (R = (0, 61)) := Lib.hid (by rw [← HR.out, kPair, if_neg hn])
  go_enter Tryz.func134, Tryz.ntmps134
  go_upto_region 1 with (fail)
  clear hE
  generalize hW1 : W.alloc (.cells #[.int .i64 6, .string (bs nm), .int .i64 xn, .int .i64 wd, .int .u64 (v : Int), .slice (some ⟨b, o, none⟩) 2 xc] 25) = W1 at *
  have hz1 := hE1.lt
  have hg1 : W.heap.size < W1.heap.size := by rw [← hW1]; simp
  clear hW1
  obtain ⟨z0, z1, z2, z3, z4, z5⟩ := open6 BX
  have y0 := hE1.open
  have z0R := cell_regrown z0
  have z1R := cell_regrown z1
  have z2R := cell_regrown z2
  have z3R := cell_regrown z3
  have z4R := cell_regrown z4
  have z5R := cell_regrown z5
  have y0R := cell_regrown y0
  have hlR := fun dq os => hlk pm (grow (redrawn W1 dq) os) (((below_regrown W1 dq os).block pm (Array.getElem?_eq_some_iff.1 hE1.tab).1).trans hE1.tab)
  refine wp_region_quiet_below (by kernel_rfl) (by kernel_rfl) ?_
  repeat (go_big_quiet_step (fail))
  refine wpQuiet_nil ?_
  intro _ hw'
  obtain ⟨⟨dq, osq⟩, hw''⟩ := hw'
  subst hw''
  have hbq := below_regrown W1 dq osq
  have BX2 := block_kept BX hbq
  have hE2 := hE1.keep (by omega) hbq
  have hK2 := hK1.trans (Kp.of (H := H) (B := ev) hbq (by omega))
  clear z0R z1R z2R z3R z4R z5R y0R hlR hE1 hK1 z0 z1 z2 z3 z4 z5 y0 hlk
  have hg2 : W.heap.size < (grow (redrawn W1 dq) osq).heap.size := Nat.lt_of_lt_of_le hg1 hbq.size
  clear BX hbq
  generalize grow (redrawn W1 dq) osq = W2 at *
  have hz2 := hE2.lt
  go_wp2
  go_ret2
  exact ⟨by rw [HE.out]; rfl, hE2, hK2⟩

set_option maxHeartbeats 16000000 in
set_option maxRecDepth 3000000 in
theorem value_any (H ev pm n0 : Nat) (hnH : n0 ≤ H) (hH : H ≤ ev) (hpm : pm ≠ ev) (l : List NT) (hbk : NT.bkL l ≤ 1500000) (a : Option Addr) (c : Nat) : ∀ x : XT, x.bk ≤ 1500000 → x.Wf → mayX x = true → PartC H ev pm n0 l a c x := by
  refine XT.ind ?_
  intro op nm xn wd v xa xc xl ih hbk2 hwf hm W hE hin
  have hlt := hE.lt
  rw [XT.In_mk] at hin
  rw [XT.wf_mk] at hwf
  obtain ⟨hv, hwl⟩ := hwf
  have hbb := hbk2
  simp only [XT.bk] at hbb
  have ihp : ∀ y ∈ xl, mayX y = true → PartC H ev pm n0 l a c y := fun y hy hmy => ih y hy (by have := XT.bkL_mem hy; omega) (hwl y hy) hmy
  clear ih hwl hbk2
  have HI : Hid (evX l (.mk op nm xn wd v xa xc xl) = kNode l op nm xn wd v (xl.map (evX l))) := Lib.hid (evX_mk _ _ _ _ _ _ _ _ _)
  generalize hR : evX l (.mk op nm xn wd v xa xc xl) = R at *
  clear hR
  have HV := Lib.hid hv
  clear hv
  simp only [XT.val, XT.cells]
  by_cases h1 : op = 1
  · skip
    subst h1
    by_cases hw : wd = 0
    · subst hw
      have HE : Hid (R = kNum v) := Lib.hid (by rw [HI.out]; simp [kNode])
      have hn := fun w => knumber_any v HV.out w
      obtain ⟨K1, hk1⟩ : ∃ z, (kNum v).1 = z := ⟨_, rfl⟩
      obtain ⟨K2, hk2⟩ : ∃ z, (kNum v).2 = z := ⟨_, rfl⟩
      rw [hk1, hk2] at hn
      have HKK := Lib.hid (And.intro hk1 hk2)
      clear hk1 hk2 hm hin ihp
      have hE1 := hE.alloc (by omega) (.cells #[.int .i64 1, .string (bs nm), .int .i64 xn, .int .i64 0, .int .u64 (v : Int), .slice xa xl.length xc] 25)
      have hK1 : Kp H ev W (W.alloc (.cells #[.int .i64 1, .string (bs nm), .int .i64 xn, .int .i64 0, .int .u64 (v : Int), .slice xa xl.length xc] 25)) := (Kp.refl _ _ _).alloc (by omega) (.cells #[.int .i64 1, .string (bs nm), .int .i64 xn, .int .i64 0, .int .u64 (v : Int), .slice xa xl.length xc] 25)
      have BX := World.alloc_heap_new W (.cells #[.int .i64 1, .string (bs nm), .int .i64 xn, .int .i64 0, .int .u64 (v : Int), .slice xa xl.length xc] 25)
      obtain ⟨z0, z1, z2, z3, z4, z5⟩ := open6 BX
      clear hE
      go_enter Tryz.func108, Tryz.ntmps108
      go_wp2_with fail
      refine (hn _).mono ?_
      rintro e w1 ⟨rfl, rfl⟩
      go_wp2
      go_ret2
      exact ⟨by rw [HE.out, HKK.out.1, HKK.out.2]; rfl, hE1, hK1⟩
    · have d1 : (wd == 0) = false := by rw [beq_eq_false_iff_ne]; exact hw
      have HE : Hid (R = (0, 61)) := Lib.hid (by rw [HI.out]; simp [kNode, hw])
      clear hm hin ihp
      have hE1 := hE.alloc (by omega) (.cells #[.int .i64 1, .string (bs nm), .int .i64 xn, .int .i64 wd, .int .u64 (v : Int), .slice xa xl.length xc] 25)
      have hK1 : Kp H ev W (W.alloc (.cells #[.int .i64 1, .string (bs nm), .int .i64 xn, .int .i64 wd, .int .u64 (v : Int), .slice xa xl.length xc] 25)) := (Kp.refl _ _ _).alloc (by omega) (.cells #[.int .i64 1, .string (bs nm), .int .i64 xn, .int .i64 wd, .int .u64 (v : Int), .slice xa xl.length xc] 25)
      have BX := World.alloc_heap_new W (.cells #[.int .i64 1, .string (bs nm), .int .i64 xn, .int .i64 wd, .int .u64 (v : Int), .slice xa xl.length xc] 25)
      obtain ⟨z0, z1, z2, z3, z4, z5⟩ := open6 BX
      clear hE
      go_enter Tryz.func108, Tryz.ntmps108
      go_wp2
      go_ret2
      exact ⟨by rw [HE.out]; rfl, hE1, hK1⟩
  · skip
    by_cases h2 : op = 2
    · skip
      subst h2
      have HE : Hid (R = kNamed l nm) := Lib.hid (by rw [HI.out]; simp [kNode])
      clear hm hin ihp
      have hE1 := hE.alloc (by omega) (.cells #[.int .i64 2, .string (bs nm), .int .i64 xn, .int .i64 wd, .int .u64 (v : Int), .slice xa xl.length xc] 25)
      have hK1 : Kp H ev W (W.alloc (.cells #[.int .i64 2, .string (bs nm), .int .i64 xn, .int .i64 wd, .int .u64 (v : Int), .slice xa xl.length xc] 25)) := (Kp.refl _ _ _).alloc (by omega) (.cells #[.int .i64 2, .string (bs nm), .int .i64 xn, .int .i64 wd, .int .u64 (v : Int), .slice xa xl.length xc] 25)
      have BX := World.alloc_heap_new W (.cells #[.int .i64 2, .string (bs nm), .int .i64 xn, .int .i64 wd, .int .u64 (v : Int), .slice xa xl.length xc] 25)
      have hn := named_any H ev pm n0 hnH hH hpm l hbk a c nm (by omega) _ hE1
      obtain ⟨K1, hk1⟩ : ∃ z, (kNamed l nm).1 = z := ⟨_, rfl⟩
      obtain ⟨K2, hk2⟩ : ∃ z, (kNamed l nm).2 = z := ⟨_, rfl⟩
      rw [hk1, hk2] at hn
      have HKK := Lib.hid (And.intro hk1 hk2)
      clear hk1 hk2
      obtain ⟨z0, z1, z2, z3, z4, z5⟩ := open6 BX
      clear hE
      go_enter Tryz.func108, Tryz.ntmps108
      go_wp2_with fail
      refine hn.mono ?_
      rintro e w1 ⟨rfl, hE2, hk⟩
      go_wp2
      go_ret2
      exact ⟨by rw [HE.out, HKK.out.1, HKK.out.2]; rfl, hE2, hK1.trans hk⟩
    · skip
      by_cases h5 : op = 5
      · skip
        subst h5
        obtain ⟨p, rfl, hmp⟩ := may5 hm
        have hcp := ihp p (by simp) hmp
        obtain ⟨b, o, rfl, hb, hr0, hx0⟩ := hin.at (i := 0) (by simp)
        simp only [List.getElem_cons_zero, Nat.zero_mul, Nat.add_zero] at hr0 hx0
        by_cases h6 : xn = 6
        · subst h6
          have HE : Hid (R = kNot (evX l p)) := Lib.hid (by rw [HI.out]; simp [kNode])
          have hE1 := hE.alloc (by omega) (.cells #[.int .i64 5, .string (bs nm), .int .i64 6, .int .i64 wd, .int .u64 (v : Int), .slice (some ⟨b, o, none⟩) 1 xc] 25)
          have hK1 : Kp H ev W (W.alloc (.cells #[.int .i64 5, .string (bs nm), .int .i64 6, .int .i64 wd, .int .u64 (v : Int), .slice (some ⟨b, o, none⟩) 1 xc] 25)) := (Kp.refl _ _ _).alloc (by omega) (.cells #[.int .i64 5, .string (bs nm), .int .i64 6, .int .i64 wd, .int .u64 (v : Int), .slice (some ⟨b, o, none⟩) 1 xc] 25)
          have BX := World.alloc_heap_new W (.cells #[.int .i64 5, .string (bs nm), .int .i64 6, .int .i64 wd, .int .u64 (v : Int), .slice (some ⟨b, o, none⟩) 1 xc] 25)
          have hn := not_any H ev pm n0 hnH hH hpm l hbk a c p hcp _ hE1 (XT.In.keep (hK1.keptTo hnH) _ hx0)
          obtain ⟨K1, hk1⟩ : ∃ z, (kNot (evX l p)).1 = z := ⟨_, rfl⟩
          obtain ⟨K2, hk2⟩ : ∃ z, (kNot (evX l p)).2 = z := ⟨_, rfl⟩
          rw [hk1, hk2] at hn
          have HKK := Lib.hid (And.intro hk1 hk2)
          obtain ⟨op2, nm2, xn2, wd2, v2, xa2, xc2, xl2⟩ := p
          have hr : RowC (W.alloc (.cells #[.int .i64 5, .string (bs nm), .int .i64 6, .int .i64 wd, .int .u64 (v : Int), .slice (some ⟨b, o, none⟩) 1 xc] 25)) b o (XT.mk op2 nm2 xn2 wd2 v2 xa2 xc2 xl2).cells := fun j v hv => hK1.keptTo hnH b _ v hb (hr0 j v hv)
          have r0 : (W.alloc (.cells #[.int .i64 5, .string (bs nm), .int .i64 6, .int .i64 wd, .int .u64 (v : Int), .slice (some ⟨b, o, none⟩) 1 xc] 25)).cell? ⟨b, o, none⟩ = some (.int .i64 op2) := hr 0 _ rfl
          have r1 : (W.alloc (.cells #[.int .i64 5, .string (bs nm), .int .i64 6, .int .i64 wd, .int .u64 (v : Int), .slice (some ⟨b, o, none⟩) 1 xc] 25)).cell? ⟨b, o + 1, none⟩ = some (.string (bs nm2)) := hr 1 _ rfl
          have r2 : (W.alloc (.cells #[.int .i64 5, .string (bs nm), .int .i64 6, .int .i64 wd, .int .u64 (v : Int), .slice (some ⟨b, o, none⟩) 1 xc] 25)).cell? ⟨b, o + 2, none⟩ = some (.int .i64 xn2) := hr 2 _ rfl
          have r3 : (W.alloc (.cells #[.int .i64 5, .string (bs nm), .int .i64 6, .int .i64 wd, .int .u64 (v : Int), .slice (some ⟨b, o, none⟩) 1 xc] 25)).cell? ⟨b, o + 3, none⟩ = some (.int .i64 wd2) := hr 3 _ rfl
          have r4 : (W.alloc (.cells #[.int .i64 5, .string (bs nm), .int .i64 6, .int .i64 wd, .int .u64 (v : Int), .slice (some ⟨b, o, none⟩) 1 xc] 25)).cell? ⟨b, o + 4, none⟩ = some (.int .u64 (v2 : Int)) := hr 4 _ rfl
          have r5 : (W.alloc (.cells #[.int .i64 5, .string (bs nm), .int .i64 6, .int .i64 wd, .int .u64 (v : Int), .slice (some ⟨b, o, none⟩) 1 xc] 25)).cell? ⟨b, o + 5, none⟩ = some (.slice xa2 xl2.length xc2) := hr 5 _ rfl
          simp only [XT.val, XT.cells] at hn
          obtain ⟨z0, z1, z2, z3, z4, z5⟩ := open6 BX
          simp only [List.length_cons, List.length_nil, Nat.zero_add, Nat.reduceAdd]
          clear hE hr hr0 hx0 hcp hmp hin ihp hk1 hk2 hm
          go_enter Tryz.func108, Tryz.ntmps108
          go_wp2_with fail
          refine hn.mono ?_
          rintro e w1 ⟨rfl, hE2, hk⟩
          go_wp2
          go_ret2
          exact ⟨by rw [HE.out, HKK.out.1, HKK.out.2]; rfl, hE2, hK1.trans hk⟩
        · have d1 : (xn == 6) = false := by rw [beq_eq_false_iff_ne]; exact h6
          have HE : Hid (R = (0, 61)) := Lib.hid (by rw [HI.out]; simp [kNode, h6])
          clear hm hin ihp hcp hx0 hr0
          have hE1 := hE.alloc (by omega) (.cells #[.int .i64 5, .string (bs nm), .int .i64 xn, .int .i64 wd, .int .u64 (v : Int), .slice (some ⟨b, o, none⟩) 1 xc] 25)
          have hK1 : Kp H ev W (W.alloc (.cells #[.int .i64 5, .string (bs nm), .int .i64 xn, .int .i64 wd, .int .u64 (v : Int), .slice (some ⟨b, o, none⟩) 1 xc] 25)) := (Kp.refl _ _ _).alloc (by omega) (.cells #[.int .i64 5, .string (bs nm), .int .i64 xn, .int .i64 wd, .int .u64 (v : Int), .slice (some ⟨b, o, none⟩) 1 xc] 25)
          have BX := World.alloc_heap_new W (.cells #[.int .i64 5, .string (bs nm), .int .i64 xn, .int .i64 wd, .int .u64 (v : Int), .slice (some ⟨b, o, none⟩) 1 xc] 25)
          obtain ⟨z0, z1, z2, z3, z4, z5⟩ := open6 BX
          clear hE
          simp only [List.length_cons, List.length_nil, Nat.zero_add, Nat.reduceAdd]
          go_enter Tryz.func108, Tryz.ntmps108
          go_wp2
          go_ret2
          exact ⟨by rw [HE.out]; rfl, hE1, hK1⟩
      · skip
        by_cases h6 : op = 6
        · skip
          subst h6
          obtain ⟨p, q, rfl, hmp, hmq⟩ := may6 hm
          obtain ⟨b, o, rfl, hb, _, _⟩ := hin.at (i := 0) (by simp)
          have HE : Hid (R = kPair xn (evX l p) (evX l q)) := Lib.hid (by rw [HI.out]; simp [kNode])
          have hE1 := hE.alloc (by omega) (.cells #[.int .i64 6, .string (bs nm), .int .i64 xn, .int .i64 wd, .int .u64 (v : Int), .slice (some ⟨b, o, none⟩) 2 xc] 25)
          have hK1 : Kp H ev W (W.alloc (.cells #[.int .i64 6, .string (bs nm), .int .i64 xn, .int .i64 wd, .int .u64 (v : Int), .slice (some ⟨b, o, none⟩) 2 xc] 25)) := (Kp.refl _ _ _).alloc (by omega) (.cells #[.int .i64 6, .string (bs nm), .int .i64 xn, .int .i64 wd, .int .u64 (v : Int), .slice (some ⟨b, o, none⟩) 2 xc] 25)
          have BX := World.alloc_heap_new W (.cells #[.int .i64 6, .string (bs nm), .int .i64 xn, .int .i64 wd, .int .u64 (v : Int), .slice (some ⟨b, o, none⟩) 2 xc] 25)
          by_cases h6 : 14 ≤ xn ∧ xn ≤ 26
          · skip
            have hp := pairw_yes H ev pm n0 hnH hH hpm l hbk a c nm xn wd v b o xc p q h6 (ihp p (by simp) hmp) (ihp q (by simp) hmq) _ hE1 (hin.keep (hK1.keptTo hnH) (fun x _ => XT.In.keep (hK1.keptTo hnH) x))
            obtain ⟨K1, hk1⟩ : ∃ z, (kPair xn (evX l p) (evX l q)).1 = z := ⟨_, rfl⟩
            obtain ⟨K2, hk2⟩ : ∃ z, (kPair xn (evX l p) (evX l q)).2 = z := ⟨_, rfl⟩
            rw [hk1, hk2] at hp
            have HKK := Lib.hid (And.intro hk1 hk2)
            obtain ⟨z0, z1, z2, z3, z4, z5⟩ := open6 BX
            simp only [List.length_cons, List.length_nil, Nat.zero_add, Nat.reduceAdd]
            clear hE hin ihp hk1 hk2 hm h6
            go_enter Tryz.func108, Tryz.ntmps108
            go_wp2_with fail
            refine hp.mono ?_
            rintro e w1 ⟨rfl, hE2, hk⟩
            go_wp2
            go_ret2
            exact ⟨by rw [HE.out, HKK.out.1, HKK.out.2]; rfl, hE2, hK1.trans hk⟩
          · skip
            have hp := pairw_out H ev pm n0 hnH hH hpm l hbk a c nm xn wd v b o xc p q h6 (ihp p (by simp) hmp) (ihp q (by simp) hmq) _ hE1 (hin.keep (hK1.keptTo hnH) (fun x _ => XT.In.keep (hK1.keptTo hnH) x))
            obtain ⟨K1, hk1⟩ : ∃ z, (kPair xn (evX l p) (evX l q)).1 = z := ⟨_, rfl⟩
            obtain ⟨K2, hk2⟩ : ∃ z, (kPair xn (evX l p) (evX l q)).2 = z := ⟨_, rfl⟩
            rw [hk1, hk2] at hp
            have HKK := Lib.hid (And.intro hk1 hk2)
            obtain ⟨z0, z1, z2, z3, z4, z5⟩ := open6 BX
            simp only [List.length_cons, List.length_nil, Nat.zero_add, Nat.reduceAdd]
            clear hE hin ihp hk1 hk2 hm h6
            go_enter Tryz.func108, Tryz.ntmps108
            go_wp2_with fail
            refine hp.mono ?_
            rintro e w1 ⟨rfl, hE2, hk⟩
            go_wp2
            go_ret2
            exact ⟨by rw [HE.out, HKK.out.1, HKK.out.2]; rfl, hE2, hK1.trans hk⟩
        · skip
          by_cases h7 : op = 7
          · skip
            subst h7
            obtain ⟨p, q, r, rfl, hmp, hmq, hmr⟩ := may7 hm
            obtain ⟨b, o, hxa, hb, hr0, hx0⟩ := hin.at (i := 0) (by simp)
            obtain ⟨b1, o1, he1, _, hr1, hx1⟩ := hin.at (i := 1) (by simp)
            obtain ⟨b2, o2, he2, _, hr2, hx2⟩ := hin.at (i := 2) (by simp)
            subst hxa
            obtain ⟨rfl, rfl⟩ : b = b1 ∧ o = o1 := by have := Option.some.inj he1; injection this with h1 h2; exact ⟨h1, h2⟩
            obtain ⟨rfl, rfl⟩ : b = b2 ∧ o = o2 := by have := Option.some.inj he2; injection this with h1 h2; exact ⟨h1, h2⟩
            clear he1 he2
            simp only [List.getElem_cons_zero, List.getElem_cons_succ, Nat.zero_mul, Nat.one_mul, Nat.add_zero] at hr0 hr1 hr2 hx0 hx1 hx2
            have HE : Hid (R = kCond (evX l p) (evX l q) (evX l r)) := Lib.hid (by rw [HI.out]; simp [kNode])
            have hE1 := hE.alloc (by omega) (.cells #[.int .i64 7, .string (bs nm), .int .i64 xn, .int .i64 wd, .int .u64 (v : Int), .slice (some ⟨b, o, none⟩) 3 xc] 25)
            have hK1 : Kp H ev W (W.alloc (.cells #[.int .i64 7, .string (bs nm), .int .i64 xn, .int .i64 wd, .int .u64 (v : Int), .slice (some ⟨b, o, none⟩) 3 xc] 25)) := (Kp.refl _ _ _).alloc (by omega) (.cells #[.int .i64 7, .string (bs nm), .int .i64 xn, .int .i64 wd, .int .u64 (v : Int), .slice (some ⟨b, o, none⟩) 3 xc] 25)
            have BX := World.alloc_heap_new W (.cells #[.int .i64 7, .string (bs nm), .int .i64 xn, .int .i64 wd, .int .u64 (v : Int), .slice (some ⟨b, o, none⟩) 3 xc] 25)
            obtain ⟨K1, hk1⟩ : ∃ z, (kCond (evX l p) (evX l q) (evX l r)).1 = z := ⟨_, rfl⟩
            obtain ⟨K2, hk2⟩ : ∃ z, (kCond (evX l p) (evX l q) (evX l r)).2 = z := ⟨_, rfl⟩
            have HKK := Lib.hid (And.intro hk1 hk2)
            have hsz1 : H ≤ (W.alloc (.cells #[.int .i64 7, .string (bs nm), .int .i64 xn, .int .i64 wd, .int .u64 (v : Int), .slice (some ⟨b, o, none⟩) 3 xc] 25)).heap.size := by simp; omega
            have hcall := fun (w1 : World) (hb1 : Below (W.alloc (.cells #[.int .i64 7, .string (bs nm), .int .i64 xn, .int .i64 wd, .int .u64 (v : Int), .slice (some ⟨b, o, none⟩) 3 xc] 25)).heap.size (W.alloc (.cells #[.int .i64 7, .string (bs nm), .int .i64 xn, .int .i64 wd, .int .u64 (v : Int), .slice (some ⟨b, o, none⟩) 3 xc] 25)) w1) => choice_any H ev pm n0 hnH hH hpm l hbk a c p q r (ihp p (by simp) hmp) (ihp q (by simp) hmq) (ihp r (by simp) hmr) w1 (hE1.keep (by omega) hb1) (XT.In.keep (Below.keptTo (hK1.low.trans (hb1.mono hsz1)) hnH) _ hx0) (XT.In.keep (Below.keptTo (hK1.low.trans (hb1.mono hsz1)) hnH) _ hx1) (XT.In.keep (Below.keptTo (hK1.low.trans (hb1.mono hsz1)) hnH) _ hx2)
            rw [hk1, hk2] at hcall
            obtain ⟨op2, nm2, xn2, wd2, v2, xa2, xc2, xl2⟩ := p
            obtain ⟨op3, nm3, xn3, wd3, v3, xa3, xc3, xl3⟩ := q
            obtain ⟨op4, nm4, xn4, wd4, v4, xa4, xc4, xl4⟩ := r
            have hr : RowC (W.alloc (.cells #[.int .i64 7, .string (bs nm), .int .i64 xn, .int .i64 wd, .int .u64 (v : Int), .slice (some ⟨b, o, none⟩) 3 xc] 25)) b (o) (XT.mk op2 nm2 xn2 wd2 v2 xa2 xc2 xl2).cells := fun j v hv => hK1.keptTo hnH b _ v hb (hr0 j v hv)
            have r0 : (W.alloc (.cells #[.int .i64 7, .string (bs nm), .int .i64 xn, .int .i64 wd, .int .u64 (v : Int), .slice (some ⟨b, o, none⟩) 3 xc] 25)).cell? ⟨b, o, none⟩ = some (.int .i64 op2) := hr 0 _ rfl
            have r1 : (W.alloc (.cells #[.int .i64 7, .string (bs nm), .int .i64 xn, .int .i64 wd, .int .u64 (v : Int), .slice (some ⟨b, o, none⟩) 3 xc] 25)).cell? ⟨b, o + 1, none⟩ = some (.string (bs nm2)) := hr 1 _ rfl
            have r2 : (W.alloc (.cells #[.int .i64 7, .string (bs nm), .int .i64 xn, .int .i64 wd, .int .u64 (v : Int), .slice (some ⟨b, o, none⟩) 3 xc] 25)).cell? ⟨b, o + 2, none⟩ = some (.int .i64 xn2) := hr 2 _ rfl
            have r3 : (W.alloc (.cells #[.int .i64 7, .string (bs nm), .int .i64 xn, .int .i64 wd, .int .u64 (v : Int), .slice (some ⟨b, o, none⟩) 3 xc] 25)).cell? ⟨b, o + 3, none⟩ = some (.int .i64 wd2) := hr 3 _ rfl
            have r4 : (W.alloc (.cells #[.int .i64 7, .string (bs nm), .int .i64 xn, .int .i64 wd, .int .u64 (v : Int), .slice (some ⟨b, o, none⟩) 3 xc] 25)).cell? ⟨b, o + 4, none⟩ = some (.int .u64 (v2 : Int)) := hr 4 _ rfl
            have r5 : (W.alloc (.cells #[.int .i64 7, .string (bs nm), .int .i64 xn, .int .i64 wd, .int .u64 (v : Int), .slice (some ⟨b, o, none⟩) 3 xc] 25)).cell? ⟨b, o + 5, none⟩ = some (.slice xa2 xl2.length xc2) := hr 5 _ rfl
            have hs : RowC (W.alloc (.cells #[.int .i64 7, .string (bs nm), .int .i64 xn, .int .i64 wd, .int .u64 (v : Int), .slice (some ⟨b, o, none⟩) 3 xc] 25)) b (o + 6) (XT.mk op3 nm3 xn3 wd3 v3 xa3 xc3 xl3).cells := fun j v hv => hK1.keptTo hnH b _ v hb (hr1 j v hv)
            have s0 : (W.alloc (.cells #[.int .i64 7, .string (bs nm), .int .i64 xn, .int .i64 wd, .int .u64 (v : Int), .slice (some ⟨b, o, none⟩) 3 xc] 25)).cell? ⟨b, o + 6, none⟩ = some (.int .i64 op3) := hs 0 _ rfl
            have s1 : (W.alloc (.cells #[.int .i64 7, .string (bs nm), .int .i64 xn, .int .i64 wd, .int .u64 (v : Int), .slice (some ⟨b, o, none⟩) 3 xc] 25)).cell? ⟨b, o + 6 + 1, none⟩ = some (.string (bs nm3)) := hs 1 _ rfl
            have s2 : (W.alloc (.cells #[.int .i64 7, .string (bs nm), .int .i64 xn, .int .i64 wd, .int .u64 (v : Int), .slice (some ⟨b, o, none⟩) 3 xc] 25)).cell? ⟨b, o + 6 + 2, none⟩ = some (.int .i64 xn3) := hs 2 _ rfl
            have s3 : (W.alloc (.cells #[.int .i64 7, .string (bs nm), .int .i64 xn, .int .i64 wd, .int .u64 (v : Int), .slice (some ⟨b, o, none⟩) 3 xc] 25)).cell? ⟨b, o + 6 + 3, none⟩ = some (.int .i64 wd3) := hs 3 _ rfl
            have s4 : (W.alloc (.cells #[.int .i64 7, .string (bs nm), .int .i64 xn, .int .i64 wd, .int .u64 (v : Int), .slice (some ⟨b, o, none⟩) 3 xc] 25)).cell? ⟨b, o + 6 + 4, none⟩ = some (.int .u64 (v3 : Int)) := hs 4 _ rfl
            have s5 : (W.alloc (.cells #[.int .i64 7, .string (bs nm), .int .i64 xn, .int .i64 wd, .int .u64 (v : Int), .slice (some ⟨b, o, none⟩) 3 xc] 25)).cell? ⟨b, o + 6 + 5, none⟩ = some (.slice xa3 xl3.length xc3) := hs 5 _ rfl
            have ht : RowC (W.alloc (.cells #[.int .i64 7, .string (bs nm), .int .i64 xn, .int .i64 wd, .int .u64 (v : Int), .slice (some ⟨b, o, none⟩) 3 xc] 25)) b (o + 2 * 6) (XT.mk op4 nm4 xn4 wd4 v4 xa4 xc4 xl4).cells := fun j v hv => hK1.keptTo hnH b _ v hb (hr2 j v hv)
            have t0 : (W.alloc (.cells #[.int .i64 7, .string (bs nm), .int .i64 xn, .int .i64 wd, .int .u64 (v : Int), .slice (some ⟨b, o, none⟩) 3 xc] 25)).cell? ⟨b, o + 2 * 6, none⟩ = some (.int .i64 op4) := ht 0 _ rfl
            have t1 : (W.alloc (.cells #[.int .i64 7, .string (bs nm), .int .i64 xn, .int .i64 wd, .int .u64 (v : Int), .slice (some ⟨b, o, none⟩) 3 xc] 25)).cell? ⟨b, o + 2 * 6 + 1, none⟩ = some (.string (bs nm4)) := ht 1 _ rfl
            have t2 : (W.alloc (.cells #[.int .i64 7, .string (bs nm), .int .i64 xn, .int .i64 wd, .int .u64 (v : Int), .slice (some ⟨b, o, none⟩) 3 xc] 25)).cell? ⟨b, o + 2 * 6 + 2, none⟩ = some (.int .i64 xn4) := ht 2 _ rfl
            have t3 : (W.alloc (.cells #[.int .i64 7, .string (bs nm), .int .i64 xn, .int .i64 wd, .int .u64 (v : Int), .slice (some ⟨b, o, none⟩) 3 xc] 25)).cell? ⟨b, o + 2 * 6 + 3, none⟩ = some (.int .i64 wd4) := ht 3 _ rfl
            have t4 : (W.alloc (.cells #[.int .i64 7, .string (bs nm), .int .i64 xn, .int .i64 wd, .int .u64 (v : Int), .slice (some ⟨b, o, none⟩) 3 xc] 25)).cell? ⟨b, o + 2 * 6 + 4, none⟩ = some (.int .u64 (v4 : Int)) := ht 4 _ rfl
            have t5 : (W.alloc (.cells #[.int .i64 7, .string (bs nm), .int .i64 xn, .int .i64 wd, .int .u64 (v : Int), .slice (some ⟨b, o, none⟩) 3 xc] 25)).cell? ⟨b, o + 2 * 6 + 5, none⟩ = some (.slice xa4 xl4.length xc4) := ht 5 _ rfl
            simp only [XT.val, XT.cells] at hcall
            obtain ⟨z0, z1, z2, z3, z4, z5⟩ := open6 BX
            simp only [List.length_cons, List.length_nil, Nat.zero_add, Nat.reduceAdd]
            clear hE hr hs ht hr0 hr1 hr2 hx0 hx1 hx2 hmp hmq hmr hin ihp hk1 hk2 hm
            go_enter Tryz.func108, Tryz.ntmps108
            go_wp2
            go_region_held3 (fun w1 => w1.cell? ⟨W.heap.size, 5, none⟩ = some (.slice (some ⟨b, o, none⟩) 3 xc) ∧ w1.cell? ⟨b, o, none⟩ = some (.int .i64 op2) ∧ w1.cell? ⟨b, o + 1, none⟩ = some (.string (bs nm2)) ∧ w1.cell? ⟨b, o + 2, none⟩ = some (.int .i64 xn2) ∧ w1.cell? ⟨b, o + 3, none⟩ = some (.int .i64 wd2) ∧ w1.cell? ⟨b, o + 4, none⟩ = some (.int .u64 (v2 : Int)) ∧ w1.cell? ⟨b, o + 5, none⟩ = some (.slice xa2 xl2.length xc2) ∧ w1.cell? ⟨b, o + 6, none⟩ = some (.int .i64 op3) ∧ w1.cell? ⟨b, o + 6 + 1, none⟩ = some (.string (bs nm3)) ∧ w1.cell? ⟨b, o + 6 + 2, none⟩ = some (.int .i64 xn3) ∧ w1.cell? ⟨b, o + 6 + 3, none⟩ = some (.int .i64 wd3) ∧ w1.cell? ⟨b, o + 6 + 4, none⟩ = some (.int .u64 (v3 : Int)) ∧ w1.cell? ⟨b, o + 6 + 5, none⟩ = some (.slice xa3 xl3.length xc3) ∧ w1.cell? ⟨b, o + 2 * 6, none⟩ = some (.int .i64 op4) ∧ w1.cell? ⟨b, o + 2 * 6 + 1, none⟩ = some (.string (bs nm4)) ∧ w1.cell? ⟨b, o + 2 * 6 + 2, none⟩ = some (.int .i64 xn4) ∧ w1.cell? ⟨b, o + 2 * 6 + 3, none⟩ = some (.int .i64 wd4) ∧ w1.cell? ⟨b, o + 2 * 6 + 4, none⟩ = some (.int .u64 (v4 : Int)) ∧ w1.cell? ⟨b, o + 2 * 6 + 5, none⟩ = some (.slice xa4 xl4.length xc4)) (first | exact ⟨z5, r0, r1, r2, r3, r4, r5, s0, s1, s2, s3, s4, s5, t0, t1, t2, t3, t4, t5⟩ | exact ⟨z5N, r0N, r1N, r2N, r3N, r4N, r5N, s0N, s1N, s2N, s3N, s4N, s5N, t0N, t1N, t2N, t3N, t4N, t5N⟩) (first | (go_at_call 135; refine (hcall _ (by first | exact Below.refl _ _ | exact (Below.refl _ _).drew | exact below_drawn2 (Below.refl _ _) _)).mono ?_; rintro e w' ⟨rfl, hEf, hkf⟩; have hKf := hK1.trans ((Kp.of (B := ev) (by first | exact Below.refl _ _ | exact (Below.refl _ _).drew | exact below_drawn2 (Below.refl _ _) _) hsz1).trans hkf); have z5N := hkf.cell (by omega) z5; have r0N := hkf.cell (by omega) r0; have r1N := hkf.cell (by omega) r1; have r2N := hkf.cell (by omega) r2; have r3N := hkf.cell (by omega) r3; have r4N := hkf.cell (by omega) r4; have r5N := hkf.cell (by omega) r5; have s0N := hkf.cell (by omega) s0; have s1N := hkf.cell (by omega) s1; have s2N := hkf.cell (by omega) s2; have s3N := hkf.cell (by omega) s3; have s4N := hkf.cell (by omega) s4; have s5N := hkf.cell (by omega) s5; have t0N := hkf.cell (by omega) t0; have t1N := hkf.cell (by omega) t1; have t2N := hkf.cell (by omega) t2; have t3N := hkf.cell (by omega) t3; have t4N := hkf.cell (by omega) t4; have t5N := hkf.cell (by omega) t5))
            go_wp2
            go_ret2
            exact ⟨by rw [HE.out, HKK.out.1, HKK.out.2]; rfl, hEf, hKf⟩
          · skip
            have d1 : (op == 1) = false := by rw [beq_eq_false_iff_ne]; exact h1
            have d2 : (op == 2) = false := by rw [beq_eq_false_iff_ne]; exact h2
            have d5 : (op == 5) = false := by rw [beq_eq_false_iff_ne]; exact h5
            have d6 : (op == 6) = false := by rw [beq_eq_false_iff_ne]; exact h6
            have d7 : (op == 7) = false := by rw [beq_eq_false_iff_ne]; exact h7
            have HE : Hid (R = (0, 61)) := Lib.hid (by rw [HI.out]; simp [kNode, h1, h2, h5, h6, h7])
            clear hm hin ihp h1 h2 h5 h6 h7
            have hE1 := hE.alloc (by omega) (.cells #[.int .i64 op, .string (bs nm), .int .i64 xn, .int .i64 wd, .int .u64 (v : Int), .slice xa xl.length xc] 25)
            have hK1 : Kp H ev W (W.alloc (.cells #[.int .i64 op, .string (bs nm), .int .i64 xn, .int .i64 wd, .int .u64 (v : Int), .slice xa xl.length xc] 25)) := (Kp.refl _ _ _).alloc (by omega) (.cells #[.int .i64 op, .string (bs nm), .int .i64 xn, .int .i64 wd, .int .u64 (v : Int), .slice xa xl.length xc] 25)
            have BX := World.alloc_heap_new W (.cells #[.int .i64 op, .string (bs nm), .int .i64 xn, .int .i64 wd, .int .u64 (v : Int), .slice xa xl.length xc] 25)
            obtain ⟨z0, z1, z2, z3, z4, z5⟩ := open6 BX
            clear hE
            go_enter Tryz.func108, Tryz.ntmps108
            go_wp2
            go_ret2
            exact ⟨by rw [HE.out]; rfl, hE1, hK1⟩
end Go.Proofs.YtlbjmnakiflfpaaGreatDoor
