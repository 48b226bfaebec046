/-
  The reference: eval, Eval.
-/
import Derived.Test.YtlbjmnakiflfpaaDoorRfL
namespace Go.Proofs.YtlbjmnakiflfpaaDoor
open Go Go.RowKit
set_option linter.unusedVariables false
set_option linter.unusedSimpArgs false
open Go.Sort
def kOpt (o : Option Int) : Int × Int := match o with | none => (0, 60) | some v => kConst v

set_option maxHeartbeats 4000000 in
set_option maxRecDepth 100000 in
theorem refeval_not (l : List NT) (a : Option Addr) (c : Nat) (nm : Bytes) (wd : Int) (v : Nat) (xa : Option Addr) (xc : Nat) (p0 : XT) (ihp0 : (∀ (n0 : Nat) (w : World), n0 ≤ w.heap.size → p0.In n0 w → NRow n0 w l a → Calls Tryd.prog 24 #[p0.val, .slice a l.length c] w fun e w' => e = .returned (.tuple #[.int .i64 (evX l p0).1, .int .i64 (evX l p0).2]) ∧ Below w.heap.size w w'))  (n0 : Nat) (w : World) (hn0 : n0 ≤ w.heap.size) (hin : InRow 6 XT.cells (XT.In n0 w) n0 w [p0] xa) (hl : NRow n0 w l a) : Calls Tryd.prog 24 #[.agg #[.int .i64 5, .string (bs nm), .int .i64 6, .int .i64 wd, .int .u64 (v : Int), .slice xa 1 xc], .slice a l.length c] w fun e w' => e = .returned (.tuple #[.int .i64 (kNot (evX l p0)).1, .int .i64 (kNot (evX l p0)).2]) ∧ Below w.heap.size w w' := by
  have hB : Below w.heap.size w (w.alloc (.cells #[.int .i64 5, .string (bs nm), .int .i64 6, .int .i64 wd, .int .u64 (v : Int), .slice xa 1 xc] 25)) := (Below.refl _ _).alloc (Nat.le_refl _) _
  have BX := World.alloc_heap_new w (.cells #[.int .i64 5, .string (bs nm), .int .i64 6, .int .i64 wd, .int .u64 (v : Int), .slice xa 1 xc] 25)
  have hk9 := Below.keptTo hB hn0
  have hin1 := hin.keep hk9 (fun x _ => XT.In.keep hk9 x)
  have hl1 := hl.keep hk9
  have hn1 := Nat.le_trans hn0 hB.size
  clear hin hl hn0 hk9
  have HI0 := Lib.hid ihp0
  clear ihp0
  obtain ⟨E0, hE0⟩ : ∃ E, evX l p0 = E := ⟨_, rfl⟩
  rw [hE0] at HI0 ⊢
  have HOK0 := Lib.hid (show KOk E0 by rw [← hE0]; exact evX_ok l p0)
  clear hE0
  obtain ⟨A0, F0⟩ := E0
  obtain ⟨R, hR⟩ : ∃ R, kNot (A0, F0) = R := ⟨_, rfl⟩
  have HR := Lib.hid hR
  rw [hR]
  clear hR
  go_enter Tryd.func24, Tryd.ntmps24
  go_upto_region 1 with (fail)
  generalize w.alloc (.cells #[.int .i64 5, .string (bs nm), .int .i64 6, .int .i64 wd, .int .u64 (v : Int), .slice xa 1 xc] 25) = w1 at *
  obtain ⟨b, o, he0, hb0, hr0, hx0⟩ := hin1.at (i := 0) (by simp)
  subst he0
  simp only [List.getElem_cons_zero, List.getElem_cons_succ, Nat.zero_mul, Nat.one_mul, Nat.add_zero, Nat.reduceMul] at hr0 hx0
  obtain ⟨op0, nm0, xn0, wd0, v0, xa0, xc0, xl0⟩ := p0
  have r00 : w1.cell? ⟨b, o, none⟩ = some (.int .i64 op0) := hr0 0 _ rfl
  have r01 : w1.cell? ⟨b, o + 1, none⟩ = some (.string (bs nm0)) := hr0 1 _ rfl
  have r02 : w1.cell? ⟨b, o + 2, none⟩ = some (.int .i64 xn0) := hr0 2 _ rfl
  have r03 : w1.cell? ⟨b, o + 3, none⟩ = some (.int .i64 wd0) := hr0 3 _ rfl
  have r04 : w1.cell? ⟨b, o + 4, none⟩ = some (.int .u64 (v0 : Int)) := hr0 4 _ rfl
  have r05 : w1.cell? ⟨b, o + 5, none⟩ = some (.slice xa0 xl0.length xc0) := hr0 5 _ rfl
  simp only [XT.val, XT.cells] at HI0
  have HX0 := Lib.hid hx0
  clear hr0 hx0
  have HL := Lib.hid hl1
  clear hl1 hin1
  obtain ⟨q0, q1, q2, q3, q4, q5⟩ := open6 BX
  go_wp2_with fail
  refine (HI0.out n0 _ hn1 HX0.out HL.out).mono ?_
  rintro e0 w2 ⟨rfl, hb⟩
  clear q0 q1 q2 q3 q4 q5
  have hk9 := Below.keptTo hb hn1
  replace BX := block_kept BX hb
  replace HL := Lib.hid (NRow.keep HL.out hk9)
  replace hn1 := Nat.le_trans hn1 hb.size
  replace hB := hB.trans (hb.mono hB.size)
  clear hk9 hb
  obtain ⟨q0, q1, q2, q3, q4, q5⟩ := open6 BX
  by_cases hf : F0 = 0
  · subst hf
    have HE : Hid (R = (kTruth (A0 == 0), 0)) := Lib.hid (by rw [← HR.out]; rfl)
    obtain ⟨q, hq⟩ : ∃ q, (A0 == 0) = q := ⟨_, rfl⟩
    rw [hq] at HE
    go_wp2_with fail
    refine (refbit_any q _).mono ?_
    rintro e w3 ⟨rfl, rfl⟩
    go_wp2
    go_ret2
    exact ⟨by rw [HE.out]; rfl, hB⟩
  · have d1 : (F0 != 0) = true := by simpa using hf
    have HE : Hid (R = (0, F0)) := Lib.hid (by rw [← HR.out]; unfold kNot; rw [if_neg hf])
    go_wp2
    go_ret2
    exact ⟨by rw [HE.out]; rfl, hB⟩

set_option maxHeartbeats 4000000 in
set_option maxRecDepth 100000 in
theorem refeval_pair (l : List NT) (a : Option Addr) (c : Nat) (nm : Bytes) (xn : Int) (wd : Int) (v : Nat) (xa : Option Addr) (xc : Nat) (p0 p1 : XT) (ihp0 : (∀ (n0 : Nat) (w : World), n0 ≤ w.heap.size → p0.In n0 w → NRow n0 w l a → Calls Tryd.prog 24 #[p0.val, .slice a l.length c] w fun e w' => e = .returned (.tuple #[.int .i64 (evX l p0).1, .int .i64 (evX l p0).2]) ∧ Below w.heap.size w w')) (ihp1 : (∀ (n0 : Nat) (w : World), n0 ≤ w.heap.size → p1.In n0 w → NRow n0 w l a → Calls Tryd.prog 24 #[p1.val, .slice a l.length c] w fun e w' => e = .returned (.tuple #[.int .i64 (evX l p1).1, .int .i64 (evX l p1).2]) ∧ Below w.heap.size w w')) (hn : 14 ≤ xn ∧ xn ≤ 26) (n0 : Nat) (w : World) (hn0 : n0 ≤ w.heap.size) (hin : InRow 6 XT.cells (XT.In n0 w) n0 w [p0, p1] xa) (hl : NRow n0 w l a) : Calls Tryd.prog 24 #[.agg #[.int .i64 6, .string (bs nm), .int .i64 xn, .int .i64 wd, .int .u64 (v : Int), .slice xa 2 xc], .slice a l.length c] w fun e w' => e = .returned (.tuple #[.int .i64 (kPair xn (evX l p0) (evX l p1)).1, .int .i64 (kPair xn (evX l p0) (evX l p1)).2]) ∧ Below w.heap.size w w' := by
  have hB : Below w.heap.size w (w.alloc (.cells #[.int .i64 6, .string (bs nm), .int .i64 xn, .int .i64 wd, .int .u64 (v : Int), .slice xa 2 xc] 25)) := (Below.refl _ _).alloc (Nat.le_refl _) _
  have BX := World.alloc_heap_new w (.cells #[.int .i64 6, .string (bs nm), .int .i64 xn, .int .i64 wd, .int .u64 (v : Int), .slice xa 2 xc] 25)
  have hk9 := Below.keptTo hB hn0
  have hin1 := hin.keep hk9 (fun x _ => XT.In.keep hk9 x)
  have hl1 := hl.keep hk9
  have hn1 := Nat.le_trans hn0 hB.size
  clear hin hl hn0 hk9
  have HI0 := Lib.hid ihp0
  clear ihp0
  obtain ⟨E0, hE0⟩ : ∃ E, evX l p0 = E := ⟨_, rfl⟩
  rw [hE0] at HI0 ⊢
  have HOK0 := Lib.hid (show KOk E0 by rw [← hE0]; exact evX_ok l p0)
  clear hE0
  obtain ⟨A0, F0⟩ := E0
  have HI1 := Lib.hid ihp1
  clear ihp1
  obtain ⟨E1, hE1⟩ : ∃ E, evX l p1 = E := ⟨_, rfl⟩
  rw [hE1] at HI1 ⊢
  have HOK1 := Lib.hid (show KOk E1 by rw [← hE1]; exact evX_ok l p1)
  clear hE1
  obtain ⟨A1, F1⟩ := E1
  obtain ⟨R, hR⟩ : ∃ R, kPair xn (A0, F0) (A1, F1) = R := ⟨_, rfl⟩
  have HR := Lib.hid hR
  rw [hR]
  clear hR
  go_enter Tryd.func24, Tryd.ntmps24
  go_upto_region 1 with (fail)
  generalize w.alloc (.cells #[.int .i64 6, .string (bs nm), .int .i64 xn, .int .i64 wd, .int .u64 (v : Int), .slice xa 2 xc] 25) = w1 at *
  obtain ⟨b, o, he0, hb0, hr0, hx0⟩ := hin1.at (i := 0) (by simp)
  obtain ⟨b1, o1, he1, hb1, hr1, hx1⟩ := hin1.at (i := 1) (by simp)
  obtain ⟨rfl, rfl⟩ : b = b1 ∧ o = o1 := by have := Option.some.inj (he0.symm.trans he1); injection this with h1 h2; exact ⟨h1, h2⟩
  subst he0
  simp only [List.getElem_cons_zero, List.getElem_cons_succ, Nat.zero_mul, Nat.one_mul, Nat.add_zero, Nat.reduceMul] at hr0 hx0 hr1 hx1
  clear he1 hb1
  obtain ⟨op0, nm0, xn0, wd0, v0, xa0, xc0, xl0⟩ := p0
  have r00 : w1.cell? ⟨b, o, none⟩ = some (.int .i64 op0) := hr0 0 _ rfl
  have r01 : w1.cell? ⟨b, o + 1, none⟩ = some (.string (bs nm0)) := hr0 1 _ rfl
  have r02 : w1.cell? ⟨b, o + 2, none⟩ = some (.int .i64 xn0) := hr0 2 _ rfl
  have r03 : w1.cell? ⟨b, o + 3, none⟩ = some (.int .i64 wd0) := hr0 3 _ rfl
  have r04 : w1.cell? ⟨b, o + 4, none⟩ = some (.int .u64 (v0 : Int)) := hr0 4 _ rfl
  have r05 : w1.cell? ⟨b, o + 5, none⟩ = some (.slice xa0 xl0.length xc0) := hr0 5 _ rfl
  simp only [XT.val, XT.cells] at HI0
  have HX0 := Lib.hid hx0
  clear hr0 hx0
  obtain ⟨op1, nm1, xn1, wd1, v1, xa1, xc1, xl1⟩ := p1
  have r10 : w1.cell? ⟨b, o + 6, none⟩ = some (.int .i64 op1) := hr1 0 _ rfl
  have r11 : w1.cell? ⟨b, o + 6 + 1, none⟩ = some (.string (bs nm1)) := hr1 1 _ rfl
  have r12 : w1.cell? ⟨b, o + 6 + 2, none⟩ = some (.int .i64 xn1) := hr1 2 _ rfl
  have r13 : w1.cell? ⟨b, o + 6 + 3, none⟩ = some (.int .i64 wd1) := hr1 3 _ rfl
  have r14 : w1.cell? ⟨b, o + 6 + 4, none⟩ = some (.int .u64 (v1 : Int)) := hr1 4 _ rfl
  have r15 : w1.cell? ⟨b, o + 6 + 5, none⟩ = some (.slice xa1 xl1.length xc1) := hr1 5 _ rfl
  simp only [XT.val, XT.cells] at HI1
  have HX1 := Lib.hid hx1
  clear hr1 hx1
  have HL := Lib.hid hl1
  clear hl1 hin1
  have d14 : decide (14 ≤ xn) = true := by simpa using hn.1
  have HN := Lib.hid hn
  clear hn
  obtain ⟨q0, q1, q2, q3, q4, q5⟩ := open6 BX
  go_wp2_with fail
  refine (HI0.out n0 _ hn1 HX0.out HL.out).mono ?_
  rintro e0 w2 ⟨rfl, hb⟩
  clear q0 q1 q2 q3 q4 q5
  have hk9 := Below.keptTo hb hn1
  replace BX := block_kept BX hb
  replace HX1 := Lib.hid (XT.In.keep hk9 _ HX1.out)
  replace r10 := keep_cell hb r10
  replace r11 := keep_cell hb r11
  replace r12 := keep_cell hb r12
  replace r13 := keep_cell hb r13
  replace r14 := keep_cell hb r14
  replace r15 := keep_cell hb r15
  replace HL := Lib.hid (NRow.keep HL.out hk9)
  replace hn1 := Nat.le_trans hn1 hb.size
  replace hB := hB.trans (hb.mono hB.size)
  clear hk9 hb
  obtain ⟨q0, q1, q2, q3, q4, q5⟩ := open6 BX
  by_cases hf0 : F0 = 0
  · subst hf0
    go_wp2_with fail
    refine (HI1.out n0 _ hn1 HX1.out HL.out).mono ?_
    rintro e1 w3 ⟨rfl, hb⟩
    clear q0 q1 q2 q3 q4 q5
    have hk9 := Below.keptTo hb hn1
    replace BX := block_kept BX hb
    replace HL := Lib.hid (NRow.keep HL.out hk9)
    replace hn1 := Nat.le_trans hn1 hb.size
    replace hB := hB.trans (hb.mono hB.size)
    clear hk9 hb
    obtain ⟨q0, q1, q2, q3, q4, q5⟩ := open6 BX
    by_cases hf1 : F1 = 0
    · subst hf1
      have HE : Hid (R = kConst (kTwo xn A0 A1)) := Lib.hid (by rw [← HR.out]; unfold kPair; rw [if_pos HN.out, if_pos rfl, if_pos rfl])
      go_wp2_with fail
      refine (reftwo_any xn A0 A1 HN.out.1 HN.out.2 HOK0.out.1 HOK0.out.2.1 HOK1.out.1 HOK1.out.2.1 _).mono ?_
      rintro e w4 ⟨v9, rfl, hv9, rfl⟩
      have HV := Lib.hid hv9
      clear hv9
      go_wp2_with fail
      refine (refwithin_any v9 _).mono ?_
      rintro e w5 ⟨rfl, rfl⟩
      go_wp2
      go_ret2
      exact ⟨by rw [HE.out, ← HV.out]; rfl, hB⟩
    · have d1 : (F1 != 0) = true := by simpa using hf1
      have HE : Hid (R = (0, F1)) := Lib.hid (by rw [← HR.out]; unfold kPair; rw [if_pos HN.out, if_pos rfl, if_neg hf1])
      go_wp2
      go_ret2
      exact ⟨by rw [HE.out]; rfl, hB⟩
  · have d1 : (F0 != 0) = true := by simpa using hf0
    have HE : Hid (R = (0, F0)) := Lib.hid (by rw [← HR.out]; unfold kPair; rw [if_pos HN.out, if_neg hf0])
    go_wp2
    go_ret2
    exact ⟨by rw [HE.out]; rfl, hB⟩

set_option maxHeartbeats 4000000 in
set_option maxRecDepth 100000 in
theorem refeval_cond (l : List NT) (a : Option Addr) (c : Nat) (nm : Bytes) (xn : Int) (wd : Int) (v : Nat) (xa : Option Addr) (xc : Nat) (p0 p1 p2 : XT) (ihp0 : (∀ (n0 : Nat) (w : World), n0 ≤ w.heap.size → p0.In n0 w → NRow n0 w l a → Calls Tryd.prog 24 #[p0.val, .slice a l.length c] w fun e w' => e = .returned (.tuple #[.int .i64 (evX l p0).1, .int .i64 (evX l p0).2]) ∧ Below w.heap.size w w')) (ihp1 : (∀ (n0 : Nat) (w : World), n0 ≤ w.heap.size → p1.In n0 w → NRow n0 w l a → Calls Tryd.prog 24 #[p1.val, .slice a l.length c] w fun e w' => e = .returned (.tuple #[.int .i64 (evX l p1).1, .int .i64 (evX l p1).2]) ∧ Below w.heap.size w w')) (ihp2 : (∀ (n0 : Nat) (w : World), n0 ≤ w.heap.size → p2.In n0 w → NRow n0 w l a → Calls Tryd.prog 24 #[p2.val, .slice a l.length c] w fun e w' => e = .returned (.tuple #[.int .i64 (evX l p2).1, .int .i64 (evX l p2).2]) ∧ Below w.heap.size w w'))  (n0 : Nat) (w : World) (hn0 : n0 ≤ w.heap.size) (hin : InRow 6 XT.cells (XT.In n0 w) n0 w [p0, p1, p2] xa) (hl : NRow n0 w l a) : Calls Tryd.prog 24 #[.agg #[.int .i64 7, .string (bs nm), .int .i64 xn, .int .i64 wd, .int .u64 (v : Int), .slice xa 3 xc], .slice a l.length c] w fun e w' => e = .returned (.tuple #[.int .i64 (kCond (evX l p0) (evX l p1) (evX l p2)).1, .int .i64 (kCond (evX l p0) (evX l p1) (evX l p2)).2]) ∧ Below w.heap.size w w' := by
  have hB : Below w.heap.size w (w.alloc (.cells #[.int .i64 7, .string (bs nm), .int .i64 xn, .int .i64 wd, .int .u64 (v : Int), .slice xa 3 xc] 25)) := (Below.refl _ _).alloc (Nat.le_refl _) _
  have BX := World.alloc_heap_new w (.cells #[.int .i64 7, .string (bs nm), .int .i64 xn, .int .i64 wd, .int .u64 (v : Int), .slice xa 3 xc] 25)
  have hk9 := Below.keptTo hB hn0
  have hin1 := hin.keep hk9 (fun x _ => XT.In.keep hk9 x)
  have hl1 := hl.keep hk9
  have hn1 := Nat.le_trans hn0 hB.size
  clear hin hl hn0 hk9
  have HI0 := Lib.hid ihp0
  clear ihp0
  obtain ⟨E0, hE0⟩ : ∃ E, evX l p0 = E := ⟨_, rfl⟩
  rw [hE0] at HI0 ⊢
  have HOK0 := Lib.hid (show KOk E0 by rw [← hE0]; exact evX_ok l p0)
  clear hE0
  obtain ⟨A0, F0⟩ := E0
  have HI1 := Lib.hid ihp1
  clear ihp1
  obtain ⟨E1, hE1⟩ : ∃ E, evX l p1 = E := ⟨_, rfl⟩
  rw [hE1] at HI1 ⊢
  have HOK1 := Lib.hid (show KOk E1 by rw [← hE1]; exact evX_ok l p1)
  clear hE1
  obtain ⟨A1, F1⟩ := E1
  have HI2 := Lib.hid ihp2
  clear ihp2
  obtain ⟨E2, hE2⟩ : ∃ E, evX l p2 = E := ⟨_, rfl⟩
  rw [hE2] at HI2 ⊢
  have HOK2 := Lib.hid (show KOk E2 by rw [← hE2]; exact evX_ok l p2)
  clear hE2
  obtain ⟨A2, F2⟩ := E2
  obtain ⟨R, hR⟩ : ∃ R, kCond (A0, F0) (A1, F1) (A2, F2) = R := ⟨_, rfl⟩
  have HR := Lib.hid hR
  rw [hR]
  clear hR
  go_enter Tryd.func24, Tryd.ntmps24
  go_upto_region 1 with (fail)
  generalize w.alloc (.cells #[.int .i64 7, .string (bs nm), .int .i64 xn, .int .i64 wd, .int .u64 (v : Int), .slice xa 3 xc] 25) = w1 at *
  obtain ⟨b, o, he0, hb0, hr0, hx0⟩ := hin1.at (i := 0) (by simp)
  obtain ⟨b1, o1, he1, hb1, hr1, hx1⟩ := hin1.at (i := 1) (by simp)
  obtain ⟨rfl, rfl⟩ : b = b1 ∧ o = o1 := by have := Option.some.inj (he0.symm.trans he1); injection this with h1 h2; exact ⟨h1, h2⟩
  obtain ⟨b2, o2, he2, hb2, hr2, hx2⟩ := hin1.at (i := 2) (by simp)
  obtain ⟨rfl, rfl⟩ : b = b2 ∧ o = o2 := by have := Option.some.inj (he0.symm.trans he2); injection this with h1 h2; exact ⟨h1, h2⟩
  subst he0
  simp only [List.getElem_cons_zero, List.getElem_cons_succ, Nat.zero_mul, Nat.one_mul, Nat.add_zero, Nat.reduceMul] at hr0 hx0 hr1 hx1 hr2 hx2
  clear he1 hb1 he2 hb2
  obtain ⟨op0, nm0, xn0, wd0, v0, xa0, xc0, xl0⟩ := p0
  have r00 : w1.cell? ⟨b, o, none⟩ = some (.int .i64 op0) := hr0 0 _ rfl
  have r01 : w1.cell? ⟨b, o + 1, none⟩ = some (.string (bs nm0)) := hr0 1 _ rfl
  have r02 : w1.cell? ⟨b, o + 2, none⟩ = some (.int .i64 xn0) := hr0 2 _ rfl
  have r03 : w1.cell? ⟨b, o + 3, none⟩ = some (.int .i64 wd0) := hr0 3 _ rfl
  have r04 : w1.cell? ⟨b, o + 4, none⟩ = some (.int .u64 (v0 : Int)) := hr0 4 _ rfl
  have r05 : w1.cell? ⟨b, o + 5, none⟩ = some (.slice xa0 xl0.length xc0) := hr0 5 _ rfl
  simp only [XT.val, XT.cells] at HI0
  have HX0 := Lib.hid hx0
  clear hr0 hx0
  obtain ⟨op1, nm1, xn1, wd1, v1, xa1, xc1, xl1⟩ := p1
  have r10 : w1.cell? ⟨b, o + 6, none⟩ = some (.int .i64 op1) := hr1 0 _ rfl
  have r11 : w1.cell? ⟨b, o + 6 + 1, none⟩ = some (.string (bs nm1)) := hr1 1 _ rfl
  have r12 : w1.cell? ⟨b, o + 6 + 2, none⟩ = some (.int .i64 xn1) := hr1 2 _ rfl
  have r13 : w1.cell? ⟨b, o + 6 + 3, none⟩ = some (.int .i64 wd1) := hr1 3 _ rfl
  have r14 : w1.cell? ⟨b, o + 6 + 4, none⟩ = some (.int .u64 (v1 : Int)) := hr1 4 _ rfl
  have r15 : w1.cell? ⟨b, o + 6 + 5, none⟩ = some (.slice xa1 xl1.length xc1) := hr1 5 _ rfl
  simp only [XT.val, XT.cells] at HI1
  have HX1 := Lib.hid hx1
  clear hr1 hx1
  obtain ⟨op2, nm2, xn2, wd2, v2, xa2, xc2, xl2⟩ := p2
  have r20 : w1.cell? ⟨b, o + 12, none⟩ = some (.int .i64 op2) := hr2 0 _ rfl
  have r21 : w1.cell? ⟨b, o + 12 + 1, none⟩ = some (.string (bs nm2)) := hr2 1 _ rfl
  have r22 : w1.cell? ⟨b, o + 12 + 2, none⟩ = some (.int .i64 xn2) := hr2 2 _ rfl
  have r23 : w1.cell? ⟨b, o + 12 + 3, none⟩ = some (.int .i64 wd2) := hr2 3 _ rfl
  have r24 : w1.cell? ⟨b, o + 12 + 4, none⟩ = some (.int .u64 (v2 : Int)) := hr2 4 _ rfl
  have r25 : w1.cell? ⟨b, o + 12 + 5, none⟩ = some (.slice xa2 xl2.length xc2) := hr2 5 _ rfl
  simp only [XT.val, XT.cells] at HI2
  have HX2 := Lib.hid hx2
  clear hr2 hx2
  have HL := Lib.hid hl1
  clear hl1 hin1
  obtain ⟨q0, q1, q2, q3, q4, q5⟩ := open6 BX
  go_wp2_with fail
  refine (HI0.out n0 _ hn1 HX0.out HL.out).mono ?_
  rintro e0 w2 ⟨rfl, hb⟩
  clear q0 q1 q2 q3 q4 q5
  have hk9 := Below.keptTo hb hn1
  replace BX := block_kept BX hb
  replace HX1 := Lib.hid (XT.In.keep hk9 _ HX1.out)
  replace r10 := keep_cell hb r10
  replace r11 := keep_cell hb r11
  replace r12 := keep_cell hb r12
  replace r13 := keep_cell hb r13
  replace r14 := keep_cell hb r14
  replace r15 := keep_cell hb r15
  replace HX2 := Lib.hid (XT.In.keep hk9 _ HX2.out)
  replace r20 := keep_cell hb r20
  replace r21 := keep_cell hb r21
  replace r22 := keep_cell hb r22
  replace r23 := keep_cell hb r23
  replace r24 := keep_cell hb r24
  replace r25 := keep_cell hb r25
  replace HL := Lib.hid (NRow.keep HL.out hk9)
  replace hn1 := Nat.le_trans hn1 hb.size
  replace hB := hB.trans (hb.mono hB.size)
  clear hk9 hb
  obtain ⟨q0, q1, q2, q3, q4, q5⟩ := open6 BX
  by_cases hf0 : F0 = 0
  · subst hf0
    by_cases h0 : A0 = 0
    · subst h0
      have HE : Hid (R = (A2, F2)) := Lib.hid (by rw [← HR.out]; unfold kCond; rw [if_pos rfl, if_pos rfl])
      go_wp2_with fail
      refine (HI2.out n0 _ hn1 HX2.out HL.out).mono ?_
      rintro e3 w3 ⟨rfl, hb⟩
      have hB3 := hB.trans (hb.mono hB.size)
      clear hb
      go_wp2
      go_ret2
      exact ⟨by rw [HE.out]; rfl, hB3⟩
    · have d2 : (A0 != 0) = true := by simpa using h0
      have HE : Hid (R = (A1, F1)) := Lib.hid (by rw [← HR.out]; unfold kCond; rw [if_pos rfl, if_neg h0])
      go_wp2_with fail
      refine (HI1.out n0 _ hn1 HX1.out HL.out).mono ?_
      rintro e3 w3 ⟨rfl, hb⟩
      have hB3 := hB.trans (hb.mono hB.size)
      clear hb
      go_wp2
      go_ret2
      exact ⟨by rw [HE.out]; rfl, hB3⟩
  · have d1 : (F0 != 0) = true := by simpa using hf0
    have HE : Hid (R = (0, F0)) := Lib.hid (by rw [← HR.out]; unfold kCond; rw [if_neg hf0])
    go_wp2
    go_ret2
    exact ⟨by rw [HE.out]; rfl, hB⟩

set_option maxHeartbeats 2000000 in
set_option maxRecDepth 100000 in
theorem refeval_num1 (l : List NT) (hll : l.length ≤ 4000000) (a : Option Addr) (c : Nat) (nm : Bytes) (xn : Int) (wd : Int) (v : Nat) (xa : Option Addr) (n5 xc : Nat) (hw : wd ≠ 0) (n0 : Nat) (w : World) (hn0 : n0 ≤ w.heap.size) (hl : NRow n0 w l a) : Calls Tryd.prog 24 #[.agg #[.int .i64 1, .string (bs nm), .int .i64 xn, .int .i64 wd, .int .u64 (v : Int), .slice xa n5 xc], .slice a l.length c] w fun e w' => e = .returned (.tuple #[.int .i64 (((0 : Int), (61 : Int))).1, .int .i64 (((0 : Int), (61 : Int))).2]) ∧ Below w.heap.size w w' := by
  have hB : Below w.heap.size w (w.alloc (.cells #[.int .i64 1, .string (bs nm), .int .i64 xn, .int .i64 wd, .int .u64 (v : Int), .slice xa n5 xc] 25)) := (Below.refl _ _).alloc (Nat.le_refl _) _
  have BX := World.alloc_heap_new w (.cells #[.int .i64 1, .string (bs nm), .int .i64 xn, .int .i64 wd, .int .u64 (v : Int), .slice xa n5 xc] 25)
  have hl1 := hl.keep (Below.keptTo hB hn0)
  have hn1 := Nat.le_trans hn0 hB.size
  obtain ⟨R, hR⟩ : ∃ R, ((0 : Int), (61 : Int)) = R := ⟨_, rfl⟩
  have HR := Lib.hid hR
  rw [hR]
  clear hl hn0 hR
  have d1 : (wd != 0) = true := by simpa using hw
  have HE : Hid (R = (0, 61)) := Lib.hid HR.out.symm
  go_enter Tryd.func24, Tryd.ntmps24
  go_upto_region 1 with (fail)
  generalize w.alloc (.cells #[.int .i64 1, .string (bs nm), .int .i64 xn, .int .i64 wd, .int .u64 (v : Int), .slice xa n5 xc] 25) = w1 at *
  obtain ⟨q0, q1, q2, q3, q4, q5⟩ := open6 BX
  go_wp2
  go_ret2
  exact ⟨by rw [HE.out]; rfl, hB⟩

set_option maxHeartbeats 2000000 in
set_option maxRecDepth 100000 in
theorem refeval_num2 (l : List NT) (hll : l.length ≤ 4000000) (a : Option Addr) (c : Nat) (nm : Bytes) (xn : Int) (v : Nat) (xa : Option Addr) (n5 xc : Nat) (hv : 2147483647 < v) (n0 : Nat) (w : World) (hn0 : n0 ≤ w.heap.size) (hl : NRow n0 w l a) : Calls Tryd.prog 24 #[.agg #[.int .i64 1, .string (bs nm), .int .i64 xn, .int .i64 0, .int .u64 (v : Int), .slice xa n5 xc], .slice a l.length c] w fun e w' => e = .returned (.tuple #[.int .i64 (((0 : Int), (62 : Int))).1, .int .i64 (((0 : Int), (62 : Int))).2]) ∧ Below w.heap.size w w' := by
  have hB : Below w.heap.size w (w.alloc (.cells #[.int .i64 1, .string (bs nm), .int .i64 xn, .int .i64 0, .int .u64 (v : Int), .slice xa n5 xc] 25)) := (Below.refl _ _).alloc (Nat.le_refl _) _
  have BX := World.alloc_heap_new w (.cells #[.int .i64 1, .string (bs nm), .int .i64 xn, .int .i64 0, .int .u64 (v : Int), .slice xa n5 xc] 25)
  have hl1 := hl.keep (Below.keptTo hB hn0)
  have hn1 := Nat.le_trans hn0 hB.size
  obtain ⟨R, hR⟩ : ∃ R, ((0 : Int), (62 : Int)) = R := ⟨_, rfl⟩
  have HR := Lib.hid hR
  rw [hR]
  clear hl hn0 hR
  have d1 : decide (2147483647 < (v : Int)) = true := by rw [decide_eq_true_eq]; omega
  have HE : Hid (R = (0, 62)) := Lib.hid HR.out.symm
  go_enter Tryd.func24, Tryd.ntmps24
  go_upto_region 1 with (fail)
  generalize w.alloc (.cells #[.int .i64 1, .string (bs nm), .int .i64 xn, .int .i64 0, .int .u64 (v : Int), .slice xa n5 xc] 25) = w1 at *
  obtain ⟨q0, q1, q2, q3, q4, q5⟩ := open6 BX
  go_wp2
  go_ret2
  exact ⟨by rw [HE.out]; rfl, hB⟩

set_option maxHeartbeats 2000000 in
set_option maxRecDepth 100000 in
theorem refeval_num3 (l : List NT) (hll : l.length ≤ 4000000) (a : Option Addr) (c : Nat) (nm : Bytes) (xn : Int) (v : Nat) (xa : Option Addr) (n5 xc : Nat) (hv : v ≤ 2147483647) (n0 : Nat) (w : World) (hn0 : n0 ≤ w.heap.size) (hl : NRow n0 w l a) : Calls Tryd.prog 24 #[.agg #[.int .i64 1, .string (bs nm), .int .i64 xn, .int .i64 0, .int .u64 (v : Int), .slice xa n5 xc], .slice a l.length c] w fun e w' => e = .returned (.tuple #[.int .i64 (((v : Int), (0 : Int))).1, .int .i64 (((v : Int), (0 : Int))).2]) ∧ Below w.heap.size w w' := by
  have hB : Below w.heap.size w (w.alloc (.cells #[.int .i64 1, .string (bs nm), .int .i64 xn, .int .i64 0, .int .u64 (v : Int), .slice xa n5 xc] 25)) := (Below.refl _ _).alloc (Nat.le_refl _) _
  have BX := World.alloc_heap_new w (.cells #[.int .i64 1, .string (bs nm), .int .i64 xn, .int .i64 0, .int .u64 (v : Int), .slice xa n5 xc] 25)
  have hl1 := hl.keep (Below.keptTo hB hn0)
  have hn1 := Nat.le_trans hn0 hB.size
  obtain ⟨R, hR⟩ : ∃ R, ((v : Int), (0 : Int)) = R := ⟨_, rfl⟩
  have HR := Lib.hid hR
  rw [hR]
  clear hl hn0 hR
  have d1 : decide (2147483647 < (v : Int)) = false := by rw [decide_eq_false_iff_not]; omega
  have hw : IntKind.i64.wrap (v : Int) = v := IntWalk.i64_in _ (by omega)
  have hw2 : wrap64 (v : Int) = v := by first | exact hw | (unfold wrap64; omega)
  have HE : Hid (R = ((v : Int), 0)) := Lib.hid HR.out.symm
  go_enter Tryd.func24, Tryd.ntmps24
  go_upto_region 1 with (fail)
  generalize w.alloc (.cells #[.int .i64 1, .string (bs nm), .int .i64 xn, .int .i64 0, .int .u64 (v : Int), .slice xa n5 xc] 25) = w1 at *
  obtain ⟨q0, q1, q2, q3, q4, q5⟩ := open6 BX
  go_wp2
  go_ret2
  exact ⟨by rw [HE.out]; rfl, hB⟩

set_option maxHeartbeats 2000000 in
set_option maxRecDepth 100000 in
theorem refeval_name (l : List NT) (hll : l.length ≤ 4000000) (a : Option Addr) (c : Nat) (nm : Bytes) (xn : Int) (wd : Int) (v : Nat) (xa : Option Addr) (n5 xc : Nat)  (n0 : Nat) (w : World) (hn0 : n0 ≤ w.heap.size) (hl : NRow n0 w l a) : Calls Tryd.prog 24 #[.agg #[.int .i64 2, .string (bs nm), .int .i64 xn, .int .i64 wd, .int .u64 (v : Int), .slice xa n5 xc], .slice a l.length c] w fun e w' => e = .returned (.tuple #[.int .i64 (kNamed l nm).1, .int .i64 (kNamed l nm).2]) ∧ Below w.heap.size w w' := by
  have hB : Below w.heap.size w (w.alloc (.cells #[.int .i64 2, .string (bs nm), .int .i64 xn, .int .i64 wd, .int .u64 (v : Int), .slice xa n5 xc] 25)) := (Below.refl _ _).alloc (Nat.le_refl _) _
  have BX := World.alloc_heap_new w (.cells #[.int .i64 2, .string (bs nm), .int .i64 xn, .int .i64 wd, .int .u64 (v : Int), .slice xa n5 xc] 25)
  have hl1 := hl.keep (Below.keptTo hB hn0)
  have hn1 := Nat.le_trans hn0 hB.size
  obtain ⟨R, hR⟩ : ∃ R, kNamed l nm = R := ⟨_, rfl⟩
  have HR := Lib.hid hR
  rw [hR]
  clear hl hn0 hR
  have HLK := Lib.hid (fun (W : World) h1 h2 => refLookup_any l hll nm a c n0 W h1 h2)
  obtain ⟨o, ho⟩ : ∃ o, findN l nm = o := ⟨_, rfl⟩
  rw [ho] at HLK
  have HE0 : Hid (R = kOpt o) := Lib.hid (by rw [← HR.out, ← ho]; rfl)
  clear ho HR
  go_enter Tryd.func24, Tryd.ntmps24
  go_upto_region 1 with (fail)
  generalize w.alloc (.cells #[.int .i64 2, .string (bs nm), .int .i64 xn, .int .i64 wd, .int .u64 (v : Int), .slice xa n5 xc] 25) = w1 at *
  obtain ⟨q0, q1, q2, q3, q4, q5⟩ := open6 BX
  go_wp2_with fail
  refine (HLK.out _ hn1 hl1).mono ?_
  rintro e w2 ⟨rfl, rfl⟩
  cases o with
  | none =>
    have HE : Hid (R = (0, 60)) := Lib.hid HE0.out
    simp only [Option.getD_none, Option.isSome_none]
    go_wp2
    go_ret2
    exact ⟨by rw [HE.out]; rfl, hB⟩
  | some n =>
    have HE : Hid (R = kConst n) := Lib.hid HE0.out
    simp only [Option.getD_some, Option.isSome_some]
    go_wp2_with fail
    refine (refwithin_any n _).mono ?_
    rintro e w3 ⟨rfl, rfl⟩
    go_wp2
    go_ret2
    exact ⟨by rw [HE.out]; rfl, hB⟩

set_option maxHeartbeats 2000000 in
set_option maxRecDepth 100000 in
theorem refeval_no (l : List NT) (hll : l.length ≤ 4000000) (a : Option Addr) (c : Nat) (op : Int) (nm : Bytes) (xn : Int) (wd : Int) (v : Nat) (xa : Option Addr) (n5 xc : Nat) (h1 : op ≠ 1) (h2 : op ≠ 2) (h5 : ¬ (op = 5 ∧ xn = 6)) (h6 : ¬ (op = 6 ∧ 14 ≤ xn)) (h7 : op ≠ 7) (n0 : Nat) (w : World) (hn0 : n0 ≤ w.heap.size) (hl : NRow n0 w l a) : Calls Tryd.prog 24 #[.agg #[.int .i64 op, .string (bs nm), .int .i64 xn, .int .i64 wd, .int .u64 (v : Int), .slice xa n5 xc], .slice a l.length c] w fun e w' => e = .returned (.tuple #[.int .i64 (((0 : Int), (61 : Int))).1, .int .i64 (((0 : Int), (61 : Int))).2]) ∧ Below w.heap.size w w' := by
  have hB : Below w.heap.size w (w.alloc (.cells #[.int .i64 op, .string (bs nm), .int .i64 xn, .int .i64 wd, .int .u64 (v : Int), .slice xa n5 xc] 25)) := (Below.refl _ _).alloc (Nat.le_refl _) _
  have BX := World.alloc_heap_new w (.cells #[.int .i64 op, .string (bs nm), .int .i64 xn, .int .i64 wd, .int .u64 (v : Int), .slice xa n5 xc] 25)
  have hl1 := hl.keep (Below.keptTo hB hn0)
  have hn1 := Nat.le_trans hn0 hB.size
  obtain ⟨R, hR⟩ : ∃ R, ((0 : Int), (61 : Int)) = R := ⟨_, rfl⟩
  have HR := Lib.hid hR
  rw [hR]
  clear hl hn0 hR
  have HE : Hid (R = (0, 61)) := Lib.hid HR.out.symm
  have d1 : (op == 1) = false := by simpa using h1
  have d2 : (op == 2) = false := by simpa using h2
  have d7 : (op == 7) = false := by simpa using h7
  clear HR
  go_enter Tryd.func24, Tryd.ntmps24
  go_upto_region 1 with (fail)
  generalize w.alloc (.cells #[.int .i64 op, .string (bs nm), .int .i64 xn, .int .i64 wd, .int .u64 (v : Int), .slice xa n5 xc] 25) = w1 at *
  obtain ⟨q0, q1, q2, q3, q4, q5⟩ := open6 BX
  by_cases g5 : op = 5
  · subst g5
    have d5 : (xn == 6) = false := by rw [beq_eq_false_iff_ne]; intro h; exact h5 ⟨rfl, h⟩
    clear h1 h2 h5 h6 h7
    go_wp2
    go_ret2
    exact ⟨by rw [HE.out]; rfl, hB⟩
  · have d5 : (op == 5) = false := by simpa using g5
    by_cases g6 : op = 6
    · subst g6
      have d6 : decide (14 ≤ xn) = false := by rw [decide_eq_false_iff_not]; intro h; exact h6 ⟨rfl, h⟩
      clear h1 h2 h5 h6 h7
      go_wp2
      go_ret2
      exact ⟨by rw [HE.out]; rfl, hB⟩
    · have d6 : (op == 6) = false := by simpa using g6
      clear h1 h2 h5 h6 h7
      go_wp2
      go_ret2
      exact ⟨by rw [HE.out]; rfl, hB⟩

theorem refeval_any (l : List NT) (hll : l.length ≤ 4000000) (a : Option Addr) (c : Nat) : ∀ x : XT, x.Wf → mayX x = true → ∀ (n0 : Nat) (w : World), n0 ≤ w.heap.size → x.In n0 w → NRow n0 w l a → Calls Tryd.prog 24 #[x.val, .slice a l.length c] w fun e w' => e = .returned (.tuple #[.int .i64 (evX l x).1, .int .i64 (evX l x).2]) ∧ Below w.heap.size w w' := by
  refine XT.ind ?_
  intro op nm xn wd v xa xc xl ih hwf hmay n0 w hn0 hin hl
  rw [XT.In_mk] at hin
  rw [XT.wf_mk] at hwf
  rw [evX_mk]
  obtain ⟨hp, _, _, hp4, hp5, _⟩ := mayX_parts hmay
  have IH := fun y (hy : y ∈ xl) => ih y hy (hwf.2 y hy) (hp y hy)
  by_cases h1 : op = 1
  · subst h1
    have e1 : kNode l 1 nm xn wd v (xl.map (evX l)) = if wd = 0 then kNum v else (0, 61) := by unfold kNode; rw [if_pos rfl]
    rw [e1]
    by_cases hw : wd = 0
    · subst hw
      rw [if_pos rfl]
      unfold kNum
      by_cases hv : v ≤ 2147483647
      · rw [if_pos hv]
        exact refeval_num3 l hll a c nm xn v xa xl.length xc hv n0 w hn0 hl
      · rw [if_neg hv]
        exact refeval_num2 l hll a c nm xn v xa xl.length xc (by omega) n0 w hn0 hl
    · rw [if_neg hw]
      exact refeval_num1 l hll a c nm xn wd v xa xl.length xc hw n0 w hn0 hl
  by_cases h2 : op = 2
  · subst h2
    have e2 : kNode l 2 nm xn wd v (xl.map (evX l)) = kNamed l nm := by unfold kNode; rw [if_neg (by decide), if_pos rfl]
    rw [e2]
    exact refeval_name l hll a c nm xn wd v xa xl.length xc n0 w hn0 hl
  by_cases h5 : op = 5 ∧ xn = 6
  · obtain ⟨rfl, rfl⟩ := h5
    obtain ⟨y, rfl, _⟩ := may5 hmay
    have e5 : kNode l 5 nm 6 wd v ([y].map (evX l)) = kNot (evX l y) := by unfold kNode; rw [if_neg (by decide), if_neg (by decide), if_pos rfl, if_pos rfl]; rfl
    rw [e5]
    exact refeval_not l a c nm wd v xa xc y (IH y (by simp)) n0 w hn0 hin hl
  by_cases h6 : op = 6 ∧ 14 ≤ xn
  · obtain ⟨rfl, h14⟩ := h6
    obtain ⟨y, z, rfl, _⟩ := may6 hmay
    have e6 : kNode l 6 nm xn wd v ([y, z].map (evX l)) = kPair xn (evX l y) (evX l z) := by unfold kNode; rw [if_neg (by decide), if_neg (by decide), if_neg (by decide), if_pos rfl]; rfl
    rw [e6]
    exact refeval_pair l a c nm xn wd v xa xc y z (IH y (by simp)) (IH z (by simp)) ⟨h14, hp5⟩ n0 w hn0 hin hl
  by_cases h7 : op = 7
  · subst h7
    obtain ⟨x, y, z, rfl, _⟩ := may7 hmay
    have e7 : kNode l 7 nm xn wd v ([x, y, z].map (evX l)) = kCond (evX l x) (evX l y) (evX l z) := by unfold kNode; rw [if_neg (by decide), if_neg (by decide), if_neg (by decide), if_neg (by decide), if_pos rfl]; rfl
    rw [e7]
    exact refeval_cond l a c nm xn wd v xa xc x y z (IH x (by simp)) (IH y (by simp)) (IH z (by simp)) n0 w hn0 hin hl
  have e9 : kNode l op nm xn wd v (xl.map (evX l)) = (0, 61) := by
    unfold kNode
    rw [if_neg h1, if_neg h2]
    by_cases g5 : op = 5
    · rw [if_pos g5, if_neg (fun h => h5 ⟨g5, h⟩)]
    · rw [if_neg g5]
      by_cases g6 : op = 6
      · rw [if_pos g6]
        unfold kPair
        rw [if_neg (fun h => h6 ⟨g6, h.1⟩)]
      · rw [if_neg g6, if_neg h7]
  rw [e9]
  exact refeval_no l hll a c op nm xn wd v xa xl.length xc h1 h2 h5 h6 h7 n0 w hn0 hl
set_option maxHeartbeats 4000000 in
set_option maxRecDepth 100000 in
theorem refEval_any (x : XT) (hbk : x.bk ≤ 1500000) (hwf : x.Wf) (l : List NT) (hll : l.length ≤ 4000000) (a : Option Addr) (c n0 : Nat) (w : World) (hn0 : n0 ≤ w.heap.size) (hx : x.In n0 w) (hl : NRow n0 w l a) : Calls Tryd.prog 8 #[x.val, .slice a l.length c] w fun e w' => e = .returned (.tuple #[.int .i64 (evalK l x).1, .int .i64 (evalK l x).2]) ∧ Below w.heap.size w w' := by
  have HC := fun (w' : World) h1 h2 => refcheckX_any x hbk hwf n0 w' h1 h2
  have HI : Hid (evalK l x = if checkX x = 0 then evX l x else (0, 1)) := Lib.hid rfl
  have HV := fun (h : checkX x = 0) => refeval_any l hll a c x hwf (check_may h)
  generalize checkX x = C at *
  generalize evX l x = E at *
  generalize evalK l x = R at *
  obtain ⟨op, nm, xn, wd, v, xa, xc, xl⟩ := x
  simp only [XT.val, XT.cells] at HC HV ⊢
  have HV2 := Lib.hid HV
  have HC2 := Lib.hid HC
  have hB : Below w.heap.size w (w.alloc (.cells #[.int .i64 op, .string (bs nm), .int .i64 xn, .int .i64 wd, .int .u64 (v : Int), .slice xa xl.length xc] 25)) := (Below.refl _ _).alloc (Nat.le_refl _) _
  have BX := World.alloc_heap_new w (.cells #[.int .i64 op, .string (bs nm), .int .i64 xn, .int .i64 wd, .int .u64 (v : Int), .slice xa xl.length xc] 25)
  have hk9 := Below.keptTo hB hn0
  have hx1 := XT.In.keep hk9 _ hx
  have hl1 := hl.keep hk9
  have hn1 := Nat.le_trans hn0 hB.size
  clear HV HC hx hl hn0 hk9 hbk hwf
  go_enter Tryd.func8, Tryd.ntmps8
  go_upto_region 1 with (fail)
  generalize w.alloc (.cells #[.int .i64 op, .string (bs nm), .int .i64 xn, .int .i64 wd, .int .u64 (v : Int), .slice xa xl.length xc] 25) = w1 at *
  obtain ⟨q0, q1, q2, q3, q4, q5⟩ := open6 BX
  go_wp2_with fail
  refine (HC2.out _ hn1 hx1).mono ?_
  rintro e w2 ⟨rfl, hb⟩
  clear q0 q1 q2 q3 q4 q5
  have hk9 := Below.keptTo hb hn1
  replace BX := block_kept BX hb
  replace hx1 := XT.In.keep hk9 _ hx1
  replace hl1 := hl1.keep hk9
  replace hn1 := Nat.le_trans hn1 hb.size
  replace hB := hB.trans (hb.mono hB.size)
  clear hk9 hb HC2
  obtain ⟨q0, q1, q2, q3, q4, q5⟩ := open6 BX
  by_cases hC : C = 0
  · have HE : Hid (R = E) := Lib.hid (by rw [HI.out, if_pos hC])
    have HV3 := Lib.hid (HV2.out hC)
    subst hC
    clear HV2 HI
    go_wp2_with fail
    refine (HV3.out n0 _ hn1 hx1 hl1).mono ?_
    rintro e w3 ⟨rfl, hb⟩
    have hB3 := hB.trans (hb.mono hB.size)
    clear hb
    go_wp2
    go_ret2
    exact ⟨by rw [HE.out]; rfl, hB3⟩
  · have d1 : (C != 0) = true := by simpa using hC
    have HE : Hid (R = (0, 1)) := Lib.hid (by rw [HI.out, if_neg hC])
    clear HV2 HI
    go_wp2
    go_ret2
    exact ⟨by rw [HE.out]; rfl, hB⟩
end Go.Proofs.YtlbjmnakiflfpaaDoor
