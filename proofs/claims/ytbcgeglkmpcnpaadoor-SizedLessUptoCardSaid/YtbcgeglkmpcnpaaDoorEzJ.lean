/-
  sized: a copy shares no row with what it is of: copyAll, copyE.
-/
import Derived.Test.YtbcgeglkmpcnpaaDoorEzI
namespace Go.Proofs.YtbcgeglkmpcnpaaDoor
open Go Go.RowKit
set_option linter.unusedVariables false
set_option linter.unusedSimpArgs false
open Go.Sort

/-- What a call that copies a row gives. -/
def CpL (l : List ET) (w : World) : Ending → World → Prop := fun e w' => ∃ (a : Option Addr) (c : Nat) (ys : List ET), e = .returned (.slice a ys.length c) ∧ nrmEL ys = nrmEL l ∧ OwnRow w' w.heap.size w'.heap.size a c ys ∧ Below w.heap.size w w'
def CpE (x : ET) (w : World) : Ending → World → Prop := fun e w' => ∃ y : ET, e = .returned y.val ∧ nrmE y = nrmE x ∧ y.Own w' w.heap.size w'.heap.size ∧ Below w.heap.size w w'
theorem nrmEL_take {l : List ET} {k : Nat} (h : k < l.length) {ys : List ET} (hy : nrmEL ys = nrmEL (l.take k)) {y : ET} (he : nrmE y = nrmE l[k]) : nrmEL (ys ++ [y]) = nrmEL (l.take (k + 1)) := by
  rw [List.take_succ_eq_append_getElem h]
  rw [nrmEL_map] at *
  rw [nrmEL_map] at *
  rw [List.map_append, List.map_append, hy, List.map_singleton, List.map_singleton, he]
theorem RowT.cells {t : TypeId} {W : World} {B : Nat} {pre post : List Value} {u0 u1 u2 u3 u4 u5 u6 u7 : Value} (h : RowT t W B (pre ++ ([u0, u1, u2, u3, u4, u5, u6, u7] ++ post))) (o : Nat) (ho : pre.length = o) : W.cell? ⟨B, o, none⟩ = some u0 ∧ W.cell? ⟨B, o + 1, none⟩ = some u1 ∧ W.cell? ⟨B, o + 2, none⟩ = some u2 ∧ W.cell? ⟨B, o + 3, none⟩ = some u3 ∧ W.cell? ⟨B, o + 4, none⟩ = some u4 ∧ W.cell? ⟨B, o + 5, none⟩ = some u5 ∧ W.cell? ⟨B, o + 6, none⟩ = some u6 ∧ W.cell? ⟨B, o + 7, none⟩ = some u7 := by
  subst ho
  unfold RowT at h
  simp [World.cell?, h, List.getElem?_append]
theorem RowM.cells {W : World} {B : Nat} {pre post : List Value} {u0 u1 u2 u3 u4 u5 u6 u7 : Value} (h : RowM W B (pre ++ ([u0, u1, u2, u3, u4, u5, u6, u7] ++ post))) (o : Nat) (ho : pre.length = o) : W.cell? ⟨B, o, none⟩ = some u0 ∧ W.cell? ⟨B, o + 1, none⟩ = some u1 ∧ W.cell? ⟨B, o + 2, none⟩ = some u2 ∧ W.cell? ⟨B, o + 3, none⟩ = some u3 ∧ W.cell? ⟨B, o + 4, none⟩ = some u4 ∧ W.cell? ⟨B, o + 5, none⟩ = some u5 ∧ W.cell? ⟨B, o + 6, none⟩ = some u6 ∧ W.cell? ⟨B, o + 7, none⟩ = some u7 := by
  subst ho
  unfold RowM RowT at h
  simp [World.cell?, h, List.getElem?_append]
theorem RowT.thaw {t : TypeId} {W : World} {B : Nat} {cs : List Value} (h : RowT t W B cs) (o : Nat) : W.frozen? ⟨B, o, none⟩ = false ∧ W.frozen? ⟨B, o + 1, none⟩ = false ∧ W.frozen? ⟨B, o + 2, none⟩ = false ∧ W.frozen? ⟨B, o + 3, none⟩ = false ∧ W.frozen? ⟨B, o + 4, none⟩ = false ∧ W.frozen? ⟨B, o + 5, none⟩ = false ∧ W.frozen? ⟨B, o + 6, none⟩ = false ∧ W.frozen? ⟨B, o + 7, none⟩ = false := by
  unfold RowT at h
  simp [World.frozen?, h]
theorem RowM.thaw {W : World} {B : Nat} {cs : List Value} (h : RowM W B cs) (o : Nat) : W.frozen? ⟨B, o, none⟩ = false ∧ W.frozen? ⟨B, o + 1, none⟩ = false ∧ W.frozen? ⟨B, o + 2, none⟩ = false ∧ W.frozen? ⟨B, o + 3, none⟩ = false ∧ W.frozen? ⟨B, o + 4, none⟩ = false ∧ W.frozen? ⟨B, o + 5, none⟩ = false ∧ W.frozen? ⟨B, o + 6, none⟩ = false ∧ W.frozen? ⟨B, o + 7, none⟩ = false := by
  unfold RowM RowT at h
  simp [World.frozen?, h]
theorem below_same {a w : World} {n : Nat} (h : Below n a w) {lo : Nat} : SameOn lo n a w := fun b _ hb => h.block b hb
theorem below_put {n : Nat} {a W : World} {B : Nat} (h : Below n a W) (hB : n ≤ B) (o : Nat) (v0 v1 v2 v3 v4 v5 v6 v7 : Value) : Below n a ((((((((W.setCell ⟨B, o, none⟩ (v0)).setCell ⟨B, o + 1, none⟩ (v1)).setCell ⟨B, o + 2, none⟩ (v2)).setCell ⟨B, o + 3, none⟩ (v3)).setCell ⟨B, o + 4, none⟩ (v4)).setCell ⟨B, o + 5, none⟩ (v5)).setCell ⟨B, o + 6, none⟩ (v6)).setCell ⟨B, o + 7, none⟩ (v7)) :=
  (Below.setCell (Below.setCell (Below.setCell (Below.setCell (Below.setCell (Below.setCell (Below.setCell (Below.setCell h (p := ⟨B, o, none⟩) hB _) (p := ⟨B, o + 1, none⟩) hB _) (p := ⟨B, o + 2, none⟩) hB _) (p := ⟨B, o + 3, none⟩) hB _) (p := ⟨B, o + 4, none⟩) hB _) (p := ⟨B, o + 5, none⟩) hB _) (p := ⟨B, o + 6, none⟩) hB _) (p := ⟨B, o + 7, none⟩) hB _)
set_option maxHeartbeats 8000000 in
set_option maxRecDepth 100000 in
theorem copyAllE_any (n0 : Nat) (l : List ET) (hll : l.length ≤ 12000000) (hc : ∀ x ∈ l, ∀ w, n0 ≤ w.heap.size → x.In n0 w → Calls Tryd.prog 30 #[x.val] w (CpE x w)) (a : Option Addr) (c : Nat) (w : World) (hn0 : n0 ≤ w.heap.size) (hin : InRow 8 ET.cells (ET.In n0 w) n0 w l a) :
    Calls Tryd.prog 54 #[.slice a l.length c, .func (.func 30) #[] #[]] w (CpL l w) := by
  by_cases hl0 : l.length = 0
  · have e0 : ((l.length : Int) == 0) = true := by rw [beq_iff_eq]; omega
    have hnil : l = [] := List.length_eq_zero_iff.1 hl0
    have HP : Hid (CpL l w (.returned (.slice none 0 0)) w) := Lib.hid ⟨none, 0, [], rfl, by rw [hnil], Or.inl ⟨rfl, rfl, rfl⟩, Below.refl _ _⟩
    clear hl0 hnil hc hin
    go_enter Tryd.func54, Tryd.ntmps54
    go_wp2
    go_ret
    exact HP.out
  have e0 : ((l.length : Int) == 0) = false := by rw [beq_eq_false_iff_ne]; omega
  have hl1 : 0 < l.length := by omega
  obtain ⟨B, hB⟩ : ∃ B, w.heap.size = B := ⟨_, rfl⟩
  obtain ⟨w1, hw1⟩ : ∃ w1, w.alloc (.cells (madeCells zeroE.cells.toArray (l.length * 8)) 30) = w1 := ⟨_, rfl⟩
  have hmk : (Instr.makeSlice 28 (.int .i64 (l.length : Int)) (.int .i64 (l.length : Int))).run Tryd.prog w = .ok (.slice (some ⟨w.heap.size, 0, none⟩) l.length l.length) w1 := by
    rw [← hw1]
    obtain ⟨i, hi, hzz⟩ := Option.map_eq_some_iff.1 (show (Tryd.prog.info? 30).map (fun i => (i.zero, i.size, i.bytes)) = some (some (.agg zeroE.cells.toArray), 8, 80) by kernel_rfl)
    simp only [Prod.mk.injEq] at hzz
    obtain ⟨hz, hs, hb⟩ := hzz
    have hr := run_make (P := Tryd.prog) w 28 30 i _ Tryd.underlying28 hi hz .i64 .i64 (l.length : Int) (l.length : Int) (by omega) (Int.le_refl _) (by rw [hb]; omega) (by omega)
    rw [hs, Int.toNat_natCast] at hr
    exact hr
  have hb0 : Below w.heap.size w w1 := by rw [← hw1]; exact (Below.refl _ _).alloc (Nat.le_refl _) _
  have hRM : RowM w1 B (flatE ([] ++ List.replicate l.length zeroE)) := by
    unfold RowM RowT
    rw [← hw1, ← hB, List.nil_append, ← made_zero]
    exact World.alloc_heap_new w _
  have hsz1 : w1.heap.size = B + 1 := by rw [← hw1, World.size_alloc, hB]
  have hn1 : n0 ≤ B := by omega
  have HB := Lib.hid hB
  have HW1 := Lib.hid (And.intro hb0 (And.intro hRM hsz1))
  clear hw1 hb0 hRM hsz1 hl0
  go_enter Tryd.func54, Tryd.ntmps54
  go_wp2
  go_loopw [16] (fun u wr => ∃ (k : Nat) (ys : List ET), u = .int .i64 k ∧ k ≤ l.length ∧ ys.length = k ∧ nrmEL ys = nrmEL (l.take k) ∧ RowM wr B (flatE ys ++ flatE (List.replicate (l.length - k) zeroE)) ∧ ET.OwnL wr (B + 1) wr.heap.size ys ∧ Below w.heap.size w wr) (fun u _ => l.length - (intOf u).toNat)
  case atStart => exact ⟨0, [], rfl, Nat.zero_le _, rfl, rfl, by have h9 := HW1.out.2.1; rw [List.nil_append] at h9; exact h9, by rw [ET.OwnL, HW1.out.2.2]; exact Nat.le_refl _, HW1.out.1⟩
  case round =>
    obtain ⟨k, ys, rfl, hk, hyl, hyn, hrm, hown, hb0⟩ := hrel
    have HY := Lib.hid (And.intro hyl (And.intro hyn hown))
    clear hyl hyn hown
    by_cases hlt : k < l.length
    · have d1 : decide (k < l.length) = true := by simpa using hlt
      have d2 : decide ((k : Int) < (l.length : Int)) = true := by rw [decide_eq_true_eq]; omega
      have x1 : (k : Int) < (l.length : Int) := by omega
      obtain ⟨b, o, rfl, hb, hr, hx⟩ := hin.kept (Below.keptTo hb0 hn0) hlt
      have HT := Lib.hid (fun (y : ET) (h : nrmE y = nrmE l[k]) => nrmEL_take hlt HY.out.2.1 h)
      have hcx := hc l[k] (List.getElem_mem hlt)
      have hxin := hx.keep (Below.keptTo hb0 hn0)
      have zz := hb0.size
      generalize hgx : l[k] = x at *
      obtain ⟨op, wd, v, sg, uh, ul, xn, xa, xc, xl⟩ := x
      have c0 := fun (o' : Obj) => hcx (wr.alloc o') (by simp; omega) (hxin.keep (Below.keptTo ((Below.refl _ _).alloc (Nat.le_refl _) o') (by omega)))
      have r0 : wr.cell? ⟨b, o + k * 8, none⟩ = some (.int .i64 op) := hr 0 _ rfl
      have r1 : wr.cell? ⟨b, o + k * 8 + 1, none⟩ = some (.int .i64 wd) := hr 1 _ rfl
      have r2 : wr.cell? ⟨b, o + k * 8 + 2, none⟩ = some (.int .u64 (v : Int)) := hr 2 _ rfl
      have r3 : wr.cell? ⟨b, o + k * 8 + 3, none⟩ = some (.int .i64 sg) := hr 3 _ rfl
      have r4 : wr.cell? ⟨b, o + k * 8 + 4, none⟩ = some (.int .i64 uh) := hr 4 _ rfl
      have r5 : wr.cell? ⟨b, o + k * 8 + 5, none⟩ = some (.int .i64 ul) := hr 5 _ rfl
      have r6 : wr.cell? ⟨b, o + k * 8 + 6, none⟩ = some (.int .i64 xn) := hr 6 _ rfl
      have r7 : wr.cell? ⟨b, o + k * 8 + 7, none⟩ = some (.slice xa xl.length xc) := hr 7 _ rfl
      simp only [ET.val, ET.cells] at c0
      have hrep : flatE (List.replicate (l.length - k) zeroE) = [.int .i64 0, .int .i64 0, .int .u64 0, .int .i64 0, .int .i64 0, .int .i64 0, .int .i64 0, .slice none 0 0] ++ flatE (List.replicate (l.length - (k + 1)) zeroE) := by
        rw [show l.length - k = (l.length - (k + 1)) + 1 by omega, List.replicate_succ]; rfl
      rw [hrep] at hrm
      have hpl : (flatE ys).length = k * 8 := by rw [flatE_len, HY.out.1]
      have hBl : B < wr.heap.size := (Array.getElem?_eq_some_iff.1 hrm).1
      clear hin hc hcx hr hx hxin hgx hrep
      go_wp2_with fail
      refine (c0 _).mono ?_
      clear c0 r0 r1 r2 r3 r4 r5 r6 r7
      obtain ⟨wa, hwa⟩ : ∃ wa, wr.alloc (.cells #[.int .i64 op, .int .i64 wd, .int .u64 (v : Int), .int .i64 sg, .int .i64 uh, .int .i64 ul, .int .i64 xn, .slice xa xl.length xc] 30) = wa := ⟨_, rfl⟩
      rw [hwa]
      rintro e W1 ⟨y, rfl, hyn, hyo, hb1⟩
      have hszA : wa.heap.size = wr.heap.size + 1 := by rw [← hwa, World.size_alloc]
      have hba : Below wr.heap.size wr wa := by rw [← hwa]; exact (Below.refl _ _).alloc (Nat.le_refl _) _
      have hb2 : Below wr.heap.size wr W1 := hba.trans (hb1.mono (by omega))
      have hrm1 := hrm.keep (hb2.block B hBl)
      have hbw : Below w.heap.size w W1 := hb0.trans (hb2.mono hb0.size)
      have hoy : ET.OwnL W1 (B + 1) W1.heap.size (ys ++ [y]) := (ET.OwnL.keep (below_same hb2) HY.out.2.2).snoc (hyo.wider (by omega) (Nat.le_refl _)) hb2.size
      have hnn := HT.out y hyn
      have hln : (ys ++ [y]).length = k + 1 := by rw [List.length_append, HY.out.1]; rfl
      obtain ⟨op2, wd2, v2, sg2, uh2, ul2, xn2, xa2, xc2, xl2⟩ := y
      obtain ⟨m0, m1, m2, m3, m4, m5, m6, m7⟩ := RowM.cells hrm1 (k * 8) hpl
      obtain ⟨q0, q1, q2, q3, q4, q5, q6, q7⟩ := RowM.thaw hrm1 (k * 8)
      simp only [ET.val, ET.cells]
      obtain ⟨wz, hwz⟩ : ∃ wz, ((((((((W1.setCell ⟨B, k * 8, none⟩ (.int .i64 op2)).setCell ⟨B, k * 8 + 1, none⟩ (.int .i64 wd2)).setCell ⟨B, k * 8 + 2, none⟩ (.int .u64 (v2 : Int))).setCell ⟨B, k * 8 + 3, none⟩ (.int .i64 sg2)).setCell ⟨B, k * 8 + 4, none⟩ (.int .i64 uh2)).setCell ⟨B, k * 8 + 5, none⟩ (.int .i64 ul2)).setCell ⟨B, k * 8 + 6, none⟩ (.int .i64 xn2)).setCell ⟨B, k * 8 + 7, none⟩ (.slice xa2 xl2.length xc2)) = wz := ⟨_, rfl⟩
      have hput := RowM.put hrm1 (k * 8) hpl (.int .i64 op2) (.int .i64 wd2) (.int .u64 (v2 : Int)) (.int .i64 sg2) (.int .i64 uh2) (.int .i64 ul2) (.int .i64 xn2) (.slice xa2 xl2.length xc2)
      have hoth := fun b hb => put_other W1 B (k * 8) (.int .i64 op2) (.int .i64 wd2) (.int .u64 (v2 : Int)) (.int .i64 sg2) (.int .i64 uh2) (.int .i64 ul2) (.int .i64 xn2) (.slice xa2 xl2.length xc2) b hb
      have hbz := below_put hbw (show w.heap.size ≤ B by omega) (k * 8) (.int .i64 op2) (.int .i64 wd2) (.int .u64 (v2 : Int)) (.int .i64 sg2) (.int .i64 uh2) (.int .i64 ul2) (.int .i64 xn2) (.slice xa2 xl2.length xc2)
      have hsz : wz.heap.size = W1.heap.size := by rw [← hwz]; simp only [World.size_setCell]
      rw [hwz] at hput hbz
      simp only [hwz] at hoth
      have hoz : ET.OwnL wz (B + 1) wz.heap.size (ys ++ [.mk op2 wd2 v2 sg2 uh2 ul2 xn2 xa2 xc2 xl2]) := by rw [hsz]; exact hoy.keep (fun b h1 h2 => hoth b (by omega))
      have hrz : RowM wz B (flatE (ys ++ [.mk op2 wd2 v2 sg2 uh2 ul2 xn2 xa2 xc2 xl2]) ++ flatE (List.replicate (l.length - (k + 1)) zeroE)) := by rw [flatE_app, List.append_assoc]; exact hput
      have HP := Lib.hid (And.intro hrz (And.intro hbz (And.intro hoz (And.intro hnn hln))))
      clear hrm hrm1 hput hoth hbw hoy hnn hln hyo hyn hb1 hb2 hba hpl hb0 HY HT hszA hrz hoz hbz hsz
      go_wp2
      (try rw [hwz])
      go_roundw
      case rel => exact ⟨k + 1, _, by simp; first | done | rfl | omega, by omega, HP.out.2.2.2.2, HP.out.2.2.2.1, HP.out.1, HP.out.2.2.1, HP.out.2.1⟩
      case measure => simp [intOf]; omega
    · have d1 : decide (k < l.length) = false := by simpa using hlt
      have d2 : decide ((k : Int) < (l.length : Int)) = false := by rw [decide_eq_false_iff_not]; omega
      have hkl : k = l.length := by omega
      have hBl : B < wr.heap.size := (Array.getElem?_eq_some_iff.1 hrm).1
      have HP : Hid (CpL l w (.returned (.slice (some ⟨B, 0, none⟩) l.length l.length)) wr) := Lib.hid (by
        subst hkl
        rw [Nat.sub_self] at hrm
        have hrm2 : RowM wr B (flatE ys) := by rw [List.replicate_zero] at hrm; simpa [flatE] using hrm
        refine ⟨some ⟨B, 0, none⟩, l.length, ys, by rw [HY.out.1], by have h9 := HY.out.2.1; rw [List.take_length] at h9; exact h9, Or.inr ⟨B, rfl, by omega, hBl, HY.out.1.symm, fun h => by have h8 := HY.out.1; rw [h] at h8; simp at h8; omega, hrm2, HY.out.2.2⟩, hb0⟩)
      clear hkl hrm HY hb0 hin hc hn0
      go_wp2
      go_ret
      exact HP.out
end Go.Proofs.YtbcgeglkmpcnpaaDoor
