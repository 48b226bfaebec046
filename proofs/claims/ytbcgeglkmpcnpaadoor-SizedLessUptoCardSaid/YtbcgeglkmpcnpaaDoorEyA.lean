/-
  sized: copying signals; their bits.
-/
import Derived.Test.YtbcgeglkmpcnpaaDoorEzX
import Derived.Test.YtbcgeglkmpcnpaaDoorEzM
import Derived.Test.YtbcgeglkmpcnpaaDoorEzU
namespace Go.Proofs.YtbcgeglkmpcnpaaDoor
open Go Go.RowKit
set_option linter.unusedVariables false
set_option linter.unusedSimpArgs false
open Go.Sort

theorem rowT_in {α : Type} {t : TypeId} {W : World} {B n k : Nat} (hB : B < n) (cells : α → List Value) (hk : ∀ x, (cells x).length = k) (hk0 : k ≠ 0) {inn : α → Prop} : ∀ (l : List α) (pre post : List Value) (o : Nat), pre.length = o → RowT t W B (pre ++ (l.flatMap cells ++ post)) → (∀ x ∈ l, inn x) → InRow k cells inn n W l (some ⟨B, o, none⟩)
  | [], _, _, _, _, _, _ => by unfold InRow; trivial
  | x :: r, pre, post, o, ho, h, hi => by
    rw [List.flatMap_cons, List.append_assoc] at h
    unfold InRow
    refine ⟨⟨B, o, rfl, hB, rowT_cells h o ho⟩, hi x (by simp), ?_⟩
    rw [← List.append_assoc] at h
    have h9 := rowT_in hB cells hk hk0 r (pre ++ cells x) post (o + k) (by rw [List.length_append, hk, ho]) h (fun y hy => hi y (by simp [hy]))
    simpa [Addr.add, hk0] using h9
theorem RowT.cells4 {t : TypeId} {W : World} {B : Nat} {pre post : List Value} {u0 u1 u2 u3 : Value} (h : RowT t W B (pre ++ ([u0, u1, u2, u3] ++ post))) (o : Nat) (ho : pre.length = o) : W.cell? ⟨B, o, none⟩ = some u0 ∧ W.cell? ⟨B, o + 1, none⟩ = some u1 ∧ W.cell? ⟨B, o + 2, none⟩ = some u2 ∧ W.cell? ⟨B, o + 3, none⟩ = some u3 := by
  have h1 := rowT_cells h o ho
  exact ⟨h1 0 _ rfl, h1 1 _ rfl, h1 2 _ rfl, h1 3 _ rfl⟩
theorem RowT.thaw4 {t : TypeId} {W : World} {B : Nat} {cs : List Value} (h : RowT t W B cs) (o : Nat) : W.frozen? ⟨B, o, none⟩ = false ∧ W.frozen? ⟨B, o + 1, none⟩ = false ∧ W.frozen? ⟨B, o + 2, none⟩ = false ∧ W.frozen? ⟨B, o + 3, none⟩ = false := by
  unfold RowT at h
  simp [World.frozen?, h]
theorem RowT.put4 {t : TypeId} {W : World} {B : Nat} {pre post : List Value} {u0 u1 u2 u3 : Value} (h : RowT t W B (pre ++ ([u0, u1, u2, u3] ++ post))) (o : Nat) (ho : pre.length = o) (v0 v1 v2 v3 : Value) : RowT t ((((W.setCell ⟨B, o, none⟩ v0).setCell ⟨B, o + 1, none⟩ v1).setCell ⟨B, o + 2, none⟩ v2).setCell ⟨B, o + 3, none⟩ v3) B (pre ++ ([v0, v1, v2, v3] ++ post)) := by
  subst ho
  unfold RowT at *
  simp [World.setCell, Array.getElem?_modify, h, List.set_append]
theorem below_put4 {n : Nat} {a W : World} {B : Nat} (h : Below n a W) (hB : n ≤ B) (o : Nat) (v0 v1 v2 v3 : Value) : Below n a ((((W.setCell ⟨B, o, none⟩ v0).setCell ⟨B, o + 1, none⟩ v1).setCell ⟨B, o + 2, none⟩ v2).setCell ⟨B, o + 3, none⟩ v3) :=
  (Below.setCell (Below.setCell (Below.setCell (Below.setCell h (p := ⟨B, o, none⟩) hB _) (p := ⟨B, o + 1, none⟩) hB _) (p := ⟨B, o + 2, none⟩) hB _) (p := ⟨B, o + 3, none⟩) hB _)
theorem rowc_block {W W' : World} {b o : Nat} {cs : List Value} (h : RowC W b o cs) (he : W'.heap[b]? = W.heap[b]?) : RowC W' b o cs := fun j v hj => by
  have h1 := h j v hj
  simp only [World.cell?, he] at h1 ⊢
  exact h1
theorem GsIn.block {n : Nat} {W W' : World} {b : Nat} (he : W'.heap[b]? = W.heap[b]?) : ∀ {gl : List GT} {o : Nat}, GsIn n W gl (some ⟨b, o, none⟩) → GsIn n W' gl (some ⟨b, o, none⟩)
  | [], o, h => by unfold GsIn InRow; trivial
  | x :: r, o, h => by
    unfold GsIn InRow at h ⊢
    obtain ⟨⟨b', o', e, h1, h2⟩, h3, h4⟩ := h
    simp only [Option.some.injEq, Addr.mk.injEq, and_true] at e
    obtain ⟨rfl, rfl⟩ := e
    refine ⟨⟨b, o, rfl, h1, rowc_block h2 he⟩, h3, ?_⟩
    exact GsIn.block he (gl := r) (o := o + 4) h4
theorem GsIn.other {n B : Nat} {W W' : World} {gl : List GT} {a : Option Addr} (h : GsIn n W gl a) (hb : ∀ p, a = some p → p.block ≠ B) (he : ∀ k, k ≠ B → W'.heap[k]? = W.heap[k]?) : GsIn n W' gl a := by
  cases gl with
  | nil => unfold GsIn InRow; trivial
  | cons x r =>
    have h0 := h
    unfold GsIn InRow at h0
    obtain ⟨⟨b, o, rfl, _, _⟩, _, _⟩ := h0
    exact h.block (he b (hb _ rfl))
def flatG (l : List GT) : List Value := l.flatMap GT.cells
theorem flatG_app (l m : List GT) : flatG (l ++ m) = flatG l ++ flatG m := by unfold flatG; rw [List.flatMap_append]
theorem flatG_len : ∀ l : List GT, (flatG l).length = l.length * 4
  | [] => rfl
  | x :: r => by
    have h := flatG_len r
    unfold flatG at *
    rw [List.flatMap_cons, List.length_append, h, List.length_cons]
    show 4 + _ = _
    omega
def zeroG : GT := ⟨[], 0, 0, 0⟩
theorem made_zeroG : ∀ n : Nat, (madeCells zeroG.cells.toArray (n * 4)) = (flatG (List.replicate n zeroG)).toArray := by
  have key : ∀ n : Nat, (List.range (n * 4)).map (fun i => zeroG.cells.toArray[i % 4]!) = flatG (List.replicate n zeroG) := by
    intro n
    induction n with
    | zero => rfl
    | succ n ih =>
      rw [List.replicate_succ', flatG_app, ← ih, Nat.succ_mul, List.range_add, List.map_append]
      congr 1
      rw [List.map_map]
      have : ∀ j, (n * 4 + j) % 4 = j % 4 := fun j => by omega
      have e : ((fun i => zeroG.cells.toArray[i % 4]!) ∘ fun x => n * 4 + x) = fun j => zeroG.cells.toArray[j % 4]! := by
        funext j; simp only [Function.comp, this]
      rw [e]
      rfl
  intro n
  rw [← key n, madeCells]
  apply Array.ext'
  simp [Array.toList_range, zeroG, GT.cells]
set_option maxHeartbeats 8000000 in
set_option maxRecDepth 100000 in
theorem copyG_any (nm : Bytes) (wd kd : Int) (ini : Nat) (w : World) : Calls Tryd.prog 78 #[.agg #[.string (bs nm), .int .i64 wd, .int .i64 kd, .int .u64 (ini : Int)]] w fun e w' => e = .returned (.agg #[.string (bs nm), .int .i64 wd, .int .i64 kd, .int .u64 (ini : Int)]) ∧ Below w.heap.size w w' := by
  obtain ⟨gx, hgx⟩ : ∃ gx, w.heap.size = gx := ⟨_, rfl⟩
  obtain ⟨wa, hwa⟩ : ∃ wa, w.alloc (.cells #[.string (bs nm), .int .i64 wd, .int .i64 kd, .int .u64 (ini : Int)] 71) = wa := ⟨_, rfl⟩
  have hba : Below w.heap.size w wa := by rw [← hwa]; exact (Below.refl _ _).alloc (Nat.le_refl _) _
  have hsa : wa.heap.size = gx + 1 := by rw [← hwa, World.size_alloc, hgx]
  have BX : RowT 71 wa gx ([] ++ ([.string (bs nm), .int .i64 wd, .int .i64 kd, .int .u64 (ini : Int)] ++ [])) := by unfold RowT; rw [← hwa, ← hgx]; exact World.alloc_heap_new w _
  obtain ⟨w1, hw1⟩ : ∃ w1, wa.alloc (.cells #[.string ⟨#[]⟩, .int .i64 0, .int .i64 0, .int .u64 0] 71 (0, 0)) = w1 := ⟨_, rfl⟩
  have hb1 : Below wa.heap.size wa w1 := by rw [← hw1]; exact (Below.refl _ _).alloc (Nat.le_refl _) _
  have hbw : Below w.heap.size w w1 := hba.trans (hb1.mono hba.size)
  have BX1 := BX.keep (hb1.block gx BX.lt)
  have BY : RowT 71 w1 (gx + 1) ([] ++ ([.string ⟨#[]⟩, .int .i64 0, .int .i64 0, .int .u64 0] ++ [])) := by unfold RowT; rw [← hw1, ← hsa]; exact World.alloc_heap_new wa _
  obtain ⟨m0, m1, m2, m3⟩ := BX1.cells4 0 rfl
  obtain ⟨y0, y1, y2, y3⟩ := BY.cells4 0 rfl
  obtain ⟨p0, p1, p2, p3⟩ := BY.thaw4 0
  have RZ := BY.put4 0 rfl (.string (bs nm)) (.int .i64 wd) (.int .i64 kd) (.int .u64 (ini : Int))
  have hbz := below_put4 hbw (show w.heap.size ≤ gx + 1 by omega) 0 (.string (bs nm)) (.int .i64 wd) (.int .i64 kd) (.int .u64 (ini : Int))
  simp only [Nat.zero_add] at m1 m2 m3 y1 y2 y3 p1 p2 p3 RZ hbz
  obtain ⟨wz, hwz⟩ : ∃ wz, ((((w1.setCell ⟨gx + 1, 0, none⟩ (.string (bs nm))).setCell ⟨gx + 1, 1, none⟩ (.int .i64 wd)).setCell ⟨gx + 1, 2, none⟩ (.int .i64 kd)).setCell ⟨gx + 1, 3, none⟩ (.int .u64 (ini : Int))) = wz := ⟨_, rfl⟩
  rw [hwz] at RZ hbz
  obtain ⟨t0, t1, t2, t3⟩ := RZ.cells4 0 rfl
  simp only [Nat.zero_add] at t1 t2 t3
  have HB := Lib.hid hbz
  clear hba BX hb1 hbw BX1 BY RZ hbz
  go_enter Tryd.func78, Tryd.ntmps78
  go_upto_region 1 with (fail)
  (try rw [hwa])
  (try rw [hgx])
  (try rw [hw1])
  (try rw [hsa])
  go_wp2
  (try rw [hwz])
  have hu := Tryd.underlying71
  refine bodyPost_ret (v := .agg #[.string (bs nm), .int .i64 wd, .int .i64 kd, .int .u64 (ini : Int)]) (by simp [results, Tryd.results78, go_sem, hu, t0, t1, t2, t3]) rfl (by exact ⟨rfl, by first | exact HB.out | (have h9 := HB.out; rw [hgx] at h9; exact h9)⟩)
set_option maxHeartbeats 8000000 in
set_option maxRecDepth 100000 in
theorem copyAllG_any (n0 : Nat) (l : List GT) (hll : l.length ≤ 12000000) (a : Option Addr) (c : Nat) (w : World) (hn0 : n0 ≤ w.heap.size) (hin : GsIn n0 w l a) :
    Calls Tryd.prog 77 #[.slice a l.length c, .func (.func 78) #[] #[]] w fun e w' => ∃ (a' : Option Addr) (c' : Nat), e = .returned (.slice a' l.length c') ∧ GsIn w'.heap.size w' l a' ∧ (∀ p, a' = some p → w.heap.size ≤ p.block) ∧ Below w.heap.size w w' := by
  by_cases hl0 : l.length = 0
  · have e0 : ((l.length : Int) == 0) = true := by rw [beq_iff_eq]; omega
    have hnil : l = [] := List.length_eq_zero_iff.1 hl0
    subst hnil
    clear hl0 hin
    go_enter Tryd.func77, Tryd.ntmps77
    go_wp2
    go_ret
    exact ⟨none, 0, rfl, by unfold GsIn InRow; trivial, fun p h => (by cases h), Below.refl _ _⟩
  have e0 : ((l.length : Int) == 0) = false := by rw [beq_eq_false_iff_ne]; omega
  have hl1 : 0 < l.length := by omega
  obtain ⟨B, hB⟩ : ∃ B, w.heap.size = B := ⟨_, rfl⟩
  obtain ⟨w1, hw1⟩ : ∃ w1, w.alloc (.cells (madeCells zeroG.cells.toArray (l.length * 4)) 71) = w1 := ⟨_, rfl⟩
  have hmk : (Instr.makeSlice 22 (.int .i64 (l.length : Int)) (.int .i64 (l.length : Int))).run Tryd.prog w = .ok (.slice (some ⟨w.heap.size, 0, none⟩) l.length l.length) w1 := by
    rw [← hw1]
    obtain ⟨i, hi, hzz⟩ := Option.map_eq_some_iff.1 (show (Tryd.prog.info? 71).map (fun i => (i.zero, i.size, i.bytes)) = some (some (.agg zeroG.cells.toArray), 4, 40) by kernel_rfl)
    simp only [Prod.mk.injEq] at hzz
    obtain ⟨hz, hs, hb⟩ := hzz
    have hr := run_make (P := Tryd.prog) w 22 71 i _ Tryd.underlying22 hi hz .i64 .i64 (l.length : Int) (l.length : Int) (by omega) (Int.le_refl _) (by rw [hb]; omega) (by omega)
    rw [hs, Int.toNat_natCast] at hr
    exact hr
  have hb0 : Below w.heap.size w w1 := by rw [← hw1]; exact (Below.refl _ _).alloc (Nat.le_refl _) _
  have hRM : RowT 71 w1 B (flatG ([] ++ List.replicate l.length zeroG)) := by
    unfold RowT
    rw [← hw1, ← hB, List.nil_append, ← made_zeroG]
    exact World.alloc_heap_new w _
  have hn1 : n0 ≤ B := by omega
  have HB := Lib.hid hB
  have HW1 := Lib.hid (And.intro hb0 hRM)
  clear hw1 hb0 hRM hl0
  go_enter Tryd.func77, Tryd.ntmps77
  go_wp2
  go_loopw [16] (fun u wr => ∃ (k : Nat), u = .int .i64 k ∧ k ≤ l.length ∧ RowT 71 wr B (flatG (l.take k) ++ flatG (List.replicate (l.length - k) zeroG)) ∧ Below w.heap.size w wr) (fun u _ => l.length - (intOf u).toNat)
  case atStart => exact ⟨0, rfl, Nat.zero_le _, by have h9 := HW1.out.2; rw [List.nil_append] at h9; exact h9, HW1.out.1⟩
  case round =>
    obtain ⟨k, rfl, hk, hrm, hb0⟩ := hrel
    by_cases hlt : k < l.length
    · have d1 : decide (k < l.length) = true := by simpa using hlt
      have d2 : decide ((k : Int) < (l.length : Int)) = true := by rw [decide_eq_true_eq]; omega
      have x1 : (k : Int) < (l.length : Int) := by omega
      obtain ⟨b, o, rfl, hb, hr, _⟩ := InRow.kept hin (Below.keptTo hb0 hn0) hlt
      have HT := Lib.hid (List.take_succ_eq_append_getElem hlt)
      have zz := hb0.size
      generalize hgx : l[k] = x at *
      obtain ⟨nm, wd, kd, ini⟩ := x
      have c0 := fun (o' : Obj) => copyG_any nm wd kd ini (wr.alloc o')
      have r0 : wr.cell? ⟨b, o + k * 4, none⟩ = some (.string (bs nm)) := hr 0 _ rfl
      have r1 : wr.cell? ⟨b, o + k * 4 + 1, none⟩ = some (.int .i64 wd) := hr 1 _ rfl
      have r2 : wr.cell? ⟨b, o + k * 4 + 2, none⟩ = some (.int .i64 kd) := hr 2 _ rfl
      have r3 : wr.cell? ⟨b, o + k * 4 + 3, none⟩ = some (.int .u64 (ini : Int)) := hr 3 _ rfl
      have hrep : flatG (List.replicate (l.length - k) zeroG) = [.string (bs []), .int .i64 0, .int .i64 0, .int .u64 0] ++ flatG (List.replicate (l.length - (k + 1)) zeroG) := by
        rw [show l.length - k = (l.length - (k + 1)) + 1 by omega, List.replicate_succ]; rfl
      rw [hrep] at hrm
      have hpl : (flatG (l.take k)).length = k * 4 := by rw [flatG_len, List.length_take]; congr 1; omega
      have hBl : B < wr.heap.size := hrm.lt
      clear hin hr hgx hrep
      go_wp2_with fail
      refine (c0 _).mono ?_
      clear c0 r0 r1 r2 r3
      obtain ⟨wa, hwa⟩ : ∃ wa, wr.alloc (.cells #[.string (bs nm), .int .i64 wd, .int .i64 kd, .int .u64 (ini : Int)] 71) = wa := ⟨_, rfl⟩
      rw [hwa]
      rintro e W1 ⟨rfl, hb1⟩
      have hszA : wa.heap.size = wr.heap.size + 1 := by rw [← hwa, World.size_alloc]
      have hba : Below wr.heap.size wr wa := by rw [← hwa]; exact (Below.refl _ _).alloc (Nat.le_refl _) _
      have hb2 : Below wr.heap.size wr W1 := hba.trans (hb1.mono (by omega))
      have hrm1 := hrm.keep (hb2.block B hBl)
      have hbw : Below w.heap.size w W1 := hb0.trans (hb2.mono hb0.size)
      obtain ⟨m0, m1, m2, m3⟩ := hrm1.cells4 (k * 4) hpl
      obtain ⟨q0, q1, q2, q3⟩ := hrm1.thaw4 (k * 4)
      obtain ⟨wz, hwz⟩ : ∃ wz, ((((W1.setCell ⟨B, k * 4, none⟩ (.string (bs nm))).setCell ⟨B, k * 4 + 1, none⟩ (.int .i64 wd)).setCell ⟨B, k * 4 + 2, none⟩ (.int .i64 kd)).setCell ⟨B, k * 4 + 3, none⟩ (.int .u64 (ini : Int))) = wz := ⟨_, rfl⟩
      have hput := hrm1.put4 (k * 4) hpl (.string (bs nm)) (.int .i64 wd) (.int .i64 kd) (.int .u64 (ini : Int))
      have hbz := below_put4 hbw (show w.heap.size ≤ B by omega) (k * 4) (.string (bs nm)) (.int .i64 wd) (.int .i64 kd) (.int .u64 (ini : Int))
      rw [hwz] at hput hbz
      have hrz : RowT 71 wz B (flatG (l.take (k + 1)) ++ flatG (List.replicate (l.length - (k + 1)) zeroG)) := by rw [HT.out, flatG_app, List.append_assoc]; exact hput
      have HP := Lib.hid (And.intro hrz hbz)
      clear hrm hrm1 hput hbw hb1 hb2 hba hpl hb0 HT hszA hrz hbz
      go_wp2
      (try rw [hwz])
      go_roundw
      case rel => exact ⟨k + 1, by simp; first | done | rfl | omega, by omega, HP.out.1, HP.out.2⟩
      case measure => simp [intOf]; omega
    · have d1 : decide (k < l.length) = false := by simpa using hlt
      have d2 : decide ((k : Int) < (l.length : Int)) = false := by rw [decide_eq_false_iff_not]; omega
      have hkl : k = l.length := by omega
      have hBl : B < wr.heap.size := hrm.lt
      have HP : Hid (GsIn wr.heap.size wr l (some ⟨B, 0, none⟩)) := Lib.hid (by
        subst hkl
        rw [Nat.sub_self, List.take_length] at hrm
        exact rowT_in (k := 4) hBl GT.cells (fun _ => rfl) (by decide) l [] (flatG (List.replicate 0 zeroG)) 0 rfl hrm (fun _ _ => trivial))
      clear hkl hrm hin hn0
      go_wp2
      go_ret
      exact ⟨some ⟨B, 0, none⟩, l.length, rfl, HP.out, fun p h => (by cases h; rw [HB.out]; exact Nat.le_refl _), hb0⟩
/-- Are there few bits? -/
def fewF : Int → List GT → Bool
  | _, [] => true
  | left, g :: r => !(decide (left < g.wd)) && fewF (left - max g.wd 0) r
theorem fewF_drop (l : List GT) (k : Nat) (h : k < l.length) (left : Int) : fewF left (l.drop k) = (!(decide (left < l[k].wd)) && fewF (left - max l[k].wd 0) (l.drop (k + 1))) := by
  rw [← List.getElem_cons_drop h]; rfl
set_option maxHeartbeats 8000000 in
set_option maxRecDepth 100000 in
theorem fewBits_any (n0 : Nat) (l : List GT) (hll : l.length ≤ 12000000) (a : Option Addr) (c : Nat) (w : World) (hn0 : n0 ≤ w.heap.size) (hin : GsIn n0 w l a) :
    Calls Tryd.prog 71 #[.slice a l.length c] w fun e w' => e = .returned (.bool (fewF 4096 l)) ∧ Below w.heap.size w w' := by
  obtain ⟨R, hR⟩ : ∃ R, fewF 4096 l = R := ⟨_, rfl⟩
  rw [hR]
  go_enter Tryd.func71, Tryd.ntmps71
  go_wp2
  go_loopw [3, 8] (fun lf u wr => ∃ (k : Nat) (left : Int), lf = .int .i64 left ∧ u = .int .i64 k ∧ k ≤ l.length ∧ 0 ≤ left ∧ left ≤ 4096 ∧ fewF left (l.drop k) = R ∧ Below w.heap.size w wr) (fun _ u _ => l.length - (intOf u).toNat)
  case atStart => exact ⟨0, 4096, rfl, rfl, Nat.zero_le _, by omega, by omega, by rw [List.drop_zero]; exact hR, Below.refl _ _⟩
  case round =>
    obtain ⟨k, left, rfl, rfl, hk, hl0, hl1, hre, hb0⟩ := hrel
    by_cases hlt : k < l.length
    · have d1 : decide (k < l.length) = true := by simpa using hlt
      have d2 : decide ((k : Int) < (l.length : Int)) = true := by rw [decide_eq_true_eq]; omega
      have x1 : (k : Int) < (l.length : Int) := by omega
      obtain ⟨b, o, rfl, hb, hr, _⟩ := InRow.kept hin (Below.keptTo hb0 hn0) hlt
      rw [fewF_drop l k hlt] at hre
      have zz := hb0.size
      generalize hgx : l[k] = x at *
      obtain ⟨nm, wd, kd, ini⟩ := x
      simp only at hre
      have r0 : wr.cell? ⟨b, o + k * 4, none⟩ = some (.string (bs nm)) := hr 0 _ rfl
      have r1 : wr.cell? ⟨b, o + k * 4 + 1, none⟩ = some (.int .i64 wd) := hr 1 _ rfl
      have r2 : wr.cell? ⟨b, o + k * 4 + 2, none⟩ = some (.int .i64 kd) := hr 2 _ rfl
      have r3 : wr.cell? ⟨b, o + k * 4 + 3, none⟩ = some (.int .u64 (ini : Int)) := hr 3 _ rfl
      have hb1 : Below w.heap.size w (wr.alloc (.cells #[.string (bs nm), .int .i64 wd, .int .i64 kd, .int .u64 (ini : Int)] 71)) := hb0.alloc hb0.size _
      have HB := Lib.hid hb1
      clear hin hr hgx hR hb0 hb1
      by_cases t1 : left < wd
      · have e1 : decide (left < wd) = true := by rw [decide_eq_true_eq]; exact t1
        have e2 : decide (wd > left) = true := e1
        have HE : Hid (R = false) := Lib.hid (by rw [← hre, e1]; rfl)
        clear hre t1
        go_wp2
        go_ret
        exact ⟨by rw [HE.out]; rfl, HB.out⟩
      · have e1 : decide (left < wd) = false := by rw [decide_eq_false_iff_not]; exact t1
        have e2 : decide (wd > left) = false := e1
        have hm : 0 ≤ max wd 0 ∧ max wd 0 ≤ left := by omega
        have HE : Hid (fewF (left - max wd 0) (l.drop (k + 1)) = R) := Lib.hid (by rw [← hre, e1]; rfl)
        obtain ⟨M, hM⟩ : ∃ M, max wd 0 = M := ⟨_, rfl⟩
        rw [hM] at hm HE
        have hM2 := hM
        clear hre t1
        go_wp2
        go_roundw
        case rel => exact ⟨k + 1, left - M, by simp [hM]; first | done | rfl | omega, by simp; first | done | rfl | omega, by omega, by omega, by omega, HE.out, HB.out⟩
        case measure => simp [intOf]; omega
    · have d1 : decide (k < l.length) = false := by simpa using hlt
      have d2 : decide ((k : Int) < (l.length : Int)) = false := by rw [decide_eq_false_iff_not]; omega
      have HE : Hid (R = true) := Lib.hid (by rw [List.drop_eq_nil_of_le (by omega)] at hre; rw [← hre]; rfl)
      clear hre hR hin
      go_wp2
      go_ret
      exact ⟨by rw [HE.out]; rfl, hb0⟩
end Go.Proofs.YtbcgeglkmpcnpaaDoor
