/-
  sized: Size and Check of a design without processes and checks.
-/
import Derived.Test.YtbcgeglkmpcnpaaDoorEyB
import Derived.Test.YtbcgeglkmpcnpaaDoorEzL
namespace Go.Proofs.YtbcgeglkmpcnpaaDoor
open Go Go.RowKit
set_option linter.unusedVariables false
set_option linter.unusedSimpArgs false
open Go.Sort

set_option maxHeartbeats 8000000 in
set_option maxRecDepth 100000 in
theorem allK0_any (v : Value) (w : World) : Calls Tryd.prog 75 #[.slice none 0 0, v] w fun e w' => e = .returned (.bool true) ∧ w = w' := by
  go_enter Tryd.func75, Tryd.ntmps75
  go_wp2
  go_loopw [9] (fun u w8 => u = .int .i64 0 ∧ w8 = w) (fun u _ => 0)
  case atStart => exact ⟨rfl, rfl⟩
  case round =>
    obtain ⟨rfl, rfl⟩ := hrel
    go_wp2
    go_ret
    exact ⟨rfl, rfl⟩
set_option maxHeartbeats 8000000 in
set_option maxRecDepth 100000 in
theorem meterD0_any (gl : List GT) (ga : Option Addr) (gc : Nat) (v : Value) (w : World) : Calls Tryd.prog 72 #[v, .agg #[.slice ga gl.length gc, .slice none 0 0, .slice none 0 0]] w fun e w' => e = .returned (.bool true) ∧ Below w.heap.size w w' := by
  go_enter Tryd.func72, Tryd.ntmps72
  go_wp2
  go_loopw [12] (fun u w8 => u = .int .i64 0 ∧ w8 = (w.alloc (.cells #[.slice ga gl.length gc, .slice none 0 0, .slice none 0 0] 26))) (fun u _ => 0)
  case atStart => exact ⟨rfl, rfl⟩
  case round =>
    obtain ⟨rfl, rfl⟩ := hrel
    go_wp2
    go_loopw [26] (fun u w8 => u = .int .i64 0 ∧ w8 = (w.alloc (.cells #[.slice ga gl.length gc, .slice none 0 0, .slice none 0 0] 26))) (fun u _ => 0)
    case atStart => exact ⟨rfl, rfl⟩
    case round =>
      obtain ⟨rfl, rfl⟩ := hrel
      go_wp2
      go_ret
      exact ⟨rfl, (Below.refl _ _).alloc (Nat.le_refl _) _⟩
set_option maxHeartbeats 8000000 in
set_option maxRecDepth 100000 in
theorem shapesD0_any (gl : List GT) (ga : Option Addr) (gc : Nat) (w : World) : Calls Tryd.prog 37 #[.slice ga gl.length gc, .agg #[.slice ga gl.length gc, .slice none 0 0, .slice none 0 0]] w fun e w' => e = .returned (.bool true) ∧ Below w.heap.size w w' := by
  have hs : w.heap.size ≤ ((w.alloc (.cells #[.slice ga gl.length gc] 59)).alloc (.cells #[.slice ga gl.length gc, .slice none 0 0, .slice none 0 0] 26)).heap.size := by simp; omega
  have hb : Below w.heap.size w ((w.alloc (.cells #[.slice ga gl.length gc] 59)).alloc (.cells #[.slice ga gl.length gc, .slice none 0 0, .slice none 0 0] 26)) := ((Below.refl _ _).alloc (Nat.le_refl _) _).alloc (by simp) _
  have HB := Lib.hid hb
  clear hb
  go_enter Tryd.func37, Tryd.ntmps37
  go_wp2
  go_loopw [10] (fun u w8 => u = .int .i64 0 ∧ w8 = ((w.alloc (.cells #[.slice ga gl.length gc] 59)).alloc (.cells #[.slice ga gl.length gc, .slice none 0 0, .slice none 0 0] 26))) (fun u _ => 0)
  case atStart => exact ⟨rfl, rfl⟩
  case round =>
    obtain ⟨rfl, rfl⟩ := hrel
    go_wp2_with fail
    refine (allK0_any _ _).mono ?_
    rintro e W9 ⟨rfl, rfl⟩
    go_wp2
    go_ret
    exact ⟨rfl, HB.out⟩
set_option maxHeartbeats 8000000 in
set_option maxRecDepth 100000 in
theorem bounds0_any (n0 : Nat) (gl : List GT) (ga : Option Addr) (gc : Nat) (h512 : gl.length ≤ 512) (hfew : fewF 4096 gl = true) (w : World) (hn0 : n0 ≤ w.heap.size) (hin : GsIn n0 w gl ga) : Calls Tryd.prog 36 #[.agg #[.slice ga gl.length gc, .slice none 0 0, .slice none 0 0]] w fun e w' => e = .returned (.bool true) ∧ Below w.heap.size w w' := by
  have e1 : decide ((gl.length : Int) > 512) = false := by rw [decide_eq_false_iff_not]; omega
  have e2 : decide ((512 : Int) < (gl.length : Int)) = false := by rw [decide_eq_false_iff_not]; omega
  have e3 : decide (512 < gl.length) = false := by rw [decide_eq_false_iff_not]; omega
  obtain ⟨gx, hgx⟩ : ∃ gx, w.heap.size = gx := ⟨_, rfl⟩
  obtain ⟨wa, hwa⟩ : ∃ wa, w.alloc (.cells #[.slice ga gl.length gc, .slice none 0 0, .slice none 0 0] 26) = wa := ⟨_, rfl⟩
  have hba : Below w.heap.size w wa := by rw [← hwa]; exact (Below.refl _ _).alloc (Nat.le_refl _) _
  have BX : wa.heap[gx]? = some (.cells #[.slice ga gl.length gc, .slice none 0 0, .slice none 0 0] 26 (0, 0)) := by rw [← hwa, ← hgx]; exact World.alloc_heap_new w _
  have c0 := fewBits_any n0 gl (by omega) ga gc wa (Nat.le_trans hn0 hba.size) (hin.keep (Below.keptTo hba hn0))
  rw [hfew] at c0
  have c0K := Lib.hid c0
  have HW := Lib.hid (And.intro hba BX)
  obtain ⟨z0, z1, z2⟩ := ope3 BX
  clear c0 hba BX hin hn0 hfew h512
  go_enter Tryd.func36, Tryd.ntmps36
  go_upto_region 1 with (fail)
  (try rw [hwa])
  (try rw [hgx])
  clear hwa hgx
  go_wp2_with fail
  refine c0K.out.mono ?_
  clear c0K z0 z1 z2
  rintro e W1 ⟨rfl, hb1⟩
  obtain ⟨z0, z1, z2⟩ := ope3 (block_kept HW.out.2 hb1)
  have hb2 : Below w.heap.size w (W1.alloc (.cells #[.int .i64 0] 89 (0, 0))) := (HW.out.1.trans (hb1.mono HW.out.1.size)).alloc (Nat.le_trans HW.out.1.size hb1.size) _
  have hb3 : Below w.heap.size w ((W1.alloc (.cells #[.int .i64 0] 89 (0, 0))).setCell ⟨W1.heap.size, 0, none⟩ (.int .i64 0)) := hb2.setCell (p := ⟨W1.heap.size, 0, none⟩) (Nat.le_trans HW.out.1.size hb1.size) _
  obtain ⟨W2, hW2⟩ : ∃ W2, (W1.alloc (.cells #[.int .i64 0] 89 (0, 0))).setCell ⟨W1.heap.size, 0, none⟩ (.int .i64 0) = W2 := ⟨_, rfl⟩
  rw [hW2] at hb3
  have y0 : (W1.alloc (.cells #[.int .i64 0] 89 (0, 0))).cell? ⟨W1.heap.size, 0, none⟩ = some (.int .i64 0) := by
    have h9 := World.alloc_heap_new W1 (.cells #[.int .i64 0] 89 (0, 0))
    simp only [World.cell?, h9]; rfl
  obtain ⟨x0, x1, x2⟩ := ope3 (show W2.heap[gx]? = some (.cells #[.slice ga gl.length gc, .slice none 0 0, .slice none 0 0] 26 (0, 0)) by
    rw [← hW2, Below.heap_setCell _ ⟨W1.heap.size, 0, none⟩ _ gx (by have h1 := (Array.getElem?_eq_some_iff.1 HW.out.2).1; have h2 := hb1.size; show gx ≠ W1.heap.size; omega)]
    exact block_alloc (block_kept HW.out.2 hb1) _)
  have HB3 := Lib.hid hb3
  clear hb1 hb2 hb3
  go_upto_region 4 with (fail)
  (try rw [hW2])
  clear hW2 z0 z1 z2 y0
  go_wp2_with fail
  refine (meterD0_any gl ga gc _ W2).mono ?_
  rintro e W3 ⟨rfl, hb4⟩
  go_wp2
  go_ret
  exact ⟨rfl, HB3.out.trans (hb4.mono HB3.out.size)⟩
/-- What is wrong with signals' numbers, from a fault. -/
def sigF : Int → List GT → Int
  | f, [] => f
  | f, g :: r => sigF (wantF f (holdsE g.wd g.ini) 92) r
theorem sigF_drop (l : List GT) (k : Nat) (h : k < l.length) (f : Int) : sigF f (l.drop k) = sigF (wantF f (holdsE l[k].wd l[k].ini) 92) (l.drop (k + 1)) := by
  rw [← List.getElem_cons_drop h]; rfl
set_option maxHeartbeats 8000000 in
set_option maxRecDepth 100000 in
theorem sizerD0_any (g n0 : Nat) (gl : List GT) (hll : gl.length ≤ 12000000) (hwf : ∀ x ∈ gl, x.Wf) (ga : Option Addr) (gc : Nat) (f : Int) (w : World) (hng : n0 ≤ g) (hn0 : n0 ≤ w.heap.size) (hin : GsIn n0 w gl ga) (hs : SzAt g f w) :
    Calls Tryd.prog 39 #[.pointer (some ⟨g, 0, none⟩), .agg #[.slice ga gl.length gc, .slice none 0 0, .slice none 0 0]] w fun e w' => e = .returned (.tuple #[]) ∧ Kb1 g w w' ∧ SzAt g (sigF f gl) w' := by
  obtain ⟨R, hR⟩ : ∃ R, sigF f gl = R := ⟨_, rfl⟩
  rw [hR]
  obtain ⟨gx, hgx⟩ : ∃ gx, w.heap.size = gx := ⟨_, rfl⟩
  obtain ⟨wa, hwa⟩ : ∃ wa, w.alloc (.cells #[.slice ga gl.length gc, .slice none 0 0, .slice none 0 0] 26) = wa := ⟨_, rfl⟩
  have hba : Below w.heap.size w wa := by rw [← hwa]; exact (Below.refl _ _).alloc (Nat.le_refl _) _
  have BX : wa.heap[gx]? = some (.cells #[.slice ga gl.length gc, .slice none 0 0, .slice none 0 0] 26 (0, 0)) := by rw [← hwa, ← hgx]; exact World.alloc_heap_new w _
  have hsa : SzAt g f wa := block_kept hs hba
  have hgg : g < w.heap.size := (Array.getElem?_eq_some_iff.1 hs).1
  obtain ⟨z0, z1, z2⟩ := ope3 BX
  have HA := Lib.hid (And.intro (Kb1.of_below (B := g) hba) (And.intro hsa BX))
  clear hsa BX hs
  go_enter Tryd.func39, Tryd.ntmps39
  go_upto_region 1 with (fail)
  (try rw [hwa])
  (try rw [hgx])
  clear hwa
  go_wp2
  clear z0 z1 z2
  go_loopw [13] (fun u wr => ∃ (k : Nat) (F : Int), u = .int .i64 k ∧ k ≤ gl.length ∧ sigF F (gl.drop k) = R ∧ SzAt g F wr ∧ Kb1 g w wr ∧ wr.heap[gx]? = some (.cells #[.slice ga gl.length gc, .slice none 0 0, .slice none 0 0] 26 (0, 0))) (fun u _ => gl.length - (intOf u).toNat)
  case atStart => exact ⟨0, f, rfl, Nat.zero_le _, by rw [List.drop_zero]; exact hR, HA.out.2.1, HA.out.1, HA.out.2.2⟩
  case round =>
    obtain ⟨k, F, rfl, hk, hre, hsz, hkb, hbx⟩ := hrel
    by_cases hlt : k < gl.length
    · have d1 : decide (k < gl.length) = true := by simpa using hlt
      have d2 : decide ((k : Int) < (gl.length : Int)) = true := by rw [decide_eq_true_eq]; omega
      have x1 : (k : Int) < (gl.length : Int) := by omega
      obtain ⟨b, o, rfl, hb, hr, _⟩ := InRow.kept hin (hkb.keptTo hng hn0) hlt
      have hwx := hwf gl[k] (List.getElem_mem hlt)
      rw [sigF_drop gl k hlt] at hre
      generalize hgxx : gl[k] = x at *
      obtain ⟨nm, wd, kd, ini⟩ := x
      simp only at hre
      have r0 : wr.cell? ⟨b, o + k * 4, none⟩ = some (.string (bs nm)) := hr 0 _ rfl
      have r1 : wr.cell? ⟨b, o + k * 4 + 1, none⟩ = some (.int .i64 wd) := hr 1 _ rfl
      have r2 : wr.cell? ⟨b, o + k * 4 + 2, none⟩ = some (.int .i64 kd) := hr 2 _ rfl
      have r3 : wr.cell? ⟨b, o + k * 4 + 3, none⟩ = some (.int .u64 (ini : Int)) := hr 3 _ rfl
      have hb1 : Below wr.heap.size wr (wr.alloc (.cells #[.string (bs nm), .int .i64 wd, .int .i64 kd, .int .u64 (ini : Int)] 71)) := (Below.refl _ _).alloc (Nat.le_refl _) _
      have ch := holds_any wd ini hwx (wr.alloc (.cells #[.string (bs nm), .int .i64 wd, .int .i64 kd, .int .u64 (ini : Int)] 71))
      have cw := want_any g F (holdsE wd ini) 92 (wr.alloc (.cells #[.string (bs nm), .int .i64 wd, .int .i64 kd, .int .u64 (ini : Int)] 71)) (block_kept hsz hb1)
      have hk1 := hkb.alloc (.cells #[.string (bs nm), .int .i64 wd, .int .i64 kd, .int .u64 (ini : Int)] 71)
      have hbx1 := block_alloc hbx (.cells #[.string (bs nm), .int .i64 wd, .int .i64 kd, .int .u64 (ini : Int)] 71)
      have HC := Lib.hid (And.intro ch cw)
      have HK := Lib.hid (And.intro hk1 (And.intro hbx1 hre))
      have hgn : g ≠ gx := by omega
      clear hin hr hgxx hsz hkb hb1 hk1 hbx1 hbx ch cw hre hwx hR
      go_wp2_with fail
      refine HC.out.1.mono ?_
      rintro e W9 ⟨rfl, rfl⟩
      go_wp2_with fail
      refine HC.out.2.mono ?_
      clear HC
      rintro e W2 ⟨rfl, k2, s2⟩
      have HP := Lib.hid (And.intro s2 (And.intro (HK.out.1.trans k2) (k2.kept HK.out.2.1 (Ne.symm hgn))))
      clear k2 s2 r0 r1 r2 r3
      go_wp2
      go_roundw
      case rel => exact ⟨k + 1, _, by simp; first | done | rfl | omega, by omega, HK.out.2.2, HP.out.1, HP.out.2.1, HP.out.2.2⟩
      case measure => simp [intOf]; omega
    · have d1 : decide (k < gl.length) = false := by simpa using hlt
      have d2 : decide ((k : Int) < (gl.length : Int)) = false := by rw [decide_eq_false_iff_not]; omega
      have HE : Hid (SzAt g R wr) := Lib.hid (by rw [List.drop_eq_nil_of_le (by omega)] at hre; rw [← hre]; exact hsz)
      have HK := Lib.hid hkb
      obtain ⟨z0, z1, z2⟩ := ope3 hbx
      clear hre hR hin hkb hsz hbx hlt
      go_wp2
      go_loopw [28] (fun u w8 => u = .int .i64 0 ∧ w8 = wr) (fun u _ => 0)
      case atStart => exact ⟨rfl, rfl⟩
      case round =>
        obtain ⟨rfl, rfl⟩ := hrel
        go_wp2
        go_loopw [46] (fun u w8 => u = .int .i64 0 ∧ w8 = wr) (fun u _ => 0)
        case atStart => exact ⟨rfl, rfl⟩
        case round =>
          obtain ⟨rfl, rfl⟩ := hrel
          go_wp2
          exact bodyPost_end (v := .tuple #[]) (by simp [results, Tryd.results39, go_sem]) rfl (by exact ⟨rfl, HK.out, HE.out⟩)
/-- A design without processes and checks that can be sized. -/
def Easy (gl : List GT) : Prop := gl.length ≤ 512 ∧ fewF 4096 gl = true ∧ sigsMay gl = true ∧ sigF 0 gl = 0 ∧ (∀ x ∈ gl, x.Wf) ∧ ∀ g ∈ gl, g.nm.length ≤ 12000000
def Sz0P (gl : List GT) (w : World) : Ending → World → Prop := fun e w' => ∃ (a : Option Addr) (c : Nat), e = .returned (.tuple #[.agg #[.slice a gl.length c, .slice none 0 0, .slice none 0 0], .int .i64 0]) ∧ GsIn w'.heap.size w' gl a ∧ Below w.heap.size w w'
def RowD (W : World) (B : Nat) (v0 v1 v2 : Value) : Prop := W.heap[B]? = some (.cells #[v0, v1, v2] 26 (0, 0))
theorem RowD.put {W : World} {B : Nat} {u0 u1 u2 : Value} (h : RowD W B u0 u1 u2) (v0 v1 v2 : Value) : RowD (((W.setCell ⟨B, 0, none⟩ v0).setCell ⟨B, 1, none⟩ v1).setCell ⟨B, 2, none⟩ v2) B v0 v1 v2 := by
  unfold RowD at *
  simp [World.setCell, Array.getElem?_modify, h]
theorem put3_other (W : World) (B : Nat) (v0 v1 v2 : Value) (k : Nat) (hk : k ≠ B) : (((W.setCell ⟨B, 0, none⟩ v0).setCell ⟨B, 1, none⟩ v1).setCell ⟨B, 2, none⟩ v2).heap[k]? = W.heap[k]? := by
  rw [Below.heap_setCell _ _ _ k hk, Below.heap_setCell _ _ _ k hk, Below.heap_setCell _ _ _ k hk]
theorem below_put3 {n : Nat} {a W : World} {B : Nat} (h : Below n a W) (hB : n ≤ B) (v0 v1 v2 : Value) : Below n a (((W.setCell ⟨B, 0, none⟩ v0).setCell ⟨B, 1, none⟩ v1).setCell ⟨B, 2, none⟩ v2) :=
  (Below.setCell (Below.setCell (Below.setCell h (p := ⟨B, 0, none⟩) hB _) (p := ⟨B, 1, none⟩) hB _) (p := ⟨B, 2, none⟩) hB _)
set_option maxHeartbeats 8000000 in
set_option maxRecDepth 100000 in
theorem size0_any (gl : List GT) (hE : Easy gl) (n0 : Nat) (ga : Option Addr) (gc : Nat) (w : World) (hn0 : n0 ≤ w.heap.size) (hin : GsIn n0 w gl ga) : Calls Tryd.prog 14 #[.agg #[.slice ga gl.length gc, .slice none 0 0, .slice none 0 0]] w (Sz0P gl w) := by
  obtain ⟨h512, hfew, hsm, hsf, hwf, hnm⟩ := hE
  have cb := fun (W : World) (h : Below w.heap.size w W) => bounds0_any n0 gl ga gc h512 hfew W (Nat.le_trans hn0 h.size) (hin.keep (Below.keptTo h hn0))
  have cm := fun (W : World) (h : Below w.heap.size w W) => mayBeSignals_any n0 gl (by omega) hnm ga gc W (Nat.le_trans hn0 h.size) (hin.keep (Below.keptTo h hn0))
  have cc := fun (W : World) (h : Below w.heap.size w W) => copyFlat0_any n0 gl (by omega) ga gc W (Nat.le_trans hn0 h.size) (hin.keep (Below.keptTo h hn0))
  have cz := fun (a : Option Addr) (c : Nat) (g m : Nat) (W : World) (h1 : m ≤ g) (h2 : m ≤ W.heap.size) (h3 : GsIn m W gl a) (h4 : SzAt g 0 W) => sizerD0_any g m gl (by omega) hwf a c 0 W h1 h2 h3 h4
  simp only [hsm] at cm
  simp only [hsf] at cz
  have HB := Lib.hid cb
  have HM := Lib.hid cm
  have HC := Lib.hid cc
  have HZ := Lib.hid cz
  obtain ⟨gx, hgx⟩ : ∃ gx, w.heap.size = gx := ⟨_, rfl⟩
  obtain ⟨wa, hwa⟩ : ∃ wa, w.alloc (.cells #[.slice ga gl.length gc, .slice none 0 0, .slice none 0 0] 26) = wa := ⟨_, rfl⟩
  have hba : Below w.heap.size w wa := by rw [← hwa]; exact (Below.refl _ _).alloc (Nat.le_refl _) _
  have hsa : wa.heap.size = gx + 1 := by rw [← hwa, World.size_alloc, hgx]
  have BX : wa.heap[gx]? = some (.cells #[.slice ga gl.length gc, .slice none 0 0, .slice none 0 0] 26 (0, 0)) := by rw [← hwa, ← hgx]; exact World.alloc_heap_new w _
  obtain ⟨w1, hw1⟩ : ∃ w1, wa.alloc (.cells #[.slice none 0 0, .slice none 0 0, .slice none 0 0] 26 (0, 0)) = w1 := ⟨_, rfl⟩
  have hb1 : Below wa.heap.size wa w1 := by rw [← hw1]; exact (Below.refl _ _).alloc (Nat.le_refl _) _
  have hbw : Below w.heap.size w w1 := hba.trans (hb1.mono hba.size)
  have BR : RowD w1 (gx + 1) (.slice none 0 0) (.slice none 0 0) (.slice none 0 0) := by unfold RowD; rw [← hw1, ← hsa]; exact World.alloc_heap_new wa _
  have HW := Lib.hid (And.intro hbw (And.intro (block_kept BX hb1) BR))
  have HG := Lib.hid hgx
  obtain ⟨z0, z1, z2⟩ := ope3 HW.out.2.1
  clear cb cm cc cz hba BX hb1 hbw BR hin hn0 h512 hfew hsm hsf hwf hnm
  have c0 := HB.out w1 HW.out.1
  have c0K := Lib.hid c0
  clear c0
  go_enter Tryd.func14, Tryd.ntmps14
  go_upto_region 1 with (fail)
  (try rw [hwa])
  (try rw [hgx])
  (try rw [hw1])
  (try rw [hsa])
  clear hwa hw1 hsa hgx
  go_wp2_with fail
  refine c0K.out.mono ?_
  clear c0K z0 z1 z2
  rintro e W2 ⟨rfl, hb⟩
  have HW2 := Lib.hid (And.intro (HW.out.1.trans (hb.mono HW.out.1.size)) (And.intro (block_kept HW.out.2.1 hb) (block_kept (show w1.heap[gx + 1]? = _ from HW.out.2.2) hb)))
  obtain ⟨z0, z1, z2⟩ := ope3 HW2.out.2.1
  clear hb
  have c1K := Lib.hid (HM.out W2 HW2.out.1)
  go_wp2_with fail
  refine c1K.out.mono ?_
  clear c1K z0 z1 z2
  rintro e W3 ⟨rfl, hb⟩
  have HW3 := Lib.hid (And.intro (HW2.out.1.trans (hb.mono HW2.out.1.size)) (And.intro (block_kept HW2.out.2.1 hb) (block_kept HW2.out.2.2 hb)))
  obtain ⟨z0, z1, z2⟩ := ope3 HW3.out.2.1
  clear hb
  go_wp2_with fail
  refine (shapesD0_any gl ga gc W3).mono ?_
  clear z0 z1 z2
  rintro e W4 ⟨rfl, hb⟩
  have HW4 := Lib.hid (And.intro (HW3.out.1.trans (hb.mono HW3.out.1.size)) (And.intro (block_kept HW3.out.2.1 hb) (block_kept HW3.out.2.2 hb)))
  obtain ⟨z0, z1, z2⟩ := ope3 HW4.out.2.1
  clear hb
  have c2K := Lib.hid (HC.out W4 HW4.out.1)
  go_wp2_with fail
  refine c2K.out.mono ?_
  clear c2K z0 z1 z2
  rintro e V1 ⟨a, c, rfl, hga, hfr, hb9⟩
  have HFR : Hid (∀ p, a = some p → gx + 2 ≤ p.block) := Lib.hid (fun p hp => by have h8 := hfr p hp; have h9 := (Array.getElem?_eq_some_iff.1 HW4.out.2.2).1; omega)
  clear hfr
  obtain ⟨hi, hhi⟩ : ∃ hi, V1.heap.size = hi := ⟨_, rfl⟩
  have hbw := HW4.out.1.trans (hb9.mono HW4.out.1.size)
  have hrr := block_kept HW4.out.2.2 hb9
  have hgi : gx + 2 ≤ hi := by have := (Array.getElem?_eq_some_iff.1 hrr).1; omega
  obtain ⟨V2, hV2⟩ : ∃ V2, V1.alloc (.cells #[.int .i64 0] 61 (0, 0)) = V2 := ⟨_, rfl⟩
  have hs2 : V2.heap.size = hi + 1 := by rw [← hV2, World.size_alloc, hhi]
  have hb2 : Below V1.heap.size V1 V2 := by rw [← hV2]; exact (Below.refl _ _).alloc (Nat.le_refl _) _
  have hz2 : SzAt hi 0 V2 := by unfold SzAt; rw [← hV2, ← hhi]; exact World.alloc_heap_new V1 _
  obtain ⟨V3, hV3⟩ : ∃ V3, V2.alloc (.cells #[.slice none 0 0, .slice none 0 0, .slice none 0 0] 26 (0, 0)) = V3 := ⟨_, rfl⟩
  have hs3 : V3.heap.size = hi + 2 := by rw [← hV3, World.size_alloc, hs2]
  have hb3 : Below V2.heap.size V2 V3 := by rw [← hV3]; exact (Below.refl _ _).alloc (Nat.le_refl _) _
  have hz3 : SzAt hi 0 V3 := block_kept hz2 hb3
  have hr3 : RowD V3 (hi + 1) (.slice none 0 0) (.slice none 0 0) (.slice none 0 0) := by unfold RowD; rw [← hV3, ← hs2]; exact World.alloc_heap_new V2 _
  obtain ⟨V4, hV4⟩ : ∃ V4, V3.setCell ⟨hi, 0, none⟩ (.int .i64 0) = V4 := ⟨_, rfl⟩
  have hz4 : SzAt hi 0 V4 := by rw [← hV4]; exact hz3.set 0
  have ho4 : ∀ k, k ≠ hi → V4.heap[k]? = V3.heap[k]? := fun k hk => by rw [← hV4]; exact Below.heap_setCell V3 ⟨hi, 0, none⟩ _ k hk
  have hr4 : RowD V4 (hi + 1) (.slice none 0 0) (.slice none 0 0) (.slice none 0 0) := (ho4 (hi + 1) (by omega)).trans hr3
  have hr5 := hr4.put (.slice a gl.length c) (.slice none 0 0) (.slice none 0 0)
  have ho5 := fun k hk => put3_other V4 (hi + 1) (.slice a gl.length c) (.slice none 0 0) (.slice none 0 0) k hk
  obtain ⟨V5, hV5⟩ : ∃ V5, (((V4.setCell ⟨hi + 1, 0, none⟩ (.slice a gl.length c)).setCell ⟨hi + 1, 1, none⟩ (.slice none 0 0)).setCell ⟨hi + 1, 2, none⟩ (.slice none 0 0)) = V5 := ⟨_, rfl⟩
  have hs5 : V5.heap.size = hi + 2 := by rw [← hV5]; simp only [World.size_setCell]; rw [← hV4, World.size_setCell, hs3]
  rw [hV5] at hr5
  simp only [hV5] at ho5
  have hz5 : SzAt hi 0 V5 := hz4.keep (ho5 hi (by omega))
  have hb5 : Below V1.heap.size V1 V5 := by
    have a1 := hb2.trans (hb3.mono hb2.size)
    have a2 : Below V1.heap.size V1 V4 := by rw [← hV4]; exact a1.setCell (p := ⟨hi, 0, none⟩) (show V1.heap.size ≤ hi by omega) _
    have a3 := below_put3 a2 (show V1.heap.size ≤ hi + 1 by omega) (.slice a gl.length c) (.slice none 0 0) (.slice none 0 0)
    rw [hV5] at a3
    exact a3
  have hg5 : GsIn hi V5 gl a := by
    have h9 := hga.keep (Below.keptTo hb5 (Nat.le_refl _))
    rw [hhi] at h9; exact h9
  have c3K := Lib.hid (HZ.out a c hi hi V5 (Nat.le_refl _) (by omega) hg5 hz5)
  have HW5 := Lib.hid (And.intro (hbw.trans (hb5.mono hbw.size)) (And.intro (show V5.heap[gx + 1]? = _ from block_kept hrr hb5) (And.intro hr5 (And.intro hg5 (And.intro hs5 hgi)))))
  obtain ⟨u0, u1, u2⟩ := ope3 (show V4.heap[hi + 1]? = _ from hr4)
  obtain ⟨m0, m1, m2⟩ := thaw3 (show V4.heap[hi + 1]? = _ from hr4)
  have v0 := hz3.cell
  have v1 := hz3.frozen
  obtain ⟨x0, x1, x2⟩ := ope3 (show V5.heap[hi + 1]? = _ from hr5)
  clear hga hb9 hbw hrr hgi hb2 hz2 hs3 hb3 hz3 hr3 hz4 ho4 hr4 hr5 ho5 hs5 hz5 hb5 hg5
  go_upto_region 6 with (fail)
  (try rw [hV2])
  (try rw [hhi])
  (try rw [hV3])
  (try rw [hs2])
  (try rw [hV4])
  (try rw [hV5])
  clear hV2 hV3 hV4 hV5 u0 u1 u2 m0 m1 m2 v0 v1 hs2
  go_wp2_with fail
  refine c3K.out.mono ?_
  clear c3K x0 x1 x2
  rintro e V6 ⟨rfl, k6, s6⟩
  have f0 := s6.cell
  have hb6 : Below w.heap.size w V6 := HW5.out.1.trans (k6.below (by have := HW5.out.2.2.2.2.2; have := HG.out; omega) (by have := HW5.out.1.size; omega))
  have hg6 : GsIn hi V6 gl a := HW5.out.2.2.2.1.keep (k6.keptTo (Nat.le_refl _) (by have := HW5.out.2.2.2.2.1; omega))
  have hr6 : RowD V6 (gx + 1) (.slice none 0 0) (.slice none 0 0) (.slice none 0 0) := k6.kept HW5.out.2.1 (by have := HW5.out.2.2.2.2.2; omega)
  have hd6 : RowD V6 (hi + 1) (.slice a gl.length c) (.slice none 0 0) (.slice none 0 0) := k6.kept HW5.out.2.2.1 (by omega)
  have hs6 : hi ≤ V6.heap.size := by have := k6.size; have := HW5.out.2.2.2.2.1; omega
  obtain ⟨x0, x1, x2⟩ := ope3 (show V6.heap[hi + 1]? = _ from hd6)
  obtain ⟨y0, y1, y2⟩ := ope3 (show V6.heap[gx + 1]? = _ from hr6)
  obtain ⟨p0, p1, p2⟩ := thaw3 (show V6.heap[gx + 1]? = _ from hr6)
  have hr7 := hr6.put (.slice a gl.length c) (.slice none 0 0) (.slice none 0 0)
  have ho7 := fun k hk => put3_other V6 (gx + 1) (.slice a gl.length c) (.slice none 0 0) (.slice none 0 0) k hk
  have hb7 := below_put3 hb6 (show w.heap.size ≤ gx + 1 by have := HG.out; omega) (.slice a gl.length c) (.slice none 0 0) (.slice none 0 0)
  obtain ⟨wz, hwz⟩ : ∃ wz, (((V6.setCell ⟨gx + 1, 0, none⟩ (.slice a gl.length c)).setCell ⟨gx + 1, 1, none⟩ (.slice none 0 0)).setCell ⟨gx + 1, 2, none⟩ (.slice none 0 0)) = wz := ⟨_, rfl⟩
  have hsz : wz.heap.size = V6.heap.size := by rw [← hwz]; simp only [World.size_setCell]
  rw [hwz] at hr7 hb7
  simp only [hwz] at ho7
  obtain ⟨t0, t1, t2⟩ := ope3 (show wz.heap[gx + 1]? = _ from hr7)
  have hgz : GsIn wz.heap.size wz gl a := by
    have h9 := hg6.other (B := gx + 1) (fun p hp => ?_) ho7
    · rw [hsz]; exact InRow.less hs6 (fun _ _ h => h) h9
    · have := HFR.out p hp; omega
  have HP : Hid (Sz0P gl w (.returned (.tuple #[.agg #[.slice a gl.length c, .slice none 0 0, .slice none 0 0], .int .i64 0])) wz) := Lib.hid ⟨a, c, rfl, hgz, hb7⟩
  clear k6 s6 hb6 hg6 hr6 hd6 hs6 hr7 ho7 hb7 hsz hgz
  go_wp2
  (try rw [hwz])
  have hu := Tryd.underlying26
  refine bodyPost_ret (v := .tuple #[.agg #[.slice a gl.length c, .slice none 0 0, .slice none 0 0], .int .i64 0]) (by simp [results, Tryd.results14, go_sem, hu, t0, t1, t2]) rfl HP.out
end Go.Proofs.YtbcgeglkmpcnpaaDoor
