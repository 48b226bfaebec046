/-
  AsN, in one text.
-/
import Derived.Test.YtiipjbafdhijlaaGreatDoorZAM
import Derived.Deep.LoopGhost
import Derived.Deep.DeepCutAuto
namespace Go.Proofs.YtiipjbafdhijlaaGreatDoor
open Go Go.RowKit
set_option linter.unusedVariables false
set_option linter.unusedSimpArgs false
open Go.Sort
theorem kinds_drop (others fit : Nat) (l : List ST) (k : Nat) (h : k < l.length) : kindsK others fit (l.drop k) = (!(fit &&& (1 <<< l[k].op.toNat) == 0) && kindsK others others (l.drop (k + 1))) := by
 rw [← List.getElem_cons_drop h]; rfl
theorem labels_drop (l : List ST) (k : Nat) (h : k < l.length) : labelsK (l.drop k) = (((l.drop (k + 1)).isEmpty == l[k].xl.isEmpty) && labelsK (l.drop (k + 1))) := by
 rw [← List.getElem_cons_drop h]; rfl
set_option maxHeartbeats 8000000 in
set_option maxRecDepth 9000000 in
theorem kindsFit_any (k1 k2 : Bool) (k3 k4 : Int) (k5 k6 : Bool) (f o : Nat) (hfo : (f = 0 ∧ o = 0) ∨ (f = 32 ∧ o = 36) ∨ (f = 16 ∧ o = 16) ∨ (f = 110 ∧ o = 110)) (n0 : Nat) (l : List ST) (hll : l.length ≤ 12000000) (hop : ∀ x ∈ l, 1 ≤ x.op ∧ x.op < 7) (a : Option Addr) (c : Nat) (w : World) (hn0 : n0 ≤ w.heap.size) (hin : InRow 4 ST.cells (ST.In n0 w) n0 w l a) :
  Calls Tryz.prog 167 #[.slice a l.length c, .agg #[.bool k1, .bool k2, .int .i64 k3, .int .i64 k4, .bool k5, .bool k6, .int .u64 (f : Int), .int .u64 (o : Int)]] w fun e w' => e = .returned (.bool (kindsK o f l)) ∧ Below w.heap.size w w' := by
 obtain ⟨R, hR⟩ : ∃ R, kindsK o f l = R := ⟨_, rfl⟩
 have HR := Lib.hid hR
 rw [hR]
 clear hR
 have BK0 := World.alloc_heap_new w (.cells #[.bool k1, .bool k2, .int .i64 k3, .int .i64 k4, .bool k5, .bool k6, .int .u64 (f : Int), .int .u64 (o : Int)] 194)
 have hB0 : Below w.heap.size w (w.alloc (.cells #[.bool k1, .bool k2, .int .i64 k3, .int .i64 k4, .bool k5, .bool k6, .int .u64 (f : Int), .int .u64 (o : Int)] 194)) := (Below.refl _ _).alloc (Nat.le_refl _) _
 have hlt0 : w.heap.size < (w.alloc (.cells #[.bool k1, .bool k2, .int .i64 k3, .int .i64 k4, .bool k5, .bool k6, .int .u64 (f : Int), .int .u64 (o : Int)] 194)).heap.size := by simp
 go_enter Tryz.func167, Tryz.ntmps167
 go_wp2
 generalize w.alloc (.cells #[.bool k1, .bool k2, .int .i64 k3, .int .i64 k4, .bool k5, .bool k6, .int .u64 (f : Int), .int .u64 (o : Int)] 194) = w0 at *
 go_loopg [5, 12] l.length (fun g v u wr => ∃ (k fit : Nat), v = .int .u64 (fit : Int) ∧ u = .int .i64 k ∧ k + g = l.length ∧ kindsK o fit (l.drop k) = R ∧ (fit = f ∨ fit = o) ∧ Below w0.heap.size w0 wr)
 case atStart => exact ⟨0, f, rfl, rfl, by omega, by rw [List.drop_zero]; exact HR.out, .inl rfl, Below.refl _ _⟩
 case round =>
  obtain ⟨k, fit, rfl, rfl, hk, hkk, hfit, hb0⟩ := hrel
  have HK := Lib.hid hkk
  have hb1 := hB0.trans (hb0.mono hB0.size)
  clear hkk
  by_cases hlt : k < l.length
  ·have d1 : decide (k < l.length) = true := by simpa using hlt
   have d2 : decide ((k : Int) < (l.length : Int)) = true := by rw [decide_eq_true_eq]; omega
   have x1 : (k : Int) < (l.length : Int) := by omega
   obtain ⟨b, q, rfl, hb, hr, _⟩ := hin.kept (Below.keptTo hb1 hn0) hlt
   have HD := Lib.hid (kinds_drop o fit l k hlt)
   have hopk := hop l[k] (List.getElem_mem hlt)
   have BK := block_kept BK0 hb0
   obtain ⟨y0, y1, y2, y3, y4, y5, y6, y7⟩ := open8 BK
   have zz := hb1.size
   generalize hgx : l[k] = x at *
   obtain ⟨op, nm, xa, xc, xl, sa, sc, sl⟩ := x
   have r0 : wr.cell? ⟨b, q + k * 4, none⟩ = some (.int .i64 op) := hr 0 _ rfl
   have r1 : wr.cell? ⟨b, q + k * 4 + 1, none⟩ = some (.string (bs nm)) := hr 1 _ rfl
   have r2 : wr.cell? ⟨b, q + k * 4 + 2, none⟩ = some (.slice xa xl.length xc) := hr 2 _ rfl
   have r3 : wr.cell? ⟨b, q + k * 4 + 3, none⟩ = some (.slice sa sl.length sc) := hr 3 _ rfl
   simp only [ST.op] at hopk HD
   cases gk with
   | zero => omega
   | succ gg =>
    have HH := Lib.hid (And.intro hk hgx)
    have hkg : k + 1 + gg = l.length := by omega
    clear hin hop hr BK0 hk hgx hB0
    obtain ⟨j, rfl⟩ : ∃ j : Nat, op = (j : Int) := ⟨op.toNat, by omega⟩
    have hj : j = 1 ∨ j = 2 ∨ j = 3 ∨ j = 4 ∨ j = 5 ∨ j = 6 := by omega
    have hf5 : fit = 0 ∨ fit = 32 ∨ fit = 36 ∨ fit = 16 ∨ fit = 110 := by omega
    clear hopk hfo hfit
    have y7A := fun O => alloc_cell y7 O
    rcases hj with rfl | rfl | rfl | rfl | rfl | rfl
    ·obtain ⟨t, ht⟩ : ∃ t, (bits BinOp.and .u64 (fit : Int) 2 == 0) = t := ⟨_, rfl⟩
     have HT : Hid ((fit &&& (1 <<< ((1 : Nat) : Int).toNat) == 0) = t) := Lib.hid (by rw [← ht]; rcases hf5 with rfl | rfl | rfl | rfl | rfl <;> kernel_rfl)
     have e1 : ((1 : Nat) : Int) = 1 := rfl
     cases t with
     | true =>
      go_wp2
      go_ret
      exact ⟨by rw [← HK.out, HD.out, HT.out]; rfl, hb1.alloc hb1.size _⟩
     | false =>
      go_wp2
      go_roundg gg
      case rel => exact ⟨k + 1, o, rfl, by simp; first | done | rfl | omega, hkg, by rw [← HK.out, HD.out, HT.out]; rfl, .inr rfl, hb0.alloc hb0.size _⟩
      case measure => omega
    ·obtain ⟨t, ht⟩ : ∃ t, (bits BinOp.and .u64 (fit : Int) 4 == 0) = t := ⟨_, rfl⟩
     have HT : Hid ((fit &&& (1 <<< ((2 : Nat) : Int).toNat) == 0) = t) := Lib.hid (by rw [← ht]; rcases hf5 with rfl | rfl | rfl | rfl | rfl <;> kernel_rfl)
     have e2 : ((2 : Nat) : Int) = 2 := rfl
     cases t with
     | true =>
      go_wp2
      go_ret
      exact ⟨by rw [← HK.out, HD.out, HT.out]; rfl, hb1.alloc hb1.size _⟩
     | false =>
      go_wp2
      go_roundg gg
      case rel => exact ⟨k + 1, o, rfl, by simp; first | done | rfl | omega, hkg, by rw [← HK.out, HD.out, HT.out]; rfl, .inr rfl, hb0.alloc hb0.size _⟩
      case measure => omega
    ·obtain ⟨t, ht⟩ : ∃ t, (bits BinOp.and .u64 (fit : Int) 8 == 0) = t := ⟨_, rfl⟩
     have HT : Hid ((fit &&& (1 <<< ((3 : Nat) : Int).toNat) == 0) = t) := Lib.hid (by rw [← ht]; rcases hf5 with rfl | rfl | rfl | rfl | rfl <;> kernel_rfl)
     have e3 : ((3 : Nat) : Int) = 3 := rfl
     cases t with
     | true =>
      go_wp2
      go_ret
      exact ⟨by rw [← HK.out, HD.out, HT.out]; rfl, hb1.alloc hb1.size _⟩
     | false =>
      go_wp2
      go_roundg gg
      case rel => exact ⟨k + 1, o, rfl, by simp; first | done | rfl | omega, hkg, by rw [← HK.out, HD.out, HT.out]; rfl, .inr rfl, hb0.alloc hb0.size _⟩
      case measure => omega
    ·obtain ⟨t, ht⟩ : ∃ t, (bits BinOp.and .u64 (fit : Int) 16 == 0) = t := ⟨_, rfl⟩
     have HT : Hid ((fit &&& (1 <<< ((4 : Nat) : Int).toNat) == 0) = t) := Lib.hid (by rw [← ht]; rcases hf5 with rfl | rfl | rfl | rfl | rfl <;> kernel_rfl)
     have e4 : ((4 : Nat) : Int) = 4 := rfl
     cases t with
     | true =>
      go_wp2
      go_ret
      exact ⟨by rw [← HK.out, HD.out, HT.out]; rfl, hb1.alloc hb1.size _⟩
     | false =>
      go_wp2
      go_roundg gg
      case rel => exact ⟨k + 1, o, rfl, by simp; first | done | rfl | omega, hkg, by rw [← HK.out, HD.out, HT.out]; rfl, .inr rfl, hb0.alloc hb0.size _⟩
      case measure => omega
    ·obtain ⟨t, ht⟩ : ∃ t, (bits BinOp.and .u64 (fit : Int) 32 == 0) = t := ⟨_, rfl⟩
     have HT : Hid ((fit &&& (1 <<< ((5 : Nat) : Int).toNat) == 0) = t) := Lib.hid (by rw [← ht]; rcases hf5 with rfl | rfl | rfl | rfl | rfl <;> kernel_rfl)
     have e5 : ((5 : Nat) : Int) = 5 := rfl
     cases t with
     | true =>
      go_wp2
      go_ret
      exact ⟨by rw [← HK.out, HD.out, HT.out]; rfl, hb1.alloc hb1.size _⟩
     | false =>
      go_wp2
      go_roundg gg
      case rel => exact ⟨k + 1, o, rfl, by simp; first | done | rfl | omega, hkg, by rw [← HK.out, HD.out, HT.out]; rfl, .inr rfl, hb0.alloc hb0.size _⟩
      case measure => omega
    ·obtain ⟨t, ht⟩ : ∃ t, (bits BinOp.and .u64 (fit : Int) 64 == 0) = t := ⟨_, rfl⟩
     have HT : Hid ((fit &&& (1 <<< ((6 : Nat) : Int).toNat) == 0) = t) := Lib.hid (by rw [← ht]; rcases hf5 with rfl | rfl | rfl | rfl | rfl <;> kernel_rfl)
     have e6 : ((6 : Nat) : Int) = 6 := rfl
     cases t with
     | true =>
      go_wp2
      go_ret
      exact ⟨by rw [← HK.out, HD.out, HT.out]; rfl, hb1.alloc hb1.size _⟩
     | false =>
      go_wp2
      go_roundg gg
      case rel => exact ⟨k + 1, o, rfl, by simp; first | done | rfl | omega, hkg, by rw [← HK.out, HD.out, HT.out]; rfl, .inr rfl, hb0.alloc hb0.size _⟩
      case measure => omega
  ·have d1 : decide (k < l.length) = false := by simpa using hlt
   have d2 : decide ((k : Int) < (l.length : Int)) = false := by rw [decide_eq_false_iff_not]; omega
   have HE : Hid (R = true) := Lib.hid (by have := HK.out; rw [List.drop_eq_nil_of_le (by omega)] at this; rw [← this]; rfl)
   go_wp2
   go_ret
   exact ⟨by rw [HE.out]; rfl, hb1⟩
set_option maxHeartbeats 8000000 in
set_option maxRecDepth 9000000 in
theorem labelsFit_any (n0 : Nat) (l : List ST) (hll : l.length ≤ 12000000) (hxl : ∀ x ∈ l, x.xl.length ≤ 12000000) (a : Option Addr) (c : Nat) (w : World) (hn0 : n0 ≤ w.heap.size) (hin : InRow 4 ST.cells (ST.In n0 w) n0 w l a) :
  Calls Tryz.prog 168 #[.slice a l.length c] w fun e w' => e = .returned (.bool (labelsK l)) ∧ Below w.heap.size w w' := by
 obtain ⟨R, hR⟩ : ∃ R, labelsK l = R := ⟨_, rfl⟩
 have HR := Lib.hid hR
 rw [hR]
 clear hR
 go_enter Tryz.func168, Tryz.ntmps168
 go_wp2
 go_loopg [8] l.length (fun g u wr => ∃ (k : Nat), u = .int .i64 k ∧ k + g = l.length ∧ labelsK (l.drop k) = R ∧ Below w.heap.size w wr)
 case atStart => exact ⟨0, rfl, by omega, by rw [List.drop_zero]; exact HR.out, Below.refl _ _⟩
 case round =>
  obtain ⟨k, rfl, hk, hkk, hb0⟩ := hrel
  have HK := Lib.hid hkk
  clear hkk
  by_cases hlt : k < l.length
  ·have d1 : decide (k < l.length) = true := by simpa using hlt
   have d2 : decide ((k : Int) < (l.length : Int)) = true := by rw [decide_eq_true_eq]; omega
   have x1 : (k : Int) < (l.length : Int) := by omega
   obtain ⟨b, q, rfl, hb, hr, _⟩ := hin.kept (Below.keptTo hb0 hn0) hlt
   have HD := Lib.hid (labels_drop l k hlt)
   have hxk := hxl l[k] (List.getElem_mem hlt)
   have zz := hb0.size
   generalize hgx : l[k] = x at *
   obtain ⟨op, nm, xa, xc, xl, sa, sc, sl⟩ := x
   have r0 : wr.cell? ⟨b, q + k * 4, none⟩ = some (.int .i64 op) := hr 0 _ rfl
   have r1 : wr.cell? ⟨b, q + k * 4 + 1, none⟩ = some (.string (bs nm)) := hr 1 _ rfl
   have r2 : wr.cell? ⟨b, q + k * 4 + 2, none⟩ = some (.slice xa xl.length xc) := hr 2 _ rfl
   have r3 : wr.cell? ⟨b, q + k * 4 + 3, none⟩ = some (.slice sa sl.length sc) := hr 3 _ rfl
   simp only [ST.xl] at hxk HD
   obtain ⟨t, ht⟩ : ∃ t, (l.drop (k + 1)).isEmpty = t := ⟨_, rfl⟩
   obtain ⟨u, hu⟩ : ∃ u, xl.isEmpty = u := ⟨_, rfl⟩
   have t1 : ((k : Int) == (l.length : Int) - 1) = t := by
    rw [← ht, Bool.eq_iff_iff, beq_iff_eq, List.isEmpty_iff_length_eq_zero, List.length_drop]; omega
   have u1 : ((xl.length : Int) == 0) = u := by
    rw [← hu, Bool.eq_iff_iff, beq_iff_eq, List.isEmpty_iff_length_eq_zero]; omega
   rw [ht, hu] at HD
   have hsub : IntKind.i64.wrap ((l.length : Int) - 1) = (l.length : Int) - 1 := IntWalk.i64_in _ (by omega)
   have HH := Lib.hid (And.intro hgx (And.intro ht hu))
   clear hin hxl hr hgx ht hu
   cases gk with
   | zero => omega
   | succ gg =>
    cases t <;> cases u
    all_goals
     go_wp2
     first
     | (go_ret
        exact ⟨by rw [← HK.out, HD.out]; rfl, hb0.alloc hb0.size _⟩)
     | (go_roundg gg
        case rel => exact ⟨k + 1, by simp; first | done | rfl | omega, by omega, by rw [← HK.out, HD.out]; rfl, hb0.alloc hb0.size _⟩
        case measure => omega)
  ·have d1 : decide (k < l.length) = false := by simpa using hlt
   have d2 : decide ((k : Int) < (l.length : Int)) = false := by rw [decide_eq_false_iff_not]; omega
   have HE : Hid (R = true) := Lib.hid (by have := HK.out; rw [List.drop_eq_nil_of_le (by omega)] at this; rw [← this]; rfl)
   go_wp2
   go_ret
   exact ⟨by rw [HE.out]; rfl, hb0⟩
end Go.Proofs.YtiipjbafdhijlaaGreatDoor
