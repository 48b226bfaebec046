/-
  Are trees the same: SameX, SameS, Same.
-/
import Derived.Test.YtlbjmnakiflfpaaGreatDoorAsM
import Derived.Deep.LoopGhost
import Derived.Deep.DeepCutAuto
namespace Go.Proofs.YtlbjmnakiflfpaaGreatDoor
open Go Go.RowKit
set_option linter.unusedVariables false
set_option linter.unusedSimpArgs false
open Go.Sort

/-- Are two lists the same, element by element? -/
def eqList {α : Type} (p : α → α → Bool) : List α → List α → Bool
  | [], [] => true
  | x :: r, y :: t => p x y && eqList p r t
  | _, _ => false
theorem eqList_len {α : Type} (p : α → α → Bool) : ∀ l m : List α, l.length ≠ m.length → eqList p l m = false
  | [], [], h => absurd rfl h
  | [], _ :: _, _ => rfl
  | _ :: _, [], _ => rfl
  | x :: r, y :: t, h => by rw [eqList, eqList_len p r t (by simpa using h), Bool.and_false]
theorem eqList_drop {α : Type} (p : α → α → Bool) (l m : List α) (k : Nat) (h : k < l.length) (h2 : k < m.length) : eqList p (l.drop k) (m.drop k) = (p l[k] m[k] && eqList p (l.drop (k + 1)) (m.drop (k + 1))) := by
  rw [← List.getElem_cons_drop h, ← List.getElem_cons_drop h2]; rfl

set_option maxHeartbeats 8000000 in
set_option maxRecDepth 3000000 in
theorem eqX_any (p : XT → XT → Bool) (n0 : Nat) (l m : List XT) (hll : l.length ≤ 4000000) (hmm : m.length ≤ 4000000) (hc : ∀ x ∈ l, ∀ y ∈ m, ∀ w, n0 ≤ w.heap.size → x.In n0 w → y.In n0 w → Calls Tryz.prog 19 #[x.val, y.val] w fun e w' => e = .returned (.bool (p x y)) ∧ Below w.heap.size w w') (a : Option Addr) (c : Nat) (a2 : Option Addr) (c2 : Nat) (w : World) (hn0 : n0 ≤ w.heap.size) (hi1 : InRow 6 XT.cells (XT.In n0 w) n0 w l a) (hi2 : InRow 6 XT.cells (XT.In n0 w) n0 w m a2) :
    Calls Tryz.prog 59 #[.slice a l.length c, .slice a2 m.length c2, .func (.func 19) #[] #[]] w fun e w' => e = .returned (.bool (eqList p l m)) ∧ Below w.heap.size w w' := by
  by_cases hlen : l.length = m.length
  · have e1 : ((l.length : Int) != (m.length : Int)) = false := by rw [hlen]; simp
    have e2 : ((l.length : Int) == (m.length : Int)) = true := by rw [hlen]; simp
    have e3 : (l.length == m.length) = true := by rw [hlen]; simp
    have HLEN := Lib.hid hlen
    obtain ⟨R, hR⟩ : ∃ R, eqList p l m = R := ⟨_, rfl⟩
    have HR := Lib.hid hR
    rw [hR]
    clear hR hlen
    go_enter Tryz.func59, Tryz.ntmps59
    go_wp2
    go_loopg [17] l.length (fun g u wr => ∃ (k : Nat), u = .int .i64 k ∧ k + g = l.length ∧ eqList p (l.drop k) (m.drop k) = R ∧ Below w.heap.size w wr)
    case atStart => exact ⟨0, rfl, by omega, by rw [List.drop_zero, List.drop_zero]; exact HR.out, Below.refl _ _⟩
    case round =>
     obtain ⟨k, rfl, hk, hkk, hb0⟩ := hrel
     have HK := Lib.hid hkk
     clear hkk
     by_cases hlt : k < l.length
     · have hlt2 : k < m.length := by have := HLEN.out; omega
       have d1 : decide (k < l.length) = true := by simpa using hlt
       have d2 : decide ((k : Int) < (l.length : Int)) = true := by rw [decide_eq_true_eq]; omega
       have x1 : (k : Int) < (l.length : Int) := by omega
       have x2 : (k : Int) < (m.length : Int) := by omega
       obtain ⟨b, q, rfl, hb, hr, hx⟩ := hi1.kept (Below.keptTo hb0 hn0) hlt
       obtain ⟨b', q', rfl, hb', hs, hy⟩ := hi2.kept (Below.keptTo hb0 hn0) hlt2
       have HD := Lib.hid (eqList_drop p l m k hlt hlt2)
       have hcx := hc l[k] (List.getElem_mem hlt) m[k] (List.getElem_mem hlt2)
       have hxin := hx.keep (Below.keptTo hb0 hn0)
       have hyin := hy.keep (Below.keptTo hb0 hn0)
       have zz := hb0.size
       generalize p l[k] m[k] = bp at *
       generalize hgx : l[k] = x at *
       generalize hgy : m[k] = y at *
       obtain ⟨op, nm, xn, wd, v, xa, xc, xl⟩ := x
       obtain ⟨op2, nm2, xn2, wd2, v2, xa2, xc2, xl2⟩ := y
       have r0 : wr.cell? ⟨b, q + k * 6, none⟩ = some (.int .i64 op) := hr 0 _ rfl
       have r1 : wr.cell? ⟨b, q + k * 6 + 1, none⟩ = some (.string (bs nm)) := hr 1 _ rfl
       have r2 : wr.cell? ⟨b, q + k * 6 + 2, none⟩ = some (.int .i64 xn) := hr 2 _ rfl
       have r3 : wr.cell? ⟨b, q + k * 6 + 3, none⟩ = some (.int .i64 wd) := hr 3 _ rfl
       have r4 : wr.cell? ⟨b, q + k * 6 + 4, none⟩ = some (.int .u64 (v : Int)) := hr 4 _ rfl
       have r5 : wr.cell? ⟨b, q + k * 6 + 5, none⟩ = some (.slice xa xl.length xc) := hr 5 _ rfl
       have s0 : wr.cell? ⟨b', q' + k * 6, none⟩ = some (.int .i64 op2) := hs 0 _ rfl
       have s1 : wr.cell? ⟨b', q' + k * 6 + 1, none⟩ = some (.string (bs nm2)) := hs 1 _ rfl
       have s2 : wr.cell? ⟨b', q' + k * 6 + 2, none⟩ = some (.int .i64 xn2) := hs 2 _ rfl
       have s3 : wr.cell? ⟨b', q' + k * 6 + 3, none⟩ = some (.int .i64 wd2) := hs 3 _ rfl
       have s4 : wr.cell? ⟨b', q' + k * 6 + 4, none⟩ = some (.int .u64 (v2 : Int)) := hs 4 _ rfl
       have s5 : wr.cell? ⟨b', q' + k * 6 + 5, none⟩ = some (.slice xa2 xl2.length xc2) := hs 5 _ rfl
       have hb1 : Below w.heap.size w ((wr.alloc (.cells #[.int .i64 op, .string (bs nm), .int .i64 xn, .int .i64 wd, .int .u64 (v : Int), .slice xa xl.length xc] 25)).alloc (.cells #[.int .i64 op2, .string (bs nm2), .int .i64 xn2, .int .i64 wd2, .int .u64 (v2 : Int), .slice xa2 xl2.length xc2] 25)) := (hb0.alloc zz _).alloc (by simp; omega) _
       have hkk1 : Below wr.heap.size wr ((wr.alloc (.cells #[.int .i64 op, .string (bs nm), .int .i64 xn, .int .i64 wd, .int .u64 (v : Int), .slice xa xl.length xc] 25)).alloc (.cells #[.int .i64 op2, .string (bs nm2), .int .i64 xn2, .int .i64 wd2, .int .u64 (v2 : Int), .slice xa2 xl2.length xc2] 25)) := ((Below.refl _ _).alloc (Nat.le_refl _) _).alloc (by simp) _
       have c0 := hcx ((wr.alloc (.cells #[.int .i64 op, .string (bs nm), .int .i64 xn, .int .i64 wd, .int .u64 (v : Int), .slice xa xl.length xc] 25)).alloc (.cells #[.int .i64 op2, .string (bs nm2), .int .i64 xn2, .int .i64 wd2, .int .u64 (v2 : Int), .slice xa2 xl2.length xc2] 25)) (by simp; omega) (hxin.keep (Below.keptTo hkk1 (by omega))) (hyin.keep (Below.keptTo hkk1 (by omega)))
       simp only [XT.val, XT.cells] at c0
       have s0A := fun O => alloc_cell s0 O
       have s1A := fun O => alloc_cell s1 O
       have s2A := fun O => alloc_cell s2 O
       have s3A := fun O => alloc_cell s3 O
       have s4A := fun O => alloc_cell s4 O
       have s5A := fun O => alloc_cell s5 O
       have HH := Lib.hid (And.intro hk (And.intro hgx hgy))
       have hkg : k < l.length := hlt
       clear hi1 hi2 hc hcx hr hs hx hy hxin hyin hgx hgy hkk1
       cases gk with
       | zero => omega
       | succ gg =>
         cases bp
         all_goals
           go_wp2_with fail
           refine c0.mono ?_
           clear c0
           rintro e W1 ⟨rfl, hb2⟩
           have hb3 := hb1.trans (hb2.mono hb1.size)
           clear hb1 hb2
           go_wp2
           first
           | (go_ret
              exact ⟨by rw [← HK.out, HD.out]; rfl, hb3⟩)
           | (go_roundg gg
              case rel => exact ⟨k + 1, by simp; first | done | rfl | omega, by omega, by rw [← HK.out, HD.out]; rfl, hb3⟩
              case measure => omega)
     · have d1 : decide (k < l.length) = false := by simpa using hlt
       have d2 : decide ((k : Int) < (l.length : Int)) = false := by rw [decide_eq_false_iff_not]; omega
       have HE : Hid (R = true) := Lib.hid (by have := HK.out; have := HLEN.out; rw [List.drop_eq_nil_of_le (by omega), List.drop_eq_nil_of_le (by omega)] at *; rw [← HK.out]; rfl)
       go_wp2
       go_ret
       exact ⟨by rw [HE.out]; rfl, hb0⟩
  · have e1 : ((l.length : Int) != (m.length : Int)) = true := by rw [bne_iff_ne]; omega
    have e2 : (l.length != m.length) = true := by rw [bne_iff_ne]; exact hlen
    have e3 : (l.length == m.length) = false := by rw [beq_eq_false_iff_ne]; exact hlen
    have HE := Lib.hid (eqList_len p l m hlen)
    clear hlen
    go_enter Tryz.func59, Tryz.ntmps59
    go_wp2
    go_ret
    exact ⟨by rw [HE.out]; rfl, Below.refl _ _⟩

set_option maxHeartbeats 8000000 in
set_option maxRecDepth 3000000 in
theorem eqS_any (p : ST → ST → Bool) (n0 : Nat) (l m : List ST) (hll : l.length ≤ 4000000) (hmm : m.length ≤ 4000000) (hc : ∀ x ∈ l, ∀ y ∈ m, ∀ w, n0 ≤ w.heap.size → x.In n0 w → y.In n0 w → Calls Tryz.prog 21 #[x.val, y.val] w fun e w' => e = .returned (.bool (p x y)) ∧ Below w.heap.size w w') (a : Option Addr) (c : Nat) (a2 : Option Addr) (c2 : Nat) (w : World) (hn0 : n0 ≤ w.heap.size) (hi1 : InRow 4 ST.cells (ST.In n0 w) n0 w l a) (hi2 : InRow 4 ST.cells (ST.In n0 w) n0 w m a2) :
    Calls Tryz.prog 61 #[.slice a l.length c, .slice a2 m.length c2, .func (.func 21) #[] #[]] w fun e w' => e = .returned (.bool (eqList p l m)) ∧ Below w.heap.size w w' := by
  by_cases hlen : l.length = m.length
  · have e1 : ((l.length : Int) != (m.length : Int)) = false := by rw [hlen]; simp
    have e2 : ((l.length : Int) == (m.length : Int)) = true := by rw [hlen]; simp
    have e3 : (l.length == m.length) = true := by rw [hlen]; simp
    have HLEN := Lib.hid hlen
    obtain ⟨R, hR⟩ : ∃ R, eqList p l m = R := ⟨_, rfl⟩
    have HR := Lib.hid hR
    rw [hR]
    clear hR hlen
    go_enter Tryz.func61, Tryz.ntmps61
    go_wp2
    go_loopg [17] l.length (fun g u wr => ∃ (k : Nat), u = .int .i64 k ∧ k + g = l.length ∧ eqList p (l.drop k) (m.drop k) = R ∧ Below w.heap.size w wr)
    case atStart => exact ⟨0, rfl, by omega, by rw [List.drop_zero, List.drop_zero]; exact HR.out, Below.refl _ _⟩
    case round =>
     obtain ⟨k, rfl, hk, hkk, hb0⟩ := hrel
     have HK := Lib.hid hkk
     clear hkk
     by_cases hlt : k < l.length
     · have hlt2 : k < m.length := by have := HLEN.out; omega
       have d1 : decide (k < l.length) = true := by simpa using hlt
       have d2 : decide ((k : Int) < (l.length : Int)) = true := by rw [decide_eq_true_eq]; omega
       have x1 : (k : Int) < (l.length : Int) := by omega
       have x2 : (k : Int) < (m.length : Int) := by omega
       obtain ⟨b, q, rfl, hb, hr, hx⟩ := hi1.kept (Below.keptTo hb0 hn0) hlt
       obtain ⟨b', q', rfl, hb', hs, hy⟩ := hi2.kept (Below.keptTo hb0 hn0) hlt2
       have HD := Lib.hid (eqList_drop p l m k hlt hlt2)
       have hcx := hc l[k] (List.getElem_mem hlt) m[k] (List.getElem_mem hlt2)
       have hxin := hx.keep (Below.keptTo hb0 hn0)
       have hyin := hy.keep (Below.keptTo hb0 hn0)
       have zz := hb0.size
       generalize p l[k] m[k] = bp at *
       generalize hgx : l[k] = x at *
       generalize hgy : m[k] = y at *
       obtain ⟨op, nm, xa, xc, xl, sa, sc, sl⟩ := x
       obtain ⟨op2, nm2, xa2, xc2, xl2, sa2, sc2, sl2⟩ := y
       have r0 : wr.cell? ⟨b, q + k * 4, none⟩ = some (.int .i64 op) := hr 0 _ rfl
       have r1 : wr.cell? ⟨b, q + k * 4 + 1, none⟩ = some (.string (bs nm)) := hr 1 _ rfl
       have r2 : wr.cell? ⟨b, q + k * 4 + 2, none⟩ = some (.slice xa xl.length xc) := hr 2 _ rfl
       have r3 : wr.cell? ⟨b, q + k * 4 + 3, none⟩ = some (.slice sa sl.length sc) := hr 3 _ rfl
       have s0 : wr.cell? ⟨b', q' + k * 4, none⟩ = some (.int .i64 op2) := hs 0 _ rfl
       have s1 : wr.cell? ⟨b', q' + k * 4 + 1, none⟩ = some (.string (bs nm2)) := hs 1 _ rfl
       have s2 : wr.cell? ⟨b', q' + k * 4 + 2, none⟩ = some (.slice xa2 xl2.length xc2) := hs 2 _ rfl
       have s3 : wr.cell? ⟨b', q' + k * 4 + 3, none⟩ = some (.slice sa2 sl2.length sc2) := hs 3 _ rfl
       have hb1 : Below w.heap.size w ((wr.alloc (.cells #[.int .i64 op, .string (bs nm), .slice xa xl.length xc, .slice sa sl.length sc] 28)).alloc (.cells #[.int .i64 op2, .string (bs nm2), .slice xa2 xl2.length xc2, .slice sa2 sl2.length sc2] 28)) := (hb0.alloc zz _).alloc (by simp; omega) _
       have hkk1 : Below wr.heap.size wr ((wr.alloc (.cells #[.int .i64 op, .string (bs nm), .slice xa xl.length xc, .slice sa sl.length sc] 28)).alloc (.cells #[.int .i64 op2, .string (bs nm2), .slice xa2 xl2.length xc2, .slice sa2 sl2.length sc2] 28)) := ((Below.refl _ _).alloc (Nat.le_refl _) _).alloc (by simp) _
       have c0 := hcx ((wr.alloc (.cells #[.int .i64 op, .string (bs nm), .slice xa xl.length xc, .slice sa sl.length sc] 28)).alloc (.cells #[.int .i64 op2, .string (bs nm2), .slice xa2 xl2.length xc2, .slice sa2 sl2.length sc2] 28)) (by simp; omega) (hxin.keep (Below.keptTo hkk1 (by omega))) (hyin.keep (Below.keptTo hkk1 (by omega)))
       simp only [ST.val, ST.cells] at c0
       have s0A := fun O => alloc_cell s0 O
       have s1A := fun O => alloc_cell s1 O
       have s2A := fun O => alloc_cell s2 O
       have s3A := fun O => alloc_cell s3 O
       have HH := Lib.hid (And.intro hk (And.intro hgx hgy))
       have hkg : k < l.length := hlt
       clear hi1 hi2 hc hcx hr hs hx hy hxin hyin hgx hgy hkk1
       cases gk with
       | zero => omega
       | succ gg =>
         cases bp
         all_goals
           go_wp2_with fail
           refine c0.mono ?_
           clear c0
           rintro e W1 ⟨rfl, hb2⟩
           have hb3 := hb1.trans (hb2.mono hb1.size)
           clear hb1 hb2
           go_wp2
           first
           | (go_ret
              exact ⟨by rw [← HK.out, HD.out]; rfl, hb3⟩)
           | (go_roundg gg
              case rel => exact ⟨k + 1, by simp; first | done | rfl | omega, by omega, by rw [← HK.out, HD.out]; rfl, hb3⟩
              case measure => omega)
     · have d1 : decide (k < l.length) = false := by simpa using hlt
       have d2 : decide ((k : Int) < (l.length : Int)) = false := by rw [decide_eq_false_iff_not]; omega
       have HE : Hid (R = true) := Lib.hid (by have := HK.out; have := HLEN.out; rw [List.drop_eq_nil_of_le (by omega), List.drop_eq_nil_of_le (by omega)] at *; rw [← HK.out]; rfl)
       go_wp2
       go_ret
       exact ⟨by rw [HE.out]; rfl, hb0⟩
  · have e1 : ((l.length : Int) != (m.length : Int)) = true := by rw [bne_iff_ne]; omega
    have e2 : (l.length != m.length) = true := by rw [bne_iff_ne]; exact hlen
    have e3 : (l.length == m.length) = false := by rw [beq_eq_false_iff_ne]; exact hlen
    have HE := Lib.hid (eqList_len p l m hlen)
    clear hlen
    go_enter Tryz.func61, Tryz.ntmps61
    go_wp2
    go_ret
    exact ⟨by rw [HE.out]; rfl, Below.refl _ _⟩

set_option maxHeartbeats 8000000 in
set_option maxRecDepth 3000000 in
theorem eqB_any (p : BT → BT → Bool) (n0 : Nat) (l m : List BT) (hll : l.length ≤ 4000000) (hmm : m.length ≤ 4000000) (hc : ∀ x ∈ l, ∀ y ∈ m, ∀ w, n0 ≤ w.heap.size → x.In n0 w → y.In n0 w → Calls Tryz.prog 102 #[x.val, y.val] w fun e w' => e = .returned (.bool (p x y)) ∧ Below w.heap.size w w') (a : Option Addr) (c : Nat) (a2 : Option Addr) (c2 : Nat) (w : World) (hn0 : n0 ≤ w.heap.size) (hi1 : InRow 7 BT.cells (BT.In n0 w) n0 w l a) (hi2 : InRow 7 BT.cells (BT.In n0 w) n0 w m a2) :
    Calls Tryz.prog 101 #[.slice a l.length c, .slice a2 m.length c2, .func (.func 102) #[] #[]] w fun e w' => e = .returned (.bool (eqList p l m)) ∧ Below w.heap.size w w' := by
  by_cases hlen : l.length = m.length
  · have e1 : ((l.length : Int) != (m.length : Int)) = false := by rw [hlen]; simp
    have e2 : ((l.length : Int) == (m.length : Int)) = true := by rw [hlen]; simp
    have e3 : (l.length == m.length) = true := by rw [hlen]; simp
    have HLEN := Lib.hid hlen
    obtain ⟨R, hR⟩ : ∃ R, eqList p l m = R := ⟨_, rfl⟩
    have HR := Lib.hid hR
    rw [hR]
    clear hR hlen
    go_enter Tryz.func101, Tryz.ntmps101
    go_wp2
    go_loopg [17] l.length (fun g u wr => ∃ (k : Nat), u = .int .i64 k ∧ k + g = l.length ∧ eqList p (l.drop k) (m.drop k) = R ∧ Below w.heap.size w wr)
    case atStart => exact ⟨0, rfl, by omega, by rw [List.drop_zero, List.drop_zero]; exact HR.out, Below.refl _ _⟩
    case round =>
     obtain ⟨k, rfl, hk, hkk, hb0⟩ := hrel
     have HK := Lib.hid hkk
     clear hkk
     by_cases hlt : k < l.length
     · have hlt2 : k < m.length := by have := HLEN.out; omega
       have d1 : decide (k < l.length) = true := by simpa using hlt
       have d2 : decide ((k : Int) < (l.length : Int)) = true := by rw [decide_eq_true_eq]; omega
       have x1 : (k : Int) < (l.length : Int) := by omega
       have x2 : (k : Int) < (m.length : Int) := by omega
       obtain ⟨b, q, rfl, hb, hr, hx⟩ := hi1.kept (Below.keptTo hb0 hn0) hlt
       obtain ⟨b', q', rfl, hb', hs, hy⟩ := hi2.kept (Below.keptTo hb0 hn0) hlt2
       have HD := Lib.hid (eqList_drop p l m k hlt hlt2)
       have hcx := hc l[k] (List.getElem_mem hlt) m[k] (List.getElem_mem hlt2)
       have hxin := hx.keep (Below.keptTo hb0 hn0)
       have hyin := hy.keep (Below.keptTo hb0 hn0)
       have zz := hb0.size
       generalize p l[k] m[k] = bp at *
       generalize hgx : l[k] = x at *
       generalize hgy : m[k] = y at *
       obtain ⟨bn, ⟨op, nm, xn, wd, v, xa, xc, xl⟩⟩ := x
       obtain ⟨bn2, ⟨op2, nm2, xn2, wd2, v2, xa2, xc2, xl2⟩⟩ := y
       have r0 : wr.cell? ⟨b, q + k * 7, none⟩ = some (.string (bs bn)) := hr 0 _ rfl
       have r1 : wr.cell? ⟨b, q + k * 7 + 1, none⟩ = some (.int .i64 op) := hr 1 _ rfl
       have r2 : wr.cell? ⟨b, q + k * 7 + 2, none⟩ = some (.string (bs nm)) := hr 2 _ rfl
       have r3 : wr.cell? ⟨b, q + k * 7 + 3, none⟩ = some (.int .i64 xn) := hr 3 _ rfl
       have r4 : wr.cell? ⟨b, q + k * 7 + 4, none⟩ = some (.int .i64 wd) := hr 4 _ rfl
       have r5 : wr.cell? ⟨b, q + k * 7 + 5, none⟩ = some (.int .u64 (v : Int)) := hr 5 _ rfl
       have r6 : wr.cell? ⟨b, q + k * 7 + 6, none⟩ = some (.slice xa xl.length xc) := hr 6 _ rfl
       have s0 : wr.cell? ⟨b', q' + k * 7, none⟩ = some (.string (bs bn2)) := hs 0 _ rfl
       have s1 : wr.cell? ⟨b', q' + k * 7 + 1, none⟩ = some (.int .i64 op2) := hs 1 _ rfl
       have s2 : wr.cell? ⟨b', q' + k * 7 + 2, none⟩ = some (.string (bs nm2)) := hs 2 _ rfl
       have s3 : wr.cell? ⟨b', q' + k * 7 + 3, none⟩ = some (.int .i64 xn2) := hs 3 _ rfl
       have s4 : wr.cell? ⟨b', q' + k * 7 + 4, none⟩ = some (.int .i64 wd2) := hs 4 _ rfl
       have s5 : wr.cell? ⟨b', q' + k * 7 + 5, none⟩ = some (.int .u64 (v2 : Int)) := hs 5 _ rfl
       have s6 : wr.cell? ⟨b', q' + k * 7 + 6, none⟩ = some (.slice xa2 xl2.length xc2) := hs 6 _ rfl
       have hb1 : Below w.heap.size w ((wr.alloc (.cells #[.string (bs bn), .int .i64 op, .string (bs nm), .int .i64 xn, .int .i64 wd, .int .u64 (v : Int), .slice xa xl.length xc] 132)).alloc (.cells #[.string (bs bn2), .int .i64 op2, .string (bs nm2), .int .i64 xn2, .int .i64 wd2, .int .u64 (v2 : Int), .slice xa2 xl2.length xc2] 132)) := (hb0.alloc zz _).alloc (by simp; omega) _
       have hkk1 : Below wr.heap.size wr ((wr.alloc (.cells #[.string (bs bn), .int .i64 op, .string (bs nm), .int .i64 xn, .int .i64 wd, .int .u64 (v : Int), .slice xa xl.length xc] 132)).alloc (.cells #[.string (bs bn2), .int .i64 op2, .string (bs nm2), .int .i64 xn2, .int .i64 wd2, .int .u64 (v2 : Int), .slice xa2 xl2.length xc2] 132)) := ((Below.refl _ _).alloc (Nat.le_refl _) _).alloc (by simp) _
       have c0 := hcx ((wr.alloc (.cells #[.string (bs bn), .int .i64 op, .string (bs nm), .int .i64 xn, .int .i64 wd, .int .u64 (v : Int), .slice xa xl.length xc] 132)).alloc (.cells #[.string (bs bn2), .int .i64 op2, .string (bs nm2), .int .i64 xn2, .int .i64 wd2, .int .u64 (v2 : Int), .slice xa2 xl2.length xc2] 132)) (by simp; omega) (hxin.keep (Below.keptTo hkk1 (by omega))) (hyin.keep (Below.keptTo hkk1 (by omega)))
       simp only [BT.val, BT.cells, XT.cells] at c0
       have s0A := fun O => alloc_cell s0 O
       have s1A := fun O => alloc_cell s1 O
       have s2A := fun O => alloc_cell s2 O
       have s3A := fun O => alloc_cell s3 O
       have s4A := fun O => alloc_cell s4 O
       have s5A := fun O => alloc_cell s5 O
       have s6A := fun O => alloc_cell s6 O
       have HH := Lib.hid (And.intro hk (And.intro hgx hgy))
       have hkg : k < l.length := hlt
       clear hi1 hi2 hc hcx hr hs hx hy hxin hyin hgx hgy hkk1
       cases gk with
       | zero => omega
       | succ gg =>
         cases bp
         all_goals
           go_wp2_with fail
           refine c0.mono ?_
           clear c0
           rintro e W1 ⟨rfl, hb2⟩
           have hb3 := hb1.trans (hb2.mono hb1.size)
           clear hb1 hb2
           go_wp2
           first
           | (go_ret
              exact ⟨by rw [← HK.out, HD.out]; rfl, hb3⟩)
           | (go_roundg gg
              case rel => exact ⟨k + 1, by simp; first | done | rfl | omega, by omega, by rw [← HK.out, HD.out]; rfl, hb3⟩
              case measure => omega)
     · have d1 : decide (k < l.length) = false := by simpa using hlt
       have d2 : decide ((k : Int) < (l.length : Int)) = false := by rw [decide_eq_false_iff_not]; omega
       have HE : Hid (R = true) := Lib.hid (by have := HK.out; have := HLEN.out; rw [List.drop_eq_nil_of_le (by omega), List.drop_eq_nil_of_le (by omega)] at *; rw [← HK.out]; rfl)
       go_wp2
       go_ret
       exact ⟨by rw [HE.out]; rfl, hb0⟩
  · have e1 : ((l.length : Int) != (m.length : Int)) = true := by rw [bne_iff_ne]; omega
    have e2 : (l.length != m.length) = true := by rw [bne_iff_ne]; exact hlen
    have e3 : (l.length == m.length) = false := by rw [beq_eq_false_iff_ne]; exact hlen
    have HE := Lib.hid (eqList_len p l m hlen)
    clear hlen
    go_enter Tryz.func101, Tryz.ntmps101
    go_wp2
    go_ret
    exact ⟨by rw [HE.out]; rfl, Below.refl _ _⟩

set_option maxHeartbeats 8000000 in
set_option maxRecDepth 3000000 in
theorem eqP_any (p : PT → PT → Bool) (n0 : Nat) (l m : List PT) (hll : l.length ≤ 4000000) (hmm : m.length ≤ 4000000) (hc : ∀ x ∈ l, ∀ y ∈ m, ∀ w, n0 ≤ w.heap.size → x.In n0 w → y.In n0 w → Calls Tryz.prog 104 #[x.val, y.val] w fun e w' => e = .returned (.bool (p x y)) ∧ Below w.heap.size w w') (a : Option Addr) (c : Nat) (a2 : Option Addr) (c2 : Nat) (w : World) (hn0 : n0 ≤ w.heap.size) (hi1 : InRow 8 PT.cells (PT.In n0 w) n0 w l a) (hi2 : InRow 8 PT.cells (PT.In n0 w) n0 w m a2) :
    Calls Tryz.prog 103 #[.slice a l.length c, .slice a2 m.length c2, .func (.func 104) #[] #[]] w fun e w' => e = .returned (.bool (eqList p l m)) ∧ Below w.heap.size w w' := by
  by_cases hlen : l.length = m.length
  · have e1 : ((l.length : Int) != (m.length : Int)) = false := by rw [hlen]; simp
    have e2 : ((l.length : Int) == (m.length : Int)) = true := by rw [hlen]; simp
    have e3 : (l.length == m.length) = true := by rw [hlen]; simp
    have HLEN := Lib.hid hlen
    obtain ⟨R, hR⟩ : ∃ R, eqList p l m = R := ⟨_, rfl⟩
    have HR := Lib.hid hR
    rw [hR]
    clear hR hlen
    go_enter Tryz.func103, Tryz.ntmps103
    go_wp2
    go_loopg [17] l.length (fun g u wr => ∃ (k : Nat), u = .int .i64 k ∧ k + g = l.length ∧ eqList p (l.drop k) (m.drop k) = R ∧ Below w.heap.size w wr)
    case atStart => exact ⟨0, rfl, by omega, by rw [List.drop_zero, List.drop_zero]; exact HR.out, Below.refl _ _⟩
    case round =>
     obtain ⟨k, rfl, hk, hkk, hb0⟩ := hrel
     have HK := Lib.hid hkk
     clear hkk
     by_cases hlt : k < l.length
     · have hlt2 : k < m.length := by have := HLEN.out; omega
       have d1 : decide (k < l.length) = true := by simpa using hlt
       have d2 : decide ((k : Int) < (l.length : Int)) = true := by rw [decide_eq_true_eq]; omega
       have x1 : (k : Int) < (l.length : Int) := by omega
       have x2 : (k : Int) < (m.length : Int) := by omega
       obtain ⟨b, q, rfl, hb, hr, hx⟩ := hi1.kept (Below.keptTo hb0 hn0) hlt
       obtain ⟨b', q', rfl, hb', hs, hy⟩ := hi2.kept (Below.keptTo hb0 hn0) hlt2
       have HD := Lib.hid (eqList_drop p l m k hlt hlt2)
       have hcx := hc l[k] (List.getElem_mem hlt) m[k] (List.getElem_mem hlt2)
       have hxin := hx.keep (Below.keptTo hb0 hn0)
       have hyin := hy.keep (Below.keptTo hb0 hn0)
       have zz := hb0.size
       generalize p l[k] m[k] = bp at *
       generalize hgx : l[k] = x at *
       generalize hgy : m[k] = y at *
       obtain ⟨bn, po, ⟨op, nm, xn, wd, v, xa, xc, xl⟩⟩ := x
       obtain ⟨bn2, po2, ⟨op2, nm2, xn2, wd2, v2, xa2, xc2, xl2⟩⟩ := y
       have r0 : wr.cell? ⟨b, q + k * 8, none⟩ = some (.string (bs bn)) := hr 0 _ rfl
       have r1 : wr.cell? ⟨b, q + k * 8 + 1, none⟩ = some (.bool po) := hr 1 _ rfl
       have r2 : wr.cell? ⟨b, q + k * 8 + 2, none⟩ = some (.int .i64 op) := hr 2 _ rfl
       have r3 : wr.cell? ⟨b, q + k * 8 + 3, none⟩ = some (.string (bs nm)) := hr 3 _ rfl
       have r4 : wr.cell? ⟨b, q + k * 8 + 4, none⟩ = some (.int .i64 xn) := hr 4 _ rfl
       have r5 : wr.cell? ⟨b, q + k * 8 + 5, none⟩ = some (.int .i64 wd) := hr 5 _ rfl
       have r6 : wr.cell? ⟨b, q + k * 8 + 6, none⟩ = some (.int .u64 (v : Int)) := hr 6 _ rfl
       have r7 : wr.cell? ⟨b, q + k * 8 + 7, none⟩ = some (.slice xa xl.length xc) := hr 7 _ rfl
       have s0 : wr.cell? ⟨b', q' + k * 8, none⟩ = some (.string (bs bn2)) := hs 0 _ rfl
       have s1 : wr.cell? ⟨b', q' + k * 8 + 1, none⟩ = some (.bool po2) := hs 1 _ rfl
       have s2 : wr.cell? ⟨b', q' + k * 8 + 2, none⟩ = some (.int .i64 op2) := hs 2 _ rfl
       have s3 : wr.cell? ⟨b', q' + k * 8 + 3, none⟩ = some (.string (bs nm2)) := hs 3 _ rfl
       have s4 : wr.cell? ⟨b', q' + k * 8 + 4, none⟩ = some (.int .i64 xn2) := hs 4 _ rfl
       have s5 : wr.cell? ⟨b', q' + k * 8 + 5, none⟩ = some (.int .i64 wd2) := hs 5 _ rfl
       have s6 : wr.cell? ⟨b', q' + k * 8 + 6, none⟩ = some (.int .u64 (v2 : Int)) := hs 6 _ rfl
       have s7 : wr.cell? ⟨b', q' + k * 8 + 7, none⟩ = some (.slice xa2 xl2.length xc2) := hs 7 _ rfl
       have hb1 : Below w.heap.size w ((wr.alloc (.cells #[.string (bs bn), .bool po, .int .i64 op, .string (bs nm), .int .i64 xn, .int .i64 wd, .int .u64 (v : Int), .slice xa xl.length xc] 129)).alloc (.cells #[.string (bs bn2), .bool po2, .int .i64 op2, .string (bs nm2), .int .i64 xn2, .int .i64 wd2, .int .u64 (v2 : Int), .slice xa2 xl2.length xc2] 129)) := (hb0.alloc zz _).alloc (by simp; omega) _
       have hkk1 : Below wr.heap.size wr ((wr.alloc (.cells #[.string (bs bn), .bool po, .int .i64 op, .string (bs nm), .int .i64 xn, .int .i64 wd, .int .u64 (v : Int), .slice xa xl.length xc] 129)).alloc (.cells #[.string (bs bn2), .bool po2, .int .i64 op2, .string (bs nm2), .int .i64 xn2, .int .i64 wd2, .int .u64 (v2 : Int), .slice xa2 xl2.length xc2] 129)) := ((Below.refl _ _).alloc (Nat.le_refl _) _).alloc (by simp) _
       have c0 := hcx ((wr.alloc (.cells #[.string (bs bn), .bool po, .int .i64 op, .string (bs nm), .int .i64 xn, .int .i64 wd, .int .u64 (v : Int), .slice xa xl.length xc] 129)).alloc (.cells #[.string (bs bn2), .bool po2, .int .i64 op2, .string (bs nm2), .int .i64 xn2, .int .i64 wd2, .int .u64 (v2 : Int), .slice xa2 xl2.length xc2] 129)) (by simp; omega) (hxin.keep (Below.keptTo hkk1 (by omega))) (hyin.keep (Below.keptTo hkk1 (by omega)))
       simp only [PT.val, PT.cells, XT.cells] at c0
       have s0A := fun O => alloc_cell s0 O
       have s1A := fun O => alloc_cell s1 O
       have s2A := fun O => alloc_cell s2 O
       have s3A := fun O => alloc_cell s3 O
       have s4A := fun O => alloc_cell s4 O
       have s5A := fun O => alloc_cell s5 O
       have s6A := fun O => alloc_cell s6 O
       have s7A := fun O => alloc_cell s7 O
       have HH := Lib.hid (And.intro hk (And.intro hgx hgy))
       have hkg : k < l.length := hlt
       clear hi1 hi2 hc hcx hr hs hx hy hxin hyin hgx hgy hkk1
       cases gk with
       | zero => omega
       | succ gg =>
         cases bp
         all_goals
           go_wp2_with fail
           refine c0.mono ?_
           clear c0
           rintro e W1 ⟨rfl, hb2⟩
           have hb3 := hb1.trans (hb2.mono hb1.size)
           clear hb1 hb2
           go_wp2
           first
           | (go_ret
              exact ⟨by rw [← HK.out, HD.out]; rfl, hb3⟩)
           | (go_roundg gg
              case rel => exact ⟨k + 1, by simp; first | done | rfl | omega, by omega, by rw [← HK.out, HD.out]; rfl, hb3⟩
              case measure => omega)
     · have d1 : decide (k < l.length) = false := by simpa using hlt
       have d2 : decide ((k : Int) < (l.length : Int)) = false := by rw [decide_eq_false_iff_not]; omega
       have HE : Hid (R = true) := Lib.hid (by have := HK.out; have := HLEN.out; rw [List.drop_eq_nil_of_le (by omega), List.drop_eq_nil_of_le (by omega)] at *; rw [← HK.out]; rfl)
       go_wp2
       go_ret
       exact ⟨by rw [HE.out]; rfl, hb0⟩
  · have e1 : ((l.length : Int) != (m.length : Int)) = true := by rw [bne_iff_ne]; omega
    have e2 : (l.length != m.length) = true := by rw [bne_iff_ne]; exact hlen
    have e3 : (l.length == m.length) = false := by rw [beq_eq_false_iff_ne]; exact hlen
    have HE := Lib.hid (eqList_len p l m hlen)
    clear hlen
    go_enter Tryz.func103, Tryz.ntmps103
    go_wp2
    go_ret
    exact ⟨by rw [HE.out]; rfl, Below.refl _ _⟩

set_option maxHeartbeats 8000000 in
set_option maxRecDepth 3000000 in
theorem eqI_any (p : IT → IT → Bool) (n0 : Nat) (l m : List IT) (hll : l.length ≤ 4000000) (hmm : m.length ≤ 4000000) (hc : ∀ x ∈ l, ∀ y ∈ m, ∀ w, n0 ≤ w.heap.size → x.In n0 w → y.In n0 w → Calls Tryz.prog 106 #[x.val, y.val] w fun e w' => e = .returned (.bool (p x y)) ∧ Below w.heap.size w w') (a : Option Addr) (c : Nat) (a2 : Option Addr) (c2 : Nat) (w : World) (hn0 : n0 ≤ w.heap.size) (hi1 : InRow 9 IT.cells (IT.In n0 w) n0 w l a) (hi2 : InRow 9 IT.cells (IT.In n0 w) n0 w m a2) :
    Calls Tryz.prog 105 #[.slice a l.length c, .slice a2 m.length c2, .func (.func 106) #[] #[]] w fun e w' => e = .returned (.bool (eqList p l m)) ∧ Below w.heap.size w w' := by
  by_cases hlen : l.length = m.length
  · have e1 : ((l.length : Int) != (m.length : Int)) = false := by rw [hlen]; simp
    have e2 : ((l.length : Int) == (m.length : Int)) = true := by rw [hlen]; simp
    have e3 : (l.length == m.length) = true := by rw [hlen]; simp
    have HLEN := Lib.hid hlen
    obtain ⟨R, hR⟩ : ∃ R, eqList p l m = R := ⟨_, rfl⟩
    have HR := Lib.hid hR
    rw [hR]
    clear hR hlen
    go_enter Tryz.func105, Tryz.ntmps105
    go_wp2
    go_loopg [17] l.length (fun g u wr => ∃ (k : Nat), u = .int .i64 k ∧ k + g = l.length ∧ eqList p (l.drop k) (m.drop k) = R ∧ Below w.heap.size w wr)
    case atStart => exact ⟨0, rfl, by omega, by rw [List.drop_zero, List.drop_zero]; exact HR.out, Below.refl _ _⟩
    case round =>
     obtain ⟨k, rfl, hk, hkk, hb0⟩ := hrel
     have HK := Lib.hid hkk
     clear hkk
     by_cases hlt : k < l.length
     · have hlt2 : k < m.length := by have := HLEN.out; omega
       have d1 : decide (k < l.length) = true := by simpa using hlt
       have d2 : decide ((k : Int) < (l.length : Int)) = true := by rw [decide_eq_true_eq]; omega
       have x1 : (k : Int) < (l.length : Int) := by omega
       have x2 : (k : Int) < (m.length : Int) := by omega
       obtain ⟨b, q, rfl, hb, hr, hx⟩ := hi1.kept (Below.keptTo hb0 hn0) hlt
       obtain ⟨b', q', rfl, hb', hs, hy⟩ := hi2.kept (Below.keptTo hb0 hn0) hlt2
       have HD := Lib.hid (eqList_drop p l m k hlt hlt2)
       have hcx := hc l[k] (List.getElem_mem hlt) m[k] (List.getElem_mem hlt2)
       have hxin := hx.keep (Below.keptTo hb0 hn0)
       have hyin := hy.keep (Below.keptTo hb0 hn0)
       have zz := hb0.size
       generalize p l[k] m[k] = bp at *
       generalize hgx : l[k] = x at *
       generalize hgy : m[k] = y at *
       obtain ⟨op, nm, nf, xa, xc, xl, sa, sc, sl, la, lc, ll, ea, ec, el, pa, pc, pl, ba, bc, bl⟩ := x
       obtain ⟨op2, nm2, nf2, xa2, xc2, xl2, sa2, sc2, sl2, la2, lc2, ll2, ea2, ec2, el2, pa2, pc2, pl2, ba2, bc2, bl2⟩ := y
       have r0 : wr.cell? ⟨b, q + k * 9, none⟩ = some (.int .i64 op) := hr 0 _ rfl
       have r1 : wr.cell? ⟨b, q + k * 9 + 1, none⟩ = some (.string (bs nm)) := hr 1 _ rfl
       have r2 : wr.cell? ⟨b, q + k * 9 + 2, none⟩ = some (.string (bs nf)) := hr 2 _ rfl
       have r3 : wr.cell? ⟨b, q + k * 9 + 3, none⟩ = some (.slice xa xl.length xc) := hr 3 _ rfl
       have r4 : wr.cell? ⟨b, q + k * 9 + 4, none⟩ = some (.slice sa sl.length sc) := hr 4 _ rfl
       have r5 : wr.cell? ⟨b, q + k * 9 + 5, none⟩ = some (.slice la ll.length lc) := hr 5 _ rfl
       have r6 : wr.cell? ⟨b, q + k * 9 + 6, none⟩ = some (.slice ea el.length ec) := hr 6 _ rfl
       have r7 : wr.cell? ⟨b, q + k * 9 + 7, none⟩ = some (.slice pa pl.length pc) := hr 7 _ rfl
       have r8 : wr.cell? ⟨b, q + k * 9 + 8, none⟩ = some (.slice ba bl.length bc) := hr 8 _ rfl
       have s0 : wr.cell? ⟨b', q' + k * 9, none⟩ = some (.int .i64 op2) := hs 0 _ rfl
       have s1 : wr.cell? ⟨b', q' + k * 9 + 1, none⟩ = some (.string (bs nm2)) := hs 1 _ rfl
       have s2 : wr.cell? ⟨b', q' + k * 9 + 2, none⟩ = some (.string (bs nf2)) := hs 2 _ rfl
       have s3 : wr.cell? ⟨b', q' + k * 9 + 3, none⟩ = some (.slice xa2 xl2.length xc2) := hs 3 _ rfl
       have s4 : wr.cell? ⟨b', q' + k * 9 + 4, none⟩ = some (.slice sa2 sl2.length sc2) := hs 4 _ rfl
       have s5 : wr.cell? ⟨b', q' + k * 9 + 5, none⟩ = some (.slice la2 ll2.length lc2) := hs 5 _ rfl
       have s6 : wr.cell? ⟨b', q' + k * 9 + 6, none⟩ = some (.slice ea2 el2.length ec2) := hs 6 _ rfl
       have s7 : wr.cell? ⟨b', q' + k * 9 + 7, none⟩ = some (.slice pa2 pl2.length pc2) := hs 7 _ rfl
       have s8 : wr.cell? ⟨b', q' + k * 9 + 8, none⟩ = some (.slice ba2 bl2.length bc2) := hs 8 _ rfl
       have hb1 : Below w.heap.size w ((wr.alloc (.cells #[.int .i64 op, .string (bs nm), .string (bs nf), .slice xa xl.length xc, .slice sa sl.length sc, .slice la ll.length lc, .slice ea el.length ec, .slice pa pl.length pc, .slice ba bl.length bc] 60)).alloc (.cells #[.int .i64 op2, .string (bs nm2), .string (bs nf2), .slice xa2 xl2.length xc2, .slice sa2 sl2.length sc2, .slice la2 ll2.length lc2, .slice ea2 el2.length ec2, .slice pa2 pl2.length pc2, .slice ba2 bl2.length bc2] 60)) := (hb0.alloc zz _).alloc (by simp; omega) _
       have hkk1 : Below wr.heap.size wr ((wr.alloc (.cells #[.int .i64 op, .string (bs nm), .string (bs nf), .slice xa xl.length xc, .slice sa sl.length sc, .slice la ll.length lc, .slice ea el.length ec, .slice pa pl.length pc, .slice ba bl.length bc] 60)).alloc (.cells #[.int .i64 op2, .string (bs nm2), .string (bs nf2), .slice xa2 xl2.length xc2, .slice sa2 sl2.length sc2, .slice la2 ll2.length lc2, .slice ea2 el2.length ec2, .slice pa2 pl2.length pc2, .slice ba2 bl2.length bc2] 60)) := ((Below.refl _ _).alloc (Nat.le_refl _) _).alloc (by simp) _
       have c0 := hcx ((wr.alloc (.cells #[.int .i64 op, .string (bs nm), .string (bs nf), .slice xa xl.length xc, .slice sa sl.length sc, .slice la ll.length lc, .slice ea el.length ec, .slice pa pl.length pc, .slice ba bl.length bc] 60)).alloc (.cells #[.int .i64 op2, .string (bs nm2), .string (bs nf2), .slice xa2 xl2.length xc2, .slice sa2 sl2.length sc2, .slice la2 ll2.length lc2, .slice ea2 el2.length ec2, .slice pa2 pl2.length pc2, .slice ba2 bl2.length bc2] 60)) (by simp; omega) (hxin.keep (Below.keptTo hkk1 (by omega))) (hyin.keep (Below.keptTo hkk1 (by omega)))
       simp only [IT.val, IT.cells] at c0
       have s0A := fun O => alloc_cell s0 O
       have s1A := fun O => alloc_cell s1 O
       have s2A := fun O => alloc_cell s2 O
       have s3A := fun O => alloc_cell s3 O
       have s4A := fun O => alloc_cell s4 O
       have s5A := fun O => alloc_cell s5 O
       have s6A := fun O => alloc_cell s6 O
       have s7A := fun O => alloc_cell s7 O
       have s8A := fun O => alloc_cell s8 O
       have HH := Lib.hid (And.intro hk (And.intro hgx hgy))
       have hkg : k < l.length := hlt
       clear hi1 hi2 hc hcx hr hs hx hy hxin hyin hgx hgy hkk1
       cases gk with
       | zero => omega
       | succ gg =>
         cases bp
         all_goals
           go_wp2_with fail
           refine c0.mono ?_
           clear c0
           rintro e W1 ⟨rfl, hb2⟩
           have hb3 := hb1.trans (hb2.mono hb1.size)
           clear hb1 hb2
           go_wp2
           first
           | (go_ret
              exact ⟨by rw [← HK.out, HD.out]; rfl, hb3⟩)
           | (go_roundg gg
              case rel => exact ⟨k + 1, by simp; first | done | rfl | omega, by omega, by rw [← HK.out, HD.out]; rfl, hb3⟩
              case measure => omega)
     · have d1 : decide (k < l.length) = false := by simpa using hlt
       have d2 : decide ((k : Int) < (l.length : Int)) = false := by rw [decide_eq_false_iff_not]; omega
       have HE : Hid (R = true) := Lib.hid (by have := HK.out; have := HLEN.out; rw [List.drop_eq_nil_of_le (by omega), List.drop_eq_nil_of_le (by omega)] at *; rw [← HK.out]; rfl)
       go_wp2
       go_ret
       exact ⟨by rw [HE.out]; rfl, hb0⟩
  · have e1 : ((l.length : Int) != (m.length : Int)) = true := by rw [bne_iff_ne]; omega
    have e2 : (l.length != m.length) = true := by rw [bne_iff_ne]; exact hlen
    have e3 : (l.length == m.length) = false := by rw [beq_eq_false_iff_ne]; exact hlen
    have HE := Lib.hid (eqList_len p l m hlen)
    clear hlen
    go_enter Tryz.func105, Tryz.ntmps105
    go_wp2
    go_ret
    exact ⟨by rw [HE.out]; rfl, Below.refl _ _⟩

set_option maxHeartbeats 8000000 in
set_option maxRecDepth 3000000 in
theorem eqM_any (p : MT → MT → Bool) (n0 : Nat) (l m : List MT) (hll : l.length ≤ 4000000) (hmm : m.length ≤ 4000000) (hc : ∀ x ∈ l, ∀ y ∈ m, ∀ w, n0 ≤ w.heap.size → x.In n0 w → y.In n0 w → Calls Tryz.prog 55 #[x.val, y.val] w fun e w' => e = .returned (.bool (p x y)) ∧ Below w.heap.size w w') (a : Option Addr) (c : Nat) (a2 : Option Addr) (c2 : Nat) (w : World) (hn0 : n0 ≤ w.heap.size) (hi1 : InRow 4 MT.cells (MT.In n0 w) n0 w l a) (hi2 : InRow 4 MT.cells (MT.In n0 w) n0 w m a2) :
    Calls Tryz.prog 54 #[.slice a l.length c, .slice a2 m.length c2, .func (.func 55) #[] #[]] w fun e w' => e = .returned (.bool (eqList p l m)) ∧ Below w.heap.size w w' := by
  by_cases hlen : l.length = m.length
  · have e1 : ((l.length : Int) != (m.length : Int)) = false := by rw [hlen]; simp
    have e2 : ((l.length : Int) == (m.length : Int)) = true := by rw [hlen]; simp
    have e3 : (l.length == m.length) = true := by rw [hlen]; simp
    have HLEN := Lib.hid hlen
    obtain ⟨R, hR⟩ : ∃ R, eqList p l m = R := ⟨_, rfl⟩
    have HR := Lib.hid hR
    rw [hR]
    clear hR hlen
    go_enter Tryz.func54, Tryz.ntmps54
    go_wp2
    go_loopg [17] l.length (fun g u wr => ∃ (k : Nat), u = .int .i64 k ∧ k + g = l.length ∧ eqList p (l.drop k) (m.drop k) = R ∧ Below w.heap.size w wr)
    case atStart => exact ⟨0, rfl, by omega, by rw [List.drop_zero, List.drop_zero]; exact HR.out, Below.refl _ _⟩
    case round =>
     obtain ⟨k, rfl, hk, hkk, hb0⟩ := hrel
     have HK := Lib.hid hkk
     clear hkk
     by_cases hlt : k < l.length
     · have hlt2 : k < m.length := by have := HLEN.out; omega
       have d1 : decide (k < l.length) = true := by simpa using hlt
       have d2 : decide ((k : Int) < (l.length : Int)) = true := by rw [decide_eq_true_eq]; omega
       have x1 : (k : Int) < (l.length : Int) := by omega
       have x2 : (k : Int) < (m.length : Int) := by omega
       obtain ⟨b, q, rfl, hb, hr, hx⟩ := hi1.kept (Below.keptTo hb0 hn0) hlt
       obtain ⟨b', q', rfl, hb', hs, hy⟩ := hi2.kept (Below.keptTo hb0 hn0) hlt2
       have HD := Lib.hid (eqList_drop p l m k hlt hlt2)
       have hcx := hc l[k] (List.getElem_mem hlt) m[k] (List.getElem_mem hlt2)
       have hxin := hx.keep (Below.keptTo hb0 hn0)
       have hyin := hy.keep (Below.keptTo hb0 hn0)
       have zz := hb0.size
       generalize p l[k] m[k] = bp at *
       generalize hgx : l[k] = x at *
       generalize hgy : m[k] = y at *
       obtain ⟨nm, pa, pc, pl, ta, tc, tl, ia, ic, il⟩ := x
       obtain ⟨nm2, pa2, pc2, pl2, ta2, tc2, tl2, ia2, ic2, il2⟩ := y
       have r0 : wr.cell? ⟨b, q + k * 4, none⟩ = some (.string (bs nm)) := hr 0 _ rfl
       have r1 : wr.cell? ⟨b, q + k * 4 + 1, none⟩ = some (.slice pa pl.length pc) := hr 1 _ rfl
       have r2 : wr.cell? ⟨b, q + k * 4 + 2, none⟩ = some (.slice ta tl.length tc) := hr 2 _ rfl
       have r3 : wr.cell? ⟨b, q + k * 4 + 3, none⟩ = some (.slice ia il.length ic) := hr 3 _ rfl
       have s0 : wr.cell? ⟨b', q' + k * 4, none⟩ = some (.string (bs nm2)) := hs 0 _ rfl
       have s1 : wr.cell? ⟨b', q' + k * 4 + 1, none⟩ = some (.slice pa2 pl2.length pc2) := hs 1 _ rfl
       have s2 : wr.cell? ⟨b', q' + k * 4 + 2, none⟩ = some (.slice ta2 tl2.length tc2) := hs 2 _ rfl
       have s3 : wr.cell? ⟨b', q' + k * 4 + 3, none⟩ = some (.slice ia2 il2.length ic2) := hs 3 _ rfl
       have hb1 : Below w.heap.size w ((wr.alloc (.cells #[.string (bs nm), .slice pa pl.length pc, .slice ta tl.length tc, .slice ia il.length ic] 63)).alloc (.cells #[.string (bs nm2), .slice pa2 pl2.length pc2, .slice ta2 tl2.length tc2, .slice ia2 il2.length ic2] 63)) := (hb0.alloc zz _).alloc (by simp; omega) _
       have hkk1 : Below wr.heap.size wr ((wr.alloc (.cells #[.string (bs nm), .slice pa pl.length pc, .slice ta tl.length tc, .slice ia il.length ic] 63)).alloc (.cells #[.string (bs nm2), .slice pa2 pl2.length pc2, .slice ta2 tl2.length tc2, .slice ia2 il2.length ic2] 63)) := ((Below.refl _ _).alloc (Nat.le_refl _) _).alloc (by simp) _
       have c0 := hcx ((wr.alloc (.cells #[.string (bs nm), .slice pa pl.length pc, .slice ta tl.length tc, .slice ia il.length ic] 63)).alloc (.cells #[.string (bs nm2), .slice pa2 pl2.length pc2, .slice ta2 tl2.length tc2, .slice ia2 il2.length ic2] 63)) (by simp; omega) (hxin.keep (Below.keptTo hkk1 (by omega))) (hyin.keep (Below.keptTo hkk1 (by omega)))
       simp only [MT.val, MT.cells] at c0
       have s0A := fun O => alloc_cell s0 O
       have s1A := fun O => alloc_cell s1 O
       have s2A := fun O => alloc_cell s2 O
       have s3A := fun O => alloc_cell s3 O
       have HH := Lib.hid (And.intro hk (And.intro hgx hgy))
       have hkg : k < l.length := hlt
       clear hi1 hi2 hc hcx hr hs hx hy hxin hyin hgx hgy hkk1
       cases gk with
       | zero => omega
       | succ gg =>
         cases bp
         all_goals
           go_wp2_with fail
           refine c0.mono ?_
           clear c0
           rintro e W1 ⟨rfl, hb2⟩
           have hb3 := hb1.trans (hb2.mono hb1.size)
           clear hb1 hb2
           go_wp2
           first
           | (go_ret
              exact ⟨by rw [← HK.out, HD.out]; rfl, hb3⟩)
           | (go_roundg gg
              case rel => exact ⟨k + 1, by simp; first | done | rfl | omega, by omega, by rw [← HK.out, HD.out]; rfl, hb3⟩
              case measure => omega)
     · have d1 : decide (k < l.length) = false := by simpa using hlt
       have d2 : decide ((k : Int) < (l.length : Int)) = false := by rw [decide_eq_false_iff_not]; omega
       have HE : Hid (R = true) := Lib.hid (by have := HK.out; have := HLEN.out; rw [List.drop_eq_nil_of_le (by omega), List.drop_eq_nil_of_le (by omega)] at *; rw [← HK.out]; rfl)
       go_wp2
       go_ret
       exact ⟨by rw [HE.out]; rfl, hb0⟩
  · have e1 : ((l.length : Int) != (m.length : Int)) = true := by rw [bne_iff_ne]; omega
    have e2 : (l.length != m.length) = true := by rw [bne_iff_ne]; exact hlen
    have e3 : (l.length == m.length) = false := by rw [beq_eq_false_iff_ne]; exact hlen
    have HE := Lib.hid (eqList_len p l m hlen)
    clear hlen
    go_enter Tryz.func54, Tryz.ntmps54
    go_wp2
    go_ret
    exact ⟨by rw [HE.out]; rfl, Below.refl _ _⟩
end Go.Proofs.YtlbjmnakiflfpaaGreatDoor
