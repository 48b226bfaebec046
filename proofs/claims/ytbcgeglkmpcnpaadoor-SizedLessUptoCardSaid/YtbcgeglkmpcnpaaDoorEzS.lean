/-
  Are designs the same: SameE, sameT, sameProc, sameCheck.
-/
import Derived.Test.YtbcgeglkmpcnpaaDoorEzA
import Derived.Test.YtbcgeglkmpcnpaaDoorEzP
import Derived.Deep.LoopGhost
import Derived.Deep.DeepCutAuto
namespace Go.Proofs.YtbcgeglkmpcnpaaDoor
open Go Go.RowKit
set_option linter.unusedVariables false
set_option linter.unusedSimpArgs false
open Go.Sort
/-- Are two lists the same, element by element? -/
def eqList {α : Type} (p : α → α → Bool) : List α → List α → Bool
  | [], [] => true
  | x :: r, y :: t => p x y && eqList p r t
  | _, _ => false
theorem eqList_len {α : Type} (p : α → α → Bool) : ∀ l m : List α, l.length ≠ m.length → eqList p l m = false
  | [], [], h => absurd rfl h
  | [], _ :: _, _ => rfl
  | _ :: _, [], _ => rfl
  | x :: r, y :: t, h => by rw [eqList, eqList_len p r t (by simpa using h), Bool.and_false]
theorem eqList_drop {α : Type} (p : α → α → Bool) (l m : List α) (k : Nat) (h : k < l.length) (h2 : k < m.length) : eqList p (l.drop k) (m.drop k) = (p l[k] m[k] && eqList p (l.drop (k + 1)) (m.drop (k + 1))) := by
  rw [← List.getElem_cons_drop h, ← List.getElem_cons_drop h2]; rfl

set_option maxHeartbeats 8000000 in
set_option maxRecDepth 100000 in
theorem eqE_any (p : ET → ET → Bool) (n0 : Nat) (l m : List ET) (hll : l.length ≤ 12000000) (hmm : m.length ≤ 12000000) (hc : ∀ x ∈ l, ∀ y ∈ m, ∀ w, n0 ≤ w.heap.size → x.In n0 w → y.In n0 w → Calls Tryd.prog 21 #[x.val, y.val] w fun e w' => e = .returned (.bool (p x y)) ∧ Below w.heap.size w w') (a : Option Addr) (c : Nat) (a2 : Option Addr) (c2 : Nat) (w : World) (hn0 : n0 ≤ w.heap.size) (hi1 : InRow 8 ET.cells (ET.In n0 w) n0 w l a) (hi2 : InRow 8 ET.cells (ET.In n0 w) n0 w m a2) :
    Calls Tryd.prog 41 #[.slice a l.length c, .slice a2 m.length c2, .func (.func 21) #[] #[]] w fun e w' => e = .returned (.bool (eqList p l m)) ∧ Below w.heap.size w w' := by
  by_cases hlen : l.length = m.length
  · have e1 : ((l.length : Int) != (m.length : Int)) = false := by rw [hlen]; simp
    have e2 : ((l.length : Int) == (m.length : Int)) = true := by rw [hlen]; simp
    have e3 : (l.length == m.length) = true := by rw [hlen]; simp
    have HLEN := Lib.hid hlen
    obtain ⟨R, hR⟩ : ∃ R, eqList p l m = R := ⟨_, rfl⟩
    have HR := Lib.hid hR
    rw [hR]
    clear hR hlen
    go_enter Tryd.func41, Tryd.ntmps41
    go_wp2
    go_loopg [17] l.length (fun g u wr => ∃ (k : Nat), u = .int .i64 k ∧ k + g = l.length ∧ eqList p (l.drop k) (m.drop k) = R ∧ Below w.heap.size w wr)
    case atStart => exact ⟨0, rfl, by omega, by rw [List.drop_zero, List.drop_zero]; exact HR.out, Below.refl _ _⟩
    case round =>
     obtain ⟨k, rfl, hk, hkk, hb0⟩ := hrel
     have HK := Lib.hid hkk
     clear hkk
     by_cases hlt : k < l.length
     · have hlt2 : k < m.length := by have := HLEN.out; omega
       have d1 : decide (k < l.length) = true := by simpa using hlt
       have d2 : decide ((k : Int) < (l.length : Int)) = true := by rw [decide_eq_true_eq]; omega
       have x1 : (k : Int) < (l.length : Int) := by omega
       have x2 : (k : Int) < (m.length : Int) := by omega
       obtain ⟨b, q, rfl, hb, hr, hx⟩ := hi1.kept (Below.keptTo hb0 hn0) hlt
       obtain ⟨b', q', rfl, hb', hs, hy⟩ := hi2.kept (Below.keptTo hb0 hn0) hlt2
       have HD := Lib.hid (eqList_drop p l m k hlt hlt2)
       have hcx := hc l[k] (List.getElem_mem hlt) m[k] (List.getElem_mem hlt2)
       have hxin := hx.keep (Below.keptTo hb0 hn0)
       have hyin := hy.keep (Below.keptTo hb0 hn0)
       have zz := hb0.size
       generalize p l[k] m[k] = bp at *
       generalize hgx : l[k] = x at *
       generalize hgy : m[k] = y at *
       obtain ⟨op, wd, v, sg, uh, ul, xn, xa, xc, xl⟩ := x
       obtain ⟨op2, wd2, v2, sg2, uh2, ul2, xn2, xa2, xc2, xl2⟩ := y
       have r0 : wr.cell? ⟨b, q + k * 8, none⟩ = some (.int .i64 op) := hr 0 _ rfl
       have r1 : wr.cell? ⟨b, q + k * 8 + 1, none⟩ = some (.int .i64 wd) := hr 1 _ rfl
       have r2 : wr.cell? ⟨b, q + k * 8 + 2, none⟩ = some (.int .u64 (v : Int)) := hr 2 _ rfl
       have r3 : wr.cell? ⟨b, q + k * 8 + 3, none⟩ = some (.int .i64 sg) := hr 3 _ rfl
       have r4 : wr.cell? ⟨b, q + k * 8 + 4, none⟩ = some (.int .i64 uh) := hr 4 _ rfl
       have r5 : wr.cell? ⟨b, q + k * 8 + 5, none⟩ = some (.int .i64 ul) := hr 5 _ rfl
       have r6 : wr.cell? ⟨b, q + k * 8 + 6, none⟩ = some (.int .i64 xn) := hr 6 _ rfl
       have r7 : wr.cell? ⟨b, q + k * 8 + 7, none⟩ = some (.slice xa xl.length xc) := hr 7 _ rfl
       have s0 : wr.cell? ⟨b', q' + k * 8, none⟩ = some (.int .i64 op2) := hs 0 _ rfl
       have s1 : wr.cell? ⟨b', q' + k * 8 + 1, none⟩ = some (.int .i64 wd2) := hs 1 _ rfl
       have s2 : wr.cell? ⟨b', q' + k * 8 + 2, none⟩ = some (.int .u64 (v2 : Int)) := hs 2 _ rfl
       have s3 : wr.cell? ⟨b', q' + k * 8 + 3, none⟩ = some (.int .i64 sg2) := hs 3 _ rfl
       have s4 : wr.cell? ⟨b', q' + k * 8 + 4, none⟩ = some (.int .i64 uh2) := hs 4 _ rfl
       have s5 : wr.cell? ⟨b', q' + k * 8 + 5, none⟩ = some (.int .i64 ul2) := hs 5 _ rfl
       have s6 : wr.cell? ⟨b', q' + k * 8 + 6, none⟩ = some (.int .i64 xn2) := hs 6 _ rfl
       have s7 : wr.cell? ⟨b', q' + k * 8 + 7, none⟩ = some (.slice xa2 xl2.length xc2) := hs 7 _ rfl
       have hb1 : Below w.heap.size w ((wr.alloc (.cells #[.int .i64 op, .int .i64 wd, .int .u64 (v : Int), .int .i64 sg, .int .i64 uh, .int .i64 ul, .int .i64 xn, .slice xa xl.length xc] 30)).alloc (.cells #[.int .i64 op2, .int .i64 wd2, .int .u64 (v2 : Int), .int .i64 sg2, .int .i64 uh2, .int .i64 ul2, .int .i64 xn2, .slice xa2 xl2.length xc2] 30)) := (hb0.alloc zz _).alloc (by simp; omega) _
       have hkk1 : Below wr.heap.size wr ((wr.alloc (.cells #[.int .i64 op, .int .i64 wd, .int .u64 (v : Int), .int .i64 sg, .int .i64 uh, .int .i64 ul, .int .i64 xn, .slice xa xl.length xc] 30)).alloc (.cells #[.int .i64 op2, .int .i64 wd2, .int .u64 (v2 : Int), .int .i64 sg2, .int .i64 uh2, .int .i64 ul2, .int .i64 xn2, .slice xa2 xl2.length xc2] 30)) := ((Below.refl _ _).alloc (Nat.le_refl _) _).alloc (by simp) _
       have c0 := hcx ((wr.alloc (.cells #[.int .i64 op, .int .i64 wd, .int .u64 (v : Int), .int .i64 sg, .int .i64 uh, .int .i64 ul, .int .i64 xn, .slice xa xl.length xc] 30)).alloc (.cells #[.int .i64 op2, .int .i64 wd2, .int .u64 (v2 : Int), .int .i64 sg2, .int .i64 uh2, .int .i64 ul2, .int .i64 xn2, .slice xa2 xl2.length xc2] 30)) (by simp; omega) (hxin.keep (Below.keptTo hkk1 (by omega))) (hyin.keep (Below.keptTo hkk1 (by omega)))
       simp only [ET.val, ET.cells] at c0
       have s0A := fun O => alloc_cell s0 O
       have s1A := fun O => alloc_cell s1 O
       have s2A := fun O => alloc_cell s2 O
       have s3A := fun O => alloc_cell s3 O
       have s4A := fun O => alloc_cell s4 O
       have s5A := fun O => alloc_cell s5 O
       have s6A := fun O => alloc_cell s6 O
       have s7A := fun O => alloc_cell s7 O
       have HH := Lib.hid (And.intro hk (And.intro hgx hgy))
       have hkg : k < l.length := hlt
       clear hi1 hi2 hc hcx hr hs hx hy hxin hyin hgx hgy hkk1
       cases gk with
       | zero => omega
       | succ gg =>
         cases bp
         all_goals
           go_wp2_with fail
           refine c0.mono ?_
           clear c0
           rintro e W1 ⟨rfl, hb2⟩
           have hb3 := hb1.trans (hb2.mono hb1.size)
           clear hb1 hb2
           go_wp2
           first
           | (go_ret
              exact ⟨by rw [← HK.out, HD.out]; rfl, hb3⟩)
           | (go_roundg gg
              case rel => exact ⟨k + 1, by simp; first | done | rfl | omega, by omega, by rw [← HK.out, HD.out]; rfl, hb3⟩
              case measure => omega)
     · have d1 : decide (k < l.length) = false := by simpa using hlt
       have d2 : decide ((k : Int) < (l.length : Int)) = false := by rw [decide_eq_false_iff_not]; omega
       have HE : Hid (R = true) := Lib.hid (by have := HK.out; have := HLEN.out; rw [List.drop_eq_nil_of_le (by omega), List.drop_eq_nil_of_le (by omega)] at *; rw [← HK.out]; rfl)
       go_wp2
       go_ret
       exact ⟨by rw [HE.out]; rfl, hb0⟩
  · have e1 : ((l.length : Int) != (m.length : Int)) = true := by rw [bne_iff_ne]; omega
    have e2 : (l.length != m.length) = true := by rw [bne_iff_ne]; exact hlen
    have e3 : (l.length == m.length) = false := by rw [beq_eq_false_iff_ne]; exact hlen
    have HE := Lib.hid (eqList_len p l m hlen)
    clear hlen
    go_enter Tryd.func41, Tryd.ntmps41
    go_wp2
    go_ret
    exact ⟨by rw [HE.out]; rfl, Below.refl _ _⟩

set_option maxHeartbeats 8000000 in
set_option maxRecDepth 100000 in
theorem eqT_any (p : TT → TT → Bool) (n0 : Nat) (l m : List TT) (hll : l.length ≤ 12000000) (hmm : m.length ≤ 12000000) (hc : ∀ x ∈ l, ∀ y ∈ m, ∀ w, n0 ≤ w.heap.size → x.In n0 w → y.In n0 w → Calls Tryd.prog 86 #[x.val, y.val] w fun e w' => e = .returned (.bool (p x y)) ∧ Below w.heap.size w w') (a : Option Addr) (c : Nat) (a2 : Option Addr) (c2 : Nat) (w : World) (hn0 : n0 ≤ w.heap.size) (hi1 : InRow 6 TT.cells (TT.In n0 w) n0 w l a) (hi2 : InRow 6 TT.cells (TT.In n0 w) n0 w m a2) :
    Calls Tryd.prog 85 #[.slice a l.length c, .slice a2 m.length c2, .func (.func 86) #[] #[]] w fun e w' => e = .returned (.bool (eqList p l m)) ∧ Below w.heap.size w w' := by
  by_cases hlen : l.length = m.length
  · have e1 : ((l.length : Int) != (m.length : Int)) = false := by rw [hlen]; simp
    have e2 : ((l.length : Int) == (m.length : Int)) = true := by rw [hlen]; simp
    have e3 : (l.length == m.length) = true := by rw [hlen]; simp
    have HLEN := Lib.hid hlen
    obtain ⟨R, hR⟩ : ∃ R, eqList p l m = R := ⟨_, rfl⟩
    have HR := Lib.hid hR
    rw [hR]
    clear hR hlen
    go_enter Tryd.func85, Tryd.ntmps85
    go_wp2
    go_loopg [17] l.length (fun g u wr => ∃ (k : Nat), u = .int .i64 k ∧ k + g = l.length ∧ eqList p (l.drop k) (m.drop k) = R ∧ Below w.heap.size w wr)
    case atStart => exact ⟨0, rfl, by omega, by rw [List.drop_zero, List.drop_zero]; exact HR.out, Below.refl _ _⟩
    case round =>
     obtain ⟨k, rfl, hk, hkk, hb0⟩ := hrel
     have HK := Lib.hid hkk
     clear hkk
     by_cases hlt : k < l.length
     · have hlt2 : k < m.length := by have := HLEN.out; omega
       have d1 : decide (k < l.length) = true := by simpa using hlt
       have d2 : decide ((k : Int) < (l.length : Int)) = true := by rw [decide_eq_true_eq]; omega
       have x1 : (k : Int) < (l.length : Int) := by omega
       have x2 : (k : Int) < (m.length : Int) := by omega
       obtain ⟨b, q, rfl, hb, hr, hx⟩ := hi1.kept (Below.keptTo hb0 hn0) hlt
       obtain ⟨b', q', rfl, hb', hs, hy⟩ := hi2.kept (Below.keptTo hb0 hn0) hlt2
       have HD := Lib.hid (eqList_drop p l m k hlt hlt2)
       have hcx := hc l[k] (List.getElem_mem hlt) m[k] (List.getElem_mem hlt2)
       have hxin := hx.keep (Below.keptTo hb0 hn0)
       have hyin := hy.keep (Below.keptTo hb0 hn0)
       have zz := hb0.size
       generalize p l[k] m[k] = bp at *
       generalize hgx : l[k] = x at *
       generalize hgy : m[k] = y at *
       obtain ⟨op, sg, uh, ul, xa, xc, xl, sa, sc, sl⟩ := x
       obtain ⟨op2, sg2, uh2, ul2, xa2, xc2, xl2, sa2, sc2, sl2⟩ := y
       have r0 : wr.cell? ⟨b, q + k * 6, none⟩ = some (.int .i64 op) := hr 0 _ rfl
       have r1 : wr.cell? ⟨b, q + k * 6 + 1, none⟩ = some (.int .i64 sg) := hr 1 _ rfl
       have r2 : wr.cell? ⟨b, q + k * 6 + 2, none⟩ = some (.int .i64 uh) := hr 2 _ rfl
       have r3 : wr.cell? ⟨b, q + k * 6 + 3, none⟩ = some (.int .i64 ul) := hr 3 _ rfl
       have r4 : wr.cell? ⟨b, q + k * 6 + 4, none⟩ = some (.slice xa xl.length xc) := hr 4 _ rfl
       have r5 : wr.cell? ⟨b, q + k * 6 + 5, none⟩ = some (.slice sa sl.length sc) := hr 5 _ rfl
       have s0 : wr.cell? ⟨b', q' + k * 6, none⟩ = some (.int .i64 op2) := hs 0 _ rfl
       have s1 : wr.cell? ⟨b', q' + k * 6 + 1, none⟩ = some (.int .i64 sg2) := hs 1 _ rfl
       have s2 : wr.cell? ⟨b', q' + k * 6 + 2, none⟩ = some (.int .i64 uh2) := hs 2 _ rfl
       have s3 : wr.cell? ⟨b', q' + k * 6 + 3, none⟩ = some (.int .i64 ul2) := hs 3 _ rfl
       have s4 : wr.cell? ⟨b', q' + k * 6 + 4, none⟩ = some (.slice xa2 xl2.length xc2) := hs 4 _ rfl
       have s5 : wr.cell? ⟨b', q' + k * 6 + 5, none⟩ = some (.slice sa2 sl2.length sc2) := hs 5 _ rfl
       have hb1 : Below w.heap.size w ((wr.alloc (.cells #[.int .i64 op, .int .i64 sg, .int .i64 uh, .int .i64 ul, .slice xa xl.length xc, .slice sa sl.length sc] 48)).alloc (.cells #[.int .i64 op2, .int .i64 sg2, .int .i64 uh2, .int .i64 ul2, .slice xa2 xl2.length xc2, .slice sa2 sl2.length sc2] 48)) := (hb0.alloc zz _).alloc (by simp; omega) _
       have hkk1 : Below wr.heap.size wr ((wr.alloc (.cells #[.int .i64 op, .int .i64 sg, .int .i64 uh, .int .i64 ul, .slice xa xl.length xc, .slice sa sl.length sc] 48)).alloc (.cells #[.int .i64 op2, .int .i64 sg2, .int .i64 uh2, .int .i64 ul2, .slice xa2 xl2.length xc2, .slice sa2 sl2.length sc2] 48)) := ((Below.refl _ _).alloc (Nat.le_refl _) _).alloc (by simp) _
       have c0 := hcx ((wr.alloc (.cells #[.int .i64 op, .int .i64 sg, .int .i64 uh, .int .i64 ul, .slice xa xl.length xc, .slice sa sl.length sc] 48)).alloc (.cells #[.int .i64 op2, .int .i64 sg2, .int .i64 uh2, .int .i64 ul2, .slice xa2 xl2.length xc2, .slice sa2 sl2.length sc2] 48)) (by simp; omega) (hxin.keep (Below.keptTo hkk1 (by omega))) (hyin.keep (Below.keptTo hkk1 (by omega)))
       simp only [TT.val, TT.cells] at c0
       have s0A := fun O => alloc_cell s0 O
       have s1A := fun O => alloc_cell s1 O
       have s2A := fun O => alloc_cell s2 O
       have s3A := fun O => alloc_cell s3 O
       have s4A := fun O => alloc_cell s4 O
       have s5A := fun O => alloc_cell s5 O
       have HH := Lib.hid (And.intro hk (And.intro hgx hgy))
       have hkg : k < l.length := hlt
       clear hi1 hi2 hc hcx hr hs hx hy hxin hyin hgx hgy hkk1
       cases gk with
       | zero => omega
       | succ gg =>
         cases bp
         all_goals
           go_wp2_with fail
           refine c0.mono ?_
           clear c0
           rintro e W1 ⟨rfl, hb2⟩
           have hb3 := hb1.trans (hb2.mono hb1.size)
           clear hb1 hb2
           go_wp2
           first
           | (go_ret
              exact ⟨by rw [← HK.out, HD.out]; rfl, hb3⟩)
           | (go_roundg gg
              case rel => exact ⟨k + 1, by simp; first | done | rfl | omega, by omega, by rw [← HK.out, HD.out]; rfl, hb3⟩
              case measure => omega)
     · have d1 : decide (k < l.length) = false := by simpa using hlt
       have d2 : decide ((k : Int) < (l.length : Int)) = false := by rw [decide_eq_false_iff_not]; omega
       have HE : Hid (R = true) := Lib.hid (by have := HK.out; have := HLEN.out; rw [List.drop_eq_nil_of_le (by omega), List.drop_eq_nil_of_le (by omega)] at *; rw [← HK.out]; rfl)
       go_wp2
       go_ret
       exact ⟨by rw [HE.out]; rfl, hb0⟩
  · have e1 : ((l.length : Int) != (m.length : Int)) = true := by rw [bne_iff_ne]; omega
    have e2 : (l.length != m.length) = true := by rw [bne_iff_ne]; exact hlen
    have e3 : (l.length == m.length) = false := by rw [beq_eq_false_iff_ne]; exact hlen
    have HE := Lib.hid (eqList_len p l m hlen)
    clear hlen
    go_enter Tryd.func85, Tryd.ntmps85
    go_wp2
    go_ret
    exact ⟨by rw [HE.out]; rfl, Below.refl _ _⟩

set_option maxHeartbeats 8000000 in
set_option maxRecDepth 100000 in
theorem eqQ_any (p : QT → QT → Bool) (n0 : Nat) (l m : List QT) (hll : l.length ≤ 12000000) (hmm : m.length ≤ 12000000) (hc : ∀ x ∈ l, ∀ y ∈ m, ∀ w, n0 ≤ w.heap.size → x.In n0 w → y.In n0 w → Calls Tryd.prog 44 #[x.val, y.val] w fun e w' => e = .returned (.bool (p x y)) ∧ Below w.heap.size w w') (a : Option Addr) (c : Nat) (a2 : Option Addr) (c2 : Nat) (w : World) (hn0 : n0 ≤ w.heap.size) (hi1 : InRow 2 QT.cells (QT.In n0 w) n0 w l a) (hi2 : InRow 2 QT.cells (QT.In n0 w) n0 w m a2) :
    Calls Tryd.prog 43 #[.slice a l.length c, .slice a2 m.length c2, .func (.func 44) #[] #[]] w fun e w' => e = .returned (.bool (eqList p l m)) ∧ Below w.heap.size w w' := by
  by_cases hlen : l.length = m.length
  · have e1 : ((l.length : Int) != (m.length : Int)) = false := by rw [hlen]; simp
    have e2 : ((l.length : Int) == (m.length : Int)) = true := by rw [hlen]; simp
    have e3 : (l.length == m.length) = true := by rw [hlen]; simp
    have HLEN := Lib.hid hlen
    obtain ⟨R, hR⟩ : ∃ R, eqList p l m = R := ⟨_, rfl⟩
    have HR := Lib.hid hR
    rw [hR]
    clear hR hlen
    go_enter Tryd.func43, Tryd.ntmps43
    go_wp2
    go_loopg [17] l.length (fun g u wr => ∃ (k : Nat), u = .int .i64 k ∧ k + g = l.length ∧ eqList p (l.drop k) (m.drop k) = R ∧ Below w.heap.size w wr)
    case atStart => exact ⟨0, rfl, by omega, by rw [List.drop_zero, List.drop_zero]; exact HR.out, Below.refl _ _⟩
    case round =>
     obtain ⟨k, rfl, hk, hkk, hb0⟩ := hrel
     have HK := Lib.hid hkk
     clear hkk
     by_cases hlt : k < l.length
     · have hlt2 : k < m.length := by have := HLEN.out; omega
       have d1 : decide (k < l.length) = true := by simpa using hlt
       have d2 : decide ((k : Int) < (l.length : Int)) = true := by rw [decide_eq_true_eq]; omega
       have x1 : (k : Int) < (l.length : Int) := by omega
       have x2 : (k : Int) < (m.length : Int) := by omega
       obtain ⟨b, q, rfl, hb, hr, hx⟩ := hi1.kept (Below.keptTo hb0 hn0) hlt
       obtain ⟨b', q', rfl, hb', hs, hy⟩ := hi2.kept (Below.keptTo hb0 hn0) hlt2
       have HD := Lib.hid (eqList_drop p l m k hlt hlt2)
       have hcx := hc l[k] (List.getElem_mem hlt) m[k] (List.getElem_mem hlt2)
       have hxin := hx.keep (Below.keptTo hb0 hn0)
       have hyin := hy.keep (Below.keptTo hb0 hn0)
       have zz := hb0.size
       generalize p l[k] m[k] = bp at *
       generalize hgx : l[k] = x at *
       generalize hgy : m[k] = y at *
       obtain ⟨ck, sa, sc, sl⟩ := x
       obtain ⟨ck2, sa2, sc2, sl2⟩ := y
       have r0 : wr.cell? ⟨b, q + k * 2, none⟩ = some (.bool ck) := hr 0 _ rfl
       have r1 : wr.cell? ⟨b, q + k * 2 + 1, none⟩ = some (.slice sa sl.length sc) := hr 1 _ rfl
       have s0 : wr.cell? ⟨b', q' + k * 2, none⟩ = some (.bool ck2) := hs 0 _ rfl
       have s1 : wr.cell? ⟨b', q' + k * 2 + 1, none⟩ = some (.slice sa2 sl2.length sc2) := hs 1 _ rfl
       have hb1 : Below w.heap.size w ((wr.alloc (.cells #[.bool ck, .slice sa sl.length sc] 46)).alloc (.cells #[.bool ck2, .slice sa2 sl2.length sc2] 46)) := (hb0.alloc zz _).alloc (by simp; omega) _
       have hkk1 : Below wr.heap.size wr ((wr.alloc (.cells #[.bool ck, .slice sa sl.length sc] 46)).alloc (.cells #[.bool ck2, .slice sa2 sl2.length sc2] 46)) := ((Below.refl _ _).alloc (Nat.le_refl _) _).alloc (by simp) _
       have c0 := hcx ((wr.alloc (.cells #[.bool ck, .slice sa sl.length sc] 46)).alloc (.cells #[.bool ck2, .slice sa2 sl2.length sc2] 46)) (by simp; omega) (hxin.keep (Below.keptTo hkk1 (by omega))) (hyin.keep (Below.keptTo hkk1 (by omega)))
       simp only [QT.val, QT.cells] at c0
       have s0A := fun O => alloc_cell s0 O
       have s1A := fun O => alloc_cell s1 O
       have HH := Lib.hid (And.intro hk (And.intro hgx hgy))
       have hkg : k < l.length := hlt
       clear hi1 hi2 hc hcx hr hs hx hy hxin hyin hgx hgy hkk1
       cases gk with
       | zero => omega
       | succ gg =>
         cases bp
         all_goals
           go_wp2_with fail
           refine c0.mono ?_
           clear c0
           rintro e W1 ⟨rfl, hb2⟩
           have hb3 := hb1.trans (hb2.mono hb1.size)
           clear hb1 hb2
           go_wp2
           first
           | (go_ret
              exact ⟨by rw [← HK.out, HD.out]; rfl, hb3⟩)
           | (go_roundg gg
              case rel => exact ⟨k + 1, by simp; first | done | rfl | omega, by omega, by rw [← HK.out, HD.out]; rfl, hb3⟩
              case measure => omega)
     · have d1 : decide (k < l.length) = false := by simpa using hlt
       have d2 : decide ((k : Int) < (l.length : Int)) = false := by rw [decide_eq_false_iff_not]; omega
       have HE : Hid (R = true) := Lib.hid (by have := HK.out; have := HLEN.out; rw [List.drop_eq_nil_of_le (by omega), List.drop_eq_nil_of_le (by omega)] at *; rw [← HK.out]; rfl)
       go_wp2
       go_ret
       exact ⟨by rw [HE.out]; rfl, hb0⟩
  · have e1 : ((l.length : Int) != (m.length : Int)) = true := by rw [bne_iff_ne]; omega
    have e2 : (l.length != m.length) = true := by rw [bne_iff_ne]; exact hlen
    have e3 : (l.length == m.length) = false := by rw [beq_eq_false_iff_ne]; exact hlen
    have HE := Lib.hid (eqList_len p l m hlen)
    clear hlen
    go_enter Tryd.func43, Tryd.ntmps43
    go_wp2
    go_ret
    exact ⟨by rw [HE.out]; rfl, Below.refl _ _⟩

set_option maxHeartbeats 8000000 in
set_option maxRecDepth 100000 in
theorem eqK_any (p : KT → KT → Bool) (n0 : Nat) (l m : List KT) (hll : l.length ≤ 12000000) (hmm : m.length ≤ 12000000) (hc : ∀ x ∈ l, ∀ y ∈ m, ∀ w, n0 ≤ w.heap.size → x.In n0 w → y.In n0 w → Calls Tryd.prog 46 #[x.val, y.val] w fun e w' => e = .returned (.bool (p x y)) ∧ Below w.heap.size w w') (a : Option Addr) (c : Nat) (a2 : Option Addr) (c2 : Nat) (w : World) (hn0 : n0 ≤ w.heap.size) (hi1 : InRow 9 KT.cells (KT.In n0 w) n0 w l a) (hi2 : InRow 9 KT.cells (KT.In n0 w) n0 w m a2) :
    Calls Tryd.prog 45 #[.slice a l.length c, .slice a2 m.length c2, .func (.func 46) #[] #[]] w fun e w' => e = .returned (.bool (eqList p l m)) ∧ Below w.heap.size w w' := by
  by_cases hlen : l.length = m.length
  · have e1 : ((l.length : Int) != (m.length : Int)) = false := by rw [hlen]; simp
    have e2 : ((l.length : Int) == (m.length : Int)) = true := by rw [hlen]; simp
    have e3 : (l.length == m.length) = true := by rw [hlen]; simp
    have HLEN := Lib.hid hlen
    obtain ⟨R, hR⟩ : ∃ R, eqList p l m = R := ⟨_, rfl⟩
    have HR := Lib.hid hR
    rw [hR]
    clear hR hlen
    go_enter Tryd.func45, Tryd.ntmps45
    go_wp2
    go_loopg [17] l.length (fun g u wr => ∃ (k : Nat), u = .int .i64 k ∧ k + g = l.length ∧ eqList p (l.drop k) (m.drop k) = R ∧ Below w.heap.size w wr)
    case atStart => exact ⟨0, rfl, by omega, by rw [List.drop_zero, List.drop_zero]; exact HR.out, Below.refl _ _⟩
    case round =>
     obtain ⟨k, rfl, hk, hkk, hb0⟩ := hrel
     have HK := Lib.hid hkk
     clear hkk
     by_cases hlt : k < l.length
     · have hlt2 : k < m.length := by have := HLEN.out; omega
       have d1 : decide (k < l.length) = true := by simpa using hlt
       have d2 : decide ((k : Int) < (l.length : Int)) = true := by rw [decide_eq_true_eq]; omega
       have x1 : (k : Int) < (l.length : Int) := by omega
       have x2 : (k : Int) < (m.length : Int) := by omega
       obtain ⟨b, q, rfl, hb, hr, hx⟩ := hi1.kept (Below.keptTo hb0 hn0) hlt
       obtain ⟨b', q', rfl, hb', hs, hy⟩ := hi2.kept (Below.keptTo hb0 hn0) hlt2
       have HD := Lib.hid (eqList_drop p l m k hlt hlt2)
       have hcx := hc l[k] (List.getElem_mem hlt) m[k] (List.getElem_mem hlt2)
       have hxin := hx.keep (Below.keptTo hb0 hn0)
       have hyin := hy.keep (Below.keptTo hb0 hn0)
       have zz := hb0.size
       generalize p l[k] m[k] = bp at *
       generalize hgx : l[k] = x at *
       generalize hgy : m[k] = y at *
       obtain ⟨bn, ⟨op, wd, v, sg, uh, ul, xn, xa, xc, xl⟩⟩ := x
       obtain ⟨bn2, ⟨op2, wd2, v2, sg2, uh2, ul2, xn2, xa2, xc2, xl2⟩⟩ := y
       have r0 : wr.cell? ⟨b, q + k * 9, none⟩ = some (.string (bs bn)) := hr 0 _ rfl
       have r1 : wr.cell? ⟨b, q + k * 9 + 1, none⟩ = some (.int .i64 op) := hr 1 _ rfl
       have r2 : wr.cell? ⟨b, q + k * 9 + 2, none⟩ = some (.int .i64 wd) := hr 2 _ rfl
       have r3 : wr.cell? ⟨b, q + k * 9 + 3, none⟩ = some (.int .u64 (v : Int)) := hr 3 _ rfl
       have r4 : wr.cell? ⟨b, q + k * 9 + 4, none⟩ = some (.int .i64 sg) := hr 4 _ rfl
       have r5 : wr.cell? ⟨b, q + k * 9 + 5, none⟩ = some (.int .i64 uh) := hr 5 _ rfl
       have r6 : wr.cell? ⟨b, q + k * 9 + 6, none⟩ = some (.int .i64 ul) := hr 6 _ rfl
       have r7 : wr.cell? ⟨b, q + k * 9 + 7, none⟩ = some (.int .i64 xn) := hr 7 _ rfl
       have r8 : wr.cell? ⟨b, q + k * 9 + 8, none⟩ = some (.slice xa xl.length xc) := hr 8 _ rfl
       have s0 : wr.cell? ⟨b', q' + k * 9, none⟩ = some (.string (bs bn2)) := hs 0 _ rfl
       have s1 : wr.cell? ⟨b', q' + k * 9 + 1, none⟩ = some (.int .i64 op2) := hs 1 _ rfl
       have s2 : wr.cell? ⟨b', q' + k * 9 + 2, none⟩ = some (.int .i64 wd2) := hs 2 _ rfl
       have s3 : wr.cell? ⟨b', q' + k * 9 + 3, none⟩ = some (.int .u64 (v2 : Int)) := hs 3 _ rfl
       have s4 : wr.cell? ⟨b', q' + k * 9 + 4, none⟩ = some (.int .i64 sg2) := hs 4 _ rfl
       have s5 : wr.cell? ⟨b', q' + k * 9 + 5, none⟩ = some (.int .i64 uh2) := hs 5 _ rfl
       have s6 : wr.cell? ⟨b', q' + k * 9 + 6, none⟩ = some (.int .i64 ul2) := hs 6 _ rfl
       have s7 : wr.cell? ⟨b', q' + k * 9 + 7, none⟩ = some (.int .i64 xn2) := hs 7 _ rfl
       have s8 : wr.cell? ⟨b', q' + k * 9 + 8, none⟩ = some (.slice xa2 xl2.length xc2) := hs 8 _ rfl
       have hb1 : Below w.heap.size w ((wr.alloc (.cells #[.string (bs bn), .int .i64 op, .int .i64 wd, .int .u64 (v : Int), .int .i64 sg, .int .i64 uh, .int .i64 ul, .int .i64 xn, .slice xa xl.length xc] 74)).alloc (.cells #[.string (bs bn2), .int .i64 op2, .int .i64 wd2, .int .u64 (v2 : Int), .int .i64 sg2, .int .i64 uh2, .int .i64 ul2, .int .i64 xn2, .slice xa2 xl2.length xc2] 74)) := (hb0.alloc zz _).alloc (by simp; omega) _
       have hkk1 : Below wr.heap.size wr ((wr.alloc (.cells #[.string (bs bn), .int .i64 op, .int .i64 wd, .int .u64 (v : Int), .int .i64 sg, .int .i64 uh, .int .i64 ul, .int .i64 xn, .slice xa xl.length xc] 74)).alloc (.cells #[.string (bs bn2), .int .i64 op2, .int .i64 wd2, .int .u64 (v2 : Int), .int .i64 sg2, .int .i64 uh2, .int .i64 ul2, .int .i64 xn2, .slice xa2 xl2.length xc2] 74)) := ((Below.refl _ _).alloc (Nat.le_refl _) _).alloc (by simp) _
       have c0 := hcx ((wr.alloc (.cells #[.string (bs bn), .int .i64 op, .int .i64 wd, .int .u64 (v : Int), .int .i64 sg, .int .i64 uh, .int .i64 ul, .int .i64 xn, .slice xa xl.length xc] 74)).alloc (.cells #[.string (bs bn2), .int .i64 op2, .int .i64 wd2, .int .u64 (v2 : Int), .int .i64 sg2, .int .i64 uh2, .int .i64 ul2, .int .i64 xn2, .slice xa2 xl2.length xc2] 74)) (by simp; omega) (hxin.keep (Below.keptTo hkk1 (by omega))) (hyin.keep (Below.keptTo hkk1 (by omega)))
       simp only [KT.val, KT.cells] at c0
       have s0A := fun O => alloc_cell s0 O
       have s1A := fun O => alloc_cell s1 O
       have s2A := fun O => alloc_cell s2 O
       have s3A := fun O => alloc_cell s3 O
       have s4A := fun O => alloc_cell s4 O
       have s5A := fun O => alloc_cell s5 O
       have s6A := fun O => alloc_cell s6 O
       have s7A := fun O => alloc_cell s7 O
       have s8A := fun O => alloc_cell s8 O
       have HH := Lib.hid (And.intro hk (And.intro hgx hgy))
       have hkg : k < l.length := hlt
       clear hi1 hi2 hc hcx hr hs hx hy hxin hyin hgx hgy hkk1
       cases gk with
       | zero => omega
       | succ gg =>
         cases bp
         all_goals
           go_wp2_with fail
           refine c0.mono ?_
           clear c0
           rintro e W1 ⟨rfl, hb2⟩
           have hb3 := hb1.trans (hb2.mono hb1.size)
           clear hb1 hb2
           go_wp2
           first
           | (go_ret
              exact ⟨by rw [← HK.out, HD.out]; rfl, hb3⟩)
           | (go_roundg gg
              case rel => exact ⟨k + 1, by simp; first | done | rfl | omega, by omega, by rw [← HK.out, HD.out]; rfl, hb3⟩
              case measure => omega)
     · have d1 : decide (k < l.length) = false := by simpa using hlt
       have d2 : decide ((k : Int) < (l.length : Int)) = false := by rw [decide_eq_false_iff_not]; omega
       have HE : Hid (R = true) := Lib.hid (by have := HK.out; have := HLEN.out; rw [List.drop_eq_nil_of_le (by omega), List.drop_eq_nil_of_le (by omega)] at *; rw [← HK.out]; rfl)
       go_wp2
       go_ret
       exact ⟨by rw [HE.out]; rfl, hb0⟩
  · have e1 : ((l.length : Int) != (m.length : Int)) = true := by rw [bne_iff_ne]; omega
    have e2 : (l.length != m.length) = true := by rw [bne_iff_ne]; exact hlen
    have e3 : (l.length == m.length) = false := by rw [beq_eq_false_iff_ne]; exact hlen
    have HE := Lib.hid (eqList_len p l m hlen)
    clear hlen
    go_enter Tryd.func45, Tryd.ntmps45
    go_wp2
    go_ret
    exact ⟨by rw [HE.out]; rfl, Below.refl _ _⟩
mutual
def sameE : ET → ET → Bool
  | .mk op wd v sg uh ul xn _ _ xl, .mk op2 wd2 v2 sg2 uh2 ul2 xn2 _ _ xl2 => (op == op2) && ((wd == wd2) && (((v : Int) == (v2 : Int)) && ((sg == sg2) && ((uh == uh2) && ((ul == ul2) && ((xn == xn2) && (sameEL xl xl2)))))))
def sameEL : List ET → List ET → Bool
  | [], [] => true
  | x :: r, y :: q => sameE x y && sameEL r q
  | [], _ :: _ => false
  | _ :: _, [] => false
end
theorem sameEL_eq : ∀ l m : List ET, sameEL l m = eqList sameE l m
  | [], [] => rfl
  | x :: r, y :: q => by rw [sameEL, sameEL_eq r q]; rfl
  | [], _ :: _ => rfl
  | _ :: _, [] => rfl
mutual
def sameT : TT → TT → Bool
  | .mk op sg uh ul _ _ xl _ _ sl, .mk op2 sg2 uh2 ul2 _ _ xl2 _ _ sl2 => (op == op2) && ((sg == sg2) && ((uh == uh2) && ((ul == ul2) && (eqList sameE xl xl2 && (sameTL sl sl2)))))
def sameTL : List TT → List TT → Bool
  | [], [] => true
  | x :: r, y :: q => sameT x y && sameTL r q
  | [], _ :: _ => false
  | _ :: _, [] => false
end
theorem sameTL_eq : ∀ l m : List TT, sameTL l m = eqList sameT l m
  | [], [] => rfl
  | x :: r, y :: q => by rw [sameTL, sameTL_eq r q]; rfl
  | [], _ :: _ => rfl
  | _ :: _, [] => rfl
def sameQ : QT → QT → Bool
  | ⟨ck, _, _, sl⟩, ⟨ck2, _, _, sl2⟩ => (ck == ck2) && (eqList sameT sl sl2)
def sameK : KT → KT → Bool
  | ⟨bn, x⟩, ⟨bn2, x2⟩ => (bn == bn2) && (sameE x x2)
theorem ope9 {w : World} {g : Nat} {v0 v1 v2 v3 v4 v5 v6 v7 v8 : Value} {t : TypeId} (h : w.heap[g]? = some (.cells #[v0, v1, v2, v3, v4, v5, v6, v7, v8] t (0, 0))) : w.cell? ⟨g, 0, none⟩ = some v0 ∧ w.cell? ⟨g, 1, none⟩ = some v1 ∧ w.cell? ⟨g, 2, none⟩ = some v2 ∧ w.cell? ⟨g, 3, none⟩ = some v3 ∧ w.cell? ⟨g, 4, none⟩ = some v4 ∧ w.cell? ⟨g, 5, none⟩ = some v5 ∧ w.cell? ⟨g, 6, none⟩ = some v6 ∧ w.cell? ⟨g, 7, none⟩ = some v7 ∧ w.cell? ⟨g, 8, none⟩ = some v8 := by
  simp [World.cell?, h]

set_option maxHeartbeats 16000000 in
set_option maxRecDepth 100000 in
theorem sameE_any : ∀ x : ET, x.bk ≤ 4500000 → ∀ y : ET, y.bk ≤ 4500000 → ∀ (n0 : Nat) (w : World), n0 ≤ w.heap.size → x.In n0 w → y.In n0 w → Calls Tryd.prog 21 #[x.val, y.val] w fun e w' => e = .returned (.bool (sameE x y)) ∧ Below w.heap.size w w' := by
  refine ET.ind ?_
  intro op wd v sg uh ul xn xa xc xl ih0 hbk y hbk2 n0 w hn0 hin hin2
  obtain ⟨op2, wd2, v2, sg2, uh2, ul2, xn2, xa2, xc2, xl2⟩ := y
  rw [ET.In_mk] at hin hin2
  simp only [ET.bk] at hbk hbk2
  have i0 := hin
  have j0 := hin2
  have l0 := ET.bkL_len xl
  have l0b := ET.bkL_len xl2
  have c0 := fun (w' : World) h1 h2 h3 => eqE_any sameE n0 xl xl2 (by omega) (by omega) (fun u hu v' hv w2 e1 e2 e3 => ih0 u hu (by have := ET.bkL_mem hu; omega) v' (by have := ET.bkL_mem hv; omega) n0 w2 e1 e2 e3) xa xc xa2 xc2 w' h1 h2 h3
  have HI : Hid (sameE (.mk op wd v sg uh ul xn xa xc xl) (.mk op2 wd2 v2 sg2 uh2 ul2 xn2 xa2 xc2 xl2) = ((op == op2) && ((wd == wd2) && (((v : Int) == (v2 : Int)) && ((sg == sg2) && ((uh == uh2) && ((ul == ul2) && ((xn == xn2) && (eqList sameE xl xl2))))))))) := Lib.hid (by rw [sameE, sameEL_eq])
  generalize sameE (.mk op wd v sg uh ul xn xa xc xl) (.mk op2 wd2 v2 sg2 uh2 ul2 xn2 xa2 xc2 xl2) = R at *
  clear ih0
  obtain ⟨b1, hb1⟩ : ∃ b, (op == op2) = b := ⟨_, rfl⟩
  obtain ⟨b2, hb2⟩ : ∃ b, (wd == wd2) = b := ⟨_, rfl⟩
  obtain ⟨b3, hb3⟩ : ∃ b, ((v : Int) == (v2 : Int)) = b := ⟨_, rfl⟩
  have hb3n : (v == v2) = b3 := by rw [← hb3, Bool.eq_iff_iff, beq_iff_eq, beq_iff_eq]; omega
  obtain ⟨b4, hb4⟩ : ∃ b, (sg == sg2) = b := ⟨_, rfl⟩
  obtain ⟨b5, hb5⟩ : ∃ b, (uh == uh2) = b := ⟨_, rfl⟩
  obtain ⟨b6, hb6⟩ : ∃ b, (ul == ul2) = b := ⟨_, rfl⟩
  obtain ⟨b7, hb7⟩ : ∃ b, (xn == xn2) = b := ⟨_, rfl⟩
  obtain ⟨b8, hb8⟩ : ∃ b, eqList sameE xl xl2 = b := ⟨_, rfl⟩
  rw [hb1, hb2, hb3, hb4, hb5, hb6, hb7, hb8] at HI
  rw [hb8] at c0
  clear hb8
  simp only [ET.val, ET.cells]
  go_enter Tryd.func21, Tryd.ntmps21
  go_upto_region 1 with (fail)
  have BX : (w.alloc (.cells #[.int .i64 op, .int .i64 wd, .int .u64 (v : Int), .int .i64 sg, .int .i64 uh, .int .i64 ul, .int .i64 xn, .slice xa xl.length xc] 30)).heap[w.heap.size]? = some (.cells #[.int .i64 op, .int .i64 wd, .int .u64 (v : Int), .int .i64 sg, .int .i64 uh, .int .i64 ul, .int .i64 xn, .slice xa xl.length xc] 30) := World.alloc_heap_new w _
  have BY0 := World.alloc_heap_new (w.alloc (.cells #[.int .i64 op, .int .i64 wd, .int .u64 (v : Int), .int .i64 sg, .int .i64 uh, .int .i64 ul, .int .i64 xn, .slice xa xl.length xc] 30)) (.cells #[.int .i64 op2, .int .i64 wd2, .int .u64 (v2 : Int), .int .i64 sg2, .int .i64 uh2, .int .i64 ul2, .int .i64 xn2, .slice xa2 xl2.length xc2] 30)
  have BX2 := block_alloc BX (.cells #[.int .i64 op2, .int .i64 wd2, .int .u64 (v2 : Int), .int .i64 sg2, .int .i64 uh2, .int .i64 ul2, .int .i64 xn2, .slice xa2 xl2.length xc2] 30)
  rw [World.size_alloc] at BY0
  have hB2 : Below w.heap.size w ((w.alloc (.cells #[.int .i64 op, .int .i64 wd, .int .u64 (v : Int), .int .i64 sg, .int .i64 uh, .int .i64 ul, .int .i64 xn, .slice xa xl.length xc] 30)).alloc (.cells #[.int .i64 op2, .int .i64 wd2, .int .u64 (v2 : Int), .int .i64 sg2, .int .i64 uh2, .int .i64 ul2, .int .i64 xn2, .slice xa2 xl2.length xc2] 30)) := ((Below.refl _ _).alloc (Nat.le_refl _) _).alloc (by simp) _
  have hk8 := Below.keptTo hB2 hn0
  replace i0 := i0.keep hk8 (fun x _ => ET.In.keep hk8 x)
  replace j0 := j0.keep hk8 (fun x _ => ET.In.keep hk8 x)
  clear hk8 BX
  have hn1 : n0 ≤ ((w.alloc (.cells #[.int .i64 op, .int .i64 wd, .int .u64 (v : Int), .int .i64 sg, .int .i64 uh, .int .i64 ul, .int .i64 xn, .slice xa xl.length xc] 30)).alloc (.cells #[.int .i64 op2, .int .i64 wd2, .int .u64 (v2 : Int), .int .i64 sg2, .int .i64 uh2, .int .i64 ul2, .int .i64 xn2, .slice xa2 xl2.length xc2] 30)).heap.size := by simp; omega
  generalize (w.alloc (.cells #[.int .i64 op, .int .i64 wd, .int .u64 (v : Int), .int .i64 sg, .int .i64 uh, .int .i64 ul, .int .i64 xn, .slice xa xl.length xc] 30)).alloc (.cells #[.int .i64 op2, .int .i64 wd2, .int .u64 (v2 : Int), .int .i64 sg2, .int .i64 uh2, .int .i64 ul2, .int .i64 xn2, .slice xa2 xl2.length xc2] 30) = w1 at *
  cases b1 with
  | false =>
    obtain ⟨x0, x1, x2, x3, x4, x5, x6, x7⟩ := ope8 BX2
    obtain ⟨y0, y1, y2, y3, y4, y5, y6, y7⟩ := ope8 BY0
    go_wp2
    go_ret
    exact ⟨by rw [HI.out]; rfl, hB2⟩
  | true =>
    cases b2 with
    | false =>
      obtain ⟨x0, x1, x2, x3, x4, x5, x6, x7⟩ := ope8 BX2
      obtain ⟨y0, y1, y2, y3, y4, y5, y6, y7⟩ := ope8 BY0
      go_wp2
      go_ret
      exact ⟨by rw [HI.out]; rfl, hB2⟩
    | true =>
      cases b3 with
      | false =>
        obtain ⟨x0, x1, x2, x3, x4, x5, x6, x7⟩ := ope8 BX2
        obtain ⟨y0, y1, y2, y3, y4, y5, y6, y7⟩ := ope8 BY0
        go_wp2
        go_ret
        exact ⟨by rw [HI.out]; rfl, hB2⟩
      | true =>
        cases b4 with
        | false =>
          obtain ⟨x0, x1, x2, x3, x4, x5, x6, x7⟩ := ope8 BX2
          obtain ⟨y0, y1, y2, y3, y4, y5, y6, y7⟩ := ope8 BY0
          go_wp2
          go_ret
          exact ⟨by rw [HI.out]; rfl, hB2⟩
        | true =>
          cases b5 with
          | false =>
            obtain ⟨x0, x1, x2, x3, x4, x5, x6, x7⟩ := ope8 BX2
            obtain ⟨y0, y1, y2, y3, y4, y5, y6, y7⟩ := ope8 BY0
            go_wp2
            go_ret
            exact ⟨by rw [HI.out]; rfl, hB2⟩
          | true =>
            cases b6 with
            | false =>
              obtain ⟨x0, x1, x2, x3, x4, x5, x6, x7⟩ := ope8 BX2
              obtain ⟨y0, y1, y2, y3, y4, y5, y6, y7⟩ := ope8 BY0
              go_wp2
              go_ret
              exact ⟨by rw [HI.out]; rfl, hB2⟩
            | true =>
              cases b7 with
              | false =>
                obtain ⟨x0, x1, x2, x3, x4, x5, x6, x7⟩ := ope8 BX2
                obtain ⟨y0, y1, y2, y3, y4, y5, y6, y7⟩ := ope8 BY0
                go_wp2
                go_ret
                exact ⟨by rw [HI.out]; rfl, hB2⟩
              | true =>
                obtain ⟨x0, x1, x2, x3, x4, x5, x6, x7⟩ := ope8 BX2
                obtain ⟨y0, y1, y2, y3, y4, y5, y6, y7⟩ := ope8 BY0
                go_wp2_with fail
                refine (c0 _ hn1 i0 j0).mono ?_
                rintro e1 w1 ⟨rfl, hb⟩
                clear x0 x1 x2 x3 x4 x5 x6 x7 y0 y1 y2 y3 y4 y5 y6 y7
                replace BX2 := block_kept BX2 hb
                replace BY0 := block_kept BY0 hb
                have hk9 := Below.keptTo hb hn1
                replace i0 := i0.keep hk9 (fun x _ => ET.In.keep hk9 x)
                replace j0 := j0.keep hk9 (fun x _ => ET.In.keep hk9 x)
                replace hn1 := Nat.le_trans hn1 hb.size
                clear hk9
                replace hB2 := hB2.trans (hb.mono hB2.size)
                clear hb
                obtain ⟨x0, x1, x2, x3, x4, x5, x6, x7⟩ := ope8 BX2
                obtain ⟨y0, y1, y2, y3, y4, y5, y6, y7⟩ := ope8 BY0
                go_wp2
                go_ret
                exact ⟨by rw [HI.out]; rfl, hB2⟩

set_option maxHeartbeats 16000000 in
set_option maxRecDepth 100000 in
theorem sameT_any : ∀ x : TT, x.bk ≤ 4500000 → ∀ y : TT, y.bk ≤ 4500000 → ∀ (n0 : Nat) (w : World), n0 ≤ w.heap.size → x.In n0 w → y.In n0 w → Calls Tryd.prog 86 #[x.val, y.val] w fun e w' => e = .returned (.bool (sameT x y)) ∧ Below w.heap.size w w' := by
  refine TT.ind ?_
  intro op sg uh ul xa xc xl sa sc sl ih0 hbk y hbk2 n0 w hn0 hin hin2
  obtain ⟨op2, sg2, uh2, ul2, xa2, xc2, xl2, sa2, sc2, sl2⟩ := y
  rw [TT.In_mk] at hin hin2
  simp only [TT.bk] at hbk hbk2
  obtain ⟨i0, i1⟩ := hin
  obtain ⟨j0, j1⟩ := hin2
  have l0 := ET.bkL_len xl
  have l0b := ET.bkL_len xl2
  have l1 := TT.bkL_len sl
  have l1b := TT.bkL_len sl2
  have c0 := fun (w' : World) h1 h2 h3 => eqE_any sameE n0 xl xl2 (by omega) (by omega) (fun u hu v' hv w2 e1 e2 e3 => sameE_any u (by have := ET.bkL_mem hu; omega) v' (by have := ET.bkL_mem hv; omega) n0 w2 e1 e2 e3) xa xc xa2 xc2 w' h1 h2 h3
  have c1 := fun (w' : World) h1 h2 h3 => eqT_any sameT n0 sl sl2 (by omega) (by omega) (fun u hu v' hv w2 e1 e2 e3 => ih0 u hu (by have := TT.bkL_mem hu; omega) v' (by have := TT.bkL_mem hv; omega) n0 w2 e1 e2 e3) sa sc sa2 sc2 w' h1 h2 h3
  have HI : Hid (sameT (.mk op sg uh ul xa xc xl sa sc sl) (.mk op2 sg2 uh2 ul2 xa2 xc2 xl2 sa2 sc2 sl2) = ((op == op2) && ((sg == sg2) && ((uh == uh2) && ((ul == ul2) && (eqList sameE xl xl2 && (eqList sameT sl sl2))))))) := Lib.hid (by rw [sameT, sameTL_eq])
  generalize sameT (.mk op sg uh ul xa xc xl sa sc sl) (.mk op2 sg2 uh2 ul2 xa2 xc2 xl2 sa2 sc2 sl2) = R at *
  clear ih0
  obtain ⟨b1, hb1⟩ : ∃ b, (op == op2) = b := ⟨_, rfl⟩
  obtain ⟨b2, hb2⟩ : ∃ b, (sg == sg2) = b := ⟨_, rfl⟩
  obtain ⟨b3, hb3⟩ : ∃ b, (uh == uh2) = b := ⟨_, rfl⟩
  obtain ⟨b4, hb4⟩ : ∃ b, (ul == ul2) = b := ⟨_, rfl⟩
  obtain ⟨b5, hb5⟩ : ∃ b, eqList sameE xl xl2 = b := ⟨_, rfl⟩
  obtain ⟨b6, hb6⟩ : ∃ b, eqList sameT sl sl2 = b := ⟨_, rfl⟩
  rw [hb1, hb2, hb3, hb4, hb5, hb6] at HI
  rw [hb5] at c0
  rw [hb6] at c1
  clear hb5 hb6
  simp only [TT.val, TT.cells]
  go_enter Tryd.func86, Tryd.ntmps86
  go_upto_region 1 with (fail)
  have BX : (w.alloc (.cells #[.int .i64 op, .int .i64 sg, .int .i64 uh, .int .i64 ul, .slice xa xl.length xc, .slice sa sl.length sc] 48)).heap[w.heap.size]? = some (.cells #[.int .i64 op, .int .i64 sg, .int .i64 uh, .int .i64 ul, .slice xa xl.length xc, .slice sa sl.length sc] 48) := World.alloc_heap_new w _
  have BY0 := World.alloc_heap_new (w.alloc (.cells #[.int .i64 op, .int .i64 sg, .int .i64 uh, .int .i64 ul, .slice xa xl.length xc, .slice sa sl.length sc] 48)) (.cells #[.int .i64 op2, .int .i64 sg2, .int .i64 uh2, .int .i64 ul2, .slice xa2 xl2.length xc2, .slice sa2 sl2.length sc2] 48)
  have BX2 := block_alloc BX (.cells #[.int .i64 op2, .int .i64 sg2, .int .i64 uh2, .int .i64 ul2, .slice xa2 xl2.length xc2, .slice sa2 sl2.length sc2] 48)
  rw [World.size_alloc] at BY0
  have hB2 : Below w.heap.size w ((w.alloc (.cells #[.int .i64 op, .int .i64 sg, .int .i64 uh, .int .i64 ul, .slice xa xl.length xc, .slice sa sl.length sc] 48)).alloc (.cells #[.int .i64 op2, .int .i64 sg2, .int .i64 uh2, .int .i64 ul2, .slice xa2 xl2.length xc2, .slice sa2 sl2.length sc2] 48)) := ((Below.refl _ _).alloc (Nat.le_refl _) _).alloc (by simp) _
  have hk8 := Below.keptTo hB2 hn0
  replace i0 := i0.keep hk8 (fun x _ => ET.In.keep hk8 x)
  replace j0 := j0.keep hk8 (fun x _ => ET.In.keep hk8 x)
  replace i1 := i1.keep hk8 (fun x _ => TT.In.keep hk8 x)
  replace j1 := j1.keep hk8 (fun x _ => TT.In.keep hk8 x)
  clear hk8 BX
  have hn1 : n0 ≤ ((w.alloc (.cells #[.int .i64 op, .int .i64 sg, .int .i64 uh, .int .i64 ul, .slice xa xl.length xc, .slice sa sl.length sc] 48)).alloc (.cells #[.int .i64 op2, .int .i64 sg2, .int .i64 uh2, .int .i64 ul2, .slice xa2 xl2.length xc2, .slice sa2 sl2.length sc2] 48)).heap.size := by simp; omega
  generalize (w.alloc (.cells #[.int .i64 op, .int .i64 sg, .int .i64 uh, .int .i64 ul, .slice xa xl.length xc, .slice sa sl.length sc] 48)).alloc (.cells #[.int .i64 op2, .int .i64 sg2, .int .i64 uh2, .int .i64 ul2, .slice xa2 xl2.length xc2, .slice sa2 sl2.length sc2] 48) = w1 at *
  cases b1 with
  | false =>
    obtain ⟨x0, x1, x2, x3, x4, x5⟩ := open6 BX2
    obtain ⟨y0, y1, y2, y3, y4, y5⟩ := open6 BY0
    go_wp2
    go_ret
    exact ⟨by rw [HI.out]; rfl, hB2⟩
  | true =>
    cases b2 with
    | false =>
      obtain ⟨x0, x1, x2, x3, x4, x5⟩ := open6 BX2
      obtain ⟨y0, y1, y2, y3, y4, y5⟩ := open6 BY0
      go_wp2
      go_ret
      exact ⟨by rw [HI.out]; rfl, hB2⟩
    | true =>
      cases b3 with
      | false =>
        obtain ⟨x0, x1, x2, x3, x4, x5⟩ := open6 BX2
        obtain ⟨y0, y1, y2, y3, y4, y5⟩ := open6 BY0
        go_wp2
        go_ret
        exact ⟨by rw [HI.out]; rfl, hB2⟩
      | true =>
        cases b4 with
        | false =>
          obtain ⟨x0, x1, x2, x3, x4, x5⟩ := open6 BX2
          obtain ⟨y0, y1, y2, y3, y4, y5⟩ := open6 BY0
          go_wp2
          go_ret
          exact ⟨by rw [HI.out]; rfl, hB2⟩
        | true =>
          obtain ⟨x0, x1, x2, x3, x4, x5⟩ := open6 BX2
          obtain ⟨y0, y1, y2, y3, y4, y5⟩ := open6 BY0
          go_wp2_with fail
          refine (c0 _ hn1 i0 j0).mono ?_
          rintro e1 w1 ⟨rfl, hb⟩
          clear x0 x1 x2 x3 x4 x5 y0 y1 y2 y3 y4 y5
          replace BX2 := block_kept BX2 hb
          replace BY0 := block_kept BY0 hb
          have hk9 := Below.keptTo hb hn1
          replace i0 := i0.keep hk9 (fun x _ => ET.In.keep hk9 x)
          replace j0 := j0.keep hk9 (fun x _ => ET.In.keep hk9 x)
          replace i1 := i1.keep hk9 (fun x _ => TT.In.keep hk9 x)
          replace j1 := j1.keep hk9 (fun x _ => TT.In.keep hk9 x)
          replace hn1 := Nat.le_trans hn1 hb.size
          clear hk9
          replace hB2 := hB2.trans (hb.mono hB2.size)
          clear hb
          cases b5 with
          | false =>
            obtain ⟨x0, x1, x2, x3, x4, x5⟩ := open6 BX2
            obtain ⟨y0, y1, y2, y3, y4, y5⟩ := open6 BY0
            go_wp2
            go_ret
            exact ⟨by rw [HI.out]; rfl, hB2⟩
          | true =>
            obtain ⟨x0, x1, x2, x3, x4, x5⟩ := open6 BX2
            obtain ⟨y0, y1, y2, y3, y4, y5⟩ := open6 BY0
            go_wp2_with fail
            refine (c1 _ hn1 i1 j1).mono ?_
            rintro e1 w1 ⟨rfl, hb⟩
            clear x0 x1 x2 x3 x4 x5 y0 y1 y2 y3 y4 y5
            replace BX2 := block_kept BX2 hb
            replace BY0 := block_kept BY0 hb
            have hk9 := Below.keptTo hb hn1
            replace i0 := i0.keep hk9 (fun x _ => ET.In.keep hk9 x)
            replace j0 := j0.keep hk9 (fun x _ => ET.In.keep hk9 x)
            replace i1 := i1.keep hk9 (fun x _ => TT.In.keep hk9 x)
            replace j1 := j1.keep hk9 (fun x _ => TT.In.keep hk9 x)
            replace hn1 := Nat.le_trans hn1 hb.size
            clear hk9
            replace hB2 := hB2.trans (hb.mono hB2.size)
            clear hb
            obtain ⟨x0, x1, x2, x3, x4, x5⟩ := open6 BX2
            obtain ⟨y0, y1, y2, y3, y4, y5⟩ := open6 BY0
            go_wp2
            go_ret
            exact ⟨by rw [HI.out]; rfl, hB2⟩

set_option maxHeartbeats 16000000 in
set_option maxRecDepth 100000 in
theorem sameQ_any : ∀ x : QT, x.bk ≤ 4500000 → ∀ y : QT, y.bk ≤ 4500000 → ∀ (n0 : Nat) (w : World), n0 ≤ w.heap.size → x.In n0 w → y.In n0 w → Calls Tryd.prog 44 #[x.val, y.val] w fun e w' => e = .returned (.bool (sameQ x y)) ∧ Below w.heap.size w w' := by
  rintro ⟨ck, sa, sc, sl⟩ hbk ⟨ck2, sa2, sc2, sl2⟩ hbk2 n0 w hn0 hin hin2
  simp only [QT.bk] at hbk hbk2
  simp only [QT.In] at hin hin2
  have i0 := hin
  have j0 := hin2
  have l0 := TT.bkL_len sl
  have l0b := TT.bkL_len sl2
  have c0 := fun (w' : World) h1 h2 h3 => eqT_any sameT n0 sl sl2 (by omega) (by omega) (fun u hu v' hv w2 e1 e2 e3 => sameT_any u (by have := TT.bkL_mem hu; omega) v' (by have := TT.bkL_mem hv; omega) n0 w2 e1 e2 e3) sa sc sa2 sc2 w' h1 h2 h3
  have HI : Hid (sameQ (.mk ck sa sc sl) (.mk ck2 sa2 sc2 sl2) = ((ck == ck2) && (eqList sameT sl sl2))) := Lib.hid (by rfl)
  generalize sameQ (.mk ck sa sc sl) (.mk ck2 sa2 sc2 sl2) = R at *
  obtain ⟨b1, hb1⟩ : ∃ b, (ck == ck2) = b := ⟨_, rfl⟩
  obtain ⟨b2, hb2⟩ : ∃ b, eqList sameT sl sl2 = b := ⟨_, rfl⟩
  rw [hb1, hb2] at HI
  rw [hb2] at c0
  clear hb2
  simp only [QT.val, QT.cells]
  go_enter Tryd.func44, Tryd.ntmps44
  go_upto_region 1 with (fail)
  have BX : (w.alloc (.cells #[.bool ck, .slice sa sl.length sc] 46)).heap[w.heap.size]? = some (.cells #[.bool ck, .slice sa sl.length sc] 46) := World.alloc_heap_new w _
  have BY0 := World.alloc_heap_new (w.alloc (.cells #[.bool ck, .slice sa sl.length sc] 46)) (.cells #[.bool ck2, .slice sa2 sl2.length sc2] 46)
  have BX2 := block_alloc BX (.cells #[.bool ck2, .slice sa2 sl2.length sc2] 46)
  rw [World.size_alloc] at BY0
  have hB2 : Below w.heap.size w ((w.alloc (.cells #[.bool ck, .slice sa sl.length sc] 46)).alloc (.cells #[.bool ck2, .slice sa2 sl2.length sc2] 46)) := ((Below.refl _ _).alloc (Nat.le_refl _) _).alloc (by simp) _
  have hk8 := Below.keptTo hB2 hn0
  replace i0 := i0.keep hk8 (fun x _ => TT.In.keep hk8 x)
  replace j0 := j0.keep hk8 (fun x _ => TT.In.keep hk8 x)
  clear hk8 BX
  have hn1 : n0 ≤ ((w.alloc (.cells #[.bool ck, .slice sa sl.length sc] 46)).alloc (.cells #[.bool ck2, .slice sa2 sl2.length sc2] 46)).heap.size := by simp; omega
  generalize (w.alloc (.cells #[.bool ck, .slice sa sl.length sc] 46)).alloc (.cells #[.bool ck2, .slice sa2 sl2.length sc2] 46) = w1 at *
  cases b1 with
  | false =>
    obtain ⟨x0, x1⟩ := ope2 BX2
    obtain ⟨y0, y1⟩ := ope2 BY0
    go_wp2
    go_ret
    exact ⟨by rw [HI.out]; rfl, hB2⟩
  | true =>
    obtain ⟨x0, x1⟩ := ope2 BX2
    obtain ⟨y0, y1⟩ := ope2 BY0
    go_wp2_with fail
    refine (c0 _ hn1 i0 j0).mono ?_
    rintro e1 w1 ⟨rfl, hb⟩
    clear x0 x1 y0 y1
    replace BX2 := block_kept BX2 hb
    replace BY0 := block_kept BY0 hb
    have hk9 := Below.keptTo hb hn1
    replace i0 := i0.keep hk9 (fun x _ => TT.In.keep hk9 x)
    replace j0 := j0.keep hk9 (fun x _ => TT.In.keep hk9 x)
    replace hn1 := Nat.le_trans hn1 hb.size
    clear hk9
    replace hB2 := hB2.trans (hb.mono hB2.size)
    clear hb
    obtain ⟨x0, x1⟩ := ope2 BX2
    obtain ⟨y0, y1⟩ := ope2 BY0
    go_wp2
    go_ret
    exact ⟨by rw [HI.out]; rfl, hB2⟩

set_option maxHeartbeats 16000000 in
set_option maxRecDepth 100000 in
theorem sameK_any : ∀ x : KT, x.bk ≤ 4500000 → ∀ y : KT, y.bk ≤ 4500000 → ∀ (n0 : Nat) (w : World), n0 ≤ w.heap.size → x.In n0 w → y.In n0 w → Calls Tryd.prog 46 #[x.val, y.val] w fun e w' => e = .returned (.bool (sameK x y)) ∧ Below w.heap.size w w' := by
  rintro ⟨bn, x⟩ hbk ⟨bn2, x2⟩ hbk2 n0 w hn0 hin hin2
  simp only [KT.bk] at hbk hbk2
  have h0 : x.In n0 w := hin
  have h0b : x2.In n0 w := hin2
  have c0 := fun (w' : World) h1 h2 h3 => sameE_any x (by omega) x2 (by omega) n0 w' h1 h2 h3
  have HI : Hid (sameK ⟨bn, x⟩ ⟨bn2, x2⟩ = ((bn == bn2) && (sameE x x2))) := Lib.hid rfl
  generalize sameK ⟨bn, x⟩ ⟨bn2, x2⟩ = R at *
  obtain ⟨b1, hb1⟩ : ∃ b, (bn == bn2) = b := ⟨_, rfl⟩
  obtain ⟨b2, hb2⟩ : ∃ b, sameE x x2 = b := ⟨_, rfl⟩
  rw [hb1, hb2] at HI
  rw [hb2] at c0
  clear hb2
  obtain ⟨op, wd, v, sg, uh, ul, xn, xa, xc, xl⟩ := x
  obtain ⟨op2, wd2, v2, sg2, uh2, ul2, xn2, xa2, xc2, xl2⟩ := x2
  simp only [ET.val, ET.cells] at c0
  simp only [KT.val, KT.cells, ET.cells]
  go_enter Tryd.func46, Tryd.ntmps46
  go_upto_region 1 with (fail)
  have BX : (w.alloc (.cells #[.string (bs bn), .int .i64 op, .int .i64 wd, .int .u64 (v : Int), .int .i64 sg, .int .i64 uh, .int .i64 ul, .int .i64 xn, .slice xa xl.length xc] 74)).heap[w.heap.size]? = some (.cells #[.string (bs bn), .int .i64 op, .int .i64 wd, .int .u64 (v : Int), .int .i64 sg, .int .i64 uh, .int .i64 ul, .int .i64 xn, .slice xa xl.length xc] 74) := World.alloc_heap_new w _
  have BY0 := World.alloc_heap_new (w.alloc (.cells #[.string (bs bn), .int .i64 op, .int .i64 wd, .int .u64 (v : Int), .int .i64 sg, .int .i64 uh, .int .i64 ul, .int .i64 xn, .slice xa xl.length xc] 74)) (.cells #[.string (bs bn2), .int .i64 op2, .int .i64 wd2, .int .u64 (v2 : Int), .int .i64 sg2, .int .i64 uh2, .int .i64 ul2, .int .i64 xn2, .slice xa2 xl2.length xc2] 74)
  have BX2 := block_alloc BX (.cells #[.string (bs bn2), .int .i64 op2, .int .i64 wd2, .int .u64 (v2 : Int), .int .i64 sg2, .int .i64 uh2, .int .i64 ul2, .int .i64 xn2, .slice xa2 xl2.length xc2] 74)
  rw [World.size_alloc] at BY0
  have hB2 : Below w.heap.size w ((w.alloc (.cells #[.string (bs bn), .int .i64 op, .int .i64 wd, .int .u64 (v : Int), .int .i64 sg, .int .i64 uh, .int .i64 ul, .int .i64 xn, .slice xa xl.length xc] 74)).alloc (.cells #[.string (bs bn2), .int .i64 op2, .int .i64 wd2, .int .u64 (v2 : Int), .int .i64 sg2, .int .i64 uh2, .int .i64 ul2, .int .i64 xn2, .slice xa2 xl2.length xc2] 74)) := ((Below.refl _ _).alloc (Nat.le_refl _) _).alloc (by simp) _
  have hk8 := Below.keptTo hB2 hn0
  replace h0 := ET.In.keep hk8 _ h0
  replace h0b := ET.In.keep hk8 _ h0b
  clear hk8 BX
  have hn1 : n0 ≤ ((w.alloc (.cells #[.string (bs bn), .int .i64 op, .int .i64 wd, .int .u64 (v : Int), .int .i64 sg, .int .i64 uh, .int .i64 ul, .int .i64 xn, .slice xa xl.length xc] 74)).alloc (.cells #[.string (bs bn2), .int .i64 op2, .int .i64 wd2, .int .u64 (v2 : Int), .int .i64 sg2, .int .i64 uh2, .int .i64 ul2, .int .i64 xn2, .slice xa2 xl2.length xc2] 74)).heap.size := by simp; omega
  generalize (w.alloc (.cells #[.string (bs bn), .int .i64 op, .int .i64 wd, .int .u64 (v : Int), .int .i64 sg, .int .i64 uh, .int .i64 ul, .int .i64 xn, .slice xa xl.length xc] 74)).alloc (.cells #[.string (bs bn2), .int .i64 op2, .int .i64 wd2, .int .u64 (v2 : Int), .int .i64 sg2, .int .i64 uh2, .int .i64 ul2, .int .i64 xn2, .slice xa2 xl2.length xc2] 74) = w1 at *
  cases b1 with
  | false =>
    obtain ⟨x0, x1, x2, x3, x4, x5, x6, x7, x8⟩ := ope9 BX2
    obtain ⟨y0, y1, y2, y3, y4, y5, y6, y7, y8⟩ := ope9 BY0
    go_wp2
    go_ret
    exact ⟨by rw [HI.out]; rfl, hB2⟩
  | true =>
    obtain ⟨x0, x1, x2, x3, x4, x5, x6, x7, x8⟩ := ope9 BX2
    obtain ⟨y0, y1, y2, y3, y4, y5, y6, y7, y8⟩ := ope9 BY0
    go_wp2_with fail
    refine (c0 _ hn1 h0 h0b).mono ?_
    rintro e1 w1 ⟨rfl, hb⟩
    clear x0 x1 x2 x3 x4 x5 x6 x7 x8 y0 y1 y2 y3 y4 y5 y6 y7 y8
    replace BX2 := block_kept BX2 hb
    replace BY0 := block_kept BY0 hb
    have hk9 := Below.keptTo hb hn1
    replace h0 := ET.In.keep hk9 _ h0
    replace h0b := ET.In.keep hk9 _ h0b
    replace hn1 := Nat.le_trans hn1 hb.size
    clear hk9
    replace hB2 := hB2.trans (hb.mono hB2.size)
    clear hb
    obtain ⟨x0, x1, x2, x3, x4, x5, x6, x7, x8⟩ := ope9 BX2
    obtain ⟨y0, y1, y2, y3, y4, y5, y6, y7, y8⟩ := ope9 BY0
    go_wp2
    go_ret
    exact ⟨by rw [HI.out]; rfl, hB2⟩
end Go.Proofs.YtbcgeglkmpcnpaaDoor
