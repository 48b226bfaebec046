/-
  AsPz, in one text.
-/
import Derived.Test.YtiipjbafdhijlaaGreatDoorZAU
import Derived.Test.YtiipjbafdhijlaaGreatDoorZAQ
import Derived.Lib.QuietBelow
import Derived.BigQuiet
import Derived.Test.YtiipjbafdhijlaaGreatDoorZAZ
namespace Go.Proofs.YtiipjbafdhijlaaGreatDoor
open Go Go.RowKit
set_option linter.unusedVariables false
set_option linter.unusedSimpArgs false
open Go.Sort
theorem ST.szL_take (l : List ST) (k : Nat) (h : k < l.length) : ST.szL (l.take (k + 1)) = ST.szL (l.take k) + l[k].sz := by
 rw [List.take_succ_eq_append_getElem h, ST.szL_app]; simp [ST.szL]
theorem ST.dpL_take (l : List ST) (k : Nat) (h : k < l.length) : ST.dpL (l.take (k + 1)) = max (ST.dpL (l.take k)) l[k].dp := by
 rw [List.take_succ_eq_append_getElem h, ST.dpL_app]; simp [ST.dpL]
theorem ST.szL_take_le (l : List ST) (k : Nat) : ST.szL (l.take k) ≤ ST.szL l := by
 have h := ST.szL_app (l.take k) (l.drop k)
 rw [List.take_append_drop] at h
 omega
theorem BT.szL_take (l : List BT) (k : Nat) (h : k < l.length) : BT.szL (l.take (k + 1)) = BT.szL (l.take k) + l[k].sz := by
 rw [List.take_succ_eq_append_getElem h, BT.szL_app]; simp [BT.szL]
theorem BT.dpL_take (l : List BT) (k : Nat) (h : k < l.length) : BT.dpL (l.take (k + 1)) = max (BT.dpL (l.take k)) l[k].dp := by
 rw [List.take_succ_eq_append_getElem h, BT.dpL_app]; simp [BT.dpL]
theorem BT.szL_take_le (l : List BT) (k : Nat) : BT.szL (l.take k) ≤ BT.szL l := by
 have h := BT.szL_app (l.take k) (l.drop k)
 rw [List.take_append_drop] at h
 omega
theorem PT.szL_take (l : List PT) (k : Nat) (h : k < l.length) : PT.szL (l.take (k + 1)) = PT.szL (l.take k) + l[k].sz := by
 rw [List.take_succ_eq_append_getElem h, PT.szL_app]; simp [PT.szL]
theorem PT.dpL_take (l : List PT) (k : Nat) (h : k < l.length) : PT.dpL (l.take (k + 1)) = max (PT.dpL (l.take k)) l[k].dp := by
 rw [List.take_succ_eq_append_getElem h, PT.dpL_app]; simp [PT.dpL]
theorem PT.szL_take_le (l : List PT) (k : Nat) : PT.szL (l.take k) ≤ PT.szL l := by
 have h := PT.szL_app (l.take k) (l.drop k)
 rw [List.take_append_drop] at h
 omega
theorem IT.szL_take (l : List IT) (k : Nat) (h : k < l.length) : IT.szL (l.take (k + 1)) = IT.szL (l.take k) + l[k].sz := by
 rw [List.take_succ_eq_append_getElem h, IT.szL_app]; simp [IT.szL]
theorem IT.dpL_take (l : List IT) (k : Nat) (h : k < l.length) : IT.dpL (l.take (k + 1)) = max (IT.dpL (l.take k)) l[k].dp := by
 rw [List.take_succ_eq_append_getElem h, IT.dpL_app]; simp [IT.dpL]
theorem IT.szL_take_le (l : List IT) (k : Nat) : IT.szL (l.take k) ≤ IT.szL l := by
 have h := IT.szL_app (l.take k) (l.drop k)
 rw [List.take_append_drop] at h
 omega
theorem MT.szL_take (l : List MT) (k : Nat) (h : k < l.length) : MT.szL (l.take (k + 1)) = MT.szL (l.take k) + l[k].sz := by
 rw [List.take_succ_eq_append_getElem h, MT.szL_app]; simp [MT.szL]
theorem MT.dpL_take (l : List MT) (k : Nat) (h : k < l.length) : MT.dpL (l.take (k + 1)) = max (MT.dpL (l.take k)) l[k].dp := by
 rw [List.take_succ_eq_append_getElem h, MT.dpL_app]; simp [MT.dpL]
theorem MT.szL_take_le (l : List MT) (k : Nat) : MT.szL (l.take k) ≤ MT.szL l := by
 have h := MT.szL_app (l.take k) (l.drop k)
 rw [List.take_append_drop] at h
 omega
theorem ST.dpL_of : ∀ l : List ST, (∀ x ∈ l, x.dp ≤ x.sz) → ST.dpL l ≤ ST.szL l
 | [], _ => by simp [ST.dpL]
 | x :: r, h => by have := h x (by simp); have := ST.dpL_of r (fun y hy => h y (by simp [hy])); simp only [ST.szL, ST.dpL]; omega
theorem ST.dp_sz : ∀ x : ST, x.dp ≤ x.sz := ST.ind fun op nm xa xc xl sa sc sl ih => by
 have := ST.dpL_of sl ih; have := XT.dpL_sz xl
 simp only [ST.sz, ST.dp]; omega
theorem ST.dpL_sz (l : List ST) : ST.dpL l ≤ ST.szL l := ST.dpL_of l (fun x _ => x.dp_sz)
theorem BT.dp_sz (x : BT) : x.dp ≤ x.sz := by have := x.x.dp_sz; simp only [BT.sz, BT.dp]; omega
theorem BT.dpL_sz : ∀ l : List BT, BT.dpL l ≤ BT.szL l
 | [] => by simp [BT.dpL]
 | x :: r => by have := BT.dpL_sz r; have := x.dp_sz; simp only [BT.dpL, BT.szL]; omega
theorem PT.dp_sz (x : PT) : x.dp ≤ x.sz := by have := x.x.dp_sz; simp only [PT.sz, PT.dp]; omega
theorem PT.dpL_sz : ∀ l : List PT, PT.dpL l ≤ PT.szL l
 | [] => by simp [PT.dpL]
 | x :: r => by have := PT.dpL_sz r; have := x.dp_sz; simp only [PT.dpL, PT.szL]; omega
theorem IT.dpL_of : ∀ l : List IT, (∀ x ∈ l, x.dp ≤ x.sz) → IT.dpL l ≤ IT.szL l
 | [], _ => by simp [IT.dpL]
 | x :: r, h => by have := h x (by simp); have := IT.dpL_of r (fun y hy => h y (by simp [hy])); simp only [IT.szL, IT.dpL]; omega
theorem IT.dp_sz : ∀ x : IT, x.dp ≤ x.sz := IT.ind fun op nm nf xa xc xl sa sc sl la lc ll ea ec el pa pc pl ba bc bl ih0 ih1 => by
 have := IT.dpL_of ll ih0; have := IT.dpL_of el ih1; have := XT.dpL_sz xl; have := ST.dpL_sz sl; have := BT.dpL_sz pl; have := BT.dpL_sz bl
 simp only [IT.sz, IT.dp]; omega
theorem IT.dpL_sz (l : List IT) : IT.dpL l ≤ IT.szL l := IT.dpL_of l (fun x _ => x.dp_sz)
theorem MT.dp_sz (x : MT) : x.dp ≤ x.sz := by have := BT.dpL_sz x.pl; have := PT.dpL_sz x.tl; have := IT.dpL_sz x.il; simp only [MT.sz, MT.dp]; omega
theorem MT.dpL_sz : ∀ l : List MT, MT.dpL l ≤ MT.szL l
 | [] => by simp [MT.dpL]
 | x :: r => by have := MT.dpL_sz r; have := x.dp_sz; simp only [MT.dpL, MT.szL]; omega
set_option maxHeartbeats 4000000 in
set_option maxRecDepth 9000000 in
theorem refsizeL_any (xl : List XT) (hsz2 : XT.szL xl ≤ 6000000) (xa : Option Addr) (xc : Nat) (n0 : Nat) (w : World) (hn0 : n0 ≤ w.heap.size) (hin : InRow 6 XT.cells (XT.In n0 w) n0 w xl xa) : Calls Tryz.prog 74 #[.slice xa xl.length xc] w fun e w' => e = .returned (.int .i64 (XT.szL xl : Int)) ∧ Below w.heap.size w w' := by
 have hc := fun x (hx : x ∈ xl) (w : World) h1 h2 => refsizeX_any x (by have := XT.szL_mem hx; omega) n0 w h1 h2
 have hll := XT.szL_len xl
 obtain ⟨R, hR⟩ : ∃ R, XT.szL xl = R := ⟨_, rfl⟩
 have HR := Lib.hid hR
 rw [hR]
 clear hR
 obtain ⟨w1, hw1⟩ : ∃ w1, w = w1 := ⟨_, rfl⟩
 have hB : Below w.heap.size w w1 := by rw [← hw1]; exact Below.refl _ _
 go_enter Tryz.func74, Tryz.ntmps74
 go_wp2
 subst hw1
 obtain ⟨w1, hw1⟩ : ∃ w1, w1 = w := ⟨_, rfl⟩
 rw [← hw1] at hB ⊢
 subst hw1
 go_loopw [3, 4] (fun v u wr => ∃ k : Nat, u = .int .i64 k ∧ k ≤ xl.length ∧ v = .int .i64 ((XT.szL (xl.take k) : Nat) : Int) ∧ Below w1.heap.size w1 wr) (fun _ u _ => xl.length - (intOf u).toNat)
 case atStart => exact ⟨0, rfl, Nat.zero_le _, rfl, Below.refl _ _⟩
 case round =>
  obtain ⟨k, rfl, hk, rfl, hb0⟩ := hrel
  have hbw := hB.trans (hb0.mono hB.size)
  by_cases hlt : k < xl.length
  ·have d1 : decide (k < xl.length) = true := by simpa using hlt
   have d2 : decide ((k : Int) < (xl.length : Int)) = true := by rw [decide_eq_true_eq]; omega
   have x1 : (k : Int) < (xl.length : Int) := by omega
   obtain ⟨b, o, rfl, hb, hr, hx⟩ := hin.kept (Below.keptTo hbw hn0) hlt
   have ht1 := XT.szL_take xl k hlt
   have ht2 := XT.szL_take_le xl k
   have ht3 := XT.szL_take_le xl (k + 1)
   have ht4 := XT.szL_take xl k hlt
   have ht5 := XT.dpL_sz (xl.take k)
   have ht6 := (xl[k]).dp_sz
   have hcx := hc xl[k] (List.getElem_mem hlt) wr (by have := hbw.size; omega) (hx.keep (Below.keptTo hbw hn0))
   have zz := hbw.size
   obtain ⟨S, hS⟩ : ∃ S, XT.szL (xl.take k) = S := ⟨_, rfl⟩
   obtain ⟨E, hE⟩ : ∃ E, xl[k].sz = E := ⟨_, rfl⟩
   have HT : Hid (XT.szL (xl.take (k + 1)) = S + E) := Lib.hid (by rw [ht1, ← hS, ← hE])
   have hS2 : S ≤ 12000000 := by omega
   have hE2 : E ≤ 12000000 := by omega
   rw [hS]
   rw [hE] at hcx
   generalize hgx : xl[k] = x at *
   obtain ⟨op2, nm2, xn2, wd2, v2, xa2, xc2, xl2⟩ := x
   have r0 : wr.cell? ⟨b, o + k * 6, none⟩ = some (.int .i64 op2) := hr 0 _ rfl
   have r1 : wr.cell? ⟨b, o + k * 6 + 1, none⟩ = some (.string (bs nm2)) := hr 1 _ rfl
   have r2 : wr.cell? ⟨b, o + k * 6 + 2, none⟩ = some (.int .i64 xn2) := hr 2 _ rfl
   have r3 : wr.cell? ⟨b, o + k * 6 + 3, none⟩ = some (.int .i64 wd2) := hr 3 _ rfl
   have r4 : wr.cell? ⟨b, o + k * 6 + 4, none⟩ = some (.int .u64 (v2 : Int)) := hr 4 _ rfl
   have r5 : wr.cell? ⟨b, o + k * 6 + 5, none⟩ = some (.slice xa2 xl2.length xc2) := hr 5 _ rfl
   simp only [XT.val, XT.cells] at hcx
   have HH := Lib.hid (And.intro hS hE)
   clear hin hc hr hx hgx ht1 ht2 ht3 ht4 ht5 ht6 hS hE
   go_wp2_with fail
   refine hcx.mono ?_
   clear hcx
   rintro e W1 ⟨rfl, hb1⟩
   have hb2 := hb0.trans (hb1.mono hb0.size)
   go_wp2
   go_roundw
   case rel => exact ⟨k + 1, by simp; first | done | rfl | omega, by omega, by rw [HT.out]; simp; first | done | rfl | omega, hb2⟩
   case measure => simp [intOf]; omega
  ·have d1 : decide (k < xl.length) = false := by simpa using hlt
   have d2 : decide ((k : Int) < (xl.length : Int)) = false := by rw [decide_eq_false_iff_not]; omega
   have HE : Hid (XT.szL (xl.take k) = R) := Lib.hid (by rw [show k = xl.length by omega, List.take_length]; exact HR.out)
   rw [HE.out]
   clear hlt
   go_wp2
   go_ret
   exact ⟨rfl, hbw⟩
theorem refdeepL_any (xl : List XT) (hsz2 : XT.szL xl ≤ 5700000) (xa : Option Addr) (xc : Nat) (n0 : Nat) (w : World) (hn0 : n0 ≤ w.heap.size) (hin : InRow 6 XT.cells (XT.In n0 w) n0 w xl xa) : Calls Tryz.prog 76 #[.slice xa xl.length xc] w fun e w' => e = .returned (.int .i64 (XT.dpL xl : Int)) ∧ Below w.heap.size w w' :=
 refdeepL_of n0 xl (by omega) (fun x hx w' h1 h2 => refdeepX_any x (by have := XT.szL_mem hx; omega) n0 w' h1 h2) xa xc w hn0 hin
set_option maxHeartbeats 8000000 in
set_option maxRecDepth 9000000 in
theorem refsizeB_of (n0 : Nat) (l : List BT) (hsz2 : BT.szL l ≤ 6000000) (la0 : Option Addr) (lc0 : Nat) (w : World) (hn0 : n0 ≤ w.heap.size) (hin : InRow 7 BT.cells (BT.In n0 w) n0 w l la0) : Calls Tryz.prog 46 #[.slice la0 l.length lc0] w fun e w' => e = .returned (.int .i64 (BT.szL l : Int)) ∧ Below w.heap.size w w' := by
 have hll := BT.szL_len l
 obtain ⟨R, hR⟩ : ∃ R, BT.szL l = R := ⟨_, rfl⟩
 have HR := Lib.hid hR
 rw [hR]
 clear hR
 obtain ⟨w1, hw1⟩ : ∃ w1, w = w1 := ⟨_, rfl⟩
 have hB : Below w.heap.size w w1 := by rw [← hw1]; exact Below.refl _ _
 go_enter Tryz.func46, Tryz.ntmps46
 go_wp2
 subst hw1
 obtain ⟨w1, hw1⟩ : ∃ w1, w1 = w := ⟨_, rfl⟩
 rw [← hw1] at hB ⊢
 subst hw1
 go_loopw [3, 4] (fun v u wr => ∃ k : Nat, u = .int .i64 k ∧ k ≤ l.length ∧ v = .int .i64 ((BT.szL (l.take k) : Nat) : Int) ∧ Below w1.heap.size w1 wr) (fun _ u _ => l.length - (intOf u).toNat)
 case atStart => exact ⟨0, rfl, Nat.zero_le _, rfl, Below.refl _ _⟩
 case round =>
  obtain ⟨k, rfl, hk, rfl, hb0⟩ := hrel
  have hbw := hB.trans (hb0.mono hB.size)
  by_cases hlt : k < l.length
  ·have d1 : decide (k < l.length) = true := by simpa using hlt
   have d2 : decide ((k : Int) < (l.length : Int)) = true := by rw [decide_eq_true_eq]; omega
   have x1 : (k : Int) < (l.length : Int) := by omega
   obtain ⟨b, o, rfl, hb, hr, hx⟩ := hin.kept (Below.keptTo hbw hn0) hlt
   have hxw := BT.In.keep (Below.keptTo hbw hn0) _ hx
   have ht1 := BT.szL_take l k hlt
   have ht2 := BT.szL_take_le l k
   have ht3 := BT.szL_take_le l (k + 1)
   have ht4 := BT.szL_take l k hlt
   have ht5 := BT.dpL_sz (l.take k)
   have hmem := List.getElem_mem hlt
   have zz := hbw.size
   have hnr : n0 ≤ wr.heap.size := by omega
   obtain ⟨Sm, hS⟩ : ∃ S, BT.szL (l.take k) = S := ⟨_, rfl⟩
   rw [hS]
   generalize hgx : l[k] = x at *
   obtain ⟨bn2, ⟨op2, nm2, xn2, wd2, v2, xa2, xc2, xl2⟩⟩ := x
   have i0 : XT.In n0 wr _ := hxw
   obtain ⟨E0, hE0⟩ : ∃ E, XT.sz (.mk op2 nm2 xn2 wd2 v2 xa2 xc2 xl2) = E := ⟨_, rfl⟩
   replace ht4 : BT.szL (l.take (k + 1)) = BT.szL (l.take k) + (1 + XT.sz (XT.mk op2 nm2 xn2 wd2 v2 xa2 xc2 xl2)) := ht4
   replace ht1 : BT.szL (l.take (k + 1)) = BT.szL (l.take k) + (1 + XT.sz (XT.mk op2 nm2 xn2 wd2 v2 xa2 xc2 xl2)) := ht1
   have HT : Hid (BT.szL (l.take (k + 1)) = Sm + (1 + E0)) := Lib.hid (by rw [ht1, hS, hE0])
   have hS2 : Sm ≤ 6000000 := by omega
   have hb0E : E0 ≤ 6000000 := by omega
   have r0 : wr.cell? ⟨b, o + k * 7, none⟩ = some (.string (bs bn2)) := hr 0 _ rfl
   have r1 : wr.cell? ⟨b, o + k * 7 + 1, none⟩ = some (.int .i64 op2) := hr 1 _ rfl
   have r2 : wr.cell? ⟨b, o + k * 7 + 2, none⟩ = some (.string (bs nm2)) := hr 2 _ rfl
   have r3 : wr.cell? ⟨b, o + k * 7 + 3, none⟩ = some (.int .i64 xn2) := hr 3 _ rfl
   have r4 : wr.cell? ⟨b, o + k * 7 + 4, none⟩ = some (.int .i64 wd2) := hr 4 _ rfl
   have r5 : wr.cell? ⟨b, o + k * 7 + 5, none⟩ = some (.int .u64 (v2 : Int)) := hr 5 _ rfl
   have r6 : wr.cell? ⟨b, o + k * 7 + 6, none⟩ = some (.slice xa2 xl2.length xc2) := hr 6 _ rfl
   have hb1 := hb0
   have q0 := refsizeX_any (.mk op2 nm2 xn2 wd2 v2 xa2 xc2 xl2) (by omega) n0 (wr) (hnr) (i0)
   simp only [hE0] at q0
   simp only [XT.val, XT.cells] at q0
   have HH := Lib.hid (And.intro hS (And.intro hgx (And.intro ht1 (And.intro ht4 hE0))))
   clear hin hr hx hgx ht1 ht2 ht3 ht4 ht5 hS hmem hE0 i0 hxw 
   go_wp2_with fail
   refine q0.mono ?_
   clear q0
   rintro e W1 ⟨rfl, hbb⟩
   have hb2 := hb1.trans (hbb.mono hb1.size)
   go_wp2
   all_goals
    go_roundw
    case rel => exact ⟨k + 1, by simp; first | done | rfl | omega, by omega, by rw [HT.out]; congr 1; first | done | rfl | omega | (simp; omega), hb2⟩
    case measure => simp [intOf]; omega
  ·have d1 : decide (k < l.length) = false := by simpa using hlt
   have d2 : decide ((k : Int) < (l.length : Int)) = false := by rw [decide_eq_false_iff_not]; omega
   have HE : Hid (BT.szL (l.take k) = R) := Lib.hid (by rw [show k = l.length by omega, List.take_length]; exact HR.out)
   rw [HE.out]
   clear hlt
   go_wp2
   go_ret
   exact ⟨rfl, hbw⟩
set_option maxHeartbeats 8000000 in
set_option maxRecDepth 9000000 in
theorem refdeepB_of (n0 : Nat) (l : List BT) (hsz2 : BT.szL l ≤ 5700000) (la0 : Option Addr) (lc0 : Nat) (w : World) (hn0 : n0 ≤ w.heap.size) (hin : InRow 7 BT.cells (BT.In n0 w) n0 w l la0) : Calls Tryz.prog 49 #[.slice la0 l.length lc0] w fun e w' => e = .returned (.int .i64 (BT.dpL l : Int)) ∧ Below w.heap.size w w' := by
 have hll := BT.szL_len l
 obtain ⟨R, hR⟩ : ∃ R, BT.dpL l = R := ⟨_, rfl⟩
 have HR := Lib.hid hR
 rw [hR]
 clear hR
 obtain ⟨w1, hw1⟩ : ∃ w1, w = w1 := ⟨_, rfl⟩
 have hB : Below w.heap.size w w1 := by rw [← hw1]; exact Below.refl _ _
 go_enter Tryz.func49, Tryz.ntmps49
 go_wp2
 subst hw1
 obtain ⟨w1, hw1⟩ : ∃ w1, w1 = w := ⟨_, rfl⟩
 rw [← hw1] at hB ⊢
 subst hw1
 go_loopw [3, 4] (fun v u wr => ∃ k : Nat, u = .int .i64 k ∧ k ≤ l.length ∧ v = .int .i64 ((BT.dpL (l.take k) : Nat) : Int) ∧ Below w1.heap.size w1 wr) (fun _ u _ => l.length - (intOf u).toNat)
 case atStart => exact ⟨0, rfl, Nat.zero_le _, rfl, Below.refl _ _⟩
 case round =>
  obtain ⟨k, rfl, hk, rfl, hb0⟩ := hrel
  have hbw := hB.trans (hb0.mono hB.size)
  by_cases hlt : k < l.length
  ·have d1 : decide (k < l.length) = true := by simpa using hlt
   have d2 : decide ((k : Int) < (l.length : Int)) = true := by rw [decide_eq_true_eq]; omega
   have x1 : (k : Int) < (l.length : Int) := by omega
   obtain ⟨b, o, rfl, hb, hr, hx⟩ := hin.kept (Below.keptTo hbw hn0) hlt
   have hxw := BT.In.keep (Below.keptTo hbw hn0) _ hx
   have ht1 := BT.dpL_take l k hlt
   have ht2 := BT.szL_take_le l k
   have ht3 := BT.szL_take_le l (k + 1)
   have ht4 := BT.szL_take l k hlt
   have ht5 := BT.dpL_sz (l.take k)
   have hmem := List.getElem_mem hlt
   have zz := hbw.size
   have hnr : n0 ≤ wr.heap.size := by omega
   obtain ⟨Sm, hS⟩ : ∃ S, BT.dpL (l.take k) = S := ⟨_, rfl⟩
   rw [hS]
   generalize hgx : l[k] = x at *
   obtain ⟨bn2, ⟨op2, nm2, xn2, wd2, v2, xa2, xc2, xl2⟩⟩ := x
   have i0 : XT.In n0 wr _ := hxw
   obtain ⟨E0, hE0⟩ : ∃ E, XT.dp (.mk op2 nm2 xn2 wd2 v2 xa2 xc2 xl2) = E := ⟨_, rfl⟩
   have hds0 := XT.dp_sz (.mk op2 nm2 xn2 wd2 v2 xa2 xc2 xl2)
   replace ht4 : BT.szL (l.take (k + 1)) = BT.szL (l.take k) + (1 + XT.sz (XT.mk op2 nm2 xn2 wd2 v2 xa2 xc2 xl2)) := ht4
   replace ht1 : BT.dpL (l.take (k + 1)) = max (BT.dpL (l.take k)) (1 + XT.dp (XT.mk op2 nm2 xn2 wd2 v2 xa2 xc2 xl2)) := ht1
   have HT : Hid (BT.dpL (l.take (k + 1)) = max Sm (1 + (E0))) := Lib.hid (by rw [ht1, hS, hE0])
   have hS2 : Sm ≤ 6000000 := by omega
   have hb0E : E0 ≤ 6000000 := by omega
   have r0 : wr.cell? ⟨b, o + k * 7, none⟩ = some (.string (bs bn2)) := hr 0 _ rfl
   have r1 : wr.cell? ⟨b, o + k * 7 + 1, none⟩ = some (.int .i64 op2) := hr 1 _ rfl
   have r2 : wr.cell? ⟨b, o + k * 7 + 2, none⟩ = some (.string (bs nm2)) := hr 2 _ rfl
   have r3 : wr.cell? ⟨b, o + k * 7 + 3, none⟩ = some (.int .i64 xn2) := hr 3 _ rfl
   have r4 : wr.cell? ⟨b, o + k * 7 + 4, none⟩ = some (.int .i64 wd2) := hr 4 _ rfl
   have r5 : wr.cell? ⟨b, o + k * 7 + 5, none⟩ = some (.int .u64 (v2 : Int)) := hr 5 _ rfl
   have r6 : wr.cell? ⟨b, o + k * 7 + 6, none⟩ = some (.slice xa2 xl2.length xc2) := hr 6 _ rfl
   have hb1 := hb0
   have q0 := refdeepX_any (.mk op2 nm2 xn2 wd2 v2 xa2 xc2 xl2) (by omega) n0 (wr) (hnr) (i0)
   simp only [hE0] at q0
   simp only [XT.val, XT.cells] at q0
   have HH := Lib.hid (And.intro hS (And.intro hgx (And.intro ht1 (And.intro ht4 hE0))))
   clear hin hr hx hgx ht1 ht2 ht3 ht4 ht5 hS hmem hE0 i0 hxw hds0
   go_wp2_with fail
   refine q0.mono ?_
   clear q0
   rintro e W1 ⟨rfl, hbb⟩
   have hb2 := hb1.trans (hbb.mono hb1.size)
   go_wp2
   all_goals
    go_roundw
    case rel => exact ⟨k + 1, by simp; first | done | rfl | omega, by omega, by rw [HT.out]; congr 1; first | done | rfl | omega | (simp; omega), hb2⟩
    case measure => simp [intOf]; omega
  ·have d1 : decide (k < l.length) = false := by simpa using hlt
   have d2 : decide ((k : Int) < (l.length : Int)) = false := by rw [decide_eq_false_iff_not]; omega
   have HE : Hid (BT.dpL (l.take k) = R) := Lib.hid (by rw [show k = l.length by omega, List.take_length]; exact HR.out)
   rw [HE.out]
   clear hlt
   go_wp2
   go_ret
   exact ⟨rfl, hbw⟩
end Go.Proofs.YtiipjbafdhijlaaGreatDoor
namespace Go.Proofs.YtiipjbafdhijlaaGreatDoor
open Go Go.RowKit
set_option linter.unusedVariables false
set_option linter.unusedSimpArgs false
open Go.Sort
set_option maxHeartbeats 8000000 in
set_option maxRecDepth 9000000 in
theorem refsizeS_of (n0 : Nat) (l : List ST) (hsz2 : ST.szL l ≤ 6000000) (hc0 : ∀ x ∈ l, ∀ (a : Option Addr) (c : Nat) (w : World), n0 ≤ w.heap.size → InRow 4 ST.cells (ST.In n0 w) n0 w x.sl a → Calls Tryz.prog 75 #[.slice a (x.sl).length c] w fun e w' => e = .returned (.int .i64 (ST.szL (x.sl) : Int)) ∧ Below w.heap.size w w') (la0 : Option Addr) (lc0 : Nat) (w : World) (hn0 : n0 ≤ w.heap.size) (hin : InRow 4 ST.cells (ST.In n0 w) n0 w l la0) : Calls Tryz.prog 75 #[.slice la0 l.length lc0] w fun e w' => e = .returned (.int .i64 (ST.szL l : Int)) ∧ Below w.heap.size w w' := by
 have hll := ST.szL_len l
 obtain ⟨R, hR⟩ : ∃ R, ST.szL l = R := ⟨_, rfl⟩
 have HR := Lib.hid hR
 rw [hR]
 clear hR
 obtain ⟨w1, hw1⟩ : ∃ w1, w = w1 := ⟨_, rfl⟩
 have hB : Below w.heap.size w w1 := by rw [← hw1]; exact Below.refl _ _
 go_enter Tryz.func75, Tryz.ntmps75
 go_wp2
 subst hw1
 obtain ⟨w1, hw1⟩ : ∃ w1, w1 = w := ⟨_, rfl⟩
 rw [← hw1] at hB ⊢
 subst hw1
 go_loopw [3, 4] (fun v u wr => ∃ k : Nat, u = .int .i64 k ∧ k ≤ l.length ∧ v = .int .i64 ((ST.szL (l.take k) : Nat) : Int) ∧ Below w1.heap.size w1 wr) (fun _ u _ => l.length - (intOf u).toNat)
 case atStart => exact ⟨0, rfl, Nat.zero_le _, rfl, Below.refl _ _⟩
 case round =>
  obtain ⟨k, rfl, hk, rfl, hb0⟩ := hrel
  have hbw := hB.trans (hb0.mono hB.size)
  by_cases hlt : k < l.length
  ·have d1 : decide (k < l.length) = true := by simpa using hlt
   have d2 : decide ((k : Int) < (l.length : Int)) = true := by rw [decide_eq_true_eq]; omega
   have x1 : (k : Int) < (l.length : Int) := by omega
   obtain ⟨b, o, rfl, hb, hr, hx⟩ := hin.kept (Below.keptTo hbw hn0) hlt
   have hxw := ST.In.keep (Below.keptTo hbw hn0) _ hx
   have ht1 := ST.szL_take l k hlt
   have ht2 := ST.szL_take_le l k
   have ht3 := ST.szL_take_le l (k + 1)
   have ht4 := ST.szL_take l k hlt
   have ht5 := ST.dpL_sz (l.take k)
   have hmem := List.getElem_mem hlt
   have hcx0 := hc0 l[k] hmem
   have zz := hbw.size
   have hnr : n0 ≤ wr.heap.size := by omega
   obtain ⟨Sm, hS⟩ : ∃ S, ST.szL (l.take k) = S := ⟨_, rfl⟩
   rw [hS]
   generalize hgx : l[k] = x at *
   obtain ⟨op2, nm2, xa2, xc2, xl2, sa2, sc2, sl2⟩ := x
   rw [ST.In_mk] at hxw
   obtain ⟨i0, i1⟩ := hxw
   obtain ⟨E0, hE0⟩ : ∃ E, XT.szL xl2 = E := ⟨_, rfl⟩
   obtain ⟨E1, hE1⟩ : ∃ E, ST.szL sl2 = E := ⟨_, rfl⟩
   simp only [ST.sz, ST.dp] at ht1 ht4
   have HT : Hid (ST.szL (l.take (k + 1)) = Sm + (1 + E0 + E1)) := Lib.hid (by rw [ht1, hS, hE0, hE1])
   have hS2 : Sm ≤ 6000000 := by omega
   have hb0E : E0 ≤ 6000000 := by omega
   have hb1E : E1 ≤ 6000000 := by omega
   have r0 : wr.cell? ⟨b, o + k * 4, none⟩ = some (.int .i64 op2) := hr 0 _ rfl
   have r1 : wr.cell? ⟨b, o + k * 4 + 1, none⟩ = some (.string (bs nm2)) := hr 1 _ rfl
   have r2 : wr.cell? ⟨b, o + k * 4 + 2, none⟩ = some (.slice xa2 xl2.length xc2) := hr 2 _ rfl
   have r3 : wr.cell? ⟨b, o + k * 4 + 3, none⟩ = some (.slice sa2 sl2.length sc2) := hr 3 _ rfl
   have hb1 := hb0
   go_upto_region 5 with (fail)
   have bq := fun (dq : Nat) (os : Array Obj) => below_regrown wr dq os
   have q0 := fun (dq : Nat) (os : Array Obj) => refsizeL_any xl2 (by omega) xa2 xc2 n0 (grow (redrawn wr dq) os) (Nat.le_trans hnr (bq dq os).size) (i0.keep (Below.keptTo (bq dq os) hnr) (fun x _ => XT.In.keep (Below.keptTo (bq dq os) hnr) x))
   simp only [ST.sl, hE0] at q0
   have Q0 := Lib.hid q0
   have q1 := fun (dq : Nat) (os : Array Obj) => hcx0 sa2 sc2 (grow (redrawn wr dq) os) (Nat.le_trans hnr (bq dq os).size) (i1.keep (Below.keptTo (bq dq os) hnr) (fun x _ => ST.In.keep (Below.keptTo (bq dq os) hnr) x))
   simp only [ST.sl, hE1] at q1
   have Q1 := Lib.hid q1
   have HH := Lib.hid (And.intro hS (And.intro hgx (And.intro ht1 ht4)))
   have r0R := cell_regrown r0
   have r1R := cell_regrown r1
   have r2R := cell_regrown r2
   have r3R := cell_regrown r3
   clear bq hin hr hx hgx ht1 ht2 ht3 ht4 ht5 hS hmem q0 q1 hE0 hE1 i0 i1  hcx0 hc0 
   refine wp_region_quiet_below (by kernel_rfl) (by kernel_rfl) ?_
   repeat (go_big_quiet_step (first | (go_at_call_of 74 (Value.slice xa2 (List.length xl2) xc2); exact Calls.regrown_of (Q0.out _ _)) | (go_at_call_of 75 (Value.slice sa2 (List.length sl2) sc2); exact Calls.regrown_of (Q1.out _ _))))
   refine wpQuiet_nil ?_
   intro _ hw'
   obtain ⟨⟨dq, osq⟩, hw''⟩ := hw'
   subst hw''
   have hb2 := hb1.trans ((below_regrown wr dq osq).mono hb1.size)
   clear r0R r1R r2R r3R
   generalize grow (redrawn wr dq) osq = w3 at *
   go_wp2
   all_goals
    go_roundw
    case rel => exact ⟨k + 1, by simp; first | done | rfl | omega, by omega, by rw [HT.out]; congr 1; first | done | rfl | omega | (simp; omega), hb2⟩
    case measure => simp [intOf]; omega
  ·have d1 : decide (k < l.length) = false := by simpa using hlt
   have d2 : decide ((k : Int) < (l.length : Int)) = false := by rw [decide_eq_false_iff_not]; omega
   have HE : Hid (ST.szL (l.take k) = R) := Lib.hid (by rw [show k = l.length by omega, List.take_length]; exact HR.out)
   rw [HE.out]
   clear hlt
   go_wp2
   go_ret
   exact ⟨rfl, hbw⟩
set_option maxHeartbeats 8000000 in
set_option maxRecDepth 9000000 in
theorem refdeepS_of (n0 : Nat) (l : List ST) (hsz2 : ST.szL l ≤ 5700000) (hc0 : ∀ x ∈ l, ∀ (a : Option Addr) (c : Nat) (w : World), n0 ≤ w.heap.size → InRow 4 ST.cells (ST.In n0 w) n0 w x.sl a → Calls Tryz.prog 77 #[.slice a (x.sl).length c] w fun e w' => e = .returned (.int .i64 (ST.dpL (x.sl) : Int)) ∧ Below w.heap.size w w') (la0 : Option Addr) (lc0 : Nat) (w : World) (hn0 : n0 ≤ w.heap.size) (hin : InRow 4 ST.cells (ST.In n0 w) n0 w l la0) : Calls Tryz.prog 77 #[.slice la0 l.length lc0] w fun e w' => e = .returned (.int .i64 (ST.dpL l : Int)) ∧ Below w.heap.size w w' := by
 have hll := ST.szL_len l
 obtain ⟨R, hR⟩ : ∃ R, ST.dpL l = R := ⟨_, rfl⟩
 have HR := Lib.hid hR
 rw [hR]
 clear hR
 obtain ⟨w1, hw1⟩ : ∃ w1, w = w1 := ⟨_, rfl⟩
 have hB : Below w.heap.size w w1 := by rw [← hw1]; exact Below.refl _ _
 go_enter Tryz.func77, Tryz.ntmps77
 go_wp2
 subst hw1
 obtain ⟨w1, hw1⟩ : ∃ w1, w1 = w := ⟨_, rfl⟩
 rw [← hw1] at hB ⊢
 subst hw1
 go_loopw [3, 4] (fun v u wr => ∃ k : Nat, u = .int .i64 k ∧ k ≤ l.length ∧ v = .int .i64 ((ST.dpL (l.take k) : Nat) : Int) ∧ Below w1.heap.size w1 wr) (fun _ u _ => l.length - (intOf u).toNat)
 case atStart => exact ⟨0, rfl, Nat.zero_le _, rfl, Below.refl _ _⟩
 case round =>
  obtain ⟨k, rfl, hk, rfl, hb0⟩ := hrel
  have hbw := hB.trans (hb0.mono hB.size)
  by_cases hlt : k < l.length
  ·have d1 : decide (k < l.length) = true := by simpa using hlt
   have d2 : decide ((k : Int) < (l.length : Int)) = true := by rw [decide_eq_true_eq]; omega
   have x1 : (k : Int) < (l.length : Int) := by omega
   obtain ⟨b, o, rfl, hb, hr, hx⟩ := hin.kept (Below.keptTo hbw hn0) hlt
   have hxw := ST.In.keep (Below.keptTo hbw hn0) _ hx
   have ht1 := ST.dpL_take l k hlt
   have ht2 := ST.szL_take_le l k
   have ht3 := ST.szL_take_le l (k + 1)
   have ht4 := ST.szL_take l k hlt
   have ht5 := ST.dpL_sz (l.take k)
   have hmem := List.getElem_mem hlt
   have hcx0 := hc0 l[k] hmem
   have zz := hbw.size
   have hnr : n0 ≤ wr.heap.size := by omega
   obtain ⟨Sm, hS⟩ : ∃ S, ST.dpL (l.take k) = S := ⟨_, rfl⟩
   rw [hS]
   generalize hgx : l[k] = x at *
   obtain ⟨op2, nm2, xa2, xc2, xl2, sa2, sc2, sl2⟩ := x
   rw [ST.In_mk] at hxw
   obtain ⟨i0, i1⟩ := hxw
   obtain ⟨E0, hE0⟩ : ∃ E, XT.dpL xl2 = E := ⟨_, rfl⟩
   have hds0 := XT.dpL_sz xl2
   obtain ⟨E1, hE1⟩ : ∃ E, ST.dpL sl2 = E := ⟨_, rfl⟩
   have hds1 := ST.dpL_sz sl2
   simp only [ST.sz, ST.dp] at ht1 ht4
   have HT : Hid (ST.dpL (l.take (k + 1)) = max Sm (1 + (max E0 (E1)))) := Lib.hid (by rw [ht1, hS, hE0, hE1])
   have hS2 : Sm ≤ 6000000 := by omega
   have hb0E : E0 ≤ 6000000 := by omega
   have hb1E : E1 ≤ 6000000 := by omega
   have r0 : wr.cell? ⟨b, o + k * 4, none⟩ = some (.int .i64 op2) := hr 0 _ rfl
   have r1 : wr.cell? ⟨b, o + k * 4 + 1, none⟩ = some (.string (bs nm2)) := hr 1 _ rfl
   have r2 : wr.cell? ⟨b, o + k * 4 + 2, none⟩ = some (.slice xa2 xl2.length xc2) := hr 2 _ rfl
   have r3 : wr.cell? ⟨b, o + k * 4 + 3, none⟩ = some (.slice sa2 sl2.length sc2) := hr 3 _ rfl
   have hb1 := hb0
   go_upto_region 5 with (fail)
   have bq := fun (dq : Nat) (os : Array Obj) => below_regrown wr dq os
   have q0 := fun (dq : Nat) (os : Array Obj) => refdeepL_any xl2 (by omega) xa2 xc2 n0 (grow (redrawn wr dq) os) (Nat.le_trans hnr (bq dq os).size) (i0.keep (Below.keptTo (bq dq os) hnr) (fun x _ => XT.In.keep (Below.keptTo (bq dq os) hnr) x))
   simp only [ST.sl, hE0] at q0
   have Q0 := Lib.hid q0
   have q1 := fun (dq : Nat) (os : Array Obj) => hcx0 sa2 sc2 (grow (redrawn wr dq) os) (Nat.le_trans hnr (bq dq os).size) (i1.keep (Below.keptTo (bq dq os) hnr) (fun x _ => ST.In.keep (Below.keptTo (bq dq os) hnr) x))
   simp only [ST.sl, hE1] at q1
   have Q1 := Lib.hid q1
   have HH := Lib.hid (And.intro hS (And.intro hgx (And.intro ht1 ht4)))
   have r0R := cell_regrown r0
   have r1R := cell_regrown r1
   have r2R := cell_regrown r2
   have r3R := cell_regrown r3
   clear bq hin hr hx hgx ht1 ht2 ht3 ht4 ht5 hS hmem q0 q1 hE0 hE1 i0 i1 hds0 hds1 hcx0 hc0 
   refine wp_region_quiet_below (by kernel_rfl) (by kernel_rfl) ?_
   repeat (go_big_quiet_step (first | (go_at_call_of 76 (Value.slice xa2 (List.length xl2) xc2); exact Calls.regrown_of (Q0.out _ _)) | (go_at_call_of 77 (Value.slice sa2 (List.length sl2) sc2); exact Calls.regrown_of (Q1.out _ _))))
   refine wpQuiet_nil ?_
   intro _ hw'
   obtain ⟨⟨dq, osq⟩, hw''⟩ := hw'
   subst hw''
   have hb2 := hb1.trans ((below_regrown wr dq osq).mono hb1.size)
   clear r0R r1R r2R r3R
   generalize grow (redrawn wr dq) osq = w3 at *
   go_wp2
   all_goals
    go_roundw
    case rel => exact ⟨k + 1, by simp; first | done | rfl | omega, by omega, by rw [HT.out]; congr 1; first | done | rfl | omega | (simp; omega), hb2⟩
    case measure => simp [intOf]; omega
  ·have d1 : decide (k < l.length) = false := by simpa using hlt
   have d2 : decide ((k : Int) < (l.length : Int)) = false := by rw [decide_eq_false_iff_not]; omega
   have HE : Hid (ST.dpL (l.take k) = R) := Lib.hid (by rw [show k = l.length by omega, List.take_length]; exact HR.out)
   rw [HE.out]
   clear hlt
   go_wp2
   go_ret
   exact ⟨rfl, hbw⟩
theorem refsizeS_in : ∀ x : ST, ST.szL x.sl ≤ 6000000 → ∀ (n0 : Nat) (a : Option Addr) (c : Nat) (w : World), n0 ≤ w.heap.size → InRow 4 ST.cells (ST.In n0 w) n0 w x.sl a → Calls Tryz.prog 75 #[.slice a x.sl.length c] w fun e w' => e = .returned (.int .i64 (ST.szL x.sl : Int)) ∧ Below w.heap.size w w' := by
 refine ST.ind ?_
 intro op nm xa xc xl sa sc sl ih hsz n0 a c w hn0 hin
 exact refsizeS_of n0 sl hsz (fun y hy a' c' w' h1 h2 => ih y hy (by have h3 := ST.szL_mem hy; have h4 : ST.szL y.sl ≤ y.sz := by { obtain ⟨op', nm', xa', xc', xl', sa', sc', sl'⟩ := y; simp only [ST.sl, ST.sz]; omega }; simp only [ST.sl] at hsz; omega) n0 a' c' w' h1 h2) a c w hn0 hin
theorem refsizeS_any (l : List ST) (hsz : ST.szL l ≤ 6000000) (a : Option Addr) (c : Nat) (n0 : Nat) (w : World) (hn0 : n0 ≤ w.heap.size) (hin : InRow 4 ST.cells (ST.In n0 w) n0 w l a) : Calls Tryz.prog 75 #[.slice a l.length c] w fun e w' => e = .returned (.int .i64 (ST.szL l : Int)) ∧ Below w.heap.size w w' :=
 refsizeS_in (.mk 0 [] none 0 [] none 0 l) hsz n0 a c w hn0 hin
theorem refdeepS_in : ∀ x : ST, ST.szL x.sl ≤ 5700000 → ∀ (n0 : Nat) (a : Option Addr) (c : Nat) (w : World), n0 ≤ w.heap.size → InRow 4 ST.cells (ST.In n0 w) n0 w x.sl a → Calls Tryz.prog 77 #[.slice a x.sl.length c] w fun e w' => e = .returned (.int .i64 (ST.dpL x.sl : Int)) ∧ Below w.heap.size w w' := by
 refine ST.ind ?_
 intro op nm xa xc xl sa sc sl ih hsz n0 a c w hn0 hin
 exact refdeepS_of n0 sl hsz (fun y hy a' c' w' h1 h2 => ih y hy (by have h3 := ST.szL_mem hy; have h4 : ST.szL y.sl ≤ y.sz := by { obtain ⟨op', nm', xa', xc', xl', sa', sc', sl'⟩ := y; simp only [ST.sl, ST.sz]; omega }; simp only [ST.sl] at hsz; omega) n0 a' c' w' h1 h2) a c w hn0 hin
theorem refdeepS_any (l : List ST) (hsz : ST.szL l ≤ 5700000) (a : Option Addr) (c : Nat) (n0 : Nat) (w : World) (hn0 : n0 ≤ w.heap.size) (hin : InRow 4 ST.cells (ST.In n0 w) n0 w l a) : Calls Tryz.prog 77 #[.slice a l.length c] w fun e w' => e = .returned (.int .i64 (ST.dpL l : Int)) ∧ Below w.heap.size w w' :=
 refdeepS_in (.mk 0 [] none 0 [] none 0 l) hsz n0 a c w hn0 hin
end Go.Proofs.YtiipjbafdhijlaaGreatDoor
namespace Go.Proofs.YtiipjbafdhijlaaGreatDoor
open Go Go.RowKit
set_option linter.unusedVariables false
set_option linter.unusedSimpArgs false
open Go.Sort
theorem mx_if (x y : Int) : (if y > x then y else x) = max x y := by split <;> omega
theorem mx_if' (x y : Int) : (if x < y then y else x) = max x y := by split <;> omega
theorem run_max_int6 {P : Program} {w : World} (ts : Array TypeId) (t : TypeId) (k k1 k2 k3 k4 k5 : IntKind) (x0 x1 x2 x3 x4 x5 : Int) : (Builtin.max_ ts t #[.int k x0, .int k1 x1, .int k2 x2, .int k3 x3, .int k4 x4, .int k5 x5]).run P w = .ok (.int k (max (max (max (max (max x0 x1) x2) x3) x4) x5)) w := by
 simp [Builtin.max_, Builtin.max2, mx_if']
attribute [local go_sem] run_max_int6
def IT.ll : IT → List IT | .mk _ _ _ _ _ _ _ _ _ _ _ ll _ _ _ _ _ _ _ _ _ => ll
def IT.el : IT → List IT | .mk _ _ _ _ _ _ _ _ _ _ _ _ _ _ el _ _ _ _ _ _ => el
set_option maxHeartbeats 8000000 in
set_option maxRecDepth 9000000 in
theorem refsizeI_of (n0 : Nat) (l : List IT) (hsz2 : IT.szL l ≤ 6000000) (hc0 : ∀ x ∈ l, ∀ (a : Option Addr) (c : Nat) (w : World), n0 ≤ w.heap.size → InRow 9 IT.cells (IT.In n0 w) n0 w x.ll a → Calls Tryz.prog 47 #[.slice a (x.ll).length c] w fun e w' => e = .returned (.int .i64 (IT.szL (x.ll) : Int)) ∧ Below w.heap.size w w') (hc1 : ∀ x ∈ l, ∀ (a : Option Addr) (c : Nat) (w : World), n0 ≤ w.heap.size → InRow 9 IT.cells (IT.In n0 w) n0 w x.el a → Calls Tryz.prog 47 #[.slice a (x.el).length c] w fun e w' => e = .returned (.int .i64 (IT.szL (x.el) : Int)) ∧ Below w.heap.size w w') (la0 : Option Addr) (lc0 : Nat) (w : World) (hn0 : n0 ≤ w.heap.size) (hin : InRow 9 IT.cells (IT.In n0 w) n0 w l la0) : Calls Tryz.prog 47 #[.slice la0 l.length lc0] w fun e w' => e = .returned (.int .i64 (IT.szL l : Int)) ∧ Below w.heap.size w w' := by
 have hll := IT.szL_len l
 obtain ⟨R, hR⟩ : ∃ R, IT.szL l = R := ⟨_, rfl⟩
 have HR := Lib.hid hR
 rw [hR]
 clear hR
 obtain ⟨w1, hw1⟩ : ∃ w1, w = w1 := ⟨_, rfl⟩
 have hB : Below w.heap.size w w1 := by rw [← hw1]; exact Below.refl _ _
 go_enter Tryz.func47, Tryz.ntmps47
 go_wp2
 subst hw1
 obtain ⟨w1, hw1⟩ : ∃ w1, w1 = w := ⟨_, rfl⟩
 rw [← hw1] at hB ⊢
 subst hw1
 go_loopw [3, 4] (fun v u wr => ∃ k : Nat, u = .int .i64 k ∧ k ≤ l.length ∧ v = .int .i64 ((IT.szL (l.take k) : Nat) : Int) ∧ Below w1.heap.size w1 wr) (fun _ u _ => l.length - (intOf u).toNat)
 case atStart => exact ⟨0, rfl, Nat.zero_le _, rfl, Below.refl _ _⟩
 case round =>
  obtain ⟨k, rfl, hk, rfl, hb0⟩ := hrel
  have hbw := hB.trans (hb0.mono hB.size)
  by_cases hlt : k < l.length
  ·have d1 : decide (k < l.length) = true := by simpa using hlt
   have d2 : decide ((k : Int) < (l.length : Int)) = true := by rw [decide_eq_true_eq]; omega
   have x1 : (k : Int) < (l.length : Int) := by omega
   obtain ⟨b, o, rfl, hb, hr, hx⟩ := hin.kept (Below.keptTo hbw hn0) hlt
   have hxw := IT.In.keep (Below.keptTo hbw hn0) _ hx
   have ht1 := IT.szL_take l k hlt
   have ht2 := IT.szL_take_le l k
   have ht3 := IT.szL_take_le l (k + 1)
   have ht4 := IT.szL_take l k hlt
   have ht5 := IT.dpL_sz (l.take k)
   have hmem := List.getElem_mem hlt
   have hcx0 := hc0 l[k] hmem
   have hcx1 := hc1 l[k] hmem
   have zz := hbw.size
   have hnr : n0 ≤ wr.heap.size := by omega
   obtain ⟨Sm, hS⟩ : ∃ S, IT.szL (l.take k) = S := ⟨_, rfl⟩
   rw [hS]
   generalize hgx : l[k] = x at *
   obtain ⟨op2, nm2, nf2, xa2, xc2, xl2, sa2, sc2, sl2, la2, lc2, ll2, ea2, ec2, el2, pa2, pc2, pl2, ba2, bc2, bl2⟩ := x
   rw [IT.In_mk] at hxw
   obtain ⟨i0, i1, i2, i3, i4, i5⟩ := hxw
   obtain ⟨E0, hE0⟩ : ∃ E, XT.szL xl2 = E := ⟨_, rfl⟩
   obtain ⟨E1, hE1⟩ : ∃ E, ST.szL sl2 = E := ⟨_, rfl⟩
   obtain ⟨E2, hE2⟩ : ∃ E, IT.szL ll2 = E := ⟨_, rfl⟩
   obtain ⟨E3, hE3⟩ : ∃ E, IT.szL el2 = E := ⟨_, rfl⟩
   obtain ⟨E4, hE4⟩ : ∃ E, BT.szL pl2 = E := ⟨_, rfl⟩
   obtain ⟨E5, hE5⟩ : ∃ E, BT.szL bl2 = E := ⟨_, rfl⟩
   simp only [IT.sz, IT.dp] at ht1 ht4
   have HT : Hid (IT.szL (l.take (k + 1)) = Sm + (1 + E0 + E1 + E2 + E3 + E4 + E5)) := Lib.hid (by rw [ht1, hS, hE0, hE1, hE2, hE3, hE4, hE5])
   have hS2 : Sm ≤ 6000000 := by omega
   have hb0E : E0 ≤ 6000000 := by omega
   have hb1E : E1 ≤ 6000000 := by omega
   have hb2E : E2 ≤ 6000000 := by omega
   have hb3E : E3 ≤ 6000000 := by omega
   have hb4E : E4 ≤ 6000000 := by omega
   have hb5E : E5 ≤ 6000000 := by omega
   have r0 : wr.cell? ⟨b, o + k * 9, none⟩ = some (.int .i64 op2) := hr 0 _ rfl
   have r1 : wr.cell? ⟨b, o + k * 9 + 1, none⟩ = some (.string (bs nm2)) := hr 1 _ rfl
   have r2 : wr.cell? ⟨b, o + k * 9 + 2, none⟩ = some (.string (bs nf2)) := hr 2 _ rfl
   have r3 : wr.cell? ⟨b, o + k * 9 + 3, none⟩ = some (.slice xa2 xl2.length xc2) := hr 3 _ rfl
   have r4 : wr.cell? ⟨b, o + k * 9 + 4, none⟩ = some (.slice sa2 sl2.length sc2) := hr 4 _ rfl
   have r5 : wr.cell? ⟨b, o + k * 9 + 5, none⟩ = some (.slice la2 ll2.length lc2) := hr 5 _ rfl
   have r6 : wr.cell? ⟨b, o + k * 9 + 6, none⟩ = some (.slice ea2 el2.length ec2) := hr 6 _ rfl
   have r7 : wr.cell? ⟨b, o + k * 9 + 7, none⟩ = some (.slice pa2 pl2.length pc2) := hr 7 _ rfl
   have r8 : wr.cell? ⟨b, o + k * 9 + 8, none⟩ = some (.slice ba2 bl2.length bc2) := hr 8 _ rfl
   go_upto_region 6 with (fail)
   have BX : (wr.alloc (.cells #[.int .i64 op2, .string (bs nm2), .string (bs nf2), .slice xa2 xl2.length xc2, .slice sa2 sl2.length sc2, .slice la2 ll2.length lc2, .slice ea2 el2.length ec2, .slice pa2 pl2.length pc2, .slice ba2 bl2.length bc2] 48)).heap[wr.heap.size]? = some (.cells #[.int .i64 op2, .string (bs nm2), .string (bs nf2), .slice xa2 xl2.length xc2, .slice sa2 sl2.length sc2, .slice la2 ll2.length lc2, .slice ea2 el2.length ec2, .slice pa2 pl2.length pc2, .slice ba2 bl2.length bc2] 48) := World.alloc_heap_new wr _
   have kk : Below wr.heap.size wr (wr.alloc (.cells #[.int .i64 op2, .string (bs nm2), .string (bs nf2), .slice xa2 xl2.length xc2, .slice sa2 sl2.length sc2, .slice la2 ll2.length lc2, .slice ea2 el2.length ec2, .slice pa2 pl2.length pc2, .slice ba2 bl2.length bc2] 48)) := (Below.refl _ _).alloc (Nat.le_refl _) _
   have hb1 := hb0.trans (kk.mono hb0.size)
   have hk8 := Below.keptTo kk hnr
   replace i0 := i0.keep hk8 (fun x _ => XT.In.keep hk8 x)
   replace i1 := i1.keep hk8 (fun x _ => ST.In.keep hk8 x)
   replace i2 := i2.keep hk8 (fun x _ => IT.In.keep hk8 x)
   replace i3 := i3.keep hk8 (fun x _ => IT.In.keep hk8 x)
   replace i4 := i4.keep hk8 (fun x _ => BT.In.keep hk8 x)
   replace i5 := i5.keep hk8 (fun x _ => BT.In.keep hk8 x)
   replace hnr : n0 ≤ (wr.alloc (.cells #[.int .i64 op2, .string (bs nm2), .string (bs nf2), .slice xa2 xl2.length xc2, .slice sa2 sl2.length sc2, .slice la2 ll2.length lc2, .slice ea2 el2.length ec2, .slice pa2 pl2.length pc2, .slice ba2 bl2.length bc2] 48)).heap.size := Nat.le_trans hnr kk.size
   clear hk8 kk r0 r1 r2 r3 r4 r5 r6 r7 r8
   generalize wr.alloc (.cells #[.int .i64 op2, .string (bs nm2), .string (bs nf2), .slice xa2 xl2.length xc2, .slice sa2 sl2.length sc2, .slice la2 ll2.length lc2, .slice ea2 el2.length ec2, .slice pa2 pl2.length pc2, .slice ba2 bl2.length bc2] 48) = w2 at *
   obtain ⟨r0, r1, r2, r3, r4, r5, r6, r7, r8⟩ := open9 BX
   have bq := fun (dq : Nat) (os : Array Obj) => below_regrown w2 dq os
   have q0 := fun (dq : Nat) (os : Array Obj) => refsizeL_any xl2 (by omega) xa2 xc2 n0 (grow (redrawn w2 dq) os) (Nat.le_trans hnr (bq dq os).size) (i0.keep (Below.keptTo (bq dq os) hnr) (fun x _ => XT.In.keep (Below.keptTo (bq dq os) hnr) x))
   simp only [IT.ll, IT.el, hE0] at q0
   have Q0 := Lib.hid q0
   have q1 := fun (dq : Nat) (os : Array Obj) => refsizeS_any sl2 (by omega) sa2 sc2 n0 (grow (redrawn w2 dq) os) (Nat.le_trans hnr (bq dq os).size) (i1.keep (Below.keptTo (bq dq os) hnr) (fun x _ => ST.In.keep (Below.keptTo (bq dq os) hnr) x))
   simp only [IT.ll, IT.el, hE1] at q1
   have Q1 := Lib.hid q1
   have q2 := fun (dq : Nat) (os : Array Obj) => hcx0 la2 lc2 (grow (redrawn w2 dq) os) (Nat.le_trans hnr (bq dq os).size) (i2.keep (Below.keptTo (bq dq os) hnr) (fun x _ => IT.In.keep (Below.keptTo (bq dq os) hnr) x))
   simp only [IT.ll, IT.el, hE2] at q2
   have Q2 := Lib.hid q2
   have q3 := fun (dq : Nat) (os : Array Obj) => hcx1 ea2 ec2 (grow (redrawn w2 dq) os) (Nat.le_trans hnr (bq dq os).size) (i3.keep (Below.keptTo (bq dq os) hnr) (fun x _ => IT.In.keep (Below.keptTo (bq dq os) hnr) x))
   simp only [IT.ll, IT.el, hE3] at q3
   have Q3 := Lib.hid q3
   have q4 := fun (dq : Nat) (os : Array Obj) => refsizeB_of n0 pl2 (by omega) pa2 pc2 (grow (redrawn w2 dq) os) (Nat.le_trans hnr (bq dq os).size) (i4.keep (Below.keptTo (bq dq os) hnr) (fun x _ => BT.In.keep (Below.keptTo (bq dq os) hnr) x))
   simp only [IT.ll, IT.el, hE4] at q4
   have Q4 := Lib.hid q4
   have q5 := fun (dq : Nat) (os : Array Obj) => refsizeB_of n0 bl2 (by omega) ba2 bc2 (grow (redrawn w2 dq) os) (Nat.le_trans hnr (bq dq os).size) (i5.keep (Below.keptTo (bq dq os) hnr) (fun x _ => BT.In.keep (Below.keptTo (bq dq os) hnr) x))
   simp only [IT.ll, IT.el, hE5] at q5
   have Q5 := Lib.hid q5
   have HH := Lib.hid (And.intro hS (And.intro hgx (And.intro ht1 ht4)))
   have r0R := cell_regrown r0
   have r1R := cell_regrown r1
   have r2R := cell_regrown r2
   have r3R := cell_regrown r3
   have r4R := cell_regrown r4
   have r5R := cell_regrown r5
   have r6R := cell_regrown r6
   have r7R := cell_regrown r7
   have r8R := cell_regrown r8
   clear bq hin hr hx hgx ht1 ht2 ht3 ht4 ht5 hS hmem q0 q1 q2 q3 q4 q5 hE0 hE1 hE2 hE3 hE4 hE5 i0 i1 i2 i3 i4 i5  hcx0 hcx1 hc0 hc1 
   refine wp_region_quiet_below (by kernel_rfl) (by kernel_rfl) ?_
   repeat (go_big_quiet_step (first | (go_at_call_of 74 (Value.slice xa2 (List.length xl2) xc2); exact Calls.regrown_of (Q0.out _ _)) | (go_at_call_of 75 (Value.slice sa2 (List.length sl2) sc2); exact Calls.regrown_of (Q1.out _ _)) | (go_at_call_of 47 (Value.slice la2 (List.length ll2) lc2); exact Calls.regrown_of (Q2.out _ _)) | (go_at_call_of 47 (Value.slice ea2 (List.length el2) ec2); exact Calls.regrown_of (Q3.out _ _)) | (go_at_call_of 46 (Value.slice pa2 (List.length pl2) pc2); exact Calls.regrown_of (Q4.out _ _)) | (go_at_call_of 46 (Value.slice ba2 (List.length bl2) bc2); exact Calls.regrown_of (Q5.out _ _))))
   refine wpQuiet_nil ?_
   intro _ hw'
   obtain ⟨⟨dq, osq⟩, hw''⟩ := hw'
   subst hw''
   have hb2 := hb1.trans ((below_regrown w2 dq osq).mono hb1.size)
   clear r0R r1R r2R r3R r4R r5R r6R r7R r8R
   generalize grow (redrawn w2 dq) osq = w3 at *
   go_wp2
   all_goals
    go_roundw
    case rel => exact ⟨k + 1, by simp; first | done | rfl | omega, by omega, by rw [HT.out]; congr 1; first | done | rfl | omega | (simp; omega), hb2⟩
    case measure => simp [intOf]; omega
  ·have d1 : decide (k < l.length) = false := by simpa using hlt
   have d2 : decide ((k : Int) < (l.length : Int)) = false := by rw [decide_eq_false_iff_not]; omega
   have HE : Hid (IT.szL (l.take k) = R) := Lib.hid (by rw [show k = l.length by omega, List.take_length]; exact HR.out)
   rw [HE.out]
   clear hlt
   go_wp2
   go_ret
   exact ⟨rfl, hbw⟩
set_option maxHeartbeats 8000000 in
set_option maxRecDepth 9000000 in
theorem refdeepI_of (n0 : Nat) (l : List IT) (hsz2 : IT.szL l ≤ 5700000) (hc0 : ∀ x ∈ l, ∀ (a : Option Addr) (c : Nat) (w : World), n0 ≤ w.heap.size → InRow 9 IT.cells (IT.In n0 w) n0 w x.ll a → Calls Tryz.prog 50 #[.slice a (x.ll).length c] w fun e w' => e = .returned (.int .i64 (IT.dpL (x.ll) : Int)) ∧ Below w.heap.size w w') (hc1 : ∀ x ∈ l, ∀ (a : Option Addr) (c : Nat) (w : World), n0 ≤ w.heap.size → InRow 9 IT.cells (IT.In n0 w) n0 w x.el a → Calls Tryz.prog 50 #[.slice a (x.el).length c] w fun e w' => e = .returned (.int .i64 (IT.dpL (x.el) : Int)) ∧ Below w.heap.size w w') (la0 : Option Addr) (lc0 : Nat) (w : World) (hn0 : n0 ≤ w.heap.size) (hin : InRow 9 IT.cells (IT.In n0 w) n0 w l la0) : Calls Tryz.prog 50 #[.slice la0 l.length lc0] w fun e w' => e = .returned (.int .i64 (IT.dpL l : Int)) ∧ Below w.heap.size w w' := by
 have hll := IT.szL_len l
 obtain ⟨R, hR⟩ : ∃ R, IT.dpL l = R := ⟨_, rfl⟩
 have HR := Lib.hid hR
 rw [hR]
 clear hR
 obtain ⟨w1, hw1⟩ : ∃ w1, w = w1 := ⟨_, rfl⟩
 have hB : Below w.heap.size w w1 := by rw [← hw1]; exact Below.refl _ _
 go_enter Tryz.func50, Tryz.ntmps50
 go_wp2
 subst hw1
 obtain ⟨w1, hw1⟩ : ∃ w1, w1 = w := ⟨_, rfl⟩
 rw [← hw1] at hB ⊢
 subst hw1
 go_loopw [3, 4] (fun v u wr => ∃ k : Nat, u = .int .i64 k ∧ k ≤ l.length ∧ v = .int .i64 ((IT.dpL (l.take k) : Nat) : Int) ∧ Below w1.heap.size w1 wr) (fun _ u _ => l.length - (intOf u).toNat)
 case atStart => exact ⟨0, rfl, Nat.zero_le _, rfl, Below.refl _ _⟩
 case round =>
  obtain ⟨k, rfl, hk, rfl, hb0⟩ := hrel
  have hbw := hB.trans (hb0.mono hB.size)
  by_cases hlt : k < l.length
  ·have d1 : decide (k < l.length) = true := by simpa using hlt
   have d2 : decide ((k : Int) < (l.length : Int)) = true := by rw [decide_eq_true_eq]; omega
   have x1 : (k : Int) < (l.length : Int) := by omega
   obtain ⟨b, o, rfl, hb, hr, hx⟩ := hin.kept (Below.keptTo hbw hn0) hlt
   have hxw := IT.In.keep (Below.keptTo hbw hn0) _ hx
   have ht1 := IT.dpL_take l k hlt
   have ht2 := IT.szL_take_le l k
   have ht3 := IT.szL_take_le l (k + 1)
   have ht4 := IT.szL_take l k hlt
   have ht5 := IT.dpL_sz (l.take k)
   have hmem := List.getElem_mem hlt
   have hcx0 := hc0 l[k] hmem
   have hcx1 := hc1 l[k] hmem
   have zz := hbw.size
   have hnr : n0 ≤ wr.heap.size := by omega
   obtain ⟨Sm, hS⟩ : ∃ S, IT.dpL (l.take k) = S := ⟨_, rfl⟩
   rw [hS]
   generalize hgx : l[k] = x at *
   obtain ⟨op2, nm2, nf2, xa2, xc2, xl2, sa2, sc2, sl2, la2, lc2, ll2, ea2, ec2, el2, pa2, pc2, pl2, ba2, bc2, bl2⟩ := x
   rw [IT.In_mk] at hxw
   obtain ⟨i0, i1, i2, i3, i4, i5⟩ := hxw
   obtain ⟨E0, hE0⟩ : ∃ E, XT.dpL xl2 = E := ⟨_, rfl⟩
   have hds0 := XT.dpL_sz xl2
   obtain ⟨E1, hE1⟩ : ∃ E, ST.dpL sl2 = E := ⟨_, rfl⟩
   have hds1 := ST.dpL_sz sl2
   obtain ⟨E2, hE2⟩ : ∃ E, IT.dpL ll2 = E := ⟨_, rfl⟩
   have hds2 := IT.dpL_sz ll2
   obtain ⟨E3, hE3⟩ : ∃ E, IT.dpL el2 = E := ⟨_, rfl⟩
   have hds3 := IT.dpL_sz el2
   obtain ⟨E4, hE4⟩ : ∃ E, BT.dpL pl2 = E := ⟨_, rfl⟩
   have hds4 := BT.dpL_sz pl2
   obtain ⟨E5, hE5⟩ : ∃ E, BT.dpL bl2 = E := ⟨_, rfl⟩
   have hds5 := BT.dpL_sz bl2
   simp only [IT.sz, IT.dp] at ht1 ht4
   have HT : Hid (IT.dpL (l.take (k + 1)) = max Sm (1 + (max E0 (max E1 (max E2 (max E3 (max E4 (E5)))))))) := Lib.hid (by rw [ht1, hS, hE0, hE1, hE2, hE3, hE4, hE5])
   have hS2 : Sm ≤ 6000000 := by omega
   have hb0E : E0 ≤ 6000000 := by omega
   have hb1E : E1 ≤ 6000000 := by omega
   have hb2E : E2 ≤ 6000000 := by omega
   have hb3E : E3 ≤ 6000000 := by omega
   have hb4E : E4 ≤ 6000000 := by omega
   have hb5E : E5 ≤ 6000000 := by omega
   have r0 : wr.cell? ⟨b, o + k * 9, none⟩ = some (.int .i64 op2) := hr 0 _ rfl
   have r1 : wr.cell? ⟨b, o + k * 9 + 1, none⟩ = some (.string (bs nm2)) := hr 1 _ rfl
   have r2 : wr.cell? ⟨b, o + k * 9 + 2, none⟩ = some (.string (bs nf2)) := hr 2 _ rfl
   have r3 : wr.cell? ⟨b, o + k * 9 + 3, none⟩ = some (.slice xa2 xl2.length xc2) := hr 3 _ rfl
   have r4 : wr.cell? ⟨b, o + k * 9 + 4, none⟩ = some (.slice sa2 sl2.length sc2) := hr 4 _ rfl
   have r5 : wr.cell? ⟨b, o + k * 9 + 5, none⟩ = some (.slice la2 ll2.length lc2) := hr 5 _ rfl
   have r6 : wr.cell? ⟨b, o + k * 9 + 6, none⟩ = some (.slice ea2 el2.length ec2) := hr 6 _ rfl
   have r7 : wr.cell? ⟨b, o + k * 9 + 7, none⟩ = some (.slice pa2 pl2.length pc2) := hr 7 _ rfl
   have r8 : wr.cell? ⟨b, o + k * 9 + 8, none⟩ = some (.slice ba2 bl2.length bc2) := hr 8 _ rfl
   go_upto_region 6 with (fail)
   have BX : (wr.alloc (.cells #[.int .i64 op2, .string (bs nm2), .string (bs nf2), .slice xa2 xl2.length xc2, .slice sa2 sl2.length sc2, .slice la2 ll2.length lc2, .slice ea2 el2.length ec2, .slice pa2 pl2.length pc2, .slice ba2 bl2.length bc2] 48)).heap[wr.heap.size]? = some (.cells #[.int .i64 op2, .string (bs nm2), .string (bs nf2), .slice xa2 xl2.length xc2, .slice sa2 sl2.length sc2, .slice la2 ll2.length lc2, .slice ea2 el2.length ec2, .slice pa2 pl2.length pc2, .slice ba2 bl2.length bc2] 48) := World.alloc_heap_new wr _
   have kk : Below wr.heap.size wr (wr.alloc (.cells #[.int .i64 op2, .string (bs nm2), .string (bs nf2), .slice xa2 xl2.length xc2, .slice sa2 sl2.length sc2, .slice la2 ll2.length lc2, .slice ea2 el2.length ec2, .slice pa2 pl2.length pc2, .slice ba2 bl2.length bc2] 48)) := (Below.refl _ _).alloc (Nat.le_refl _) _
   have hb1 := hb0.trans (kk.mono hb0.size)
   have hk8 := Below.keptTo kk hnr
   replace i0 := i0.keep hk8 (fun x _ => XT.In.keep hk8 x)
   replace i1 := i1.keep hk8 (fun x _ => ST.In.keep hk8 x)
   replace i2 := i2.keep hk8 (fun x _ => IT.In.keep hk8 x)
   replace i3 := i3.keep hk8 (fun x _ => IT.In.keep hk8 x)
   replace i4 := i4.keep hk8 (fun x _ => BT.In.keep hk8 x)
   replace i5 := i5.keep hk8 (fun x _ => BT.In.keep hk8 x)
   replace hnr : n0 ≤ (wr.alloc (.cells #[.int .i64 op2, .string (bs nm2), .string (bs nf2), .slice xa2 xl2.length xc2, .slice sa2 sl2.length sc2, .slice la2 ll2.length lc2, .slice ea2 el2.length ec2, .slice pa2 pl2.length pc2, .slice ba2 bl2.length bc2] 48)).heap.size := Nat.le_trans hnr kk.size
   clear hk8 kk r0 r1 r2 r3 r4 r5 r6 r7 r8
   generalize wr.alloc (.cells #[.int .i64 op2, .string (bs nm2), .string (bs nf2), .slice xa2 xl2.length xc2, .slice sa2 sl2.length sc2, .slice la2 ll2.length lc2, .slice ea2 el2.length ec2, .slice pa2 pl2.length pc2, .slice ba2 bl2.length bc2] 48) = w2 at *
   obtain ⟨r0, r1, r2, r3, r4, r5, r6, r7, r8⟩ := open9 BX
   have bq := fun (dq : Nat) (os : Array Obj) => below_regrown w2 dq os
   have q0 := fun (dq : Nat) (os : Array Obj) => refdeepL_any xl2 (by omega) xa2 xc2 n0 (grow (redrawn w2 dq) os) (Nat.le_trans hnr (bq dq os).size) (i0.keep (Below.keptTo (bq dq os) hnr) (fun x _ => XT.In.keep (Below.keptTo (bq dq os) hnr) x))
   simp only [IT.ll, IT.el, hE0] at q0
   have Q0 := Lib.hid q0
   have q1 := fun (dq : Nat) (os : Array Obj) => refdeepS_any sl2 (by omega) sa2 sc2 n0 (grow (redrawn w2 dq) os) (Nat.le_trans hnr (bq dq os).size) (i1.keep (Below.keptTo (bq dq os) hnr) (fun x _ => ST.In.keep (Below.keptTo (bq dq os) hnr) x))
   simp only [IT.ll, IT.el, hE1] at q1
   have Q1 := Lib.hid q1
   have q2 := fun (dq : Nat) (os : Array Obj) => hcx0 la2 lc2 (grow (redrawn w2 dq) os) (Nat.le_trans hnr (bq dq os).size) (i2.keep (Below.keptTo (bq dq os) hnr) (fun x _ => IT.In.keep (Below.keptTo (bq dq os) hnr) x))
   simp only [IT.ll, IT.el, hE2] at q2
   have Q2 := Lib.hid q2
   have q3 := fun (dq : Nat) (os : Array Obj) => hcx1 ea2 ec2 (grow (redrawn w2 dq) os) (Nat.le_trans hnr (bq dq os).size) (i3.keep (Below.keptTo (bq dq os) hnr) (fun x _ => IT.In.keep (Below.keptTo (bq dq os) hnr) x))
   simp only [IT.ll, IT.el, hE3] at q3
   have Q3 := Lib.hid q3
   have q4 := fun (dq : Nat) (os : Array Obj) => refdeepB_of n0 pl2 (by omega) pa2 pc2 (grow (redrawn w2 dq) os) (Nat.le_trans hnr (bq dq os).size) (i4.keep (Below.keptTo (bq dq os) hnr) (fun x _ => BT.In.keep (Below.keptTo (bq dq os) hnr) x))
   simp only [IT.ll, IT.el, hE4] at q4
   have Q4 := Lib.hid q4
   have q5 := fun (dq : Nat) (os : Array Obj) => refdeepB_of n0 bl2 (by omega) ba2 bc2 (grow (redrawn w2 dq) os) (Nat.le_trans hnr (bq dq os).size) (i5.keep (Below.keptTo (bq dq os) hnr) (fun x _ => BT.In.keep (Below.keptTo (bq dq os) hnr) x))
   simp only [IT.ll, IT.el, hE5] at q5
   have Q5 := Lib.hid q5
   have HH := Lib.hid (And.intro hS (And.intro hgx (And.intro ht1 ht4)))
   have r0R := cell_regrown r0
   have r1R := cell_regrown r1
   have r2R := cell_regrown r2
   have r3R := cell_regrown r3
   have r4R := cell_regrown r4
   have r5R := cell_regrown r5
   have r6R := cell_regrown r6
   have r7R := cell_regrown r7
   have r8R := cell_regrown r8
   clear bq hin hr hx hgx ht1 ht2 ht3 ht4 ht5 hS hmem q0 q1 q2 q3 q4 q5 hE0 hE1 hE2 hE3 hE4 hE5 i0 i1 i2 i3 i4 i5 hds0 hds1 hds2 hds3 hds4 hds5 hcx0 hcx1 hc0 hc1 
   refine wp_region_quiet_below (by kernel_rfl) (by kernel_rfl) ?_
   repeat (go_big_quiet_step (first | (go_at_call_of 76 (Value.slice xa2 (List.length xl2) xc2); exact Calls.regrown_of (Q0.out _ _)) | (go_at_call_of 77 (Value.slice sa2 (List.length sl2) sc2); exact Calls.regrown_of (Q1.out _ _)) | (go_at_call_of 50 (Value.slice la2 (List.length ll2) lc2); exact Calls.regrown_of (Q2.out _ _)) | (go_at_call_of 50 (Value.slice ea2 (List.length el2) ec2); exact Calls.regrown_of (Q3.out _ _)) | (go_at_call_of 49 (Value.slice pa2 (List.length pl2) pc2); exact Calls.regrown_of (Q4.out _ _)) | (go_at_call_of 49 (Value.slice ba2 (List.length bl2) bc2); exact Calls.regrown_of (Q5.out _ _))))
   refine wpQuiet_nil ?_
   intro _ hw'
   obtain ⟨⟨dq, osq⟩, hw''⟩ := hw'
   subst hw''
   have hb2 := hb1.trans ((below_regrown w2 dq osq).mono hb1.size)
   clear r0R r1R r2R r3R r4R r5R r6R r7R r8R
   generalize grow (redrawn w2 dq) osq = w3 at *
   go_wp2
   all_goals
    go_roundw
    case rel => exact ⟨k + 1, by simp; first | done | rfl | omega, by omega, by rw [HT.out]; congr 1; first | done | rfl | omega | (simp; omega), hb2⟩
    case measure => simp [intOf]; omega
  ·have d1 : decide (k < l.length) = false := by simpa using hlt
   have d2 : decide ((k : Int) < (l.length : Int)) = false := by rw [decide_eq_false_iff_not]; omega
   have HE : Hid (IT.dpL (l.take k) = R) := Lib.hid (by rw [show k = l.length by omega, List.take_length]; exact HR.out)
   rw [HE.out]
   clear hlt
   go_wp2
   go_ret
   exact ⟨rfl, hbw⟩
theorem refsizeI_in : ∀ x : IT, IT.szL x.ll + IT.szL x.el ≤ 6000000 → (∀ (n0 : Nat) (a : Option Addr) (c : Nat) (w : World), n0 ≤ w.heap.size → InRow 9 IT.cells (IT.In n0 w) n0 w x.ll a → Calls Tryz.prog 47 #[.slice a (x.ll).length c] w fun e w' => e = .returned (.int .i64 (IT.szL (x.ll) : Int)) ∧ Below w.heap.size w w') ∧ (∀ (n0 : Nat) (a : Option Addr) (c : Nat) (w : World), n0 ≤ w.heap.size → InRow 9 IT.cells (IT.In n0 w) n0 w x.el a → Calls Tryz.prog 47 #[.slice a (x.el).length c] w fun e w' => e = .returned (.int .i64 (IT.szL (x.el) : Int)) ∧ Below w.heap.size w w') := by
 refine IT.ind ?_
 intro op nm nf xa xc xl sa sc sl la lc ll ea ec el pa pc pl ba bc bl ih0 ih1 hsz
 refine ⟨fun n0 a c w hn0 hin => ?_, fun n0 a c w hn0 hin => ?_⟩
 ·exact refsizeI_of n0 ll (by simp only [IT.ll, IT.el] at hsz; omega) (fun y hy a' c' w' h1 h2 => (ih0 y hy (by { have h3 := IT.szL_mem hy; have h4 : IT.szL y.ll + IT.szL y.el ≤ y.sz := (by { obtain ⟨a0, a1, a2, a3, a4, a5, a6, a7, a8, a9, a10, a11, a12, a13, a14, a15, a16, a17, a18, a19, a20⟩ := y; simp only [IT.ll, IT.el, IT.sz]; omega }); simp only [IT.ll, IT.el] at hsz; omega })).1 n0 a' c' w' h1 h2) (fun y hy a' c' w' h1 h2 => (ih0 y hy (by { have h3 := IT.szL_mem hy; have h4 : IT.szL y.ll + IT.szL y.el ≤ y.sz := (by { obtain ⟨a0, a1, a2, a3, a4, a5, a6, a7, a8, a9, a10, a11, a12, a13, a14, a15, a16, a17, a18, a19, a20⟩ := y; simp only [IT.ll, IT.el, IT.sz]; omega }); simp only [IT.ll, IT.el] at hsz; omega })).2 n0 a' c' w' h1 h2) a c w hn0 hin
 ·exact refsizeI_of n0 el (by simp only [IT.ll, IT.el] at hsz; omega) (fun y hy a' c' w' h1 h2 => (ih1 y hy (by { have h3 := IT.szL_mem hy; have h4 : IT.szL y.ll + IT.szL y.el ≤ y.sz := (by { obtain ⟨a0, a1, a2, a3, a4, a5, a6, a7, a8, a9, a10, a11, a12, a13, a14, a15, a16, a17, a18, a19, a20⟩ := y; simp only [IT.ll, IT.el, IT.sz]; omega }); simp only [IT.ll, IT.el] at hsz; omega })).1 n0 a' c' w' h1 h2) (fun y hy a' c' w' h1 h2 => (ih1 y hy (by { have h3 := IT.szL_mem hy; have h4 : IT.szL y.ll + IT.szL y.el ≤ y.sz := (by { obtain ⟨a0, a1, a2, a3, a4, a5, a6, a7, a8, a9, a10, a11, a12, a13, a14, a15, a16, a17, a18, a19, a20⟩ := y; simp only [IT.ll, IT.el, IT.sz]; omega }); simp only [IT.ll, IT.el] at hsz; omega })).2 n0 a' c' w' h1 h2) a c w hn0 hin
theorem refsizeI_any (l : List IT) (hsz : IT.szL l ≤ 6000000) (a : Option Addr) (c : Nat) (n0 : Nat) (w : World) (hn0 : n0 ≤ w.heap.size) (hin : InRow 9 IT.cells (IT.In n0 w) n0 w l a) : Calls Tryz.prog 47 #[.slice a l.length c] w fun e w' => e = .returned (.int .i64 (IT.szL l : Int)) ∧ Below w.heap.size w w' :=
 (refsizeI_in (.mk 0 [] [] none 0 [] none 0 [] none 0 l none 0 [] none 0 [] none 0 []) (by simp only [IT.ll, IT.el, IT.szL]; omega)).1 n0 a c w hn0 hin
theorem refdeepI_in : ∀ x : IT, IT.szL x.ll + IT.szL x.el ≤ 5700000 → (∀ (n0 : Nat) (a : Option Addr) (c : Nat) (w : World), n0 ≤ w.heap.size → InRow 9 IT.cells (IT.In n0 w) n0 w x.ll a → Calls Tryz.prog 50 #[.slice a (x.ll).length c] w fun e w' => e = .returned (.int .i64 (IT.dpL (x.ll) : Int)) ∧ Below w.heap.size w w') ∧ (∀ (n0 : Nat) (a : Option Addr) (c : Nat) (w : World), n0 ≤ w.heap.size → InRow 9 IT.cells (IT.In n0 w) n0 w x.el a → Calls Tryz.prog 50 #[.slice a (x.el).length c] w fun e w' => e = .returned (.int .i64 (IT.dpL (x.el) : Int)) ∧ Below w.heap.size w w') := by
 refine IT.ind ?_
 intro op nm nf xa xc xl sa sc sl la lc ll ea ec el pa pc pl ba bc bl ih0 ih1 hsz
 refine ⟨fun n0 a c w hn0 hin => ?_, fun n0 a c w hn0 hin => ?_⟩
 ·exact refdeepI_of n0 ll (by simp only [IT.ll, IT.el] at hsz; omega) (fun y hy a' c' w' h1 h2 => (ih0 y hy (by { have h3 := IT.szL_mem hy; have h4 : IT.szL y.ll + IT.szL y.el ≤ y.sz := (by { obtain ⟨a0, a1, a2, a3, a4, a5, a6, a7, a8, a9, a10, a11, a12, a13, a14, a15, a16, a17, a18, a19, a20⟩ := y; simp only [IT.ll, IT.el, IT.sz]; omega }); simp only [IT.ll, IT.el] at hsz; omega })).1 n0 a' c' w' h1 h2) (fun y hy a' c' w' h1 h2 => (ih0 y hy (by { have h3 := IT.szL_mem hy; have h4 : IT.szL y.ll + IT.szL y.el ≤ y.sz := (by { obtain ⟨a0, a1, a2, a3, a4, a5, a6, a7, a8, a9, a10, a11, a12, a13, a14, a15, a16, a17, a18, a19, a20⟩ := y; simp only [IT.ll, IT.el, IT.sz]; omega }); simp only [IT.ll, IT.el] at hsz; omega })).2 n0 a' c' w' h1 h2) a c w hn0 hin
 ·exact refdeepI_of n0 el (by simp only [IT.ll, IT.el] at hsz; omega) (fun y hy a' c' w' h1 h2 => (ih1 y hy (by { have h3 := IT.szL_mem hy; have h4 : IT.szL y.ll + IT.szL y.el ≤ y.sz := (by { obtain ⟨a0, a1, a2, a3, a4, a5, a6, a7, a8, a9, a10, a11, a12, a13, a14, a15, a16, a17, a18, a19, a20⟩ := y; simp only [IT.ll, IT.el, IT.sz]; omega }); simp only [IT.ll, IT.el] at hsz; omega })).1 n0 a' c' w' h1 h2) (fun y hy a' c' w' h1 h2 => (ih1 y hy (by { have h3 := IT.szL_mem hy; have h4 : IT.szL y.ll + IT.szL y.el ≤ y.sz := (by { obtain ⟨a0, a1, a2, a3, a4, a5, a6, a7, a8, a9, a10, a11, a12, a13, a14, a15, a16, a17, a18, a19, a20⟩ := y; simp only [IT.ll, IT.el, IT.sz]; omega }); simp only [IT.ll, IT.el] at hsz; omega })).2 n0 a' c' w' h1 h2) a c w hn0 hin
theorem refdeepI_any (l : List IT) (hsz : IT.szL l ≤ 5700000) (a : Option Addr) (c : Nat) (n0 : Nat) (w : World) (hn0 : n0 ≤ w.heap.size) (hin : InRow 9 IT.cells (IT.In n0 w) n0 w l a) : Calls Tryz.prog 50 #[.slice a l.length c] w fun e w' => e = .returned (.int .i64 (IT.dpL l : Int)) ∧ Below w.heap.size w w' :=
 (refdeepI_in (.mk 0 [] [] none 0 [] none 0 [] none 0 l none 0 [] none 0 [] none 0 []) (by simp only [IT.ll, IT.el, IT.szL]; omega)).1 n0 a c w hn0 hin
end Go.Proofs.YtiipjbafdhijlaaGreatDoor
namespace Go.Proofs.YtiipjbafdhijlaaGreatDoor
open Go Go.RowKit
set_option linter.unusedVariables false
set_option linter.unusedSimpArgs false
open Go.Sort
set_option maxHeartbeats 16000000 in
set_option maxRecDepth 9000000 in
theorem refsize_any (x : FT) (hsz : x.sz ≤ 6000000) (n0 : Nat) (w : World) (hn0 : n0 ≤ w.heap.size) (hx : x.In n0 w) : Calls Tryz.prog 28 #[x.val] w fun e w' => e = .returned (.int .i64 (x.sz : Int)) ∧ Below w.heap.size w w' := by
 obtain ⟨ma, mc, ml⟩ := x
 have hsz2 : MT.szL ml ≤ 6000000 := hsz
 have hin : InRow 4 MT.cells (MT.In n0 w) n0 w ml ma := hx
 have hll := MT.szL_len ml
 have HV : Hid (FT.sz ⟨ma, mc, ml⟩ = MT.szL ml) := Lib.hid rfl
 rw [HV.out]
 obtain ⟨R, hR⟩ : ∃ R, MT.szL ml = R := ⟨_, rfl⟩
 have HR := Lib.hid hR
 rw [hR]
 simp only [FT.val, FT.cells]
 clear hR hx hsz
 have BF : (w.alloc (.cells #[.slice ma ml.length mc] 24)).heap[w.heap.size]? = some (.cells #[.slice ma ml.length mc] 24) := World.alloc_heap_new w _
 have hB : Below w.heap.size w (w.alloc (.cells #[.slice ma ml.length mc] 24)) := (Below.refl _ _).alloc (Nat.le_refl _) _
 go_enter Tryz.func28, Tryz.ntmps28
 go_wp2
 generalize w.alloc (.cells #[.slice ma ml.length mc] 24) = w1 at *
 go_loopg [3, 4] ml.length (fun g v u wr => ∃ k : Nat, u = .int .i64 k ∧ k + g = ml.length ∧ v = .int .i64 ((MT.szL (ml.take k) : Nat) : Int) ∧ Below w1.heap.size w1 wr)
 case atStart => exact ⟨0, rfl, by omega, rfl, Below.refl _ _⟩
 case round =>
  obtain ⟨k, rfl, hk, rfl, hb0⟩ := hrel
  have hbw := hB.trans (hb0.mono hB.size)
  have BFr := block_kept BF hb0
  have f0 := (cell_of_box_1 BFr).1
  by_cases hlt : k < ml.length
  ·have d1 : decide (k < ml.length) = true := by simpa using hlt
   have d2 : decide ((k : Int) < (ml.length : Int)) = true := by rw [decide_eq_true_eq]; omega
   have x1 : (k : Int) < (ml.length : Int) := by omega
   obtain ⟨b, o, rfl, hb, hr, hx⟩ := hin.kept (Below.keptTo hbw hn0) hlt
   have hxw := MT.In.keep (Below.keptTo hbw hn0) _ hx
   have ht1 := MT.szL_take ml k hlt
   have ht2 := MT.szL_take_le ml k
   have ht3 := MT.szL_take_le ml (k + 1)
   have ht4 := MT.szL_take ml k hlt
   have ht5 := MT.dpL_sz (ml.take k)
   have zz := hbw.size
   have hnr : n0 ≤ wr.heap.size := by omega
   obtain ⟨Sm, hS⟩ : ∃ S, MT.szL (ml.take k) = S := ⟨_, rfl⟩
   rw [hS]
   generalize hgx : ml[k] = x at *
   obtain ⟨nm2, pa2, pc2, pl2, ta2, tc2, tl2, ia2, ic2, il2⟩ := x
   obtain ⟨i0, i1, i2⟩ : InRow 7 BT.cells (BT.In n0 wr) n0 wr pl2 pa2 ∧ InRow 8 PT.cells (PT.In n0 wr) n0 wr tl2 ta2 ∧ InRow 9 IT.cells (IT.In n0 wr) n0 wr il2 ia2 := hxw
   obtain ⟨E0, hE0⟩ : ∃ E, BT.szL pl2 = E := ⟨_, rfl⟩
   obtain ⟨E1, hE1⟩ : ∃ E, IT.szL il2 = E := ⟨_, rfl⟩
   obtain ⟨E2, hE2⟩ : ∃ E, PT.szL tl2 = E := ⟨_, rfl⟩
   have hds0 := BT.dpL_sz pl2
   have hds1 := IT.dpL_sz il2
   have hds2 := PT.dpL_sz tl2
   have htl := PT.szL_len tl2
   simp only [MT.sz, MT.dp] at ht1 ht4
   obtain ⟨Bs, hBs⟩ : ∃ Bs, Sm + (1 + E0 + E1) = Bs := ⟨_, rfl⟩
   have HT : Hid (MT.szL (ml.take (k + 1)) = Bs + PT.szL tl2) := Lib.hid (by rw [ht1, hS, hE0, hE1, hE2] <;> omega)
   have hS2 : Sm ≤ 6000000 := by omega
   have hBs2 : Bs ≤ 21000000 := by omega
   have HBS := Lib.hid hBs
   clear hBs
   have hb0E : E0 ≤ 6000000 := by omega
   have hb1E : E1 ≤ 6000000 := by omega
   have htz : PT.szL tl2 ≤ 6000000 := by omega
   have r0 : wr.cell? ⟨b, o + k * 4, none⟩ = some (.string (bs nm2)) := hr 0 _ rfl
   have r1 : wr.cell? ⟨b, o + k * 4 + 1, none⟩ = some (.slice pa2 pl2.length pc2) := hr 1 _ rfl
   have r2 : wr.cell? ⟨b, o + k * 4 + 2, none⟩ = some (.slice ta2 tl2.length tc2) := hr 2 _ rfl
   have r3 : wr.cell? ⟨b, o + k * 4 + 3, none⟩ = some (.slice ia2 il2.length ic2) := hr 3 _ rfl
   have f0A := cell_alloc_1 (.cells #[.string (bs nm2), .slice pa2 pl2.length pc2, .slice ta2 tl2.length tc2, .slice ia2 il2.length ic2] 39) f0
   go_upto_region 6 with (fail)
   have BX : (wr.alloc (.cells #[.string (bs nm2), .slice pa2 pl2.length pc2, .slice ta2 tl2.length tc2, .slice ia2 il2.length ic2] 39)).heap[wr.heap.size]? = some (.cells #[.string (bs nm2), .slice pa2 pl2.length pc2, .slice ta2 tl2.length tc2, .slice ia2 il2.length ic2] 39) := World.alloc_heap_new wr _
   have kk : Below wr.heap.size wr (wr.alloc (.cells #[.string (bs nm2), .slice pa2 pl2.length pc2, .slice ta2 tl2.length tc2, .slice ia2 il2.length ic2] 39)) := (Below.refl _ _).alloc (Nat.le_refl _) _
   have hb1 := hb0.trans (kk.mono hb0.size)
   have hk8 := Below.keptTo kk hnr
   replace i0 := i0.keep hk8 (fun x _ => BT.In.keep hk8 x)
   replace i1 := i1.keep hk8 (fun x _ => PT.In.keep hk8 x)
   replace i2 := i2.keep hk8 (fun x _ => IT.In.keep hk8 x)
   replace hnr : n0 ≤ (wr.alloc (.cells #[.string (bs nm2), .slice pa2 pl2.length pc2, .slice ta2 tl2.length tc2, .slice ia2 il2.length ic2] 39)).heap.size := Nat.le_trans hnr kk.size
   clear hk8 kk r0 r1 r2 r3 f0 f0A BFr
   generalize wr.alloc (.cells #[.string (bs nm2), .slice pa2 pl2.length pc2, .slice ta2 tl2.length tc2, .slice ia2 il2.length ic2] 39) = w2 at *
   obtain ⟨r0, r1, r2, r3⟩ := open4 BX
   have bq := fun (dq : Nat) (os : Array Obj) => below_regrown w2 dq os
   have q0 := fun (dq : Nat) (os : Array Obj) => refsizeB_of n0 pl2 (by omega) pa2 pc2 (grow (redrawn w2 dq) os) (Nat.le_trans hnr (bq dq os).size) (i0.keep (Below.keptTo (bq dq os) hnr) (fun x _ => BT.In.keep (Below.keptTo (bq dq os) hnr) x))
   have q1 := fun (dq : Nat) (os : Array Obj) => refsizeI_any il2 (by omega) ia2 ic2 n0 (grow (redrawn w2 dq) os) (Nat.le_trans hnr (bq dq os).size) (i2.keep (Below.keptTo (bq dq os) hnr) (fun x _ => IT.In.keep (Below.keptTo (bq dq os) hnr) x))
   simp only [hE0] at q0
   simp only [hE1] at q1
   have Q0 := Lib.hid q0
   have Q1 := Lib.hid q1
   have HH := Lib.hid (And.intro hS (And.intro hgx (And.intro ht1 (And.intro ht4 hE2))))
   have r0R := cell_regrown r0
   have r1R := cell_regrown r1
   have r2R := cell_regrown r2
   have r3R := cell_regrown r3
   clear bq hr hx hgx ht1 ht2 ht3 ht4 ht5 hS hE0 hE1 hE2 q0 q1 i0 i2 hds0 hds1 hds2
   cases gk with
   | zero => omega
   | succ gg =>
    refine wp_region_quiet_below (by kernel_rfl) (by kernel_rfl) ?_
    repeat (go_big_quiet_step (first | (go_at_call 46; exact Calls.regrown_of (Q0.out _ _)) | (go_at_call 47; exact Calls.regrown_of (Q1.out _ _))))
    refine wpQuiet_nil ?_
    intro _ hw'
    obtain ⟨⟨dq, osq⟩, hw''⟩ := hw'
    subst hw''
    have hbq := below_regrown w2 dq osq
    have hb2 := hb1.trans (hbq.mono hb1.size)
    have BX3 := block_kept BX hbq
    have hk9 := Below.keptTo hbq hnr
    replace i1 := i1.keep hk9 (fun x _ => PT.In.keep hk9 x)
    replace hnr := Nat.le_trans hnr hbq.size
    clear r0R r1R r2R r3R r0 r1 r2 r3 BX hbq hk9 Q0 Q1
    generalize grow (redrawn w2 dq) osq = w3 at *
    go_wp2
    go_loopg [3, 6] tl2.length (fun g v u wx => ∃ j : Nat, u = .int .i64 j ∧ j + g = tl2.length ∧ v = .int .i64 ((Bs + PT.szL (tl2.take j) : Nat) : Int) ∧ Below w3.heap.size w3 wx)
    case atStart => exact ⟨0, rfl, by omega, by have := HBS.out; simp only [List.take_zero, PT.szL]; congr 1; omega, Below.refl _ _⟩
    case round =>
     obtain ⟨j, rfl, hj, rfl, hbi⟩ := hrel
     have BXr := block_kept BX3 hbi
     obtain ⟨r0, r1, r2, r3⟩ := open4 BXr
     have hb4 := hb2.trans (hbi.mono hb2.size)
     by_cases hltj : j < tl2.length
     ·have e1 : decide (j < tl2.length) = true := by simpa using hltj
      have e2 : decide ((j : Int) < (tl2.length : Int)) = true := by rw [decide_eq_true_eq]; omega
      have y1 : (j : Int) < (tl2.length : Int) := by omega
      obtain ⟨b5, o5, rfl, hb5, hr5, hx5⟩ := i1.kept (Below.keptTo hbi hnr) hltj
      have hp5 : XT.In n0 _ tl2[j].x := XT.In.keep (Below.keptTo hbi hnr) _ hx5
      have hu1 := PT.szL_take tl2 j hltj
      have hu2 := PT.szL_take_le tl2 j
      have hu3 := PT.szL_take_le tl2 (j + 1)
      have hu4 := PT.szL_take tl2 j hltj
      have hu5 := PT.dpL_sz (tl2.take j)
      have hni := Nat.le_trans hnr hbi.size
      obtain ⟨Sp, hSp⟩ : ∃ S, PT.szL (tl2.take j) = S := ⟨_, rfl⟩
      rw [hSp]
      generalize hgy : tl2[j] = y at *
      obtain ⟨bn2, po2, x5⟩ := y
      obtain ⟨op2, nm3, xn2, wd2, v2, xa2, xc2, xl2⟩ := x5
      replace hu4 : PT.szL (tl2.take (j + 1)) = PT.szL (tl2.take j) + (1 + XT.sz (XT.mk op2 nm3 xn2 wd2 v2 xa2 xc2 xl2)) := hu4
      replace hu1 : PT.szL (tl2.take (j + 1)) = PT.szL (tl2.take j) + (1 + XT.sz (XT.mk op2 nm3 xn2 wd2 v2 xa2 xc2 xl2)) := hu1
      have hu6 := XT.dp_sz (XT.mk op2 nm3 xn2 wd2 v2 xa2 xc2 xl2)
      have hcx := refsizeX_any (XT.mk op2 nm3 xn2 wd2 v2 xa2 xc2 xl2) (by omega) n0 _ hni hp5
      obtain ⟨F0, hF0⟩ : ∃ E, XT.sz (XT.mk op2 nm3 xn2 wd2 v2 xa2 xc2 xl2) = E := ⟨_, rfl⟩
      rw [hF0] at hcx hu1
      have HU : Hid (Bs + PT.szL (tl2.take (j + 1)) = Bs + (Sp + (1 + F0))) := Lib.hid (by rw [hu1, hSp] <;> omega)
      have hSp2 : Sp ≤ 6000000 := by omega
      have hF2 : F0 ≤ 6000000 := by omega
      simp only [XT.val, XT.cells] at hcx
      have HJ := Lib.hid (And.intro hSp (And.intro hgy (And.intro hF0 (And.intro hu1 (And.intro hu4 hj)))))
      have hjg : ∀ g2, gk = g2 + 1 → j + 1 + g2 = tl2.length := fun g2 h => by omega
      have z2 : _ := hr5 2 _ rfl
      have z3 : _ := hr5 3 _ rfl
      have z4 : _ := hr5 4 _ rfl
      have z5 : _ := hr5 5 _ rfl
      have z6 : _ := hr5 6 _ rfl
      have z7 : _ := hr5 7 _ rfl
      cases gk with
      | zero => omega
      | succ hh =>
       have hjh := hjg hh rfl
       clear hr5 hx5 hgy hu1 hu2 hu3 hu4 hu5 hu6 hSp hF0 hp5 i1 hjg hj
       go_wp2_with fail
       refine hcx.mono ?_
       clear hcx
       rintro e W1 ⟨rfl, hbb⟩
       have hbj := hbi.trans (hbb.mono hbi.size)
       go_wp2
       all_goals
        go_roundg hh
        case rel => exact ⟨j + 1, by simp; first | done | rfl | omega, hjh, by rw [HU.out]; congr 1; first | done | rfl | omega | (simp; omega), hbj⟩
        case measure => omega
     ·have e1 : decide (j < tl2.length) = false := by simpa using hltj
      have e2 : decide ((j : Int) < (tl2.length : Int)) = false := by rw [decide_eq_false_iff_not]; omega
      have HE2 : Hid ((Bs + PT.szL (tl2.take j)) = MT.szL (ml.take (k + 1))) := Lib.hid (by rw [HT.out, show j = tl2.length by omega, List.take_length])
      rw [HE2.out]
      have hkk : k + 1 + gg = ml.length := by omega
      clear HE2 HT hltj hj
      go_wp2
      go_roundg gg
      case rel => exact ⟨k + 1, by simp; first | done | rfl | omega, hkk, rfl, hb4⟩
      case measure => omega
  ·have d1 : decide (k < ml.length) = false := by simpa using hlt
   have d2 : decide ((k : Int) < (ml.length : Int)) = false := by rw [decide_eq_false_iff_not]; omega
   have HE : Hid (MT.szL (ml.take k) = R) := Lib.hid (by rw [show k = ml.length by omega, List.take_length]; exact HR.out)
   rw [HE.out]
   clear hlt
   go_wp2
   go_ret
   exact ⟨rfl, hbw⟩
end Go.Proofs.YtiipjbafdhijlaaGreatDoor
namespace Go.Proofs.YtiipjbafdhijlaaGreatDoor
open Go Go.RowKit
set_option linter.unusedVariables false
set_option linter.unusedSimpArgs false
open Go.Sort
set_option maxHeartbeats 16000000 in
set_option maxRecDepth 9000000 in
theorem refdeep_any (x : FT) (hsz : x.sz ≤ 5400000) (n0 : Nat) (w : World) (hn0 : n0 ≤ w.heap.size) (hx : x.In n0 w) : Calls Tryz.prog 29 #[x.val] w fun e w' => e = .returned (.int .i64 (x.dp : Int)) ∧ Below w.heap.size w w' := by
 obtain ⟨ma, mc, ml⟩ := x
 have hsz2 : MT.szL ml ≤ 5400000 := hsz
 have hin : InRow 4 MT.cells (MT.In n0 w) n0 w ml ma := hx
 have hll := MT.szL_len ml
 have HV : Hid (FT.dp ⟨ma, mc, ml⟩ = MT.dpL ml) := Lib.hid rfl
 rw [HV.out]
 obtain ⟨R, hR⟩ : ∃ R, MT.dpL ml = R := ⟨_, rfl⟩
 have HR := Lib.hid hR
 rw [hR]
 simp only [FT.val, FT.cells]
 clear hR hx hsz
 have BF : (w.alloc (.cells #[.slice ma ml.length mc] 24)).heap[w.heap.size]? = some (.cells #[.slice ma ml.length mc] 24) := World.alloc_heap_new w _
 have hB : Below w.heap.size w (w.alloc (.cells #[.slice ma ml.length mc] 24)) := (Below.refl _ _).alloc (Nat.le_refl _) _
 go_enter Tryz.func29, Tryz.ntmps29
 go_wp2
 generalize w.alloc (.cells #[.slice ma ml.length mc] 24) = w1 at *
 go_loopg [3, 4] ml.length (fun g v u wr => ∃ k : Nat, u = .int .i64 k ∧ k + g = ml.length ∧ v = .int .i64 ((MT.dpL (ml.take k) : Nat) : Int) ∧ Below w1.heap.size w1 wr)
 case atStart => exact ⟨0, rfl, by omega, rfl, Below.refl _ _⟩
 case round =>
  obtain ⟨k, rfl, hk, rfl, hb0⟩ := hrel
  have hbw := hB.trans (hb0.mono hB.size)
  have BFr := block_kept BF hb0
  have f0 := (cell_of_box_1 BFr).1
  by_cases hlt : k < ml.length
  ·have d1 : decide (k < ml.length) = true := by simpa using hlt
   have d2 : decide ((k : Int) < (ml.length : Int)) = true := by rw [decide_eq_true_eq]; omega
   have x1 : (k : Int) < (ml.length : Int) := by omega
   obtain ⟨b, o, rfl, hb, hr, hx⟩ := hin.kept (Below.keptTo hbw hn0) hlt
   have hxw := MT.In.keep (Below.keptTo hbw hn0) _ hx
   have ht1 := MT.dpL_take ml k hlt
   have ht2 := MT.szL_take_le ml k
   have ht3 := MT.szL_take_le ml (k + 1)
   have ht4 := MT.szL_take ml k hlt
   have ht5 := MT.dpL_sz (ml.take k)
   have zz := hbw.size
   have hnr : n0 ≤ wr.heap.size := by omega
   obtain ⟨Sm, hS⟩ : ∃ S, MT.dpL (ml.take k) = S := ⟨_, rfl⟩
   rw [hS]
   generalize hgx : ml[k] = x at *
   obtain ⟨nm2, pa2, pc2, pl2, ta2, tc2, tl2, ia2, ic2, il2⟩ := x
   obtain ⟨i0, i1, i2⟩ : InRow 7 BT.cells (BT.In n0 wr) n0 wr pl2 pa2 ∧ InRow 8 PT.cells (PT.In n0 wr) n0 wr tl2 ta2 ∧ InRow 9 IT.cells (IT.In n0 wr) n0 wr il2 ia2 := hxw
   obtain ⟨E0, hE0⟩ : ∃ E, BT.dpL pl2 = E := ⟨_, rfl⟩
   obtain ⟨E1, hE1⟩ : ∃ E, IT.dpL il2 = E := ⟨_, rfl⟩
   obtain ⟨E2, hE2⟩ : ∃ E, PT.dpL tl2 = E := ⟨_, rfl⟩
   have hds0 := BT.dpL_sz pl2
   have hds1 := IT.dpL_sz il2
   have hds2 := PT.dpL_sz tl2
   have htl := PT.szL_len tl2
   simp only [MT.sz, MT.dp] at ht1 ht4
   obtain ⟨Bs, hBs⟩ : ∃ Bs, max Sm (1 + max E0 E1) = Bs := ⟨_, rfl⟩
   have HT : Hid (MT.dpL (ml.take (k + 1)) = max Bs (1 + PT.dpL tl2)) := Lib.hid (by rw [ht1, hS, hE0, hE1, hE2] <;> omega)
   have hS2 : Sm ≤ 6000000 := by omega
   have hBs2 : Bs ≤ 21000000 := by omega
   have HBS := Lib.hid hBs
   clear hBs
   have hb0E : E0 ≤ 6000000 := by omega
   have hb1E : E1 ≤ 6000000 := by omega
   have htz : PT.szL tl2 ≤ 5400000 := by omega
   have r0 : wr.cell? ⟨b, o + k * 4, none⟩ = some (.string (bs nm2)) := hr 0 _ rfl
   have r1 : wr.cell? ⟨b, o + k * 4 + 1, none⟩ = some (.slice pa2 pl2.length pc2) := hr 1 _ rfl
   have r2 : wr.cell? ⟨b, o + k * 4 + 2, none⟩ = some (.slice ta2 tl2.length tc2) := hr 2 _ rfl
   have r3 : wr.cell? ⟨b, o + k * 4 + 3, none⟩ = some (.slice ia2 il2.length ic2) := hr 3 _ rfl
   have f0A := cell_alloc_1 (.cells #[.string (bs nm2), .slice pa2 pl2.length pc2, .slice ta2 tl2.length tc2, .slice ia2 il2.length ic2] 39) f0
   go_upto_region 6 with (fail)
   have BX : (wr.alloc (.cells #[.string (bs nm2), .slice pa2 pl2.length pc2, .slice ta2 tl2.length tc2, .slice ia2 il2.length ic2] 39)).heap[wr.heap.size]? = some (.cells #[.string (bs nm2), .slice pa2 pl2.length pc2, .slice ta2 tl2.length tc2, .slice ia2 il2.length ic2] 39) := World.alloc_heap_new wr _
   have kk : Below wr.heap.size wr (wr.alloc (.cells #[.string (bs nm2), .slice pa2 pl2.length pc2, .slice ta2 tl2.length tc2, .slice ia2 il2.length ic2] 39)) := (Below.refl _ _).alloc (Nat.le_refl _) _
   have hb1 := hb0.trans (kk.mono hb0.size)
   have hk8 := Below.keptTo kk hnr
   replace i0 := i0.keep hk8 (fun x _ => BT.In.keep hk8 x)
   replace i1 := i1.keep hk8 (fun x _ => PT.In.keep hk8 x)
   replace i2 := i2.keep hk8 (fun x _ => IT.In.keep hk8 x)
   replace hnr : n0 ≤ (wr.alloc (.cells #[.string (bs nm2), .slice pa2 pl2.length pc2, .slice ta2 tl2.length tc2, .slice ia2 il2.length ic2] 39)).heap.size := Nat.le_trans hnr kk.size
   clear hk8 kk r0 r1 r2 r3 f0 f0A BFr
   generalize wr.alloc (.cells #[.string (bs nm2), .slice pa2 pl2.length pc2, .slice ta2 tl2.length tc2, .slice ia2 il2.length ic2] 39) = w2 at *
   obtain ⟨r0, r1, r2, r3⟩ := open4 BX
   have bq := fun (dq : Nat) (os : Array Obj) => below_regrown w2 dq os
   have q0 := fun (dq : Nat) (os : Array Obj) => refdeepB_of n0 pl2 (by omega) pa2 pc2 (grow (redrawn w2 dq) os) (Nat.le_trans hnr (bq dq os).size) (i0.keep (Below.keptTo (bq dq os) hnr) (fun x _ => BT.In.keep (Below.keptTo (bq dq os) hnr) x))
   have q1 := fun (dq : Nat) (os : Array Obj) => refdeepI_any il2 (by omega) ia2 ic2 n0 (grow (redrawn w2 dq) os) (Nat.le_trans hnr (bq dq os).size) (i2.keep (Below.keptTo (bq dq os) hnr) (fun x _ => IT.In.keep (Below.keptTo (bq dq os) hnr) x))
   simp only [hE0] at q0
   simp only [hE1] at q1
   have Q0 := Lib.hid q0
   have Q1 := Lib.hid q1
   have HH := Lib.hid (And.intro hS (And.intro hgx (And.intro ht1 (And.intro ht4 hE2))))
   have r0R := cell_regrown r0
   have r1R := cell_regrown r1
   have r2R := cell_regrown r2
   have r3R := cell_regrown r3
   clear bq hr hx hgx ht1 ht2 ht3 ht4 ht5 hS hE0 hE1 hE2 q0 q1 i0 i2 hds0 hds1 hds2
   cases gk with
   | zero => omega
   | succ gg =>
    refine wp_region_quiet_below (by kernel_rfl) (by kernel_rfl) ?_
    repeat (go_big_quiet_step (first | (go_at_call 49; exact Calls.regrown_of (Q0.out _ _)) | (go_at_call 50; exact Calls.regrown_of (Q1.out _ _))))
    refine wpQuiet_nil ?_
    intro _ hw'
    obtain ⟨⟨dq, osq⟩, hw''⟩ := hw'
    subst hw''
    have hbq := below_regrown w2 dq osq
    have hb2 := hb1.trans (hbq.mono hb1.size)
    have BX3 := block_kept BX hbq
    have hk9 := Below.keptTo hbq hnr
    replace i1 := i1.keep hk9 (fun x _ => PT.In.keep hk9 x)
    replace hnr := Nat.le_trans hnr hbq.size
    clear r0R r1R r2R r3R r0 r1 r2 r3 BX hbq hk9 Q0 Q1
    generalize grow (redrawn w2 dq) osq = w3 at *
    go_wp2
    go_loopg [3, 6] tl2.length (fun g v u wx => ∃ j : Nat, u = .int .i64 j ∧ j + g = tl2.length ∧ v = .int .i64 ((max Bs (1 + PT.dpL (tl2.take j)) : Nat) : Int) ∧ Below w3.heap.size w3 wx)
    case atStart => exact ⟨0, rfl, by omega, by have := HBS.out; simp only [List.take_zero, PT.dpL]; congr 1; omega, Below.refl _ _⟩
    case round =>
     obtain ⟨j, rfl, hj, rfl, hbi⟩ := hrel
     have BXr := block_kept BX3 hbi
     obtain ⟨r0, r1, r2, r3⟩ := open4 BXr
     have hb4 := hb2.trans (hbi.mono hb2.size)
     by_cases hltj : j < tl2.length
     ·have e1 : decide (j < tl2.length) = true := by simpa using hltj
      have e2 : decide ((j : Int) < (tl2.length : Int)) = true := by rw [decide_eq_true_eq]; omega
      have y1 : (j : Int) < (tl2.length : Int) := by omega
      obtain ⟨b5, o5, rfl, hb5, hr5, hx5⟩ := i1.kept (Below.keptTo hbi hnr) hltj
      have hp5 : XT.In n0 _ tl2[j].x := XT.In.keep (Below.keptTo hbi hnr) _ hx5
      have hu1 := PT.dpL_take tl2 j hltj
      have hu2 := PT.szL_take_le tl2 j
      have hu3 := PT.szL_take_le tl2 (j + 1)
      have hu4 := PT.szL_take tl2 j hltj
      have hu5 := PT.dpL_sz (tl2.take j)
      have hni := Nat.le_trans hnr hbi.size
      obtain ⟨Sp, hSp⟩ : ∃ S, PT.dpL (tl2.take j) = S := ⟨_, rfl⟩
      rw [hSp]
      generalize hgy : tl2[j] = y at *
      obtain ⟨bn2, po2, x5⟩ := y
      obtain ⟨op2, nm3, xn2, wd2, v2, xa2, xc2, xl2⟩ := x5
      replace hu4 : PT.szL (tl2.take (j + 1)) = PT.szL (tl2.take j) + (1 + XT.sz (XT.mk op2 nm3 xn2 wd2 v2 xa2 xc2 xl2)) := hu4
      replace hu1 : PT.dpL (tl2.take (j + 1)) = max (PT.dpL (tl2.take j)) (1 + XT.dp (XT.mk op2 nm3 xn2 wd2 v2 xa2 xc2 xl2)) := hu1
      have hu6 := XT.dp_sz (XT.mk op2 nm3 xn2 wd2 v2 xa2 xc2 xl2)
      have hcx := refdeepX_any (XT.mk op2 nm3 xn2 wd2 v2 xa2 xc2 xl2) (by omega) n0 _ hni hp5
      obtain ⟨F0, hF0⟩ : ∃ E, XT.dp (XT.mk op2 nm3 xn2 wd2 v2 xa2 xc2 xl2) = E := ⟨_, rfl⟩
      rw [hF0] at hcx hu1
      have HU : Hid (max Bs (1 + PT.dpL (tl2.take (j + 1))) = max (max Bs (1 + Sp)) (2 + F0)) := Lib.hid (by rw [hu1, hSp] <;> omega)
      have hSp2 : Sp ≤ 6000000 := by omega
      have hF2 : F0 ≤ 6000000 := by omega
      simp only [XT.val, XT.cells] at hcx
      have HJ := Lib.hid (And.intro hSp (And.intro hgy (And.intro hF0 (And.intro hu1 (And.intro hu4 hj)))))
      have hjg : ∀ g2, gk = g2 + 1 → j + 1 + g2 = tl2.length := fun g2 h => by omega
      have z2 : _ := hr5 2 _ rfl
      have z3 : _ := hr5 3 _ rfl
      have z4 : _ := hr5 4 _ rfl
      have z5 : _ := hr5 5 _ rfl
      have z6 : _ := hr5 6 _ rfl
      have z7 : _ := hr5 7 _ rfl
      cases gk with
      | zero => omega
      | succ hh =>
       have hjh := hjg hh rfl
       clear hr5 hx5 hgy hu1 hu2 hu3 hu4 hu5 hu6 hSp hF0 hp5 i1 hjg hj
       go_wp2_with fail
       refine hcx.mono ?_
       clear hcx
       rintro e W1 ⟨rfl, hbb⟩
       have hbj := hbi.trans (hbb.mono hbi.size)
       go_wp2
       all_goals
        go_roundg hh
        case rel => exact ⟨j + 1, by simp; first | done | rfl | omega, hjh, by rw [HU.out]; congr 1; first | done | rfl | omega | (simp; omega), hbj⟩
        case measure => omega
     ·have e1 : decide (j < tl2.length) = false := by simpa using hltj
      have e2 : decide ((j : Int) < (tl2.length : Int)) = false := by rw [decide_eq_false_iff_not]; omega
      have HE2 : Hid ((max Bs (1 + PT.dpL (tl2.take j))) = MT.dpL (ml.take (k + 1))) := Lib.hid (by rw [HT.out, show j = tl2.length by omega, List.take_length])
      rw [HE2.out]
      have hkk : k + 1 + gg = ml.length := by omega
      clear HE2 HT hltj hj
      go_wp2
      go_roundg gg
      case rel => exact ⟨k + 1, by simp; first | done | rfl | omega, hkk, rfl, hb4⟩
      case measure => omega
  ·have d1 : decide (k < ml.length) = false := by simpa using hlt
   have d2 : decide ((k : Int) < (ml.length : Int)) = false := by rw [decide_eq_false_iff_not]; omega
   have HE : Hid (MT.dpL (ml.take k) = R) := Lib.hid (by rw [show k = ml.length by omega, List.take_length]; exact HR.out)
   rw [HE.out]
   clear hlt
   go_wp2
   go_ret
   exact ⟨rfl, hbw⟩
end Go.Proofs.YtiipjbafdhijlaaGreatDoor
