/-
  The reference: how many nodes statements, binds, items have, and how deep they are.
-/
import Derived.Test.YtlbjmnakiflfpaaGreatDoorAsU
import Derived.Test.YtlbjmnakiflfpaaGreatDoorAsQ
import Derived.Lib.QuietBelow
import Derived.BigQuiet
namespace Go.Proofs.YtlbjmnakiflfpaaGreatDoor
open Go Go.RowKit
set_option linter.unusedVariables false
set_option linter.unusedSimpArgs false
open Go.Sort
theorem ST.szL_take (l : List ST) (k : Nat) (h : k < l.length) : ST.szL (l.take (k + 1)) = ST.szL (l.take k) + l[k].sz := by
  rw [List.take_succ_eq_append_getElem h, ST.szL_app]; simp [ST.szL]
theorem ST.dpL_take (l : List ST) (k : Nat) (h : k < l.length) : ST.dpL (l.take (k + 1)) = max (ST.dpL (l.take k)) l[k].dp := by
  rw [List.take_succ_eq_append_getElem h, ST.dpL_app]; simp [ST.dpL]
theorem ST.szL_take_le (l : List ST) (k : Nat) : ST.szL (l.take k) ≤ ST.szL l := by
  have h := ST.szL_app (l.take k) (l.drop k)
  rw [List.take_append_drop] at h
  omega
theorem BT.szL_take (l : List BT) (k : Nat) (h : k < l.length) : BT.szL (l.take (k + 1)) = BT.szL (l.take k) + l[k].sz := by
  rw [List.take_succ_eq_append_getElem h, BT.szL_app]; simp [BT.szL]
theorem BT.dpL_take (l : List BT) (k : Nat) (h : k < l.length) : BT.dpL (l.take (k + 1)) = max (BT.dpL (l.take k)) l[k].dp := by
  rw [List.take_succ_eq_append_getElem h, BT.dpL_app]; simp [BT.dpL]
theorem BT.szL_take_le (l : List BT) (k : Nat) : BT.szL (l.take k) ≤ BT.szL l := by
  have h := BT.szL_app (l.take k) (l.drop k)
  rw [List.take_append_drop] at h
  omega
theorem PT.szL_take (l : List PT) (k : Nat) (h : k < l.length) : PT.szL (l.take (k + 1)) = PT.szL (l.take k) + l[k].sz := by
  rw [List.take_succ_eq_append_getElem h, PT.szL_app]; simp [PT.szL]
theorem PT.dpL_take (l : List PT) (k : Nat) (h : k < l.length) : PT.dpL (l.take (k + 1)) = max (PT.dpL (l.take k)) l[k].dp := by
  rw [List.take_succ_eq_append_getElem h, PT.dpL_app]; simp [PT.dpL]
theorem PT.szL_take_le (l : List PT) (k : Nat) : PT.szL (l.take k) ≤ PT.szL l := by
  have h := PT.szL_app (l.take k) (l.drop k)
  rw [List.take_append_drop] at h
  omega
theorem IT.szL_take (l : List IT) (k : Nat) (h : k < l.length) : IT.szL (l.take (k + 1)) = IT.szL (l.take k) + l[k].sz := by
  rw [List.take_succ_eq_append_getElem h, IT.szL_app]; simp [IT.szL]
theorem IT.dpL_take (l : List IT) (k : Nat) (h : k < l.length) : IT.dpL (l.take (k + 1)) = max (IT.dpL (l.take k)) l[k].dp := by
  rw [List.take_succ_eq_append_getElem h, IT.dpL_app]; simp [IT.dpL]
theorem IT.szL_take_le (l : List IT) (k : Nat) : IT.szL (l.take k) ≤ IT.szL l := by
  have h := IT.szL_app (l.take k) (l.drop k)
  rw [List.take_append_drop] at h
  omega
theorem MT.szL_take (l : List MT) (k : Nat) (h : k < l.length) : MT.szL (l.take (k + 1)) = MT.szL (l.take k) + l[k].sz := by
  rw [List.take_succ_eq_append_getElem h, MT.szL_app]; simp [MT.szL]
theorem MT.dpL_take (l : List MT) (k : Nat) (h : k < l.length) : MT.dpL (l.take (k + 1)) = max (MT.dpL (l.take k)) l[k].dp := by
  rw [List.take_succ_eq_append_getElem h, MT.dpL_app]; simp [MT.dpL]
theorem MT.szL_take_le (l : List MT) (k : Nat) : MT.szL (l.take k) ≤ MT.szL l := by
  have h := MT.szL_app (l.take k) (l.drop k)
  rw [List.take_append_drop] at h
  omega
theorem ST.dpL_of : ∀ l : List ST, (∀ x ∈ l, x.dp ≤ x.sz) → ST.dpL l ≤ ST.szL l
  | [], _ => by simp [ST.dpL]
  | x :: r, h => by have := h x (by simp); have := ST.dpL_of r (fun y hy => h y (by simp [hy])); simp only [ST.szL, ST.dpL]; omega
theorem ST.dp_sz : ∀ x : ST, x.dp ≤ x.sz := ST.ind fun op nm xa xc xl sa sc sl ih => by
  have := ST.dpL_of sl ih; have := XT.dpL_sz xl
  simp only [ST.sz, ST.dp]; omega
theorem ST.dpL_sz (l : List ST) : ST.dpL l ≤ ST.szL l := ST.dpL_of l (fun x _ => x.dp_sz)
theorem BT.dp_sz (x : BT) : x.dp ≤ x.sz := by have := x.x.dp_sz; simp only [BT.sz, BT.dp]; omega
theorem BT.dpL_sz : ∀ l : List BT, BT.dpL l ≤ BT.szL l
  | [] => by simp [BT.dpL]
  | x :: r => by have := BT.dpL_sz r; have := x.dp_sz; simp only [BT.dpL, BT.szL]; omega
theorem PT.dp_sz (x : PT) : x.dp ≤ x.sz := by have := x.x.dp_sz; simp only [PT.sz, PT.dp]; omega
theorem PT.dpL_sz : ∀ l : List PT, PT.dpL l ≤ PT.szL l
  | [] => by simp [PT.dpL]
  | x :: r => by have := PT.dpL_sz r; have := x.dp_sz; simp only [PT.dpL, PT.szL]; omega
theorem IT.dpL_of : ∀ l : List IT, (∀ x ∈ l, x.dp ≤ x.sz) → IT.dpL l ≤ IT.szL l
  | [], _ => by simp [IT.dpL]
  | x :: r, h => by have := h x (by simp); have := IT.dpL_of r (fun y hy => h y (by simp [hy])); simp only [IT.szL, IT.dpL]; omega
theorem IT.dp_sz : ∀ x : IT, x.dp ≤ x.sz := IT.ind fun op nm nf xa xc xl sa sc sl la lc ll ea ec el pa pc pl ba bc bl ih0 ih1 => by
  have := IT.dpL_of ll ih0; have := IT.dpL_of el ih1; have := XT.dpL_sz xl; have := ST.dpL_sz sl; have := BT.dpL_sz pl; have := BT.dpL_sz bl
  simp only [IT.sz, IT.dp]; omega
theorem IT.dpL_sz (l : List IT) : IT.dpL l ≤ IT.szL l := IT.dpL_of l (fun x _ => x.dp_sz)
theorem MT.dp_sz (x : MT) : x.dp ≤ x.sz := by have := BT.dpL_sz x.pl; have := PT.dpL_sz x.tl; have := IT.dpL_sz x.il; simp only [MT.sz, MT.dp]; omega
theorem MT.dpL_sz : ∀ l : List MT, MT.dpL l ≤ MT.szL l
  | [] => by simp [MT.dpL]
  | x :: r => by have := MT.dpL_sz r; have := x.dp_sz; simp only [MT.dpL, MT.szL]; omega

set_option maxHeartbeats 4000000 in
set_option maxRecDepth 3000000 in
theorem refsizeL_any (xl : List XT) (hsz2 : XT.szL xl ≤ 2000000) (xa : Option Addr) (xc : Nat) (n0 : Nat) (w : World) (hn0 : n0 ≤ w.heap.size) (hin : InRow 6 XT.cells (XT.In n0 w) n0 w xl xa) : Calls Tryz.prog 75 #[.slice xa xl.length xc] w fun e w' => e = .returned (.int .i64 (XT.szL xl : Int)) ∧ Below w.heap.size w w' := by
  have hc := fun x (hx : x ∈ xl) (w : World) h1 h2 => refsizeX_any x (by have := XT.szL_mem hx; omega) n0 w h1 h2
  have hll := XT.szL_len xl
  obtain ⟨R, hR⟩ : ∃ R, XT.szL xl = R := ⟨_, rfl⟩
  have HR := Lib.hid hR
  rw [hR]
  clear hR
  obtain ⟨w1, hw1⟩ : ∃ w1, w = w1 := ⟨_, rfl⟩
  have hB : Below w.heap.size w w1 := by rw [← hw1]; exact Below.refl _ _
  go_enter Tryz.func75, Tryz.ntmps75
  go_wp2
  subst hw1
  obtain ⟨w1, hw1⟩ : ∃ w1, w1 = w := ⟨_, rfl⟩
  rw [← hw1] at hB ⊢
  subst hw1

  go_loopw [3, 4] (fun v u wr => ∃ k : Nat, u = .int .i64 k ∧ k ≤ xl.length ∧ v = .int .i64 ((XT.szL (xl.take k) : Nat) : Int) ∧ Below w1.heap.size w1 wr) (fun _ u _ => xl.length - (intOf u).toNat)
  case atStart => exact ⟨0, rfl, Nat.zero_le _, rfl, Below.refl _ _⟩
  case round =>
    obtain ⟨k, rfl, hk, rfl, hb0⟩ := hrel
    have hbw := hB.trans (hb0.mono hB.size)
    by_cases hlt : k < xl.length
    · have d1 : decide (k < xl.length) = true := by simpa using hlt
      have d2 : decide ((k : Int) < (xl.length : Int)) = true := by rw [decide_eq_true_eq]; omega
      have x1 : (k : Int) < (xl.length : Int) := by omega
      obtain ⟨b, o, rfl, hb, hr, hx⟩ := hin.kept (Below.keptTo hbw hn0) hlt
      have ht1 := XT.szL_take xl k hlt
      have ht2 := XT.szL_take_le xl k
      have ht3 := XT.szL_take_le xl (k + 1)
      have ht4 := XT.szL_take xl k hlt
      have ht5 := XT.dpL_sz (xl.take k)
      have ht6 := (xl[k]).dp_sz
      have hcx := hc xl[k] (List.getElem_mem hlt) wr (by have := hbw.size; omega) (hx.keep (Below.keptTo hbw hn0))
      have zz := hbw.size
      obtain ⟨S, hS⟩ : ∃ S, XT.szL (xl.take k) = S := ⟨_, rfl⟩
      obtain ⟨E, hE⟩ : ∃ E, xl[k].sz = E := ⟨_, rfl⟩
      have HT : Hid (XT.szL (xl.take (k + 1)) = S + E) := Lib.hid (by rw [ht1, ← hS, ← hE])
      have hS2 : S ≤ 4000000 := by omega
      have hE2 : E ≤ 4000000 := by omega
      rw [hS]
      rw [hE] at hcx
      generalize hgx : xl[k] = x at *
      obtain ⟨op2, nm2, xn2, wd2, v2, xa2, xc2, xl2⟩ := x
      have r0 : wr.cell? ⟨b, o + k * 6, none⟩ = some (.int .i64 op2) := hr 0 _ rfl
      have r1 : wr.cell? ⟨b, o + k * 6 + 1, none⟩ = some (.string (bs nm2)) := hr 1 _ rfl
      have r2 : wr.cell? ⟨b, o + k * 6 + 2, none⟩ = some (.int .i64 xn2) := hr 2 _ rfl
      have r3 : wr.cell? ⟨b, o + k * 6 + 3, none⟩ = some (.int .i64 wd2) := hr 3 _ rfl
      have r4 : wr.cell? ⟨b, o + k * 6 + 4, none⟩ = some (.int .u64 (v2 : Int)) := hr 4 _ rfl
      have r5 : wr.cell? ⟨b, o + k * 6 + 5, none⟩ = some (.slice xa2 xl2.length xc2) := hr 5 _ rfl
      simp only [XT.val, XT.cells] at hcx
      have HH := Lib.hid (And.intro hS hE)
      clear hin hc hr hx hgx ht1 ht2 ht3 ht4 ht5 ht6 hS hE
      go_wp2_with fail
      refine hcx.mono ?_
      clear hcx
      rintro e W1 ⟨rfl, hb1⟩
      have hb2 := hb0.trans (hb1.mono hb0.size)
      go_wp2
      go_roundw
      case rel => exact ⟨k + 1, by simp; first | done | rfl | omega, by omega, by rw [HT.out]; simp; first | done | rfl | omega, hb2⟩
      case measure => simp [intOf]; omega
    · have d1 : decide (k < xl.length) = false := by simpa using hlt
      have d2 : decide ((k : Int) < (xl.length : Int)) = false := by rw [decide_eq_false_iff_not]; omega
      have HE : Hid (XT.szL (xl.take k) = R) := Lib.hid (by rw [show k = xl.length by omega, List.take_length]; exact HR.out)
      rw [HE.out]
      clear hlt
      go_wp2
      go_ret
      exact ⟨rfl, hbw⟩

theorem refdeepL_any (xl : List XT) (hsz2 : XT.szL xl ≤ 1900000) (xa : Option Addr) (xc : Nat) (n0 : Nat) (w : World) (hn0 : n0 ≤ w.heap.size) (hin : InRow 6 XT.cells (XT.In n0 w) n0 w xl xa) : Calls Tryz.prog 74 #[.slice xa xl.length xc] w fun e w' => e = .returned (.int .i64 (XT.dpL xl : Int)) ∧ Below w.heap.size w w' :=
  refdeepL_of n0 xl (by omega) (fun x hx w' h1 h2 => refdeepX_any x (by have := XT.szL_mem hx; omega) n0 w' h1 h2) xa xc w hn0 hin

set_option maxHeartbeats 8000000 in
set_option maxRecDepth 3000000 in
theorem refsizeB_of (n0 : Nat) (l : List BT) (hsz2 : BT.szL l ≤ 2000000) (la0 : Option Addr) (lc0 : Nat) (w : World) (hn0 : n0 ≤ w.heap.size) (hin : InRow 7 BT.cells (BT.In n0 w) n0 w l la0) : Calls Tryz.prog 97 #[.slice la0 l.length lc0] w fun e w' => e = .returned (.int .i64 (BT.szL l : Int)) ∧ Below w.heap.size w w' := by
  have hll := BT.szL_len l
  obtain ⟨R, hR⟩ : ∃ R, BT.szL l = R := ⟨_, rfl⟩
  have HR := Lib.hid hR
  rw [hR]
  clear hR
  obtain ⟨w1, hw1⟩ : ∃ w1, w = w1 := ⟨_, rfl⟩
  have hB : Below w.heap.size w w1 := by rw [← hw1]; exact Below.refl _ _
  go_enter Tryz.func97, Tryz.ntmps97
  go_wp2
  subst hw1
  obtain ⟨w1, hw1⟩ : ∃ w1, w1 = w := ⟨_, rfl⟩
  rw [← hw1] at hB ⊢
  subst hw1

  go_loopw [3, 4] (fun v u wr => ∃ k : Nat, u = .int .i64 k ∧ k ≤ l.length ∧ v = .int .i64 ((BT.szL (l.take k) : Nat) : Int) ∧ Below w1.heap.size w1 wr) (fun _ u _ => l.length - (intOf u).toNat)
  case atStart => exact ⟨0, rfl, Nat.zero_le _, rfl, Below.refl _ _⟩
  case round =>
    obtain ⟨k, rfl, hk, rfl, hb0⟩ := hrel
    have hbw := hB.trans (hb0.mono hB.size)
    by_cases hlt : k < l.length
    · have d1 : decide (k < l.length) = true := by simpa using hlt
      have d2 : decide ((k : Int) < (l.length : Int)) = true := by rw [decide_eq_true_eq]; omega
      have x1 : (k : Int) < (l.length : Int) := by omega
      obtain ⟨b, o, rfl, hb, hr, hx⟩ := hin.kept (Below.keptTo hbw hn0) hlt
      have hxw := BT.In.keep (Below.keptTo hbw hn0) _ hx
      have ht1 := BT.szL_take l k hlt
      have ht2 := BT.szL_take_le l k
      have ht3 := BT.szL_take_le l (k + 1)
      have ht4 := BT.szL_take l k hlt
      have ht5 := BT.dpL_sz (l.take k)
      have hmem := List.getElem_mem hlt
      have zz := hbw.size
      have hnr : n0 ≤ wr.heap.size := by omega
      obtain ⟨Sm, hS⟩ : ∃ S, BT.szL (l.take k) = S := ⟨_, rfl⟩
      rw [hS]
      generalize hgx : l[k] = x at *
      obtain ⟨bn2, ⟨op2, nm2, xn2, wd2, v2, xa2, xc2, xl2⟩⟩ := x
      have i0 : XT.In n0 wr _ := hxw
      obtain ⟨E0, hE0⟩ : ∃ E, XT.sz (.mk op2 nm2 xn2 wd2 v2 xa2 xc2 xl2) = E := ⟨_, rfl⟩
      replace ht4 : BT.szL (l.take (k + 1)) = BT.szL (l.take k) + (1 + XT.sz (XT.mk op2 nm2 xn2 wd2 v2 xa2 xc2 xl2)) := ht4
      replace ht1 : BT.szL (l.take (k + 1)) = BT.szL (l.take k) + (1 + XT.sz (XT.mk op2 nm2 xn2 wd2 v2 xa2 xc2 xl2)) := ht1
      have HT : Hid (BT.szL (l.take (k + 1)) = Sm + (1 + E0)) := Lib.hid (by rw [ht1, hS, hE0])
      have hS2 : Sm ≤ 2000000 := by omega
      have hb0E : E0 ≤ 2000000 := by omega
      have r0 : wr.cell? ⟨b, o + k * 7, none⟩ = some (.string (bs bn2)) := hr 0 _ rfl
      have r1 : wr.cell? ⟨b, o + k * 7 + 1, none⟩ = some (.int .i64 op2) := hr 1 _ rfl
      have r2 : wr.cell? ⟨b, o + k * 7 + 2, none⟩ = some (.string (bs nm2)) := hr 2 _ rfl
      have r3 : wr.cell? ⟨b, o + k * 7 + 3, none⟩ = some (.int .i64 xn2) := hr 3 _ rfl
      have r4 : wr.cell? ⟨b, o + k * 7 + 4, none⟩ = some (.int .i64 wd2) := hr 4 _ rfl
      have r5 : wr.cell? ⟨b, o + k * 7 + 5, none⟩ = some (.int .u64 (v2 : Int)) := hr 5 _ rfl
      have r6 : wr.cell? ⟨b, o + k * 7 + 6, none⟩ = some (.slice xa2 xl2.length xc2) := hr 6 _ rfl
      have hb1 := hb0
      have q0 := refsizeX_any (.mk op2 nm2 xn2 wd2 v2 xa2 xc2 xl2) (by omega) n0 (wr) (hnr) (i0)
      simp only [hE0] at q0
      simp only [XT.val, XT.cells] at q0
      have HH := Lib.hid (And.intro hS (And.intro hgx (And.intro ht1 (And.intro ht4 hE0))))
      clear hin hr hx hgx ht1 ht2 ht3 ht4 ht5 hS hmem hE0 i0 hxw 
      go_wp2_with fail
      refine q0.mono ?_
      clear q0
      rintro e W1 ⟨rfl, hbb⟩
      have hb2 := hb1.trans (hbb.mono hb1.size)
      go_wp2
      all_goals
        go_roundw
        case rel => exact ⟨k + 1, by simp; first | done | rfl | omega, by omega, by rw [HT.out]; congr 1; first | done | rfl | omega | (simp; omega), hb2⟩
        case measure => simp [intOf]; omega
    · have d1 : decide (k < l.length) = false := by simpa using hlt
      have d2 : decide ((k : Int) < (l.length : Int)) = false := by rw [decide_eq_false_iff_not]; omega
      have HE : Hid (BT.szL (l.take k) = R) := Lib.hid (by rw [show k = l.length by omega, List.take_length]; exact HR.out)
      rw [HE.out]
      clear hlt
      go_wp2
      go_ret
      exact ⟨rfl, hbw⟩

set_option maxHeartbeats 8000000 in
set_option maxRecDepth 3000000 in
theorem refdeepB_of (n0 : Nat) (l : List BT) (hsz2 : BT.szL l ≤ 1900000) (la0 : Option Addr) (lc0 : Nat) (w : World) (hn0 : n0 ≤ w.heap.size) (hin : InRow 7 BT.cells (BT.In n0 w) n0 w l la0) : Calls Tryz.prog 99 #[.slice la0 l.length lc0] w fun e w' => e = .returned (.int .i64 (BT.dpL l : Int)) ∧ Below w.heap.size w w' := by
  have hll := BT.szL_len l
  obtain ⟨R, hR⟩ : ∃ R, BT.dpL l = R := ⟨_, rfl⟩
  have HR := Lib.hid hR
  rw [hR]
  clear hR
  obtain ⟨w1, hw1⟩ : ∃ w1, w = w1 := ⟨_, rfl⟩
  have hB : Below w.heap.size w w1 := by rw [← hw1]; exact Below.refl _ _
  go_enter Tryz.func99, Tryz.ntmps99
  go_wp2
  subst hw1
  obtain ⟨w1, hw1⟩ : ∃ w1, w1 = w := ⟨_, rfl⟩
  rw [← hw1] at hB ⊢
  subst hw1

  go_loopw [3, 4] (fun v u wr => ∃ k : Nat, u = .int .i64 k ∧ k ≤ l.length ∧ v = .int .i64 ((BT.dpL (l.take k) : Nat) : Int) ∧ Below w1.heap.size w1 wr) (fun _ u _ => l.length - (intOf u).toNat)
  case atStart => exact ⟨0, rfl, Nat.zero_le _, rfl, Below.refl _ _⟩
  case round =>
    obtain ⟨k, rfl, hk, rfl, hb0⟩ := hrel
    have hbw := hB.trans (hb0.mono hB.size)
    by_cases hlt : k < l.length
    · have d1 : decide (k < l.length) = true := by simpa using hlt
      have d2 : decide ((k : Int) < (l.length : Int)) = true := by rw [decide_eq_true_eq]; omega
      have x1 : (k : Int) < (l.length : Int) := by omega
      obtain ⟨b, o, rfl, hb, hr, hx⟩ := hin.kept (Below.keptTo hbw hn0) hlt
      have hxw := BT.In.keep (Below.keptTo hbw hn0) _ hx
      have ht1 := BT.dpL_take l k hlt
      have ht2 := BT.szL_take_le l k
      have ht3 := BT.szL_take_le l (k + 1)
      have ht4 := BT.szL_take l k hlt
      have ht5 := BT.dpL_sz (l.take k)
      have hmem := List.getElem_mem hlt
      have zz := hbw.size
      have hnr : n0 ≤ wr.heap.size := by omega
      obtain ⟨Sm, hS⟩ : ∃ S, BT.dpL (l.take k) = S := ⟨_, rfl⟩
      rw [hS]
      generalize hgx : l[k] = x at *
      obtain ⟨bn2, ⟨op2, nm2, xn2, wd2, v2, xa2, xc2, xl2⟩⟩ := x
      have i0 : XT.In n0 wr _ := hxw
      obtain ⟨E0, hE0⟩ : ∃ E, XT.dp (.mk op2 nm2 xn2 wd2 v2 xa2 xc2 xl2) = E := ⟨_, rfl⟩
      have hds0 := XT.dp_sz (.mk op2 nm2 xn2 wd2 v2 xa2 xc2 xl2)
      replace ht4 : BT.szL (l.take (k + 1)) = BT.szL (l.take k) + (1 + XT.sz (XT.mk op2 nm2 xn2 wd2 v2 xa2 xc2 xl2)) := ht4
      replace ht1 : BT.dpL (l.take (k + 1)) = max (BT.dpL (l.take k)) (1 + XT.dp (XT.mk op2 nm2 xn2 wd2 v2 xa2 xc2 xl2)) := ht1
      have HT : Hid (BT.dpL (l.take (k + 1)) = max Sm (1 + (E0))) := Lib.hid (by rw [ht1, hS, hE0])
      have hS2 : Sm ≤ 2000000 := by omega
      have hb0E : E0 ≤ 2000000 := by omega
      have r0 : wr.cell? ⟨b, o + k * 7, none⟩ = some (.string (bs bn2)) := hr 0 _ rfl
      have r1 : wr.cell? ⟨b, o + k * 7 + 1, none⟩ = some (.int .i64 op2) := hr 1 _ rfl
      have r2 : wr.cell? ⟨b, o + k * 7 + 2, none⟩ = some (.string (bs nm2)) := hr 2 _ rfl
      have r3 : wr.cell? ⟨b, o + k * 7 + 3, none⟩ = some (.int .i64 xn2) := hr 3 _ rfl
      have r4 : wr.cell? ⟨b, o + k * 7 + 4, none⟩ = some (.int .i64 wd2) := hr 4 _ rfl
      have r5 : wr.cell? ⟨b, o + k * 7 + 5, none⟩ = some (.int .u64 (v2 : Int)) := hr 5 _ rfl
      have r6 : wr.cell? ⟨b, o + k * 7 + 6, none⟩ = some (.slice xa2 xl2.length xc2) := hr 6 _ rfl
      have hb1 := hb0
      have q0 := refdeepX_any (.mk op2 nm2 xn2 wd2 v2 xa2 xc2 xl2) (by omega) n0 (wr) (hnr) (i0)
      simp only [hE0] at q0
      simp only [XT.val, XT.cells] at q0
      have HH := Lib.hid (And.intro hS (And.intro hgx (And.intro ht1 (And.intro ht4 hE0))))
      clear hin hr hx hgx ht1 ht2 ht3 ht4 ht5 hS hmem hE0 i0 hxw hds0
      go_wp2_with fail
      refine q0.mono ?_
      clear q0
      rintro e W1 ⟨rfl, hbb⟩
      have hb2 := hb1.trans (hbb.mono hb1.size)
      go_wp2
      all_goals
        go_roundw
        case rel => exact ⟨k + 1, by simp; first | done | rfl | omega, by omega, by rw [HT.out]; congr 1; first | done | rfl | omega | (simp; omega), hb2⟩
        case measure => simp [intOf]; omega
    · have d1 : decide (k < l.length) = false := by simpa using hlt
      have d2 : decide ((k : Int) < (l.length : Int)) = false := by rw [decide_eq_false_iff_not]; omega
      have HE : Hid (BT.dpL (l.take k) = R) := Lib.hid (by rw [show k = l.length by omega, List.take_length]; exact HR.out)
      rw [HE.out]
      clear hlt
      go_wp2
      go_ret
      exact ⟨rfl, hbw⟩
end Go.Proofs.YtlbjmnakiflfpaaGreatDoor
