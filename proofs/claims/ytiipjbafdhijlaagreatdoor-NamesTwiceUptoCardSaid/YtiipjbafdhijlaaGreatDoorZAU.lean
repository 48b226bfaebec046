/-
  AsU, in one text.
-/
import Derived.Test.YtiipjbafdhijlaaGreatDoorZAM
namespace Go.Proofs.YtiipjbafdhijlaaGreatDoor
open Go Go.RowKit
set_option linter.unusedVariables false
set_option linter.unusedSimpArgs false
open Go.Sort
theorem XT.szL_take (l : List XT) (k : Nat) (h : k < l.length) : XT.szL (l.take (k + 1)) = XT.szL (l.take k) + l[k].sz := by
 rw [List.take_succ_eq_append_getElem h, XT.szL_app]; simp [XT.szL]
theorem XT.dpL_take (l : List XT) (k : Nat) (h : k < l.length) : XT.dpL (l.take (k + 1)) = max (XT.dpL (l.take k)) l[k].dp := by
 rw [List.take_succ_eq_append_getElem h, XT.dpL_app]; simp [XT.dpL]
theorem XT.szL_take_le (l : List XT) (k : Nat) : XT.szL (l.take k) ≤ XT.szL l := by
 have h := XT.szL_app (l.take k) (l.drop k)
 rw [List.take_append_drop] at h
 omega
theorem XT.dp_sz' (x : XT) : x.dp ≤ x.sz := x.dp_sz
theorem XT.dpL_sz : ∀ l : List XT, XT.dpL l ≤ XT.szL l
 | [] => by simp [XT.dpL]
 | x :: r => by have := XT.dpL_sz r; have := x.dp_sz; simp only [XT.dpL, XT.szL]; omega
set_option maxHeartbeats 4000000 in
set_option maxRecDepth 9000000 in
theorem refsizeX_any : ∀ x : XT, x.sz ≤ 6000000 → ∀ (n0 : Nat) (w : World), n0 ≤ w.heap.size → x.In n0 w → Calls Tryz.prog 48 #[x.val] w fun e w' => e = .returned (.int .i64 (x.sz : Int)) ∧ Below w.heap.size w w' := by
 refine XT.ind ?_
 intro op nm xn wd v xa xc xl ih hsz n0 w hn00 hin0
 rw [XT.In_mk] at hin0
 have hsz2 := hsz
 simp only [XT.sz] at hsz2
 have hll := XT.szL_len xl
 have hc := fun x (hx : x ∈ xl) (w' : World) h1 h2 => ih x hx (by have := XT.szL_mem hx; omega) n0 w' h1 h2
 obtain ⟨R, hR⟩ : ∃ R, 1 + XT.szL xl = R := ⟨_, rfl⟩
 have HR := Lib.hid hR
 have HS : Hid ((XT.mk op nm xn wd v xa xc xl).sz = R) := Lib.hid (by rw [XT.sz]; exact hR)
 rw [HS.out]
 simp only [XT.val, XT.cells]
 have BX : (w.alloc (.cells #[.int .i64 op, .string (bs nm), .int .i64 xn, .int .i64 wd, .int .u64 (v : Int), .slice xa xl.length xc] 54)).heap[w.heap.size]? = some (.cells #[.int .i64 op, .string (bs nm), .int .i64 xn, .int .i64 wd, .int .u64 (v : Int), .slice xa xl.length xc] 54) := World.alloc_heap_new w _
 have hB : Below w.heap.size w (w.alloc (.cells #[.int .i64 op, .string (bs nm), .int .i64 xn, .int .i64 wd, .int .u64 (v : Int), .slice xa xl.length xc] 54)) := (Below.refl _ _).alloc (Nat.le_refl _) _
 clear ih hsz hR
 go_enter Tryz.func48, Tryz.ntmps48
 go_wp2
 have hin := hin0
 have hn0 := hn00
 clear hin0 hn00
 generalize w.alloc (.cells #[.int .i64 op, .string (bs nm), .int .i64 xn, .int .i64 wd, .int .u64 (v : Int), .slice xa xl.length xc] 54) = w1 at *
 go_loopw [3, 4] (fun v u wr => ∃ k : Nat, u = .int .i64 k ∧ k ≤ xl.length ∧ v = .int .i64 ((1 + XT.szL (xl.take k) : Nat) : Int) ∧ Below w1.heap.size w1 wr) (fun _ u _ => xl.length - (intOf u).toNat)
 case atStart => exact ⟨0, rfl, Nat.zero_le _, rfl, Below.refl _ _⟩
 case round =>
  obtain ⟨k, rfl, hk, rfl, hb0⟩ := hrel
  have hbw := hB.trans (hb0.mono hB.size)
  by_cases hlt : k < xl.length
  ·have d1 : decide (k < xl.length) = true := by simpa using hlt
   have d2 : decide ((k : Int) < (xl.length : Int)) = true := by rw [decide_eq_true_eq]; omega
   have x1 : (k : Int) < (xl.length : Int) := by omega
   obtain ⟨b, o, rfl, hb, hr, hx⟩ := hin.kept (Below.keptTo hbw hn0) hlt
   have ht1 := XT.szL_take xl k hlt
   have ht2 := XT.szL_take_le xl k
   have ht3 := XT.szL_take_le xl (k + 1)
   have ht4 := XT.szL_take xl k hlt
   have ht5 := XT.dpL_sz (xl.take k)
   have ht6 := (xl[k]).dp_sz
   have hcx := hc xl[k] (List.getElem_mem hlt) wr (by have := hbw.size; omega) (hx.keep (Below.keptTo hbw hn0))
   have BXr := block_kept BX hb0
   obtain ⟨z0, z1, z2, z3, z4, z5⟩ := open6 BXr
   have zz := hbw.size
   obtain ⟨S, hS⟩ : ∃ S, 1 + XT.szL (xl.take k) = S := ⟨_, rfl⟩
   obtain ⟨E, hE⟩ : ∃ E, xl[k].sz = E := ⟨_, rfl⟩
   have HT : Hid (1 + XT.szL (xl.take (k + 1)) = S + E) := Lib.hid (by rw [ht1, ← hS, ← hE]; omega)
   have hS2 : S ≤ 12000000 := by omega
   have hE2 : E ≤ 12000000 := by omega
   rw [hS]
   rw [hE] at hcx
   generalize hgx : xl[k] = x at *
   obtain ⟨op2, nm2, xn2, wd2, v2, xa2, xc2, xl2⟩ := x
   have r0 : wr.cell? ⟨b, o + k * 6, none⟩ = some (.int .i64 op2) := hr 0 _ rfl
   have r1 : wr.cell? ⟨b, o + k * 6 + 1, none⟩ = some (.string (bs nm2)) := hr 1 _ rfl
   have r2 : wr.cell? ⟨b, o + k * 6 + 2, none⟩ = some (.int .i64 xn2) := hr 2 _ rfl
   have r3 : wr.cell? ⟨b, o + k * 6 + 3, none⟩ = some (.int .i64 wd2) := hr 3 _ rfl
   have r4 : wr.cell? ⟨b, o + k * 6 + 4, none⟩ = some (.int .u64 (v2 : Int)) := hr 4 _ rfl
   have r5 : wr.cell? ⟨b, o + k * 6 + 5, none⟩ = some (.slice xa2 xl2.length xc2) := hr 5 _ rfl
   simp only [XT.val, XT.cells] at hcx
   have HH := Lib.hid (And.intro hS hE)
   clear hin hc hr hx hgx ht1 ht2 ht3 ht4 ht5 ht6 hS hE
   go_wp2_with fail
   refine hcx.mono ?_
   clear hcx
   rintro e W1 ⟨rfl, hb1⟩
   have hb2 := hb0.trans (hb1.mono hb0.size)
   go_wp2
   go_roundw
   case rel => exact ⟨k + 1, by simp; first | done | rfl | omega, by omega, by rw [HT.out]; simp; first | done | rfl | omega, hb2⟩
   case measure => simp [intOf]; omega
  ·have d1 : decide (k < xl.length) = false := by simpa using hlt
   have d2 : decide ((k : Int) < (xl.length : Int)) = false := by rw [decide_eq_false_iff_not]; omega
   have HE : Hid (1 + XT.szL (xl.take k) = R) := Lib.hid (by rw [show k = xl.length by omega, List.take_length]; exact HR.out)
   have BXr := block_kept BX hb0
   obtain ⟨z0, z1, z2, z3, z4, z5⟩ := open6 BXr
   rw [HE.out]
   clear hlt
   go_wp2
   go_ret
   exact ⟨rfl, hbw⟩
set_option maxHeartbeats 4000000 in
set_option maxRecDepth 9000000 in
theorem refdeepL_of (n0 : Nat) (xl : List XT) (hsz2 : 1 + XT.szL xl ≤ 6000000) (hc : ∀ x ∈ xl, ∀ w, n0 ≤ w.heap.size → x.In n0 w → Calls Tryz.prog 51 #[x.val] w fun e w' => e = .returned (.int .i64 (x.dp : Int)) ∧ Below w.heap.size w w') (xa : Option Addr) (xc : Nat) (w : World) (hn0 : n0 ≤ w.heap.size) (hin : InRow 6 XT.cells (XT.In n0 w) n0 w xl xa) : Calls Tryz.prog 76 #[.slice xa xl.length xc] w fun e w' => e = .returned (.int .i64 (XT.dpL xl : Int)) ∧ Below w.heap.size w w' := by
 have hll := XT.szL_len xl
 obtain ⟨R, hR⟩ : ∃ R, XT.dpL xl = R := ⟨_, rfl⟩
 have HR := Lib.hid hR
 rw [hR]
 clear hR
 obtain ⟨w1, hw1⟩ : ∃ w1, w = w1 := ⟨_, rfl⟩
 have hB : Below w.heap.size w w1 := by rw [← hw1]; exact Below.refl _ _
 go_enter Tryz.func76, Tryz.ntmps76
 go_wp2
 subst hw1
 obtain ⟨w1, hw1⟩ : ∃ w1, w1 = w := ⟨_, rfl⟩
 rw [← hw1] at hB ⊢
 subst hw1
 go_loopw [3, 4] (fun v u wr => ∃ k : Nat, u = .int .i64 k ∧ k ≤ xl.length ∧ v = .int .i64 ((XT.dpL (xl.take k) : Nat) : Int) ∧ Below w1.heap.size w1 wr) (fun _ u _ => xl.length - (intOf u).toNat)
 case atStart => exact ⟨0, rfl, Nat.zero_le _, rfl, Below.refl _ _⟩
 case round =>
  obtain ⟨k, rfl, hk, rfl, hb0⟩ := hrel
  have hbw := hB.trans (hb0.mono hB.size)
  by_cases hlt : k < xl.length
  ·have d1 : decide (k < xl.length) = true := by simpa using hlt
   have d2 : decide ((k : Int) < (xl.length : Int)) = true := by rw [decide_eq_true_eq]; omega
   have x1 : (k : Int) < (xl.length : Int) := by omega
   obtain ⟨b, o, rfl, hb, hr, hx⟩ := hin.kept (Below.keptTo hbw hn0) hlt
   have ht1 := XT.dpL_take xl k hlt
   have ht2 := XT.szL_take_le xl k
   have ht3 := XT.szL_take_le xl (k + 1)
   have ht4 := XT.szL_take xl k hlt
   have ht5 := XT.dpL_sz (xl.take k)
   have ht6 := (xl[k]).dp_sz
   have hcx := hc xl[k] (List.getElem_mem hlt) wr (by have := hbw.size; omega) (hx.keep (Below.keptTo hbw hn0))
   have zz := hbw.size
   obtain ⟨S, hS⟩ : ∃ S, XT.dpL (xl.take k) = S := ⟨_, rfl⟩
   obtain ⟨E, hE⟩ : ∃ E, xl[k].dp = E := ⟨_, rfl⟩
   have HT : Hid (XT.dpL (xl.take (k + 1)) = max S E) := Lib.hid (by rw [ht1, ← hS, ← hE])
   have hS2 : S ≤ 12000000 := by omega
   have hE2 : E ≤ 12000000 := by omega
   rw [hS]
   rw [hE] at hcx
   generalize hgx : xl[k] = x at *
   obtain ⟨op2, nm2, xn2, wd2, v2, xa2, xc2, xl2⟩ := x
   have r0 : wr.cell? ⟨b, o + k * 6, none⟩ = some (.int .i64 op2) := hr 0 _ rfl
   have r1 : wr.cell? ⟨b, o + k * 6 + 1, none⟩ = some (.string (bs nm2)) := hr 1 _ rfl
   have r2 : wr.cell? ⟨b, o + k * 6 + 2, none⟩ = some (.int .i64 xn2) := hr 2 _ rfl
   have r3 : wr.cell? ⟨b, o + k * 6 + 3, none⟩ = some (.int .i64 wd2) := hr 3 _ rfl
   have r4 : wr.cell? ⟨b, o + k * 6 + 4, none⟩ = some (.int .u64 (v2 : Int)) := hr 4 _ rfl
   have r5 : wr.cell? ⟨b, o + k * 6 + 5, none⟩ = some (.slice xa2 xl2.length xc2) := hr 5 _ rfl
   simp only [XT.val, XT.cells] at hcx
   have HH := Lib.hid (And.intro hS hE)
   clear hin hc hr hx hgx ht1 ht2 ht3 ht4 ht5 ht6 hS hE
   go_wp2_with fail
   refine hcx.mono ?_
   clear hcx
   rintro e W1 ⟨rfl, hb1⟩
   have hb2 := hb0.trans (hb1.mono hb0.size)
   by_cases hse : S ≤ E
   ·have m1 : max S E = E := by omega
    have q1 : decide ((S : Int) < (E : Int)) = decide (S < E) := by congr 1; simp
    have HM := Lib.hid m1
    clear m1 q1
    go_wp2
    all_goals
     go_roundw
     case rel => exact ⟨k + 1, by simp; first | done | rfl | omega, by omega, by rw [HT.out]; congr 1; omega, hb2⟩
     case measure => simp [intOf]; omega
   ·go_wp2
    all_goals
     go_roundw
     case rel => exact ⟨k + 1, by simp; first | done | rfl | omega, by omega, by rw [HT.out]; congr 1; omega, hb2⟩
     case measure => simp [intOf]; omega
  ·have d1 : decide (k < xl.length) = false := by simpa using hlt
   have d2 : decide ((k : Int) < (xl.length : Int)) = false := by rw [decide_eq_false_iff_not]; omega
   have HE : Hid (XT.dpL (xl.take k) = R) := Lib.hid (by rw [show k = xl.length by omega, List.take_length]; exact HR.out)
   rw [HE.out]
   clear hlt
   go_wp2
   go_ret
   exact ⟨rfl, hbw⟩
set_option maxHeartbeats 4000000 in
theorem refdeepX_any : ∀ x : XT, x.sz ≤ 6000000 → ∀ (n0 : Nat) (w : World), n0 ≤ w.heap.size → x.In n0 w → Calls Tryz.prog 51 #[x.val] w fun e w' => e = .returned (.int .i64 (x.dp : Int)) ∧ Below w.heap.size w w' := by
 refine XT.ind ?_
 intro op nm xn wd v xa xc xl ih hsz n0 w hn0 hin
 rw [XT.In_mk] at hin
 simp only [XT.sz] at hsz
 have hB : Below w.heap.size w (w.alloc (.cells #[.int .i64 op, .string (bs nm), .int .i64 xn, .int .i64 wd, .int .u64 (v : Int), .slice xa xl.length xc] 54)) := (Below.refl _ _).alloc (Nat.le_refl _) _
 have hc := refdeepL_of n0 xl hsz (fun x hx w' h1 h2 => ih x hx (by have := XT.szL_mem hx; omega) n0 w' h1 h2) xa xc (w.alloc (.cells #[.int .i64 op, .string (bs nm), .int .i64 xn, .int .i64 wd, .int .u64 (v : Int), .slice xa xl.length xc] 54)) (by simp; omega) (hin.keep (Below.keptTo hB hn0) (fun x _ => XT.In.keep (Below.keptTo hB hn0) x))
 have hd := XT.dpL_sz xl
 obtain ⟨R, hR⟩ : ∃ R, XT.dpL xl = R := ⟨_, rfl⟩
 have HS : Hid (((XT.mk op nm xn wd v xa xc xl).dp : Int) = 1 + (R : Int)) := Lib.hid (by rw [XT.dp, hR]; simp)
 rw [HS.out]
 rw [hR] at hc hd
 simp only [XT.val, XT.cells]
 clear ih hin hR
 go_enter Tryz.func51, Tryz.ntmps51
 go_wp2_with fail
 refine hc.mono ?_
 rintro e w2 ⟨rfl, hb⟩
 go_wp2
 go_ret
 exact ⟨rfl, hB.trans (hb.mono (by simp))⟩
end Go.Proofs.YtiipjbafdhijlaaGreatDoor
