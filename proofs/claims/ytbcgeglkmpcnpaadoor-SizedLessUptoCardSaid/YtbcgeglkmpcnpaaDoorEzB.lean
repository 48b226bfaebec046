/-
  The reference of layer 9: how many nodes an expression has, how deep it is, whether two are the same.
-/
import Derived.Test.YtbcgeglkmpcnpaaDoorEzA
import Derived.Test.YtbcgeglkmpcnpaaDoorEzP
import Derived.Lib.QuietBelow
import Derived.BigQuiet
import Derived.Deep.LoopGhost
namespace Go.Proofs.YtbcgeglkmpcnpaaDoor
open Go Go.RowKit
set_option linter.unusedVariables false
set_option linter.unusedSimpArgs false
open Go.Sort

set_option maxHeartbeats 4000000 in
set_option maxRecDepth 100000 in
theorem refNodes_any : ∀ x : ET, x.sz ≤ 6000000 → ∀ (n0 : Nat) (w : World), n0 ≤ w.heap.size → x.In n0 w → Calls Tryd.prog 23 #[x.val] w fun e w' => e = .returned (.int .i64 (x.sz : Int)) ∧ Below w.heap.size w w' := by
  refine ET.ind ?_
  intro op wd v sg hi lo n a c l ih hsz n0 w hn0 hin
  rw [ET.In_mk] at hin
  simp only [ET.sz] at hsz
  have hll := ET.szL_len l
  have hc := fun x (hx : x ∈ l) (w' : World) h1 h2 => ih x hx (by have := ET.szL_mem hx; omega) n0 w' h1 h2
  obtain ⟨R, hR⟩ : ∃ R, 1 + ET.szL l = R := ⟨_, rfl⟩
  have HS : Hid ((((ET.mk op wd v sg hi lo n a c l).sz : Nat) : Int) = (R : Int)) := Lib.hid (by rw [ET.sz, hR])
  have HR := Lib.hid hR
  rw [HS.out]
  simp only [ET.val, ET.cells]
  obtain ⟨gx, hgx⟩ : ∃ gx, w.heap.size = gx := ⟨_, rfl⟩
  obtain ⟨w1, hw1⟩ : ∃ w1, w.alloc (.cells #[.int .i64 op, .int .i64 wd, .int .u64 (v : Int), .int .i64 sg, .int .i64 hi, .int .i64 lo, .int .i64 n, .slice a l.length c] 30) = w1 := ⟨_, rfl⟩
  have hb0 : Below w.heap.size w w1 := by rw [← hw1]; exact (Below.refl _ _).alloc (Nat.le_refl _) _
  have BX : w1.heap[gx]? = some (.cells #[.int .i64 op, .int .i64 wd, .int .u64 (v : Int), .int .i64 sg, .int .i64 hi, .int .i64 lo, .int .i64 n, .slice a l.length c] 30 (0, 0)) := by rw [← hw1, ← hgx]; exact World.alloc_heap_new w _
  have HI := Lib.hid hin
  have HC := Lib.hid hc
  have HBX := Lib.hid (And.intro hb0 BX)
  clear ih hR hin hc hb0 BX
  go_enter Tryd.func23, Tryd.ntmps23
  go_wp2
  (try rw [hw1])
  (try rw [hgx])
  clear hw1
  go_loopg [3, 4] l.length (fun g s u wr => ∃ k : Nat, u = .int .i64 k ∧ k + g = l.length ∧ s = .int .i64 ((1 + ET.szL (l.take k) : Nat) : Int) ∧ Below w1.heap.size w1 wr)
  case atStart => exact ⟨0, rfl, by omega, rfl, Below.refl _ _⟩
  case round =>
    obtain ⟨k, rfl, hk, rfl, hb1⟩ := hrel
    have hbw := HBX.out.1.trans (hb1.mono HBX.out.1.size)
    have hkt := Below.keptTo hbw hn0
    obtain ⟨z0, z1, z2, z3, z4, z5, z6, z7⟩ := ope8 (block_kept HBX.out.2 hb1)
    have hle := ET.szL_take_le l k
    have hld := ET.dpL_sz (l.take k)
    by_cases hlt : k < l.length
    · have d1 : decide (k < l.length) = true := by simpa using hlt
      have d2 : decide ((k : Int) < (l.length : Int)) = true := by rw [decide_eq_true_eq]; omega
      have x1 : (k : Int) < (l.length : Int) := by omega
      have x2 : (k : Int) ≤ 6000000 := by omega
      obtain ⟨b, o, rfl, hb, hr, hx⟩ := InRow.at (InRow.keep hkt (fun x _ h => ET.In.keep hkt x h) HI.out) hlt
      have ht1 := ET.szL_take l k hlt
      have ht4 := ET.szL_take l k hlt
      have ht3 := ET.szL_take_le l (k + 1)
      have ht6 := (l[k]).dp_sz
      have hcx := HC.out l[k] (List.getElem_mem hlt) wr (Nat.le_trans hn0 hbw.size) hx
      obtain ⟨S, hS⟩ : ∃ S, 1 + ET.szL (l.take k) = S := ⟨_, rfl⟩
      obtain ⟨E, hE⟩ : ∃ E, l[k].sz = E := ⟨_, rfl⟩
      have HT : Hid (1 + ET.szL (l.take (k + 1)) = S + E) := Lib.hid (by rw [ht1, ← hS, ← hE]; omega)
      have hS2 : S ≤ 6000000 := by omega
      have hE2 : E ≤ 6000000 := by omega
      rw [hS]
      rw [hE] at hcx
      generalize hgy : l[k] = x at *
      obtain ⟨op2, wd2, v2, sg2, hi2, lo2, n2, a2, c2, l2⟩ := x
      have r0 : wr.cell? ⟨b, o + k * 8, none⟩ = some (.int .i64 op2) := hr 0 _ rfl
      have r1 : wr.cell? ⟨b, o + k * 8 + 1, none⟩ = some (.int .i64 wd2) := hr 1 _ rfl
      have r2 : wr.cell? ⟨b, o + k * 8 + 2, none⟩ = some (.int .u64 (v2 : Int)) := hr 2 _ rfl
      have r3 : wr.cell? ⟨b, o + k * 8 + 3, none⟩ = some (.int .i64 sg2) := hr 3 _ rfl
      have r4 : wr.cell? ⟨b, o + k * 8 + 4, none⟩ = some (.int .i64 hi2) := hr 4 _ rfl
      have r5 : wr.cell? ⟨b, o + k * 8 + 5, none⟩ = some (.int .i64 lo2) := hr 5 _ rfl
      have r6 : wr.cell? ⟨b, o + k * 8 + 6, none⟩ = some (.int .i64 n2) := hr 6 _ rfl
      have r7 : wr.cell? ⟨b, o + k * 8 + 7, none⟩ = some (.slice a2 l2.length c2) := hr 7 _ rfl
      simp only [ET.val, ET.cells] at hcx
      have HBW := Lib.hid hb1
      clear hr hx hgy ht1 ht4 ht3 ht6 hS hE hkt hbw hb1 hle hld hb
      go_wp2_with fail
      refine hcx.mono ?_
      clear hcx r0 r1 r2 r3 r4 r5 r6 r7 z0 z1 z2 z3 z4 z5 z6 z7
      rintro e W1 ⟨rfl, hb1⟩
      have HB2 := Lib.hid (HBW.out.trans (hb1.mono HBW.out.size))
      clear hb1 HBW
      obtain ⟨gg, rfl⟩ : ∃ gg, gk = gg + 1 := ⟨gk - 1, by omega⟩
      go_wp2
      go_roundg gg
      case rel => exact ⟨k + 1, rfl, by omega, by rw [HT.out]; simp, HB2.out⟩
      case measure => omega
    · have d1 : decide (k < l.length) = false := by simpa using hlt
      have d2 : decide ((k : Int) < (l.length : Int)) = false := by rw [decide_eq_false_iff_not]; omega
      have HE : Hid (1 + ET.szL (l.take k) = R) := Lib.hid (by rw [show k = l.length by omega, List.take_length]; exact HR.out)
      rw [HE.out]
      have hRl : R ≤ 9000000 := by have := HE.out; omega
      have HBW := Lib.hid hbw
      clear hlt hbw hkt hle hld
      go_wp2
      go_ret
      first
        | exact ⟨by simp, HBW.out⟩
        | exact ⟨rfl, by have h9 := HBW.out; rw [hgx] at h9; exact h9⟩
        | exact ⟨by simp, by have h9 := HBW.out; rw [hgx] at h9; exact h9⟩

set_option maxHeartbeats 4000000 in
set_option maxRecDepth 100000 in
theorem refDeep_any : ∀ x : ET, x.sz ≤ 6000000 → ∀ (n0 : Nat) (w : World), n0 ≤ w.heap.size → x.In n0 w → Calls Tryd.prog 24 #[x.val] w fun e w' => e = .returned (.int .i64 (x.dp : Int)) ∧ Below w.heap.size w w' := by
  refine ET.ind ?_
  intro op wd v sg hi lo n a c l ih hsz n0 w hn0 hin
  rw [ET.In_mk] at hin
  simp only [ET.sz] at hsz
  have hll := ET.szL_len l
  have hc := fun x (hx : x ∈ l) (w' : World) h1 h2 => ih x hx (by have := ET.szL_mem hx; omega) n0 w' h1 h2
  obtain ⟨R, hR⟩ : ∃ R, ET.dpL l = R := ⟨_, rfl⟩
  have HS : Hid ((((ET.mk op wd v sg hi lo n a c l).dp : Nat) : Int) = (R : Int) + 1) := Lib.hid (by rw [ET.dp, hR]; omega)
  have HR := Lib.hid hR
  rw [HS.out]
  simp only [ET.val, ET.cells]
  obtain ⟨gx, hgx⟩ : ∃ gx, w.heap.size = gx := ⟨_, rfl⟩
  obtain ⟨w1, hw1⟩ : ∃ w1, w.alloc (.cells #[.int .i64 op, .int .i64 wd, .int .u64 (v : Int), .int .i64 sg, .int .i64 hi, .int .i64 lo, .int .i64 n, .slice a l.length c] 30) = w1 := ⟨_, rfl⟩
  have hb0 : Below w.heap.size w w1 := by rw [← hw1]; exact (Below.refl _ _).alloc (Nat.le_refl _) _
  have BX : w1.heap[gx]? = some (.cells #[.int .i64 op, .int .i64 wd, .int .u64 (v : Int), .int .i64 sg, .int .i64 hi, .int .i64 lo, .int .i64 n, .slice a l.length c] 30 (0, 0)) := by rw [← hw1, ← hgx]; exact World.alloc_heap_new w _
  have HI := Lib.hid hin
  have HC := Lib.hid hc
  have HBX := Lib.hid (And.intro hb0 BX)
  clear ih hR hin hc hb0 BX
  go_enter Tryd.func24, Tryd.ntmps24
  go_wp2
  (try rw [hw1])
  (try rw [hgx])
  clear hw1
  go_loopg [3, 4] l.length (fun g s u wr => ∃ k : Nat, u = .int .i64 k ∧ k + g = l.length ∧ s = .int .i64 ((ET.dpL (l.take k) : Nat) : Int) ∧ Below w1.heap.size w1 wr)
  case atStart => exact ⟨0, rfl, by omega, rfl, Below.refl _ _⟩
  case round =>
    obtain ⟨k, rfl, hk, rfl, hb1⟩ := hrel
    have hbw := HBX.out.1.trans (hb1.mono HBX.out.1.size)
    have hkt := Below.keptTo hbw hn0
    obtain ⟨z0, z1, z2, z3, z4, z5, z6, z7⟩ := ope8 (block_kept HBX.out.2 hb1)
    have hle := ET.szL_take_le l k
    have hld := ET.dpL_sz (l.take k)
    by_cases hlt : k < l.length
    · have d1 : decide (k < l.length) = true := by simpa using hlt
      have d2 : decide ((k : Int) < (l.length : Int)) = true := by rw [decide_eq_true_eq]; omega
      have x1 : (k : Int) < (l.length : Int) := by omega
      have x2 : (k : Int) ≤ 6000000 := by omega
      obtain ⟨b, o, rfl, hb, hr, hx⟩ := InRow.at (InRow.keep hkt (fun x _ h => ET.In.keep hkt x h) HI.out) hlt
      have ht1 := ET.dpL_take l k hlt
      have ht4 := ET.szL_take l k hlt
      have ht3 := ET.szL_take_le l (k + 1)
      have ht6 := (l[k]).dp_sz
      have hcx := HC.out l[k] (List.getElem_mem hlt) wr (Nat.le_trans hn0 hbw.size) hx
      obtain ⟨S, hS⟩ : ∃ S, ET.dpL (l.take k) = S := ⟨_, rfl⟩
      obtain ⟨E, hE⟩ : ∃ E, l[k].dp = E := ⟨_, rfl⟩
      have HT : Hid (ET.dpL (l.take (k + 1)) = max S E) := Lib.hid (by rw [ht1, ← hS, ← hE])
      have hS2 : S ≤ 6000000 := by omega
      have hE2 : E ≤ 6000000 := by omega
      rw [hS]
      rw [hE] at hcx
      generalize hgy : l[k] = x at *
      obtain ⟨op2, wd2, v2, sg2, hi2, lo2, n2, a2, c2, l2⟩ := x
      have r0 : wr.cell? ⟨b, o + k * 8, none⟩ = some (.int .i64 op2) := hr 0 _ rfl
      have r1 : wr.cell? ⟨b, o + k * 8 + 1, none⟩ = some (.int .i64 wd2) := hr 1 _ rfl
      have r2 : wr.cell? ⟨b, o + k * 8 + 2, none⟩ = some (.int .u64 (v2 : Int)) := hr 2 _ rfl
      have r3 : wr.cell? ⟨b, o + k * 8 + 3, none⟩ = some (.int .i64 sg2) := hr 3 _ rfl
      have r4 : wr.cell? ⟨b, o + k * 8 + 4, none⟩ = some (.int .i64 hi2) := hr 4 _ rfl
      have r5 : wr.cell? ⟨b, o + k * 8 + 5, none⟩ = some (.int .i64 lo2) := hr 5 _ rfl
      have r6 : wr.cell? ⟨b, o + k * 8 + 6, none⟩ = some (.int .i64 n2) := hr 6 _ rfl
      have r7 : wr.cell? ⟨b, o + k * 8 + 7, none⟩ = some (.slice a2 l2.length c2) := hr 7 _ rfl
      simp only [ET.val, ET.cells] at hcx
      have HBW := Lib.hid hb1
      clear hr hx hgy ht1 ht4 ht3 ht6 hS hE hkt hbw hb1 hle hld hb
      go_wp2_with fail
      refine hcx.mono ?_
      clear hcx r0 r1 r2 r3 r4 r5 r6 r7 z0 z1 z2 z3 z4 z5 z6 z7
      rintro e W1 ⟨rfl, hb1⟩
      have HB2 := Lib.hid (HBW.out.trans (hb1.mono HBW.out.size))
      clear hb1 HBW
      obtain ⟨gg, rfl⟩ : ∃ gg, gk = gg + 1 := ⟨gk - 1, by omega⟩
      by_cases hse : S ≤ E
      · have m1 : max S E = E := by omega
        have q1 : decide (S < E) = decide ((S : Int) < (E : Int)) := by congr 1; simp
        have HM := Lib.hid m1
        clear m1 q1
        go_wp2
        all_goals
          go_roundg gg
          case rel => exact ⟨k + 1, rfl, by omega, by rw [HT.out]; congr 1; omega, HB2.out⟩
          case measure => omega
      · go_wp2
        all_goals
          go_roundg gg
          case rel => exact ⟨k + 1, rfl, by omega, by rw [HT.out]; congr 1; omega, HB2.out⟩
          case measure => omega
    · have d1 : decide (k < l.length) = false := by simpa using hlt
      have d2 : decide ((k : Int) < (l.length : Int)) = false := by rw [decide_eq_false_iff_not]; omega
      have HE : Hid (ET.dpL (l.take k) = R) := Lib.hid (by rw [show k = l.length by omega, List.take_length]; exact HR.out)
      rw [HE.out]
      have hRl : R ≤ 9000000 := by have := HE.out; omega
      have HBW := Lib.hid hbw
      clear hlt hbw hkt hle hld
      go_wp2
      go_ret
      first
        | exact ⟨by simp, HBW.out⟩
        | exact ⟨rfl, by have h9 := HBW.out; rw [hgx] at h9; exact h9⟩
        | exact ⟨by simp, by have h9 := HBW.out; rw [hgx] at h9; exact h9⟩
end Go.Proofs.YtbcgeglkmpcnpaaDoor
