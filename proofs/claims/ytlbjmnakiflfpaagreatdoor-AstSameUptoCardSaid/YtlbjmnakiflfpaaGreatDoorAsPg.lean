/-
  The reference: how many nodes files have, and how deep they are.
-/
import Derived.Test.YtlbjmnakiflfpaaGreatDoorAsPi
import Derived.Test.YtlbjmnakiflfpaaGreatDoorAsZ
namespace Go.Proofs.YtlbjmnakiflfpaaGreatDoor
open Go Go.RowKit
set_option linter.unusedVariables false
set_option linter.unusedSimpArgs false
open Go.Sort

set_option maxHeartbeats 16000000 in
set_option maxRecDepth 3000000 in
theorem refdeep_any (x : FT) (hsz : x.sz ≤ 1800000) (n0 : Nat) (w : World) (hn0 : n0 ≤ w.heap.size) (hx : x.In n0 w) : Calls Tryz.prog 53 #[x.val] w fun e w' => e = .returned (.int .i64 (x.dp : Int)) ∧ Below w.heap.size w w' := by
  obtain ⟨ma, mc, ml⟩ := x
  have hsz2 : MT.szL ml ≤ 1800000 := hsz
  have hin : InRow 4 MT.cells (MT.In n0 w) n0 w ml ma := hx
  have hll := MT.szL_len ml
  have HV : Hid (FT.dp ⟨ma, mc, ml⟩ = MT.dpL ml) := Lib.hid rfl
  rw [HV.out]
  obtain ⟨R, hR⟩ : ∃ R, MT.dpL ml = R := ⟨_, rfl⟩
  have HR := Lib.hid hR
  rw [hR]
  simp only [FT.val, FT.cells]
  clear hR hx hsz
  have BF : (w.alloc (.cells #[.slice ma ml.length mc] 41)).heap[w.heap.size]? = some (.cells #[.slice ma ml.length mc] 41) := World.alloc_heap_new w _
  have hB : Below w.heap.size w (w.alloc (.cells #[.slice ma ml.length mc] 41)) := (Below.refl _ _).alloc (Nat.le_refl _) _
  go_enter Tryz.func53, Tryz.ntmps53
  go_wp2
  generalize w.alloc (.cells #[.slice ma ml.length mc] 41) = w1 at *
  go_loopg [3, 4] ml.length (fun g v u wr => ∃ k : Nat, u = .int .i64 k ∧ k + g = ml.length ∧ v = .int .i64 ((MT.dpL (ml.take k) : Nat) : Int) ∧ Below w1.heap.size w1 wr)
  case atStart => exact ⟨0, rfl, by omega, rfl, Below.refl _ _⟩
  case round =>
    obtain ⟨k, rfl, hk, rfl, hb0⟩ := hrel
    have hbw := hB.trans (hb0.mono hB.size)
    have BFr := block_kept BF hb0
    have f0 := (cell_of_box_1 BFr).1
    by_cases hlt : k < ml.length
    · have d1 : decide (k < ml.length) = true := by simpa using hlt
      have d2 : decide ((k : Int) < (ml.length : Int)) = true := by rw [decide_eq_true_eq]; omega
      have x1 : (k : Int) < (ml.length : Int) := by omega
      obtain ⟨b, o, rfl, hb, hr, hx⟩ := hin.kept (Below.keptTo hbw hn0) hlt
      have hxw := MT.In.keep (Below.keptTo hbw hn0) _ hx
      have ht1 := MT.dpL_take ml k hlt
      have ht2 := MT.szL_take_le ml k
      have ht3 := MT.szL_take_le ml (k + 1)
      have ht4 := MT.szL_take ml k hlt
      have ht5 := MT.dpL_sz (ml.take k)
      have zz := hbw.size
      have hnr : n0 ≤ wr.heap.size := by omega
      obtain ⟨Sm, hS⟩ : ∃ S, MT.dpL (ml.take k) = S := ⟨_, rfl⟩
      rw [hS]
      generalize hgx : ml[k] = x at *
      obtain ⟨nm2, pa2, pc2, pl2, ta2, tc2, tl2, ia2, ic2, il2⟩ := x
      obtain ⟨i0, i1, i2⟩ : InRow 7 BT.cells (BT.In n0 wr) n0 wr pl2 pa2 ∧ InRow 8 PT.cells (PT.In n0 wr) n0 wr tl2 ta2 ∧ InRow 9 IT.cells (IT.In n0 wr) n0 wr il2 ia2 := hxw
      obtain ⟨E0, hE0⟩ : ∃ E, BT.dpL pl2 = E := ⟨_, rfl⟩
      obtain ⟨E1, hE1⟩ : ∃ E, IT.dpL il2 = E := ⟨_, rfl⟩
      obtain ⟨E2, hE2⟩ : ∃ E, PT.dpL tl2 = E := ⟨_, rfl⟩
      have hds0 := BT.dpL_sz pl2
      have hds1 := IT.dpL_sz il2
      have hds2 := PT.dpL_sz tl2
      have htl := PT.szL_len tl2
      simp only [MT.sz, MT.dp] at ht1 ht4
      obtain ⟨Bs, hBs⟩ : ∃ Bs, max Sm (1 + max E0 E1) = Bs := ⟨_, rfl⟩
      have HT : Hid (MT.dpL (ml.take (k + 1)) = max Bs (1 + PT.dpL tl2)) := Lib.hid (by rw [ht1, hS, hE0, hE1, hE2] <;> omega)
      have hS2 : Sm ≤ 2000000 := by omega
      have hBs2 : Bs ≤ 7000000 := by omega
      have HBS := Lib.hid hBs
      clear hBs
      have hb0E : E0 ≤ 2000000 := by omega
      have hb1E : E1 ≤ 2000000 := by omega
      have htz : PT.szL tl2 ≤ 1800000 := by omega
      have r0 : wr.cell? ⟨b, o + k * 4, none⟩ = some (.string (bs nm2)) := hr 0 _ rfl
      have r1 : wr.cell? ⟨b, o + k * 4 + 1, none⟩ = some (.slice pa2 pl2.length pc2) := hr 1 _ rfl
      have r2 : wr.cell? ⟨b, o + k * 4 + 2, none⟩ = some (.slice ta2 tl2.length tc2) := hr 2 _ rfl
      have r3 : wr.cell? ⟨b, o + k * 4 + 3, none⟩ = some (.slice ia2 il2.length ic2) := hr 3 _ rfl
      have f0A := cell_alloc_1 (.cells #[.string (bs nm2), .slice pa2 pl2.length pc2, .slice ta2 tl2.length tc2, .slice ia2 il2.length ic2] 63) f0
      go_upto_region 6 with (fail)
      have BX : (wr.alloc (.cells #[.string (bs nm2), .slice pa2 pl2.length pc2, .slice ta2 tl2.length tc2, .slice ia2 il2.length ic2] 63)).heap[wr.heap.size]? = some (.cells #[.string (bs nm2), .slice pa2 pl2.length pc2, .slice ta2 tl2.length tc2, .slice ia2 il2.length ic2] 63) := World.alloc_heap_new wr _
      have kk : Below wr.heap.size wr (wr.alloc (.cells #[.string (bs nm2), .slice pa2 pl2.length pc2, .slice ta2 tl2.length tc2, .slice ia2 il2.length ic2] 63)) := (Below.refl _ _).alloc (Nat.le_refl _) _
      have hb1 := hb0.trans (kk.mono hb0.size)
      have hk8 := Below.keptTo kk hnr
      replace i0 := i0.keep hk8 (fun x _ => BT.In.keep hk8 x)
      replace i1 := i1.keep hk8 (fun x _ => PT.In.keep hk8 x)
      replace i2 := i2.keep hk8 (fun x _ => IT.In.keep hk8 x)
      replace hnr : n0 ≤ (wr.alloc (.cells #[.string (bs nm2), .slice pa2 pl2.length pc2, .slice ta2 tl2.length tc2, .slice ia2 il2.length ic2] 63)).heap.size := Nat.le_trans hnr kk.size
      clear hk8 kk r0 r1 r2 r3 f0 f0A BFr
      generalize wr.alloc (.cells #[.string (bs nm2), .slice pa2 pl2.length pc2, .slice ta2 tl2.length tc2, .slice ia2 il2.length ic2] 63) = w2 at *
      obtain ⟨r0, r1, r2, r3⟩ := open4 BX
      have bq := fun (dq : Nat) (os : Array Obj) => below_regrown w2 dq os
      have q0 := fun (dq : Nat) (os : Array Obj) => refdeepB_of n0 pl2 (by omega) pa2 pc2 (grow (redrawn w2 dq) os) (Nat.le_trans hnr (bq dq os).size) (i0.keep (Below.keptTo (bq dq os) hnr) (fun x _ => BT.In.keep (Below.keptTo (bq dq os) hnr) x))
      have q1 := fun (dq : Nat) (os : Array Obj) => refdeepI_any il2 (by omega) ia2 ic2 n0 (grow (redrawn w2 dq) os) (Nat.le_trans hnr (bq dq os).size) (i2.keep (Below.keptTo (bq dq os) hnr) (fun x _ => IT.In.keep (Below.keptTo (bq dq os) hnr) x))
      simp only [hE0] at q0
      simp only [hE1] at q1
      have Q0 := Lib.hid q0
      have Q1 := Lib.hid q1
      have HH := Lib.hid (And.intro hS (And.intro hgx (And.intro ht1 (And.intro ht4 hE2))))
      have r0R := cell_regrown r0
      have r1R := cell_regrown r1
      have r2R := cell_regrown r2
      have r3R := cell_regrown r3
      clear bq hr hx hgx ht1 ht2 ht3 ht4 ht5 hS hE0 hE1 hE2 q0 q1 i0 i2 hds0 hds1 hds2
      cases gk with
      | zero => omega
      | succ gg =>
        refine wp_region_quiet_below (by kernel_rfl) (by kernel_rfl) ?_
        repeat (go_big_quiet_step (first | (go_at_call 99; exact Calls.regrown_of (Q0.out _ _)) | (go_at_call 100; exact Calls.regrown_of (Q1.out _ _))))
        refine wpQuiet_nil ?_
        intro _ hw'
        obtain ⟨⟨dq, osq⟩, hw''⟩ := hw'
        subst hw''
        have hbq := below_regrown w2 dq osq
        have hb2 := hb1.trans (hbq.mono hb1.size)
        have BX3 := block_kept BX hbq
        have hk9 := Below.keptTo hbq hnr
        replace i1 := i1.keep hk9 (fun x _ => PT.In.keep hk9 x)
        replace hnr := Nat.le_trans hnr hbq.size
        clear r0R r1R r2R r3R r0 r1 r2 r3 BX hbq hk9 Q0 Q1
        generalize grow (redrawn w2 dq) osq = w3 at *
        go_wp2
        go_loopg [3, 6] tl2.length (fun g v u wx => ∃ j : Nat, u = .int .i64 j ∧ j + g = tl2.length ∧ v = .int .i64 ((max Bs (1 + PT.dpL (tl2.take j)) : Nat) : Int) ∧ Below w3.heap.size w3 wx)
        case atStart => exact ⟨0, rfl, by omega, by have := HBS.out; simp only [List.take_zero, PT.dpL]; congr 1; omega, Below.refl _ _⟩
        case round =>
          obtain ⟨j, rfl, hj, rfl, hbi⟩ := hrel
          have BXr := block_kept BX3 hbi
          obtain ⟨r0, r1, r2, r3⟩ := open4 BXr
          have hb4 := hb2.trans (hbi.mono hb2.size)
          by_cases hltj : j < tl2.length
          · have e1 : decide (j < tl2.length) = true := by simpa using hltj
            have e2 : decide ((j : Int) < (tl2.length : Int)) = true := by rw [decide_eq_true_eq]; omega
            have y1 : (j : Int) < (tl2.length : Int) := by omega
            obtain ⟨b5, o5, rfl, hb5, hr5, hx5⟩ := i1.kept (Below.keptTo hbi hnr) hltj
            have hp5 : XT.In n0 _ tl2[j].x := XT.In.keep (Below.keptTo hbi hnr) _ hx5
            have hu1 := PT.dpL_take tl2 j hltj
            have hu2 := PT.szL_take_le tl2 j
            have hu3 := PT.szL_take_le tl2 (j + 1)
            have hu4 := PT.szL_take tl2 j hltj
            have hu5 := PT.dpL_sz (tl2.take j)
            have hni := Nat.le_trans hnr hbi.size
            obtain ⟨Sp, hSp⟩ : ∃ S, PT.dpL (tl2.take j) = S := ⟨_, rfl⟩
            rw [hSp]
            generalize hgy : tl2[j] = y at *
            obtain ⟨bn2, po2, x5⟩ := y
            obtain ⟨op2, nm3, xn2, wd2, v2, xa2, xc2, xl2⟩ := x5
            replace hu4 : PT.szL (tl2.take (j + 1)) = PT.szL (tl2.take j) + (1 + XT.sz (XT.mk op2 nm3 xn2 wd2 v2 xa2 xc2 xl2)) := hu4
            replace hu1 : PT.dpL (tl2.take (j + 1)) = max (PT.dpL (tl2.take j)) (1 + XT.dp (XT.mk op2 nm3 xn2 wd2 v2 xa2 xc2 xl2)) := hu1
            have hu6 := XT.dp_sz (XT.mk op2 nm3 xn2 wd2 v2 xa2 xc2 xl2)
            have hcx := refdeepX_any (XT.mk op2 nm3 xn2 wd2 v2 xa2 xc2 xl2) (by omega) n0 _ hni hp5
            obtain ⟨F0, hF0⟩ : ∃ E, XT.dp (XT.mk op2 nm3 xn2 wd2 v2 xa2 xc2 xl2) = E := ⟨_, rfl⟩
            rw [hF0] at hcx hu1
            have HU : Hid (max Bs (1 + PT.dpL (tl2.take (j + 1))) = max (max Bs (1 + Sp)) (2 + F0)) := Lib.hid (by rw [hu1, hSp] <;> omega)
            have hSp2 : Sp ≤ 2000000 := by omega
            have hF2 : F0 ≤ 2000000 := by omega
            simp only [XT.val, XT.cells] at hcx
            have HJ := Lib.hid (And.intro hSp (And.intro hgy (And.intro hF0 (And.intro hu1 (And.intro hu4 hj)))))
            have hjg : ∀ g2, gk = g2 + 1 → j + 1 + g2 = tl2.length := fun g2 h => by omega
            have z2 : _ := hr5 2 _ rfl
            have z3 : _ := hr5 3 _ rfl
            have z4 : _ := hr5 4 _ rfl
            have z5 : _ := hr5 5 _ rfl
            have z6 : _ := hr5 6 _ rfl
            have z7 : _ := hr5 7 _ rfl
            cases gk with
            | zero => omega
            | succ hh =>
              have hjh := hjg hh rfl
              clear hr5 hx5 hgy hu1 hu2 hu3 hu4 hu5 hu6 hSp hF0 hp5 i1 hjg hj
              go_wp2_with fail
              refine hcx.mono ?_
              clear hcx
              rintro e W1 ⟨rfl, hbb⟩
              have hbj := hbi.trans (hbb.mono hbi.size)
              go_wp2
              all_goals
                go_roundg hh
                case rel => exact ⟨j + 1, by simp; first | done | rfl | omega, hjh, by rw [HU.out]; congr 1; first | done | rfl | omega | (simp; omega), hbj⟩
                case measure => omega
          · have e1 : decide (j < tl2.length) = false := by simpa using hltj
            have e2 : decide ((j : Int) < (tl2.length : Int)) = false := by rw [decide_eq_false_iff_not]; omega
            have HE2 : Hid ((max Bs (1 + PT.dpL (tl2.take j))) = MT.dpL (ml.take (k + 1))) := Lib.hid (by rw [HT.out, show j = tl2.length by omega, List.take_length])
            rw [HE2.out]
            have hkk : k + 1 + gg = ml.length := by omega
            clear HE2 HT hltj hj
            go_wp2
            go_roundg gg
            case rel => exact ⟨k + 1, by simp; first | done | rfl | omega, hkk, rfl, hb4⟩
            case measure => omega
    · have d1 : decide (k < ml.length) = false := by simpa using hlt
      have d2 : decide ((k : Int) < (ml.length : Int)) = false := by rw [decide_eq_false_iff_not]; omega
      have HE : Hid (MT.dpL (ml.take k) = R) := Lib.hid (by rw [show k = ml.length by omega, List.take_length]; exact HR.out)
      rw [HE.out]
      clear hlt
      go_wp2
      go_ret
      exact ⟨rfl, hbw⟩
end Go.Proofs.YtlbjmnakiflfpaaGreatDoor
