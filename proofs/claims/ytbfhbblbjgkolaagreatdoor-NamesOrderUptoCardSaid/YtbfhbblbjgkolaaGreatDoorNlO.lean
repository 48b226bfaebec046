/-
  NamesOrder: its walk.
-/
import Derived.Test.YtbfhbblbjgkolaaGreatDoorNlB
import Derived.Deep.RegionLaw
import Derived.RegionTactic
import Derived.BigRegion
import Derived.BigQuiet
import Derived.Deep.QuietTactic
import Derived.Deep.DeepCutAuto
namespace Go.Proofs.YtbfhbblbjgkolaaGreatDoor
open Go Go.RowKit
set_option linter.unusedVariables false
set_option linter.unusedSimpArgs false
open Go.Sort

/-- What stands in an order, read off. -/
theorem order_at {ml : List MT} {out : List Bytes} (hT : twiceB [] ml = false) (ho : ordN ml ml.length [] = some out) (k : Nat) (hk : k < out.length) : ∃ m ∈ ml, ml.find? (fun x => x.nm == out[k]) = some m ∧ (out.take k).contains out[k] = false ∧ ∀ u ∈ usesM m, (out.take k).contains u = true := by
  have hok := (ordN_ok ml ml.length [] out (OrdOk.nil _) ho).1
  obtain ⟨m, hm, hn, hu⟩ := hok.behind k hk
  refine ⟨m, hm, ?_, nodup_take out k hk hok.nodup, fun u hu2 => List.contains_iff_mem.2 (hu u hu2)⟩
  rw [← hn]
  exact find_nm (twice_nodup ml [] hT).1 hm
/-- A module found lies in a variable. -/
def FndAt (w wx : World) (gm : Nat) (U : List Bytes) : Prop := ∃ y : MT, wx.heap[gm]? = some (.cells y.cells.toArray 33 (0, 0)) ∧ y.In wx.heap.size wx ∧ usesM y = U ∧ y.bk ≤ 1500000 ∧ Below w.heap.size w wx
set_option maxHeartbeats 16000000 in
set_option maxRecDepth 100000 in
theorem order_any (W : World) (n0 : Nat) (f : FT) (hn0 : n0 ≤ W.heap.size) (he : EnvA W) (hwf : f.Wf) (hin : f.In n0 W) (hbk : f.bk ≤ 1500000) :
    Calls Tryz.prog 6 #[f.val] W fun e W' => e = .returned (.bool true) ∧ Below W.heap.size W W' := by
  obtain ⟨ma, mc, ml⟩ := f
  have hbl : MT.bkL ml ≤ 1500000 := by have : 1 + MT.bkL ml ≤ 1500000 := hbk; omega
  have hll := MT.bkL_len ml
  have hsz : FT.sz ⟨ma, mc, ml⟩ ≤ 1500000 := by have := MT.szL_bk ml; show MT.szL ml ≤ _; omega
  obtain ⟨g, hg⟩ : ∃ g, W.heap.size = g := ⟨_, rfl⟩
  obtain ⟨W1, hW1⟩ : ∃ W1, W.alloc (.cells #[.slice ma ml.length mc] 24) = W1 := ⟨_, rfl⟩
  have hB1 : Below W.heap.size W W1 := by rw [← hW1]; exact (Below.refl _ _).alloc (Nat.le_refl _) _
  have hwo : Wo2 W W1 n0 g ⟨ma, mc, ml⟩ := ⟨he.keep hB1, hB1, Nat.le_trans hn0 hB1.size, FT.In.keep (Below.keptTo hB1 hn0) _ hin, by rw [← hW1, ← hg]; exact World.alloc_heap_new W _⟩
  have HO := Lib.hid hwo
  have HWF := Lib.hid hwf
  have HS := Lib.hid hsz
  have HBK := Lib.hid hbk
  simp only [FT.val, FT.cells]
  clear he hwf hin hB1 hwo hsz hbk
  go_enter Tryz.func6, Tryz.ntmps6
  go_wp2_with fail
  (try rw [hW1])
  refine (live7_any _ HO.out.env).mono ?_
  rintro e V1 ⟨rfl, hb⟩
  replace HO := Lib.hid (HO.out.keep hb)
  clear hW1 hb
  have y0 := (cell_of_box_1 HO.out.box).1
  have q2 := few7_any ⟨ma, mc, ml⟩ HS.out n0 V1 HO.out.hn HO.out.fin
  obtain ⟨fw, hfw⟩ : ∃ b, (decide (FT.sz ⟨ma, mc, ml⟩ ≤ 2000) && decide (FT.dp ⟨ma, mc, ml⟩ ≤ 100)) = b := ⟨_, rfl⟩
  rw [hfw] at q2
  simp only [FT.val, FT.cells] at q2
  clear hfw
  go_wp2_with fail
  refine q2.mono ?_
  rintro e V2 ⟨rfl, hb⟩
  replace HO := Lib.hid (HO.out.keep hb)
  clear hb y0 q2
  have y0 := (cell_of_box_1 HO.out.box).1
  cases fw with
  | false =>
    go_wp2
    go_ret
    exact ⟨rfl, HO.out.low⟩
  | true =>
    have q3 := namesOrder_any V2 n0 ⟨ma, mc, ml⟩ HO.out.hn HO.out.env HWF.out HO.out.fin HBK.out
    have qc := fun (V : World) (h1 : n0 ≤ V.heap.size) (h2 : EnvA V) (h3 : FT.In n0 V ⟨ma, mc, ml⟩) => namesCheck_any V n0 ⟨ma, mc, ml⟩ h1 h2 HWF.out h3 HBK.out
    obtain ⟨CP, hCP⟩ : ∃ CP, checkP ⟨ma, mc, ml⟩ = CP := ⟨_, rfl⟩
    rw [hCP] at q3
    simp only [hCP] at qc
    have HCP := Lib.hid hCP
    simp only [FT.val, FT.cells] at q3 qc
    have HQC := Lib.hid qc
    clear qc hCP
    go_wp2_with fail
    refine q3.mono ?_
    clear q3
    rintro e V3 ⟨hb, ov, rfl, hp⟩
    replace HO := Lib.hid (HO.out.keep hb)
    clear y0 hb
    have y0 := (cell_of_box_1 HO.out.box).1
    rcases hp with ⟨h1, rfl⟩ | ⟨h0, base, out, hbase, hord, hown⟩
    · have e1 : (CP != 0) = true := by simpa using h1
      have e2 : (CP == CP) = true := by simp
      have q4 := HQC.out V3 HO.out.hn HO.out.env HO.out.fin
      go_wp2_with fail
      refine q4.mono ?_
      clear q4
      rintro e V4 ⟨rfl, hb4⟩
      have HF := Lib.hid (HO.out.low.trans (hb4.mono HO.out.low.size))
      clear hb4
      go_wp2
      go_ret
      exact ⟨rfl, HF.out⟩
    · subst h0
      obtain ⟨-, hTw, -, -⟩ := checkP_zero HCP.out
      have hlen : out.length = ml.length := by simpa using (ordN_ok ml ml.length [] out (OrdOk.nil _) hord).2
      have e3 : ((out.length : Int) != (ml.length : Int)) = false := by rw [hlen]; simp
      have HAT := Lib.hid (fun k hk => order_at hTw hord k hk)
      have HNL := Lib.hid (ord_facts hord hbl).2.2
      have hol : out.length ≤ 1500000 := by omega
      obtain ⟨oa, oc, rfl⟩ := own_slice hown
      have hcap := own_cap7 hown
      have HR := Lib.hid (srow_of hown)
      have q4 := HQC.out V3 HO.out.hn HO.out.env HO.out.fin
      clear hTw hlen hown hbase hord
      go_wp2_with fail
      refine q4.mono ?_
      clear q4
      rintro e V4 ⟨rfl, hb4⟩
      replace HO := Lib.hid (HO.out.keep hb4)
      replace HR := Lib.hid (HR.out.below hb4)
      clear y0 hb4 HQC HCP
      have y0 := (cell_of_box_1 HO.out.box).1
      go_wp2_with fail
      go_loopg [6] out.length (fun gh u wr => ∃ k : Nat, u = .int .i64 k ∧ k + gh = out.length ∧ Below V4.heap.size V4 wr)
      case atStart => exact ⟨0, rfl, by omega, Below.refl _ _⟩
      case round =>
        obtain ⟨k, rfl, hk, hbr⟩ := hrel
        have HX := Lib.hid (HO.out.keep hbr)
        have HT := Lib.hid (HR.out.below hbr)
        have hbr4 := Lib.hid hbr
        clear y0 hbr
        have y0 := (cell_of_box_1 HX.out.box).1
        by_cases hlt : k < out.length
        · have d1 : decide (k < out.length) = true := by simpa using hlt
          have d2 : decide ((k : Int) < (out.length : Int)) = true := by rw [decide_eq_true_eq]; omega
          have x1 : (k : Int) < (out.length : Int) := by omega
          obtain ⟨m, hm, hfi, hno, hus⟩ := HAT.out k hlt
          have hsl := HNL.out out[k] (List.getElem_mem hlt)
          have hmb := MT.bkL_mem hm
          obtain ⟨-, hli⟩ := lies_srow7 HT.out
          have hliT := lies_take7 hli k
          obtain ⟨b, o, rfl, hL⟩ := hli.resolve_left (by intro h; rw [h] at hlt; simp at hlt)
          have r0 := hL k hlt
          have hTl : (out.take k).length = k := by rw [List.length_take]; omega
          have hkc : k ≤ oc := by omega
          generalize hs : out[k] = s at *
          generalize hT : out.take k = T at *
          have q5 : ∀ V, Below wr.heap.size wr V → Calls Tryz.prog 18 #[.agg #[.slice ma ml.length mc], .string (bs s)] V fun e V' => Below V.heap.size V V' ∧ ∃ y : MT, e = .returned (.tuple #[MT.val y, .bool true]) ∧ usesM y = usesM m ∧ y.bk ≤ 1500000 ∧ y.In V'.heap.size (frm V' V.heap.size) := fun V hbV => by
            refine (namesFind_all V n0 ⟨ma, mc, ml⟩ s hsl (Nat.le_trans HX.out.hn hbV.size) (FT.In.keep (Below.keptTo hbV HX.out.hn) _ HX.out.fin) HBK.out).mono ?_
            rintro e V' ⟨h1, ⟨h2, _⟩ | ⟨m2, y, h2, h3, h4, h5⟩⟩
            · rw [hfi] at h2; cases h2
            · have e9 := hfi.symm.trans h2
              cases e9
              exact ⟨h1, y, h3, usesM_nrm h4, by rw [MT.bk_nrm h4]; omega, h5⟩
          have hul := usesM_len m
          obtain ⟨U, hU⟩ : ∃ U, usesM m = U := ⟨_, rfl⟩
          rw [hU] at hus hul
          simp only [hU] at q5
          have hul2 : U.length ≤ 1500000 := by have := hul.1; omega
          have HQ := Lib.hid q5
          have HM := Lib.hid (And.intro hno (And.intro hus hliT))
          clear hs hT hsl hmb hfi hno hus hul hm hU hL hliT q5 hli
          have dc : ¬ oc < k := by omega
          go_upto_region 14 with (fail)
          have y0A := fun O => alloc_cell y0 O
          have r0A := fun O => alloc_cell r0 O
          go_cut [7, 8] from 48 to 91 (fun p q wx => ∃ gm : Nat, p = .pointer (some ⟨gm, 0, none⟩) ∧ q = .bool true ∧ FndAt wr wx gm U)
          case first =>
            go_region_with (go_at_call 18; refine (HQ.out _ (by first | exact (Below.refl _ _).drew | exact ((Below.refl _ _).drew).alloc (Nat.le_refl _) _)).mono ?_; rintro e V5 ⟨hb5, y, rfl, hyu, hyb, hyi⟩; (try have hfp := found_put (w := wr.drew) rfl hb5 hyi); (try have hfn := found_new (w := wr.drew) hb5 hyi); (try have hbx := box4 ((hb5.block wr.heap.size (by first | (simp; done) | (rw [World.size_alloc]; exact Nat.lt_succ_self _))).trans (World.alloc_heap_new wr.drew (.cells #[.string ⟨#[]⟩, .slice none 0 0, .slice none 0 0, .slice none 0 0] 33)))); (try obtain ⟨⟨c0, c1, c2, c3⟩, f0, f1, f2, f3⟩ := hbx); obtain ⟨nm, pa, pc, pl, ta, tc, tl, ia, ic, il⟩ := y; (try (simp only [MT.cells, putC, Nat.zero_add, Nat.reduceAdd] at hfp; have HFP := Lib.hid hfp; clear hfp)); (try (simp only [MT.cells] at hfn; have HFN := Lib.hid hfn; clear hfn)); simp only [MT.val, MT.cells]; have HY := Lib.hid (And.intro hyu hyb); clear hyu hyb hyi)
            all_goals (go_wp2_with fail; go_meet; first | exact ⟨_, rfl, rfl, ⟨nm, pa, pc, pl, ta, tc, tl, ia, ic, il⟩, HFP.out.1, HFP.out.2.1, HY.out.1, HY.out.2, (Below.refl _ _).drew.trans HFP.out.2.2⟩ | exact ⟨_, rfl, rfl, ⟨nm, pa, pc, pl, ta, tc, tl, ia, ic, il⟩, HFN.out.1, HFN.out.2.1, HY.out.1, HY.out.2, (Below.refl _ _).drew.trans HFN.out.2.2⟩)
          case rest =>
            obtain ⟨gm, rfl, rfl, y, BM, hyi, hyu, hyb, hbm⟩ := hcut
            replace HX := Lib.hid (HX.out.keep hbm)
            replace HT := Lib.hid (HT.out.below hbm)
            have HB4 := Lib.hid (hbr4.out.trans (hbm.mono hbr4.out.size))
            replace r0 := keep_cell hbm r0
            have hliT := lies_keep8 HM.out.2.2 hbm
            have hA := fun n => Calls.quiet_of (n := n) (amongS_any (some ⟨b, o, none⟩) oc T s (by omega) (wc.drewN n) (lies_drewN7 n hliT))
            simp only [HM.out.1, hTl] at hA
            have HA2 := Lib.hid hA
            have HLT := Lib.hid hliT
            have HYY := Lib.hid (And.intro hyi (And.intro hyu (And.intro hyb BM)))
            clear hA hliT hyi hyu hyb BM hbm y0 y0A r0A HQ hbr4
            go_wp2
            go_quiet ((go_at_call 28; exact HA2.out _))
            clear HA2 r0
            have HBd : Hid (Below wc.heap.size wc (wc.drewN nq)) := Lib.hid (below_drewN (Below.refl _ _) nq)
            have HYd : Hid (y.In (wc.drewN nq).heap.size (wc.drewN nq) ∧ (wc.drewN nq).heap[gm]? = some (.cells y.cells.toArray 33 (0, 0))) := Lib.hid ⟨MT.In.keep (Below.keptTo HBd.out (Nat.le_refl _)) _ HYY.out.1, HYY.out.2.2.2⟩
            obtain ⟨wd, hwd⟩ : ∃ wd, wc.drewN nq = wd := ⟨_, rfl⟩
            rw [hwd] at HBd HYd ⊢
            clear hwd
            replace HX := Lib.hid (HX.out.keep HBd.out)
            replace HT := Lib.hid (HT.out.below HBd.out)
            replace HB4 := Lib.hid (HB4.out.trans (HBd.out.mono HB4.out.size))
            replace HLT := Lib.hid (lies_keep8 HLT.out HBd.out)
            have qU := uses_any wd wd.heap.size y (Nat.le_refl _) HYd.out.1 HYY.out.2.2.1
            rw [HYY.out.2.1] at qU
            have hBM := HYd.out.2
            clear HBd HYd HYY
            obtain ⟨nm, pa, pc, pl, ta, tc, tl, ia, ic, il⟩ := y
            obtain ⟨⟨c0, c1, c2, c3⟩, -⟩ := box4 hBM
            simp only [MT.val, MT.cells] at qU
            clear hBM
            go_wp2_with fail
            refine qU.mono ?_
            clear qU c0 c1 c2 c3
            rintro e we ⟨v, rfl, hov, hbe, -⟩
            obtain ⟨ua, uc, rfl⟩ := own_slice hov
            have HU := Lib.hid (lies_srow7 (srow_of hov)).2
            replace HX := Lib.hid (HX.out.keep hbe)
            replace HT := Lib.hid (HT.out.below hbe)
            replace HB4 := Lib.hid (HB4.out.trans (hbe.mono HB4.out.size))
            replace HLT := Lib.hid (lies_keep8 HLT.out hbe)
            clear hov hbe
            cases gk with
            | zero => omega
            | succ gg =>
              go_wp2_with fail
              go_loopg [10] U.length (fun gh2 u2 wr2 => ∃ j : Nat, u2 = .int .i64 j ∧ j + gh2 = U.length ∧ Below we.heap.size we wr2)
              case atStart => exact ⟨0, rfl, by omega, Below.refl _ _⟩
              case round =>
                obtain ⟨j, rfl, hj, hbj⟩ := hrel
                have HUj := Lib.hid (lies_keep8 HU.out hbj)
                have HLj := Lib.hid (lies_keep8 HLT.out hbj)
                have HBj := Lib.hid (HB4.out.trans (hbj.mono HB4.out.size))
                by_cases hltj : j < U.length
                · have g1 : decide (j < U.length) = true := by simpa using hltj
                  have g2 : decide ((j : Int) < (U.length : Int)) = true := by rw [decide_eq_true_eq]; omega
                  have g3 : (j : Int) < (U.length : Int) := by omega
                  have hin := HM.out.2.1 U[j] (List.getElem_mem hltj)
                  obtain ⟨b2, o2, rfl, hL2⟩ := (HUj.out).resolve_left (by intro h; rw [h] at hltj; simp at hltj)
                  have r2 := hL2 j hltj
                  generalize U[j] = t at *
                  have hA := fun n => Calls.quiet_of (n := n) (amongS_any (some ⟨b, o, none⟩) oc T t (by omega) (wr.drewN n) (lies_drewN7 n HLj.out))
                  simp only [hin, hTl] at hA
                  have HA3 := Lib.hid hA
                  have HBN := Lib.hid (fun n => below_drewN hbj n)
                  clear hA hin hL2 hbj
                  go_wp2
                  go_quiet ((go_at_call 28; exact HA3.out _))
                  go_wp2
                  cases gk with
                  | zero => omega
                  | succ gg2 =>
                    go_roundg gg2
                    case rel => exact ⟨j + 1, rfl, by omega, HBN.out _⟩
                    case measure => omega
                · have g1 : decide (j < U.length) = false := by simpa using hltj
                  have g2 : decide ((j : Int) < (U.length : Int)) = false := by rw [decide_eq_false_iff_not]; omega
                  clear hbj
                  go_wp2
                  go_roundg gg
                  case rel => exact ⟨k + 1, rfl, by omega, HBj.out⟩
                  case measure => omega
        · have d1 : decide (k < out.length) = false := by simpa using hlt
          have d2 : decide ((k : Int) < (out.length : Int)) = false := by rw [decide_eq_false_iff_not]; omega
          have HF := Lib.hid HX.out.low
          clear HX HT
          go_wp2
          go_ret
          first
            | exact ⟨rfl, HF.out⟩
            | (have h9 := HF.out; rw [hg] at h9; exact ⟨rfl, h9⟩)
end Go.Proofs.YtbfhbblbjgkolaaGreatDoor
