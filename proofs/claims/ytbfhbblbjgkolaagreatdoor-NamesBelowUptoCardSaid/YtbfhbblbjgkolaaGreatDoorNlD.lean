/-
  NamesBelow: its walk.
-/
import Derived.Test.YtbfhbblbjgkolaaGreatDoorNlM
namespace Go.Proofs.YtbfhbblbjgkolaaGreatDoor
open Go Go.RowKit
set_option linter.unusedVariables false
set_option linter.unusedSimpArgs false
open Go.Sort

theorem usS_len (ml : List MT) : ∀ l : List Bytes, (l.flatMap (usN ml)).length = sumU ml l
  | [] => rfl
  | x :: r => by rw [List.flatMap_cons, List.length_append, usS_len ml r]; simp [sumU]
theorem sumU_take (ml : List MT) : ∀ (l : List Bytes) (k : Nat), sumU ml (l.take k) ≤ sumU ml l
  | [], k => by simp
  | x :: r, 0 => by simp [sumU]
  | x :: r, k + 1 => by have := sumU_take ml r k; rw [List.take_succ_cons]; simp only [sumU, List.map_cons, List.sum_cons] at this ⊢; omega
set_option maxHeartbeats 16000000 in
set_option maxRecDepth 100000 in
theorem below_any (W : World) (n0 : Nat) (f : FT) (s : Bytes) (hs : s.length ≤ 4000000) (hn0 : n0 ≤ W.heap.size) (he : EnvA W) (hwf : f.Wf) (hin : f.In n0 W) (hbk : f.bk ≤ 1500000) :
    Calls Tryz.prog 7 #[f.val, .string (bs s)] W fun e W' => e = .returned (.bool true) ∧ Below W.heap.size W W' := by
  obtain ⟨ma, mc, ml⟩ := f
  have hbl : MT.bkL ml ≤ 1500000 := by have : 1 + MT.bkL ml ≤ 1500000 := hbk; omega
  have hll := MT.bkL_len ml
  have hsz : FT.sz ⟨ma, mc, ml⟩ ≤ 1500000 := by have := MT.szL_bk ml; show MT.szL ml ≤ _; omega
  obtain ⟨g, hg⟩ : ∃ g, W.heap.size = g := ⟨_, rfl⟩
  obtain ⟨W1, hW1⟩ : ∃ W1, W.alloc (.cells #[.slice ma ml.length mc] 24) = W1 := ⟨_, rfl⟩
  have hB1 : Below W.heap.size W W1 := by rw [← hW1]; exact (Below.refl _ _).alloc (Nat.le_refl _) _
  have hwo : Wo2 W W1 n0 g ⟨ma, mc, ml⟩ := ⟨he.keep hB1, hB1, Nat.le_trans hn0 hB1.size, FT.In.keep (Below.keptTo hB1 hn0) _ hin, by rw [← hW1, ← hg]; exact World.alloc_heap_new W _⟩
  have HO := Lib.hid hwo
  have HWF := Lib.hid hwf
  have HS := Lib.hid hsz
  have HBK := Lib.hid hbk
  have HGW := Lib.hid hg
  simp only [FT.val, FT.cells]
  clear he hwf hin hB1 hwo hsz hbk
  go_enter Tryz.func7, Tryz.ntmps7
  go_wp2_with fail
  (try rw [hW1])
  refine (live7_any _ HO.out.env).mono ?_
  rintro e V1 ⟨rfl, hb⟩
  replace HO := Lib.hid (HO.out.keep hb)
  clear hW1 hb
  have y0 := (cell_of_box_1 HO.out.box).1
  have q2 := few7_any ⟨ma, mc, ml⟩ HS.out n0 V1 HO.out.hn HO.out.fin
  obtain ⟨fw, hfw⟩ : ∃ b, (decide (FT.sz ⟨ma, mc, ml⟩ ≤ 2000) && decide (FT.dp ⟨ma, mc, ml⟩ ≤ 100)) = b := ⟨_, rfl⟩
  rw [hfw] at q2
  simp only [FT.val, FT.cells] at q2
  clear hfw
  go_wp2_with fail
  refine q2.mono ?_
  rintro e V2 ⟨rfl, hb⟩
  replace HO := Lib.hid (HO.out.keep hb)
  clear hb y0 q2
  have y0 := (cell_of_box_1 HO.out.box).1
  have hfinal : ∀ w : World, Below W.heap.size W w → (True ∧ Below W.heap.size W w) := fun _ h => ⟨trivial, h⟩
  clear hfinal
  cases fw with
  | false =>
    go_wp2
    go_ret
    exact ⟨rfl, HO.out.low⟩
  | true =>
    by_cases hlong : 100 < s.length
    · have d1 : decide (100 < s.length) = true := by simpa using hlong
      have d2 : decide ((100 : Int) < (s.length : Int)) = true := by rw [decide_eq_true_eq]; omega
      go_wp2
      go_ret
      exact ⟨rfl, HO.out.low⟩
    · have d1 : decide (100 < s.length) = false := by simpa using hlong
      have d2 : decide ((100 : Int) < (s.length : Int)) = false := by rw [decide_eq_false_iff_not]; omega
      have q3 : Calls Tryz.prog 24 #[FT.val ⟨ma, mc, ml⟩] V2 fun e W' => Below V2.heap.size V2 W' ∧ ∃ a c, e = .returned (.tuple #[.slice a (ordF ⟨ma, mc, ml⟩).length c, .int .i64 (checkP ⟨ma, mc, ml⟩)]) ∧ SRow V2.heap.size W' (.slice a (ordF ⟨ma, mc, ml⟩).length c) (ordF ⟨ma, mc, ml⟩) := (namesOrder_any V2 n0 ⟨ma, mc, ml⟩ HO.out.hn HO.out.env HWF.out HO.out.fin HBK.out).mono (by
        rintro e W' ⟨hb, ov, rfl, hp⟩
        obtain ⟨a, c, rfl, hx⟩ := hp.row
        exact ⟨hb, a, c, rfl, a, c, rfl, hx⟩)
      obtain ⟨CP, hCP⟩ : ∃ CP, checkP ⟨ma, mc, ml⟩ = CP := ⟨_, rfl⟩
      obtain ⟨O, hO⟩ : ∃ O, ordF ⟨ma, mc, ml⟩ = O := ⟨_, rfl⟩
      obtain ⟨RE, hRE⟩ : ∃ RE, belE ⟨ma, mc, ml⟩ s = RE := ⟨_, rfl⟩
      obtain ⟨B, hB⟩ : ∃ B, belL ⟨ma, mc, ml⟩ s = B := ⟨_, rfl⟩
      rw [hCP, hO] at q3
      simp only [FT.val, FT.cells] at q3
      have HR := Lib.hid (And.intro hCP (And.intro hO (And.intro hRE hB)))
      have qc := fun (V : World) (h1 : n0 ≤ V.heap.size) (h2 : EnvA V) (h3 : FT.In n0 V ⟨ma, mc, ml⟩) => namesCheck_any V n0 ⟨ma, mc, ml⟩ h1 h2 HWF.out h3 HBK.out
      have qb := fun (V : World) (h1 : n0 ≤ V.heap.size) (h2 : EnvA V) (h3 : FT.In n0 V ⟨ma, mc, ml⟩) => namesBelow_cap V n0 ⟨ma, mc, ml⟩ s hs h1 h2 HWF.out h3 HBK.out
      simp only [hCP] at qc
      simp only [hRE, hB] at qb
      simp only [FT.val, FT.cells] at qc qb
      have HQC := Lib.hid (And.intro qc qb)
      clear hCP hO hRE hB qc qb
      go_wp2_with fail
      refine q3.mono ?_
      clear q3
      rintro e V3 ⟨hb, oa, oc, rfl, hro⟩
      replace HO := Lib.hid (HO.out.keep hb)
      have HRO := Lib.hid hro
      clear hb y0 hro
      have y0 := (cell_of_box_1 HO.out.box).1
      have q4 := HQC.out.2 V3 HO.out.hn HO.out.env HO.out.fin
      go_wp2_with fail
      refine q4.mono ?_
      clear q4
      rintro e V4 ⟨hb, v, rfl, hr, hck⟩
      replace HO := Lib.hid (HO.out.keep hb)
      replace HRO := Lib.hid (HRO.out.below hb)
      obtain ⟨ba, bc, rfl, hbr⟩ := hr
      have HCAP := Lib.hid (hck _ _ _ rfl)
      have HRB : Hid (SRow 0 V4 (.slice ba B.length bc) B) := Lib.hid ⟨ba, bc, rfl, hbr.imp id (fun ⟨b, o, x1, x2, x3⟩ => ⟨b, o, x1, Nat.zero_le _, x3⟩)⟩
      clear hb y0 hbr hck
      have y0 := (cell_of_box_1 HO.out.box).1
      by_cases hre : RE ≠ 0
      · have e1 : (RE != 0) = true := by simpa using hre
        have q5 : Calls Tryz.prog 18 #[.agg #[.slice ma ml.length mc], .string (bs s)] V4 fun e V' => Below V4.heap.size V4 V' ∧ ∃ x0 x1 x2 x3 x4 x5 x6 x7 x8 x9 ok, e = .returned (.tuple #[.agg #[.string (bs x0), .slice x1 x2 x3, .slice x4 x5 x6, .slice x7 x8 x9], .bool ok]) ∧ (ok = (ml.find? (fun m => m.nm == s)).isSome) := by
          refine (namesFind_all V4 n0 ⟨ma, mc, ml⟩ s hs HO.out.hn HO.out.fin HBK.out).mono ?_
          rintro e V' ⟨h1, ⟨h2, rfl⟩ | ⟨m2, y, h2, rfl, h4, h5⟩⟩
          · exact ⟨h1, [], none, 0, 0, none, 0, 0, none, 0, 0, false, rfl, by rw [h2]; rfl⟩
          · obtain ⟨nm, pa, pc, pl, ta, tc, tl, ia, ic, il⟩ := y
            exact ⟨h1, nm, pa, pl.length, pc, ta, tl.length, tc, ia, il.length, ic, true, rfl, by rw [h2]; rfl⟩
        have hB0 : B = [] ∧ (CP ≠ 0 → RE = CP) ∧ (CP = 0 → RE = 71 ∧ (ml.find? (fun m => m.nm == s)).isSome = false) := by
          obtain ⟨hCP, hO, hRE, hB⟩ := HR.out
          unfold belE at hRE
          unfold belL at hB
          by_cases hc : CP = 0
          · rw [if_neg (by rw [hCP, hc]; simp)] at hRE hB
            by_cases hk : (ordF ⟨ma, mc, ml⟩).contains s = true
            · rw [if_pos hk] at hRE; exact absurd hRE.symm hre
            · rw [if_neg hk] at hRE hB
              refine ⟨hB.symm, fun h => absurd hc h, fun _ => ⟨hRE.symm, ?_⟩⟩
              have h0 : checkP ⟨ma, mc, ml⟩ = 0 := by rw [hCP, hc]
              obtain ⟨-, hTw, -, out, hord⟩ := checkP_zero h0
              have hof : ordF ⟨ma, mc, ml⟩ = out := by
                unfold ordF; rw [if_neg (by rw [h0]; simp)]
                show (ordN ml ml.length []).getD [] = out
                rw [show ordN ml ml.length [] = some out from hord]; rfl
              cases hfd : ml.find? (fun m => m.nm == s) with
              | none => rfl
              | some m =>
                exfalso
                have hm := List.mem_of_find?_eq_some hfd
                have hn : m.nm = s := by simpa using List.find?_some hfd
                have := order_all (ml := ml) hTw hord hm
                rw [hn, ← hof] at this
                exact hk (List.contains_iff_mem.2 this)
          · rw [if_pos (by rw [hCP]; exact hc)] at hRE hB
            exact ⟨hB.symm, fun _ => hRE.symm.trans hCP, fun h => absurd h hc⟩
        obtain ⟨rfl, hc1, hc2⟩ := hB0
        have HC := Lib.hid (And.intro hc1 hc2)
        clear hc1 hc2 HRB HRO HR
        go_wp2_with fail
        refine q5.mono ?_
        clear q5
        rintro e V5 ⟨hb5, x0, x1, x2, x3, x4, x5, x6, x7, x8, x9, ok, rfl, hok⟩
        obtain ⟨V6, hV6⟩ : ∃ V6, V5.alloc (.cells #[.string (bs x0), .slice x1 x2 x3, .slice x4 x5 x6, .slice x7 x8 x9] 33) = V6 := ⟨_, rfl⟩
        have hb6 : Below V4.heap.size V4 V6 := by rw [← hV6]; exact hb5.alloc hb5.size _
        replace HO := Lib.hid (HO.out.keep hb6)
        have HOK := Lib.hid hok
        clear hb5 hb6 y0 hok
        have y0 := (cell_of_box_1 HO.out.box).1
        have q6 := HQC.out.1 V6 HO.out.hn HO.out.env HO.out.fin
        go_wp2_with fail
        (try rw [hV6])
        refine q6.mono ?_
        clear q6 hV6
        rintro e V7 ⟨rfl, hb7⟩
        have HF := Lib.hid (HO.out.low.trans (hb7.mono HO.out.low.size))
        clear hb7 y0
        by_cases hc : CP = 0
        · obtain ⟨h1, h2⟩ := HC.out.2 hc
          subst hc
          subst h1
          obtain rfl : ok = false := by rw [HOK.out, h2]
          clear HOK HC h2
          go_wp2
          go_ret
          exact ⟨rfl, HF.out⟩
        · have h1 := HC.out.1 hc
          subst h1
          have e2 : (RE == RE) = true := by simp
          clear HOK HC
          go_wp2
          go_ret
          exact ⟨rfl, HF.out⟩
      · replace hre : RE = 0 := Decidable.byContradiction hre
        subst hre
        have hbo : BelOk ml O B s ∧ B.length ≤ 1500000 ∧ O.length ≤ 1500000 ∧ ∀ x ∈ B, x.length ≤ 4000000 := by
          obtain ⟨hCP, hO, hRE, hB⟩ := HR.out
          have h0 : checkP ⟨ma, mc, ml⟩ = 0 := by
            unfold belE at hRE
            by_cases e : checkP ⟨ma, mc, ml⟩ = 0
            · exact e
            · rw [if_pos e] at hRE; exact absurd hRE e
          have h1 := bel_ok h0 hRE
          rw [hO, hB] at h1
          obtain ⟨-, hTw, -, out, hord⟩ := checkP_zero h0
          have hof : ordF ⟨ma, mc, ml⟩ = out := by
            unfold ordF; rw [if_neg (by rw [h0]; simp)]
            show (ordN ml ml.length []).getD [] = out
            rw [show ordN ml ml.length [] = some out from hord]; rfl
          obtain ⟨-, h2, h3⟩ := ord_facts hord hbl
          rw [← hof, hO] at h2 h3
          have h4 := h1.sub.length_le
          exact ⟨h1, by omega, h2, fun x hx => h3 x (h1.sub.subset hx)⟩
        obtain ⟨hbo, hBl, hOl, hBs⟩ := hbo
        obtain ⟨hlast1, hlast2⟩ := hbo.last
        have hpos : 0 < B.length := by omega
        obtain ⟨-, hliB⟩ := lies_srow7 HRB.out
        obtain ⟨b, o, rfl, hLB⟩ := hliB.resolve_left (by intro h; rw [h] at hpos; simp at hpos)
        have r9 := hLB (B.length - 1) hlast1
        rw [hlast2] at r9
        have e1 : ((B.length : Int) == 0) = false := by rw [beq_eq_false_iff_ne]; omega
        have e2 : (s == s) = true := by simp
        have e3 : (s != s) = false := by simp
        have e4 : ((B.length - 1 : Nat) : Int) = (B.length : Int) - 1 := by omega
        have e5 : IntKind.i64.wrap ((B.length : Int) - 1) = ((B.length - 1 : Nat) : Int) := by rw [IntWalk.i64_in _ (by omega)]; omega
        have e6 : ((B.length - 1 : Nat) : Int) < (B.length : Int) := by omega
        have e7 : (0 : Int) ≤ ((B.length - 1 : Nat) : Int) := by omega
        have HBO := Lib.hid hbo
        have HBS := Lib.hid hBs
        have HE5 := Lib.hid e5
        clear hbo hBs hlast2 hliB hLB HR e4
        generalize hBm : B.length - 1 = BM at *
        have HBM := Lib.hid hBm
        clear hBm
        have hbase : ∃ bz, V4.heap.size = bz := ⟨_, rfl⟩
        obtain ⟨base, hbase⟩ := hbase
        have HBZ := Lib.hid hbase
        have H0 : Hid (V4.ownsRow base 9 1 (.slice none 0 0) ((B.take 0).flatMap (usN ml)).length (strs ((B.take 0).flatMap (usN ml))) ∧ List.Sublist (B.drop 0) (O.drop 0)) := Lib.hid ⟨by simp only [List.take_zero, List.flatMap_nil]; exact World.ownsRow_nil _ _ _ _, HBO.out.sub⟩
        have hg5 : 5 ≤ base := by rw [← hbase]; exact HO.out.env.size
        clear hbase
        go_wp2_with fail
        go_loopg [12, 13, 14] B.length (fun gh v p u wr => ∃ (i a : Nat), u = .int .i64 i ∧ p = .int .i64 a ∧ i + gh = B.length ∧ wr.ownsRow base 9 1 v ((B.take i).flatMap (usN ml)).length (strs ((B.take i).flatMap (usN ml))) ∧ List.Sublist (B.drop i) (O.drop a) ∧ a ≤ O.length ∧ Below base V4 wr ∧ base ≤ wr.heap.size)
        case atStart => exact ⟨0, 0, rfl, rfl, by omega, H0.out.1, H0.out.2, by omega, Below.refl _ _, by rw [HBZ.out]; exact Nat.le_refl _⟩
        case round =>
          obtain ⟨k, at0, rfl, rfl, hk, hown, hsub, hat0, hbr, hbz⟩ := hrel
          have hbr2 : Below V4.heap.size V4 wr := by rw [HBZ.out]; exact hbr
          have HX := Lib.hid (HO.out.keep hbr2)
          have HT := Lib.hid (HRB.out.below hbr2)
          have HTO := Lib.hid (HRO.out.below hbr2)
          have HB4 := Lib.hid hbr
          have HSB := Lib.hid hsub
          have HOW := Lib.hid hown
          clear y0 hbr hbr2 hsub r9 H0
          have y0 := (cell_of_box_1 HX.out.box).1
          obtain ⟨va, vc, rfl, hvc⟩ := own_shape7 hown
          clear hown
          by_cases hlt : k < B.length
          · have d1 : decide (k < B.length) = true := by simpa using hlt
            have d2 : decide ((k : Int) < (B.length : Int)) = true := by rw [decide_eq_true_eq]; omega
            have x1 : (k : Int) < (B.length : Int) := by omega
            obtain ⟨m, hm, hfi, hueq, hus⟩ := HBO.out.at_ k hlt
            have hsl := HBS.out B[k] (List.getElem_mem hlt)
            have hmb := MT.bkL_mem hm
            obtain ⟨-, hli⟩ := lies_srow7 HT.out
            have hliT := lies_take7 hli k
            have hL := hli.resolve_left (by intro h; rw [h] at hlt; simp at hlt)
            obtain ⟨b', o', hbo', hL⟩ := hL
            injection hbo' with hbo'
            injection hbo' with hb1 hb2
            subst hb1
            subst hb2
            have r0 := hL k hlt
            have hTl : (B.take k).length = k := by rw [List.length_take]; omega
            have hbcap := HCAP.out
            have htk1 : (B.take (k + 1)).flatMap (usN ml) = (B.take k).flatMap (usN ml) ++ usesM m := by
              rw [List.take_succ_eq_append_getElem hlt, List.flatMap_append, hueq]; simp
            have hdrk : B.drop k = B[k] :: B.drop (k + 1) := (List.getElem_cons_drop hlt).symm
            have hsumk : ((B.take (k + 1)).flatMap (usN ml)).length ≤ 1500000 := by
              rw [usS_len]
              exact Nat.le_trans (sumU_take ml B (k + 1)) (Nat.le_trans (sumU_le ml B HBO.out.nodup) hbl)
            obtain ⟨US, hUS⟩ : ∃ U, (B.take k).flatMap (usN ml) = U := ⟨_, rfl⟩
            rw [hUS] at htk1 HOW ⊢
            generalize hs2 : B[k] = x at *
            generalize hT : B.take k = T at *
            have q5 : ∀ V, Below wr.heap.size wr V → Calls Tryz.prog 18 #[.agg #[.slice ma ml.length mc], .string (bs x)] V fun e V' => Below V.heap.size V V' ∧ ∃ y : MT, e = .returned (.tuple #[MT.val y, .bool true]) ∧ usesM y = usesM m ∧ y.bk ≤ 1500000 ∧ y.In V'.heap.size (frm V' V.heap.size) := fun V hbV => by
              refine (namesFind_all V n0 ⟨ma, mc, ml⟩ x hsl (Nat.le_trans HX.out.hn hbV.size) (FT.In.keep (Below.keptTo hbV HX.out.hn) _ HX.out.fin) HBK.out).mono ?_
              rintro e V' ⟨h1, ⟨h2, _⟩ | ⟨m2, y, h2, h3, h4, h5⟩⟩
              · rw [hfi] at h2; cases h2
              · have e9 := hfi.symm.trans h2
                cases e9
                exact ⟨h1, y, h3, usesM_nrm h4, by rw [MT.bk_nrm h4]; omega, h5⟩
            have hul := usesM_len m
            obtain ⟨U, hU⟩ : ∃ U, usesM m = U := ⟨_, rfl⟩
            rw [hU] at hus hul htk1
            simp only [hU] at q5
            have hul2 : U.length ≤ 1500000 := by have := hul.1; omega
            rw [htk1, List.length_append] at hsumk
            have HQ := Lib.hid q5
            have HM := Lib.hid (And.intro hliT (And.intro hus (And.intro htk1 hdrk)))
            clear hs2 hT hsl hmb hfi hueq hus hul hm hU hL hliT q5 hli htk1 hdrk hUS
            have dc : ¬ bc < k := by omega
            go_upto_region 18 with (fail)
            have y0A := fun O => alloc_cell y0 O
            have r0A := fun O => alloc_cell r0 O
            go_cut [15, 16] from 84 to 141 (fun p q wx => ∃ gm : Nat, p = .pointer (some ⟨gm, 0, none⟩) ∧ q = .bool true ∧ FndAt wr wx gm U)
            case first =>
              go_region_with (go_at_call 18; refine (HQ.out _ (by first | exact (Below.refl _ _).drew | exact ((Below.refl _ _).drew).alloc (Nat.le_refl _) _)).mono ?_; rintro e V5 ⟨hb5, y, rfl, hyu, hyb, hyi⟩; (try have hfp := found_put (w := wr.drew) rfl hb5 hyi); (try have hfn := found_new (w := wr.drew) hb5 hyi); (try have hbx := box4 ((hb5.block wr.heap.size (by first | (simp; done) | (rw [World.size_alloc]; exact Nat.lt_succ_self _))).trans (World.alloc_heap_new wr.drew (.cells #[.string ⟨#[]⟩, .slice none 0 0, .slice none 0 0, .slice none 0 0] 33)))); (try obtain ⟨⟨c0, c1, c2, c3⟩, f0, f1, f2, f3⟩ := hbx); obtain ⟨nm, pa, pc, pl, ta, tc, tl, ia, ic, il⟩ := y; (try (simp only [MT.cells, putC, Nat.zero_add, Nat.reduceAdd] at hfp; have HFP := Lib.hid hfp; clear hfp)); (try (simp only [MT.cells] at hfn; have HFN := Lib.hid hfn; clear hfn)); simp only [MT.val, MT.cells]; have HY := Lib.hid (And.intro hyu hyb); clear hyu hyb hyi)
              all_goals (go_wp2_with fail; go_meet; first | exact ⟨_, rfl, rfl, ⟨nm, pa, pc, pl, ta, tc, tl, ia, ic, il⟩, HFP.out.1, HFP.out.2.1, HY.out.1, HY.out.2, (Below.refl _ _).drew.trans HFP.out.2.2⟩ | exact ⟨_, rfl, rfl, ⟨nm, pa, pc, pl, ta, tc, tl, ia, ic, il⟩, HFN.out.1, HFN.out.2.1, HY.out.1, HY.out.2, (Below.refl _ _).drew.trans HFN.out.2.2⟩)
            case rest =>
              obtain ⟨gm, rfl, rfl, y, BM2, hyi, hyu, hyb, hbm⟩ := hcut
              replace HX := Lib.hid (HX.out.keep hbm)
              replace HTO := Lib.hid (HTO.out.below hbm)
              replace HB4 := Lib.hid (HB4.out.trans (hbm.mono hbz))
              replace HOW := Lib.hid (below_own_row HOW.out hbm)
              have hbzc : base ≤ wc.heap.size := Nat.le_trans hbz hbm.size
              replace r0 := keep_cell hbm r0
              have HLT := Lib.hid (lies_keep8 HM.out.1 hbm)
              have qU := uses_any wc wc.heap.size y (Nat.le_refl _) hyi hyb
              rw [hyu] at qU
              have hBM2 := BM2
              clear hyi hyu hyb BM2 hbm y0 y0A r0A HQ
              obtain ⟨nm, pa, pc, pl, ta, tc, tl, ia, ic, il⟩ := y
              obtain ⟨⟨c0, c1, c2, c3⟩, -⟩ := box4 hBM2
              simp only [MT.val, MT.cells] at qU
              clear hBM2
              go_wp2_with fail
              refine qU.mono ?_
              clear qU c0 c1 c2 c3
              rintro e we ⟨v, rfl, hov, hbe, -⟩
              obtain ⟨ua, uc, rfl, huc⟩ := own_shape7 hov
              have HU := Lib.hid (lies_srow7 (srow_of hov)).2
              replace HX := Lib.hid (HX.out.keep hbe)
              replace HTO := Lib.hid (HTO.out.below hbe)
              replace HB4 := Lib.hid (HB4.out.trans (hbe.mono hbzc))
              replace HOW := Lib.hid (below_own_row HOW.out hbe)
              have hbze : base ≤ we.heap.size := Nat.le_trans hbzc hbe.size
              replace HLT := Lib.hid (lies_keep8 HLT.out hbe)
              replace r0 := keep_cell hbe r0
              clear hov hbe
              cases gk with
              | zero => omega
              | succ gg =>
                go_wp2_with fail
                go_loopg [18] U.length (fun gh2 u2 wr2 => ∃ j : Nat, u2 = .int .i64 j ∧ j + gh2 = U.length ∧ Below we.heap.size we wr2)
                case atStart => exact ⟨0, rfl, by omega, Below.refl _ _⟩
                case round =>
                  obtain ⟨j, rfl, hj, hbj⟩ := hrel
                  have HUj := Lib.hid (lies_keep8 HU.out hbj)
                  have HLj := Lib.hid (lies_keep8 HLT.out hbj)
                  by_cases hltj : j < U.length
                  · have g1 : decide (j < U.length) = true := by simpa using hltj
                    have g2 : decide ((j : Int) < (U.length : Int)) = true := by rw [decide_eq_true_eq]; omega
                    have g3 : (j : Int) < (U.length : Int) := by omega
                    have hin := HM.out.2.1 U[j] (List.getElem_mem hltj)
                    obtain ⟨b2, o2, rfl, hL2⟩ := (HUj.out).resolve_left (by intro h; rw [h] at hltj; simp at hltj)
                    have r2 := hL2 j hltj
                    generalize U[j] = t at *
                    have hA := fun n => Calls.quiet_of (n := n) (amongS_any (some ⟨b, o, none⟩) bc T t (by omega) (wr.drewN n) (lies_drewN7 n HLj.out))
                    simp only [hin, hTl] at hA
                    have HA3 := Lib.hid hA
                    have HBN := Lib.hid (fun n => below_drewN hbj n)
                    clear hA hin hL2 hbj
                    go_wp2
                    go_quiet ((go_at_call 28; exact HA3.out _))
                    go_wp2
                    cases gk with
                    | zero => omega
                    | succ gg2 =>
                      go_roundg gg2
                      case rel => exact ⟨j + 1, rfl, by omega, HBN.out _⟩
                      case measure => omega
                  · have g1 : decide (j < U.length) = false := by simpa using hltj
                    have g2 : decide ((j : Int) < (U.length : Int)) = false := by rw [decide_eq_false_iff_not]; omega
                    have HOW2 := Lib.hid (below_own_row HOW.out hbj)
                    have HXj := Lib.hid (HX.out.keep hbj)
                    have HTOj := Lib.hid (HTO.out.below hbj)
                    have HB4j := Lib.hid (HB4.out.trans (hbj.mono hbze))
                    have hbzj : base ≤ wr.heap.size := Nat.le_trans hbze hbj.size
                    have r0j := keep_cell hbj r0
                    clear hbj r0
                    go_wp2_with (at_builtin; refine wpList_append_strs7 rfl (.tmp 118) (.tmp 119) rfl base (.slice va US.length vc) US.length (strs US) rfl HOW2.out ua U uc rfl huc HUj.out (by omega) hbzj ?_; intro v9 w9 own9 hg9)
                    have hne : ∀ i, (Value.slice va US.length vc).ownBlock = some i → base ≤ i := fun i hi => (HOW2.out.lt i hi).1
                    have hb9 : Below base wr w9 := (Below.refl _ _).grown hg9 hbzj hne
                    have own9' : w9.ownsRow base 9 1 v9 (US ++ U).length (strs (US ++ U)) := by
                      have e1 : (US ++ U).length = US.length + U.length := by simp
                      have e2 : strs (US ++ U) = strs US ++ strs U := by simp [strs]
                      rw [e1, e2]; exact own9
                    have HOW9 := Lib.hid own9'
                    have HB9 := Lib.hid (HB4j.out.trans hb9)
                    have hbz9 : base ≤ w9.heap.size := Nat.le_trans hbzj hb9.size
                    have HB94 : Hid (Below V4.heap.size V4 w9) := Lib.hid (by rw [HBZ.out]; exact HB9.out)
                    have HO9 := Lib.hid (lies_srow7 (HRO.out.below HB94.out)).2
                    have HL9 := Lib.hid (lies_srow7 (HRB.out.below HB94.out)).2
                    obtain ⟨v9a, v9c, rfl, -⟩ := own_shape7 own9
                    clear own9 hg9 hb9 own9' hne r0j HXj HTOj HOW2 HUj HLj
                    go_loopg [13] (O.length - at0) (fun gh3 p3 wr3 => ∃ a3 : Nat, p3 = .int .i64 a3 ∧ a3 + gh3 = O.length ∧ List.Sublist (B.drop k) (O.drop a3) ∧ Below w9.heap.size w9 wr3)
                    case atStart => exact ⟨at0, rfl, by omega, HSB.out, Below.refl _ _⟩
                    case round =>
                      obtain ⟨a3, rfl, ha3, hsb3, hb3⟩ := hrel
                      have hlt3 : a3 < O.length := by
                        by_cases h : a3 < O.length
                        · exact h
                        · exfalso
                          rw [HM.out.2.2.2, List.drop_eq_nil_of_le (show O.length ≤ a3 by omega)] at hsb3
                          cases hsb3
                      have i1 : decide (a3 < O.length) = true := by simpa using hlt3
                      have i2 : decide ((a3 : Int) < (O.length : Int)) = true := by rw [decide_eq_true_eq]; omega
                      have i3 : (a3 : Int) < (O.length : Int) := by omega
                      have i4 : ((a3 : Int) == (O.length : Int)) = false := by rw [beq_eq_false_iff_ne]; omega
                      obtain ⟨bo, oo, rfl, hLO⟩ := (lies_keep8 HO9.out hb3).resolve_left (by intro h; rw [h] at hlt3; simp at hlt3)
                      have rO := hLO a3 hlt3
                      have hdrO : O.drop a3 = O[a3] :: O.drop (a3 + 1) := (List.getElem_cons_drop hlt3).symm
                      obtain ⟨b8, o8, hbo8, hL8⟩ := (lies_keep8 HL9.out hb3).resolve_left (by intro h; rw [h] at hlt; simp at hlt)
                      injection hbo8 with hbo8
                      injection hbo8 with hb1 hb2
                      subst hb1
                      subst hb2
                      have rB := hL8 k hlt
                      have hxk : B[k] = x := by have h1 := HM.out.2.2.2; rw [← List.getElem_cons_drop hlt] at h1; injection h1
                      rw [hxk] at rB
                      have HFW := Lib.hid (fun n => below_drewN hb3 n)
                      have hstep : O[a3] ≠ x → List.Sublist (B.drop k) (O.drop (a3 + 1)) := fun hne => by
                        rw [HM.out.2.2.2, hdrO] at hsb3
                        rw [HM.out.2.2.2]
                        exact sub_step hsb3 hne
                      have hdone : List.Sublist (B.drop (k + 1)) (O.drop a3) := by
                        rw [HM.out.2.2.2] at hsb3
                        exact (List.sublist_cons_self _ _).trans hsb3
                      have HST := Lib.hid (And.intro hstep hdone)
                      clear hLO hL8 hdrO hxk hsb3 hstep hdone
                      generalize O[a3] = z at *
                      by_cases hzx : z = x
                      · subst hzx
                        have e8 : (z != z) = false := by simp
                        clear hb3
                        go_wp2
                        go_quiet (fail)
                        go_wp2
                        go_roundg gg
                        case rel => exact ⟨k + 1, a3, rfl, rfl, by omega, by rw [HM.out.2.2.1]; exact below_own_row HOW9.out (HFW.out _), HST.out.2, by omega, HB9.out.trans ((HFW.out _).mono hbz9), Nat.le_trans hbz9 (HFW.out 0).size⟩
                        case measure => omega
                      · have e8 : (z != x) = true := by simpa using hzx
                        have e9 : (z == x) = false := by simpa using hzx
                        have HS2 := Lib.hid (HST.out.1 hzx)
                        clear hb3 HST
                        go_wp2
                        go_quiet (fail)
                        go_wp2
                        cases gk with
                        | zero => omega
                        | succ gg3 =>
                          go_roundg gg3
                          case rel => exact ⟨a3 + 1, rfl, by omega, HS2.out, HFW.out _⟩
                          case measure => omega
          · have d1 : decide (k < B.length) = false := by simpa using hlt
            have d2 : decide ((k : Int) < (B.length : Int)) = false := by rw [decide_eq_false_iff_not]; omega
            have hkl : k = B.length := by omega
            subst hkl
            rw [List.take_length] at HOW ⊢
            obtain ⟨US, hUS⟩ : ∃ U, B.flatMap (usN ml) = U := ⟨_, rfl⟩
            have hUL : US.length ≤ 1500000 := by
              rw [← hUS, usS_len]
              exact Nat.le_trans (sumU_le ml B HBO.out.nodup) hbl
            rw [hUS] at HOW ⊢
            have HUU := Lib.hid (fun (j : Nat) (hj : j < B.length - 1) => (show US.contains (B[j]'(by omega)) = true by rw [← hUS]; exact HBO.out.used j hj))
            have HLU : Hid (LiesS wr va US) := Lib.hid (by
              obtain ⟨a8, c8, h8, -, h9⟩ := TV.own HOW.out
              injection h8 with h8
              subst h8
              exact h9)
            have HLB := Lib.hid (lies_srow7 HT.out).2
            have HLOW := Lib.hid HX.out.low
            have he5 := HE5.out
            clear HOW HSB HTO HT HX hUS y0 hbz HBO
            go_wp2_with fail
            go_loopg [19] BM (fun gh2 u2 wr2 => ∃ j : Nat, u2 = .int .i64 j ∧ j + gh2 = BM ∧ Below wr.heap.size wr wr2)
            case atStart => exact ⟨0, rfl, by omega, Below.refl _ _⟩
            case round =>
              obtain ⟨j, rfl, hj, hbj⟩ := hrel
              have HLj := Lib.hid (lies_keep8 HLB.out hbj)
              have HLk := Lib.hid (lies_keep8 HLU.out hbj)
              have HBJ := Lib.hid hbj
              have HFj := Lib.hid (HLOW.out.trans (hbj.mono HLOW.out.size))
              by_cases hltj : j < BM
              · have g1 : decide (j < BM) = true := by simpa using hltj
                have g2 : decide ((j : Int) < (BM : Int)) = true := by rw [decide_eq_true_eq]; omega
                have g3 : (j : Int) < (B.length : Int) := by omega
                have hjB : j < B.length := by omega
                obtain ⟨b8, o8, hbo8, hL8⟩ := (HLj.out).resolve_left (by intro h; rw [h] at hjB; simp at hjB)
                injection hbo8 with hbo8
                injection hbo8 with hb1 hb2
                subst hb1
                subst hb2
                have rB := hL8 j hjB
                have hct := HUU.out j (by have := HBM.out; omega)
                have q := amongS_any va vc US B[j] (by omega) wr HLk.out
                rw [hct] at q
                generalize B[j] = t at *
                clear hL8 hct hbj
                go_wp2_with fail
                refine q.mono ?_
                clear q rB
                rintro e wq ⟨rfl, nq, rfl⟩
                have HFN := Lib.hid (below_drewN HBJ.out nq)
                go_wp2
                cases gk with
                | zero => omega
                | succ gg2 =>
                  go_roundg gg2
                  case rel => exact ⟨j + 1, rfl, by omega, HFN.out⟩
                  case measure => omega
              · have g1 : decide (j < BM) = false := by simpa using hltj
                have g2 : decide ((j : Int) < (BM : Int)) = false := by rw [decide_eq_false_iff_not]; omega
                clear hbj
                go_wp2
                go_ret
                first
                  | exact ⟨rfl, HFj.out⟩
                  | (have h9 := HFj.out; rw [hg] at h9; exact ⟨rfl, h9⟩)
end Go.Proofs.YtbfhbblbjgkolaaGreatDoor
