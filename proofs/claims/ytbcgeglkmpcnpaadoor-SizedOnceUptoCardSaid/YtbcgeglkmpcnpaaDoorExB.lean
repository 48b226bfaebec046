/-
  The reference of layer 9: are two designs the same.
-/
import Derived.Test.YtbcgeglkmpcnpaaDoorExA
import Derived.Test.YtbcgeglkmpcnpaaDoorEzX
namespace Go.Proofs.YtbcgeglkmpcnpaaDoor
open Go Go.RowKit
set_option linter.unusedVariables false
set_option linter.unusedSimpArgs false
open Go.Sort

theorem refT_any : ∀ x : TT, TT.bkL x.sl ≤ 4500000 → ∀ y : TT, TT.bkL y.sl ≤ 4500000 → ∀ (n0 c c2 : Nat) (w : World), n0 ≤ w.heap.size → InRow 6 TT.cells (TT.In n0 w) n0 w x.sl x.sa → InRow 6 TT.cells (TT.In n0 w) n0 w y.sl y.sa → Calls Tryd.prog 40 #[.slice x.sa x.sl.length c, .slice y.sa y.sl.length c2] w fun e w' => e = .returned (.bool (eqList sameT x.sl y.sl)) ∧ Below w.heap.size w w' := by
  refine TT.ind ?_
  intro op sg uh ul xa xc xl sa sc sl ih hsz y hy n0 c c2 w hn0 h1 h2
  exact refTL_any n0 sl y.sl hsz hy (fun x hx y' hy' c c2 w' g1 g2 g3 => ih x hx (by
    have h3 := TT.bkL_mem hx
    have h4 : TT.bkL x.sl ≤ x.bk := by obtain ⟨_, _, _, _, _, _, _, _, _, q⟩ := x; simp only [TT.sl, TT.bk]; omega
    simp only [TT.sl] at hsz
    omega) y' hy' n0 c c2 w' g1 g2 g3) sa y.sa c c2 w hn0 h1 h2
theorem refTR_any (n0 : Nat) (l m : List TT) (hl : TT.bkL l ≤ 4500000) (hm : TT.bkL m ≤ 4500000) (a a2 : Option Addr) (c c2 : Nat) (w : World) (hn0 : n0 ≤ w.heap.size) (h1 : InRow 6 TT.cells (TT.In n0 w) n0 w l a) (h2 : InRow 6 TT.cells (TT.In n0 w) n0 w m a2) : Calls Tryd.prog 40 #[.slice a l.length c, .slice a2 m.length c2] w fun e w' => e = .returned (.bool (eqList sameT l m)) ∧ Below w.heap.size w w' :=
  refT_any (.mk 0 0 0 0 none 0 [] a 0 l) hl (.mk 0 0 0 0 none 0 [] a2 0 m) hm n0 c c2 w hn0 h1 h2
set_option maxHeartbeats 16000000 in
set_option maxRecDepth 100000 in
theorem refSame_any (d f : DT) (hd : d.bk ≤ 4500000) (hf : f.bk ≤ 4500000) (n0 : Nat) (w : World) (hn0 : n0 ≤ w.heap.size) (hi1 : d.In n0 w) (hi2 : f.In n0 w) : Calls Tryd.prog 16 #[d.val, f.val] w fun e w' => e = .returned (.bool (sameD d f)) ∧ Below w.heap.size w w' := by
  obtain ⟨ga, gc, gl, qa, qc, ql, ka, kc, kl⟩ := d
  obtain ⟨ga2, gc2, gl2, qa2, qc2, ql2, ka2, kc2, kl2⟩ := f
  simp only [DT.bk] at hd hf
  have l0 : gl.length ≤ 4500000 := by have := GT.bkL_len gl; omega
  have l1 : gl2.length ≤ 4500000 := by have := GT.bkL_len gl2; omega
  have l2 : ql.length ≤ 4500000 := by have := QT.bkL_len ql; omega
  have l3 : ql2.length ≤ 4500000 := by have := QT.bkL_len ql2; omega
  have l4 : kl.length ≤ 4500000 := by have := KT.bkL_len kl; omega
  have l5 : kl2.length ≤ 4500000 := by have := KT.bkL_len kl2; omega
  obtain ⟨R, hR⟩ : ∃ R, sameD ⟨ga, gc, gl, qa, qc, ql, ka, kc, kl⟩ ⟨ga2, gc2, gl2, qa2, qc2, ql2, ka2, kc2, kl2⟩ = R := ⟨_, rfl⟩
  have HR : Hid (R = (eqList sameG gl gl2 && (eqList sameQ ql ql2 && eqList sameK kl kl2))) := Lib.hid hR.symm
  rw [hR]
  have HI := Lib.hid (And.intro hi1 hi2)
  have HN := Lib.hid hn0
  have HBD := Lib.hid (And.intro hd hf)
  clear hR hd hf hi1 hi2 hn0
  simp only [DT.val, DT.cells]
  obtain ⟨gx, hgx⟩ : ∃ gx, w.heap.size = gx := ⟨_, rfl⟩
  obtain ⟨wa, hwa⟩ : ∃ wa, w.alloc (.cells #[.slice ga gl.length gc, .slice qa ql.length qc, .slice ka kl.length kc] 26) = wa := ⟨_, rfl⟩
  have hba : Below w.heap.size w wa := by rw [← hwa]; exact (Below.refl _ _).alloc (Nat.le_refl _) _
  have hsa : wa.heap.size = gx + 1 := by rw [← hwa, World.size_alloc, hgx]
  have BD : wa.heap[gx]? = some (.cells #[.slice ga gl.length gc, .slice qa ql.length qc, .slice ka kl.length kc] 26 (0, 0)) := by rw [← hwa, ← hgx]; exact World.alloc_heap_new w _
  obtain ⟨w1, hw1⟩ : ∃ w1, wa.alloc (.cells #[.slice ga2 gl2.length gc2, .slice qa2 ql2.length qc2, .slice ka2 kl2.length kc2] 26) = w1 := ⟨_, rfl⟩
  have hbb : Below wa.heap.size wa w1 := by rw [← hw1]; exact (Below.refl _ _).alloc (Nat.le_refl _) _
  have BF : w1.heap[gx + 1]? = some (.cells #[.slice ga2 gl2.length gc2, .slice qa2 ql2.length qc2, .slice ka2 kl2.length kc2] 26 (0, 0)) := by rw [← hw1, ← hsa]; exact World.alloc_heap_new wa _
  have HW := Lib.hid (And.intro (hba.trans (hbb.mono hba.size)) (And.intro (block_kept BD hbb) BF))
  clear hba BD hbb BF
  go_enter Tryd.func16, Tryd.ntmps16
  go_upto_region 1 with (fail)
  (try rw [hwa])
  (try rw [hgx])
  (try rw [hw1])
  (try rw [hsa])
  clear hwa hw1 hsa hgx
  obtain ⟨d0, d1, d2⟩ := opq3 HW.out.2.1
  obtain ⟨f0, f1, f2⟩ := opq3 HW.out.2.2
  by_cases t0 : gl.length = gl2.length
  · have tl0a : ((gl.length : Int) != (gl2.length : Int)) = false := by rw [t0]; simp
    have tl0b : (gl.length != gl2.length) = false := by rw [t0]; simp
    have HL0 := Lib.hid t0
    clear t0
    by_cases t1 : ql.length = ql2.length
    · have tl1a : ((ql.length : Int) != (ql2.length : Int)) = false := by rw [t1]; simp
      have tl1b : (ql.length != ql2.length) = false := by rw [t1]; simp
      have HL1 := Lib.hid t1
      clear t1
      by_cases t2 : kl.length = kl2.length
      · have tl2a : ((kl.length : Int) != (kl2.length : Int)) = false := by rw [t2]; simp
        have tl2b : (kl.length != kl2.length) = false := by rw [t2]; simp
        have HL2 := Lib.hid t2
        clear t2
        go_wp2
        clear d0 d1 d2 f0 f1 f2
        (try clear tl0a tl0b tl1a tl1b tl2a tl2b)
        obtain ⟨RG, hRG⟩ : ∃ x, eqList sameG gl gl2 = x := ⟨_, rfl⟩
        rw [hRG] at HR
        have HRG := Lib.hid hRG
        clear hRG
        go_loopg [5] gl.length (fun g u wr => ∃ k : Nat, u = .int .i64 k ∧ k + g = gl.length ∧ eqList sameG (gl.drop k) (gl2.drop k) = RG ∧ Below w1.heap.size w1 wr)
        case atStart => exact ⟨0, rfl, by omega, by rw [List.drop_zero, List.drop_zero]; exact HRG.out, Below.refl _ _⟩
        case round =>
          obtain ⟨k, rfl, hk, hdr, hb1⟩ := hrel
          generalize wr = W0 at *
          generalize gk = GK0 at *
          have HD0 := Lib.hid hdr
          have HB0 := Lib.hid hb1
          clear hdr
          obtain ⟨d0, d1, d2⟩ := opq3 (block_kept HW.out.2.1 hb1)
          obtain ⟨f0, f1, f2⟩ := opq3 (block_kept HW.out.2.2 hb1)
          by_cases hlt : k < gl.length
          · have hlt2 : k < gl2.length := by have := HL0.out; omega
            have e1 : decide (k < gl.length) = true := by simpa using hlt
            have e2 : decide ((k : Int) < (gl.length : Int)) = true := by rw [decide_eq_true_eq]; omega
            have x1 : (k : Int) < (gl.length : Int) := by omega
            have x2 : (k : Int) < (gl2.length : Int) := by omega
            have hkt := Below.keptTo (HW.out.1.trans (hb1.mono HW.out.1.size)) HN.out
            have hnw : n0 ≤ W0.heap.size := Nat.le_trans HN.out (Nat.le_trans HW.out.1.size hb1.size)
            have hE := eqList_drop sameG gl gl2 k hlt hlt2
            rw [HD0.out] at hE
            obtain ⟨gh, hgh⟩ : ∃ gh, GK0 = gh + 1 := ⟨GK0 - 1, by omega⟩
            subst hgh
            obtain ⟨b, q, rfl, hb, hr, _⟩ := InRow.at (InRow.keep hkt (fun _ _ h => h) HI.out.1.1) hlt
            obtain ⟨b', q', rfl, hb', hs, _⟩ := InRow.at (InRow.keep hkt (fun _ _ h => h) HI.out.2.1) hlt2
            generalize hgx : gl[k] = x at *
            generalize hgy : gl2[k] = y at *
            obtain ⟨nm, wd, kd, ini⟩ := x
            obtain ⟨nm2, wd2, kd2, ini2⟩ := y
            obtain ⟨bp, hbp⟩ : ∃ bp, sameG ⟨nm, wd, kd, ini⟩ ⟨nm2, wd2, kd2, ini2⟩ = bp := ⟨_, rfl⟩
            have hcmp := fun w => sig_neq nm nm2 wd wd2 kd kd2 ini ini2 w
            simp only [hbp] at hcmp
            rw [hbp] at hE
            have r0 : W0.cell? ⟨b, q + k * 4, none⟩ = some (.string (bs nm)) := hr 0 _ rfl
            have r1 : W0.cell? ⟨b, q + k * 4 + 1, none⟩ = some (.int .i64 wd) := hr 1 _ rfl
            have r2 : W0.cell? ⟨b, q + k * 4 + 2, none⟩ = some (.int .i64 kd) := hr 2 _ rfl
            have r3 : W0.cell? ⟨b, q + k * 4 + 3, none⟩ = some (.int .u64 (ini : Int)) := hr 3 _ rfl
            have s0 : W0.cell? ⟨b', q' + k * 4, none⟩ = some (.string (bs nm2)) := hs 0 _ rfl
            have s1 : W0.cell? ⟨b', q' + k * 4 + 1, none⟩ = some (.int .i64 wd2) := hs 1 _ rfl
            have s2 : W0.cell? ⟨b', q' + k * 4 + 2, none⟩ = some (.int .i64 kd2) := hs 2 _ rfl
            have s3 : W0.cell? ⟨b', q' + k * 4 + 3, none⟩ = some (.int .u64 (ini2 : Int)) := hs 3 _ rfl
            have HEE := Lib.hid hE.symm
            clear hr hs hgx hgy hbp hb1 hE hkt hnw
            cases bp
            all_goals
              simp only [Bool.not_true, Bool.not_false] at hcmp
              go_wp2
              go_quiet (fail)
              go_wp2
              first
              | (go_ret
                 exact ⟨by rw [HR.out, ← HEE.out]; simp, drawnB (HW.out.1.trans (HB0.out.mono HW.out.1.size)) _⟩)
              | (go_roundg gh
                 case rel => exact ⟨k + 1, by simp; first | done | rfl | omega, by omega, by rw [← HEE.out]; simp, drawnB HB0.out _⟩
                 case measure => omega)
          · have e1 : decide (k < gl.length) = false := by simpa using hlt
            have e2 : decide ((k : Int) < (gl.length : Int)) = false := by rw [decide_eq_false_iff_not]; omega
            have HE0 : RG = true := by have h1 := HD0.out; have h2 := HL0.out; rw [List.drop_eq_nil_of_le (by omega), List.drop_eq_nil_of_le (by omega)] at h1; rw [← h1]; rfl
            subst HE0
            clear hb1 hk hlt HRG HD0
            go_wp2
            clear d0 d1 d2 f0 f1 f2 e1 e2
            obtain ⟨RQ, hRQ⟩ : ∃ x, eqList sameQ ql ql2 = x := ⟨_, rfl⟩
            rw [hRQ] at HR
            have HRQ := Lib.hid hRQ
            clear hRQ
            go_loopg [6] ql.length (fun g u wr => ∃ k : Nat, u = .int .i64 k ∧ k + g = ql.length ∧ eqList sameQ (ql.drop k) (ql2.drop k) = RQ ∧ Below w1.heap.size w1 wr)
            case atStart => exact ⟨0, rfl, by omega, by rw [List.drop_zero, List.drop_zero]; exact HRQ.out, HB0.out⟩
            case round =>
              obtain ⟨k, rfl, hk, hdr, hb1⟩ := hrel
              generalize wr = W1 at *
              generalize gk = GK1 at *
              have HD1 := Lib.hid hdr
              have HB1 := Lib.hid hb1
              clear hdr
              obtain ⟨d0, d1, d2⟩ := opq3 (block_kept HW.out.2.1 hb1)
              obtain ⟨f0, f1, f2⟩ := opq3 (block_kept HW.out.2.2 hb1)
              by_cases hlt : k < ql.length
              · have hlt2 : k < ql2.length := by have := HL1.out; omega
                have e1 : decide (k < ql.length) = true := by simpa using hlt
                have e2 : decide ((k : Int) < (ql.length : Int)) = true := by rw [decide_eq_true_eq]; omega
                have x1 : (k : Int) < (ql.length : Int) := by omega
                have x2 : (k : Int) < (ql2.length : Int) := by omega
                have hkt := Below.keptTo (HW.out.1.trans (hb1.mono HW.out.1.size)) HN.out
                have hnw : n0 ≤ W1.heap.size := Nat.le_trans HN.out (Nat.le_trans HW.out.1.size hb1.size)
                have hE := eqList_drop sameQ ql ql2 k hlt hlt2
                rw [HD1.out] at hE
                obtain ⟨gh, hgh⟩ : ∃ gh, GK1 = gh + 1 := ⟨GK1 - 1, by omega⟩
                subst hgh
                obtain ⟨b, q, rfl, hb, hr, hx⟩ := InRow.at (InRow.keep hkt (fun x _ h => QT.In.keep hkt x h) HI.out.1.2.1) hlt
                obtain ⟨b', q', rfl, hb', hs, hy⟩ := InRow.at (InRow.keep hkt (fun x _ h => QT.In.keep hkt x h) HI.out.2.2.1) hlt2
                have hk1 := QT.bkL_mem (List.getElem_mem hlt)
                have hk2 := QT.bkL_mem (List.getElem_mem hlt2)
                generalize hgx : ql[k] = x at *
                generalize hgy : ql2[k] = y at *
                obtain ⟨ck, sa, sc, sl⟩ := x
                obtain ⟨ck2, sa2, sc2, sl2⟩ := y
                simp only [QT.bk] at hk1 hk2
                have hcx := fun (dq : Nat) (os : Array Obj) => refTR_any n0 sl sl2 (by have := HBD.out.1; omega) (by have := HBD.out.2; omega) sa sa2 sc sc2 (grow (redrawn W1 dq) os) (Nat.le_trans hnw (below_regrown W1 dq os).size) (InRow.keep (Below.keptTo (below_regrown W1 dq os) hnw) (fun x _ h => TT.In.keep (Below.keptTo (below_regrown W1 dq os) hnw) x h) hx) (InRow.keep (Below.keptTo (below_regrown W1 dq os) hnw) (fun x _ h => TT.In.keep (Below.keptTo (below_regrown W1 dq os) hnw) x h) hy)
                rw [sameQ] at hE
                obtain ⟨bp, hbp⟩ : ∃ b, eqList sameT sl sl2 = b := ⟨_, rfl⟩
                rw [hbp] at hE
                simp only [hbp] at hcx
                have r0 : W1.cell? ⟨b, q + k * 2, none⟩ = some (.bool ck) := hr 0 _ rfl
                have r1 : W1.cell? ⟨b, q + k * 2 + 1, none⟩ = some (.slice sa sl.length sc) := hr 1 _ rfl
                have s0 : W1.cell? ⟨b', q' + k * 2, none⟩ = some (.bool ck2) := hs 0 _ rfl
                have s1 : W1.cell? ⟨b', q' + k * 2 + 1, none⟩ = some (.slice sa2 sl2.length sc2) := hs 1 _ rfl
                have HEE := Lib.hid hE.symm
                have HCX := Lib.hid hcx
                have r0R := cell_regrown r0
                have r1R := cell_regrown r1
                have s0R := cell_regrown s0
                have s1R := cell_regrown s1
                have d1R := cell_regrown d1
                have f1R := cell_regrown f1
                clear hr hs hx hy hgx hgy hbp hb1 hcx hE hkt hnw hk1 hk2 hb hb'
                by_cases tc : ck = ck2
                · have c0 : (ck != ck2) = false := by simp [tc]
                  have c1 : (ck == ck2) = true := by simp [tc]
                  clear tc
                  cases bp
                  all_goals
                    go_wp2_with fail
                    refine wp_region_quiet_below (by kernel_rfl) (by kernel_rfl) ?_
                    repeat (go_big_quiet_step (first | (go_at_call 40; exact Calls.regrown_of (HCX.out _ _))))
                    refine wpQuiet_nil ?_
                    intro _ hw'
                    obtain ⟨⟨dq, osq⟩, hw''⟩ := hw'
                    subst hw''
                    have hbq := below_regrown W1 dq osq
                    have HB5 := Lib.hid (HB1.out.trans (hbq.mono HB1.out.size))
                    clear r0R r0 r1R r1 s0R s0 s1R s1 d1R d1 f1R f1 hbq
                    generalize grow (redrawn W1 dq) osq = w5 at *
                    go_wp2
                    first
                    | (go_ret
                       exact ⟨by rw [HR.out, ← HEE.out]; simp [*], HW.out.1.trans (HB5.out.mono HW.out.1.size)⟩)
                    | (go_roundg gh
                       case rel => exact ⟨k + 1, by simp; first | done | rfl | omega, by omega, by rw [← HEE.out]; simp [*], HB5.out⟩
                       case measure => omega)
                · have c0 : (ck != ck2) = true := by simp [tc]
                  have c1 : (ck == ck2) = false := by simp [tc]
                  clear tc
                  go_wp2_with fail
                  refine wp_region_quiet_below (by kernel_rfl) (by kernel_rfl) ?_
                  repeat (go_big_quiet_step (fail))
                  refine wpQuiet_nil ?_
                  intro _ hw'
                  obtain ⟨⟨dq, osq⟩, hw''⟩ := hw'
                  subst hw''
                  have hbq := below_regrown W1 dq osq
                  have HB5 := Lib.hid (HB1.out.trans (hbq.mono HB1.out.size))
                  clear r0R r0 r1R r1 s0R s0 s1R s1 d1R d1 f1R f1 hbq
                  generalize grow (redrawn W1 dq) osq = w5 at *
                  go_wp2
                  first
                  | (go_ret
                     exact ⟨by rw [HR.out, ← HEE.out]; simp [*], HW.out.1.trans (HB5.out.mono HW.out.1.size)⟩)
                  | (go_roundg gh
                     case rel => exact ⟨k + 1, by simp; first | done | rfl | omega, by omega, by rw [← HEE.out]; simp [*], HB5.out⟩
                     case measure => omega)
              · have e1 : decide (k < ql.length) = false := by simpa using hlt
                have e2 : decide ((k : Int) < (ql.length : Int)) = false := by rw [decide_eq_false_iff_not]; omega
                have HE1 : RQ = true := by have h1 := HD1.out; have h2 := HL1.out; rw [List.drop_eq_nil_of_le (by omega), List.drop_eq_nil_of_le (by omega)] at h1; rw [← h1]; rfl
                subst HE1
                clear hb1 hk hlt HRQ HD1
                go_wp2
                clear d0 d1 d2 f0 f1 f2 e1 e2
                obtain ⟨RK, hRK⟩ : ∃ x, eqList sameK kl kl2 = x := ⟨_, rfl⟩
                rw [hRK] at HR
                have HRK := Lib.hid hRK
                clear hRK
                go_loopg [7] kl.length (fun g u wr => ∃ k : Nat, u = .int .i64 k ∧ k + g = kl.length ∧ eqList sameK (kl.drop k) (kl2.drop k) = RK ∧ Below w1.heap.size w1 wr)
                case atStart => exact ⟨0, rfl, by omega, by rw [List.drop_zero, List.drop_zero]; exact HRK.out, HB1.out⟩
                case round =>
                  obtain ⟨k, rfl, hk, hdr, hb1⟩ := hrel
                  generalize wr = W2 at *
                  generalize gk = GK2 at *
                  have HD2 := Lib.hid hdr
                  have HB2 := Lib.hid hb1
                  clear hdr
                  obtain ⟨d0, d1, d2⟩ := opq3 (block_kept HW.out.2.1 hb1)
                  obtain ⟨f0, f1, f2⟩ := opq3 (block_kept HW.out.2.2 hb1)
                  by_cases hlt : k < kl.length
                  · have hlt2 : k < kl2.length := by have := HL2.out; omega
                    have e1 : decide (k < kl.length) = true := by simpa using hlt
                    have e2 : decide ((k : Int) < (kl.length : Int)) = true := by rw [decide_eq_true_eq]; omega
                    have x1 : (k : Int) < (kl.length : Int) := by omega
                    have x2 : (k : Int) < (kl2.length : Int) := by omega
                    have hkt := Below.keptTo (HW.out.1.trans (hb1.mono HW.out.1.size)) HN.out
                    have hnw : n0 ≤ W2.heap.size := Nat.le_trans HN.out (Nat.le_trans HW.out.1.size hb1.size)
                    have hE := eqList_drop sameK kl kl2 k hlt hlt2
                    rw [HD2.out] at hE
                    obtain ⟨gh, hgh⟩ : ∃ gh, GK2 = gh + 1 := ⟨GK2 - 1, by omega⟩
                    subst hgh
                    obtain ⟨b, q, rfl, hb, hr, hx⟩ := InRow.at (InRow.keep hkt (fun x _ h => KT.In.keep hkt x h) HI.out.1.2.2) hlt
                    obtain ⟨b', q', rfl, hb', hs, hy⟩ := InRow.at (InRow.keep hkt (fun x _ h => KT.In.keep hkt x h) HI.out.2.2.2) hlt2
                    have hk1 := KT.bkL_mem (List.getElem_mem hlt)
                    have hk2 := KT.bkL_mem (List.getElem_mem hlt2)
                    generalize hgx : kl[k] = x at *
                    generalize hgy : kl2[k] = y at *
                    obtain ⟨bn, x⟩ := x
                    obtain ⟨bn2, y⟩ := y
                    simp only [KT.bk] at hk1 hk2
                    have hcx := fun (dq : Nat) (os : Array Obj) => refSameE_any x (by have := HBD.out.1; omega) y (by have := HBD.out.2; omega) n0 (grow (redrawn W2 dq) os) (Nat.le_trans hnw (below_regrown W2 dq os).size) (ET.In.keep (Below.keptTo (below_regrown W2 dq os) hnw) _ hx) (ET.In.keep (Below.keptTo (below_regrown W2 dq os) hnw) _ hy)
                    rw [sameK] at hE
                    obtain ⟨bp, hbp⟩ : ∃ b, sameE x y = b := ⟨_, rfl⟩
                    rw [hbp] at hE
                    simp only [hbp] at hcx
                    obtain ⟨bc, hbc⟩ : ∃ b, (bn == bn2) = b := ⟨_, rfl⟩
                    rw [hbc] at hE
                    obtain ⟨op3, wd3, v3, sg3, uh3, ul3, xn3, xa3, xc3, xl3⟩ := x
                    obtain ⟨op4, wd4, v4, sg4, uh4, ul4, xn4, xa4, xc4, xl4⟩ := y
                    simp only [ET.val, ET.cells] at hcx
                    have r0 : W2.cell? ⟨b, q + k * 9, none⟩ = some (.string (bs bn)) := hr 0 _ rfl
                    have r1 : W2.cell? ⟨b, q + k * 9 + 1, none⟩ = some (.int .i64 op3) := hr 1 _ rfl
                    have r2 : W2.cell? ⟨b, q + k * 9 + 2, none⟩ = some (.int .i64 wd3) := hr 2 _ rfl
                    have r3 : W2.cell? ⟨b, q + k * 9 + 3, none⟩ = some (.int .u64 (v3 : Int)) := hr 3 _ rfl
                    have r4 : W2.cell? ⟨b, q + k * 9 + 4, none⟩ = some (.int .i64 sg3) := hr 4 _ rfl
                    have r5 : W2.cell? ⟨b, q + k * 9 + 5, none⟩ = some (.int .i64 uh3) := hr 5 _ rfl
                    have r6 : W2.cell? ⟨b, q + k * 9 + 6, none⟩ = some (.int .i64 ul3) := hr 6 _ rfl
                    have r7 : W2.cell? ⟨b, q + k * 9 + 7, none⟩ = some (.int .i64 xn3) := hr 7 _ rfl
                    have r8 : W2.cell? ⟨b, q + k * 9 + 8, none⟩ = some (.slice xa3 xl3.length xc3) := hr 8 _ rfl
                    have s0 : W2.cell? ⟨b', q' + k * 9, none⟩ = some (.string (bs bn2)) := hs 0 _ rfl
                    have s1 : W2.cell? ⟨b', q' + k * 9 + 1, none⟩ = some (.int .i64 op4) := hs 1 _ rfl
                    have s2 : W2.cell? ⟨b', q' + k * 9 + 2, none⟩ = some (.int .i64 wd4) := hs 2 _ rfl
                    have s3 : W2.cell? ⟨b', q' + k * 9 + 3, none⟩ = some (.int .u64 (v4 : Int)) := hs 3 _ rfl
                    have s4 : W2.cell? ⟨b', q' + k * 9 + 4, none⟩ = some (.int .i64 sg4) := hs 4 _ rfl
                    have s5 : W2.cell? ⟨b', q' + k * 9 + 5, none⟩ = some (.int .i64 uh4) := hs 5 _ rfl
                    have s6 : W2.cell? ⟨b', q' + k * 9 + 6, none⟩ = some (.int .i64 ul4) := hs 6 _ rfl
                    have s7 : W2.cell? ⟨b', q' + k * 9 + 7, none⟩ = some (.int .i64 xn4) := hs 7 _ rfl
                    have s8 : W2.cell? ⟨b', q' + k * 9 + 8, none⟩ = some (.slice xa4 xl4.length xc4) := hs 8 _ rfl
                    have HEE := Lib.hid hE.symm
                    have HCX := Lib.hid hcx
                    have r0R := cell_regrown r0
                    have r1R := cell_regrown r1
                    have r2R := cell_regrown r2
                    have r3R := cell_regrown r3
                    have r4R := cell_regrown r4
                    have r5R := cell_regrown r5
                    have r6R := cell_regrown r6
                    have r7R := cell_regrown r7
                    have r8R := cell_regrown r8
                    have s0R := cell_regrown s0
                    have s1R := cell_regrown s1
                    have s2R := cell_regrown s2
                    have s3R := cell_regrown s3
                    have s4R := cell_regrown s4
                    have s5R := cell_regrown s5
                    have s6R := cell_regrown s6
                    have s7R := cell_regrown s7
                    have s8R := cell_regrown s8
                    have d2R := cell_regrown d2
                    have f2R := cell_regrown f2
                    clear hr hs hx hy hgx hgy hbp hb1 hcx hE hkt hnw hk1 hk2 hb hb'
                    cases bc with
                    | true =>
                      cases bp
                      all_goals
                        go_wp2_with fail
                        refine wp_region_quiet_below (by kernel_rfl) (by kernel_rfl) ?_
                        repeat (go_big_quiet_step (first | (go_at_call 11; exact Calls.regrown_of (HCX.out _ _))))
                        refine wpQuiet_nil ?_
                        intro _ hw'
                        obtain ⟨⟨dq, osq⟩, hw''⟩ := hw'
                        subst hw''
                        have hbq := below_regrown W2 dq osq
                        have HB5 := Lib.hid (HB2.out.trans (hbq.mono HB2.out.size))
                        clear r0R r0 r1R r1 r2R r2 r3R r3 r4R r4 r5R r5 r6R r6 r7R r7 r8R r8 s0R s0 s1R s1 s2R s2 s3R s3 s4R s4 s5R s5 s6R s6 s7R s7 s8R s8 d2R d2 f2R f2 hbq
                        generalize grow (redrawn W2 dq) osq = w5 at *
                        go_wp2
                        first
                        | (go_ret
                           exact ⟨by rw [HR.out, ← HEE.out]; simp [*], HW.out.1.trans (HB5.out.mono HW.out.1.size)⟩)
                        | (go_roundg gh
                           case rel => exact ⟨k + 1, by simp; first | done | rfl | omega, by omega, by rw [← HEE.out]; simp [*], HB5.out⟩
                           case measure => omega)
                    | false =>
                      go_wp2_with fail
                      refine wp_region_quiet_below (by kernel_rfl) (by kernel_rfl) ?_
                      repeat (go_big_quiet_step (fail))
                      refine wpQuiet_nil ?_
                      intro _ hw'
                      obtain ⟨⟨dq, osq⟩, hw''⟩ := hw'
                      subst hw''
                      have hbq := below_regrown W2 dq osq
                      have HB5 := Lib.hid (HB2.out.trans (hbq.mono HB2.out.size))
                      clear r0R r0 r1R r1 r2R r2 r3R r3 r4R r4 r5R r5 r6R r6 r7R r7 r8R r8 s0R s0 s1R s1 s2R s2 s3R s3 s4R s4 s5R s5 s6R s6 s7R s7 s8R s8 d2R d2 f2R f2 hbq
                      generalize grow (redrawn W2 dq) osq = w5 at *
                      go_wp2
                      first
                      | (go_ret
                         exact ⟨by rw [HR.out, ← HEE.out]; simp [*], HW.out.1.trans (HB5.out.mono HW.out.1.size)⟩)
                      | (go_roundg gh
                         case rel => exact ⟨k + 1, by simp; first | done | rfl | omega, by omega, by rw [← HEE.out]; simp [*], HB5.out⟩
                         case measure => omega)
                  · have e1 : decide (k < kl.length) = false := by simpa using hlt
                    have e2 : decide ((k : Int) < (kl.length : Int)) = false := by rw [decide_eq_false_iff_not]; omega
                    have HE2 : RK = true := by have h1 := HD2.out; have h2 := HL2.out; rw [List.drop_eq_nil_of_le (by omega), List.drop_eq_nil_of_le (by omega)] at h1; rw [← h1]; rfl
                    subst HE2
                    clear hb1 hk hlt HRK HD2
                    go_wp2
                    go_ret
                    exact ⟨by rw [HR.out]; rfl, HW.out.1.trans (HB2.out.mono HW.out.1.size)⟩
      · have tl2a : ((kl.length : Int) != (kl2.length : Int)) = true := by rw [bne_iff_ne]; omega
        have tl2b : (kl.length != kl2.length) = true := by rw [bne_iff_ne]; exact t2
        have q2 := eqList_len sameK kl kl2 t2
        clear t2
        go_wp2
        go_ret
        exact ⟨by rw [HR.out, q2]; simp, HW.out.1⟩
    · have tl1a : ((ql.length : Int) != (ql2.length : Int)) = true := by rw [bne_iff_ne]; omega
      have tl1b : (ql.length != ql2.length) = true := by rw [bne_iff_ne]; exact t1
      have q1 := eqList_len sameQ ql ql2 t1
      clear t1
      go_wp2
      go_ret
      exact ⟨by rw [HR.out, q1]; simp, HW.out.1⟩
  · have tl0a : ((gl.length : Int) != (gl2.length : Int)) = true := by rw [bne_iff_ne]; omega
    have tl0b : (gl.length != gl2.length) = true := by rw [bne_iff_ne]; exact t0
    have q0 := eqList_len sameG gl gl2 t0
    clear t0
    go_wp2
    go_ret
    exact ⟨by rw [HR.out, q0]; simp, HW.out.1⟩
end Go.Proofs.YtbcgeglkmpcnpaaDoor
