/-
  The reference of layer 9: are two expressions the same.
-/
import Derived.Test.YtbcgeglkmpcnpaaDoorEzS
import Derived.Lib.QuietBelow
import Derived.BigQuiet
import Derived.Deep.LoopGhost
namespace Go.Proofs.YtbcgeglkmpcnpaaDoor
open Go Go.RowKit
set_option linter.unusedVariables false
set_option linter.unusedSimpArgs false
open Go.Sort

set_option maxHeartbeats 16000000 in
set_option maxRecDepth 100000 in
theorem refSameE_any : ∀ x : ET, x.bk ≤ 4500000 → ∀ y : ET, y.bk ≤ 4500000 → ∀ (n0 : Nat) (w : World), n0 ≤ w.heap.size → x.In n0 w → y.In n0 w → Calls Tryd.prog 11 #[x.val, y.val] w fun e w' => e = .returned (.bool (sameE x y)) ∧ Below w.heap.size w w' := by
  refine ET.ind ?_
  intro op wd v sg uh ul xn xa xc xl ih hsz y hsz2 n0 w hn0 hin hin2
  obtain ⟨op2, wd2, v2, sg2, uh2, ul2, xn2, xa2, xc2, xl2⟩ := y
  rw [ET.In_mk] at hin hin2
  simp only [ET.bk] at hsz hsz2
  have l0 := ET.bkL_len xl
  have l1 := ET.bkL_len xl2
  have l2 : xl.length ≤ 4500000 := by omega
  have l3 : xl2.length ≤ 4500000 := by omega
  have hc := fun x (hx : x ∈ xl) y (hy : y ∈ xl2) (w' : World) h1 h2 h3 => ih x hx (by have := ET.bkL_mem hx; omega) y (by have := ET.bkL_mem hy; omega) n0 w' h1 h2 h3
  obtain ⟨R, hR⟩ : ∃ R, sameE (.mk op wd v sg uh ul xn xa xc xl) (.mk op2 wd2 v2 sg2 uh2 ul2 xn2 xa2 xc2 xl2) = R := ⟨_, rfl⟩
  have HR : Hid (((op == op2) && ((wd == wd2) && (((v : Int) == (v2 : Int)) && ((sg == sg2) && ((uh == uh2) && ((ul == ul2) && ((xn == xn2) && eqList sameE xl xl2))))))) = R) := Lib.hid (by rw [← hR, sameE, sameEL_eq])
  rw [hR]
  simp only [ET.val, ET.cells]
  obtain ⟨gx, hgx⟩ : ∃ gx, w.heap.size = gx := ⟨_, rfl⟩
  obtain ⟨w1, hw1⟩ : ∃ w1, (w.alloc (.cells #[.int .i64 op, .int .i64 wd, .int .u64 (v : Int), .int .i64 sg, .int .i64 uh, .int .i64 ul, .int .i64 xn, .slice xa xl.length xc] 30)).alloc (.cells #[.int .i64 op2, .int .i64 wd2, .int .u64 (v2 : Int), .int .i64 sg2, .int .i64 uh2, .int .i64 ul2, .int .i64 xn2, .slice xa2 xl2.length xc2] 30) = w1 := ⟨_, rfl⟩
  have hb0 : Below w.heap.size w w1 := by rw [← hw1]; exact ((Below.refl _ _).alloc (Nat.le_refl _) _).alloc (by simp) _
  have BX : w1.heap[gx]? = some (.cells #[.int .i64 op, .int .i64 wd, .int .u64 (v : Int), .int .i64 sg, .int .i64 uh, .int .i64 ul, .int .i64 xn, .slice xa xl.length xc] 30 (0, 0)) := by rw [← hw1, ← hgx]; exact block_alloc (World.alloc_heap_new w _) _
  have BY : w1.heap[gx + 1]? = some (.cells #[.int .i64 op2, .int .i64 wd2, .int .u64 (v2 : Int), .int .i64 sg2, .int .i64 uh2, .int .i64 ul2, .int .i64 xn2, .slice xa2 xl2.length xc2] 30 (0, 0)) := by
    rw [← hw1, ← hgx]
    have h9 := World.alloc_heap_new (w.alloc (.cells #[.int .i64 op, .int .i64 wd, .int .u64 (v : Int), .int .i64 sg, .int .i64 uh, .int .i64 ul, .int .i64 xn, .slice xa xl.length xc] 30)) (.cells #[.int .i64 op2, .int .i64 wd2, .int .u64 (v2 : Int), .int .i64 sg2, .int .i64 uh2, .int .i64 ul2, .int .i64 xn2, .slice xa2 xl2.length xc2] 30)
    rwa [World.size_alloc] at h9
  obtain ⟨z0, z1, z2, z3, z4, z5, z6, z7⟩ := ope8 BX
  obtain ⟨y0, y1, y2, y3, y4, y5, y6, y7⟩ := ope8 BY
  have HB := Lib.hid (And.intro hb0 (And.intro BX BY))
  have HI := Lib.hid (And.intro hin hin2)
  have HC := Lib.hid hc
  clear ih hR hin hin2 hc hb0 BX BY hsz hsz2
  by_cases t0 : op = op2
  · have e0 : (op != op2) = false := by simp [t0]
    have q0 : (op == op2) = true := by simp [t0]
    by_cases t1 : wd = wd2
    · have e1 : (wd != wd2) = false := by simp [t1]
      have q1 : (wd == wd2) = true := by simp [t1]
      by_cases t2 : v = v2
      · have e2 : ((v : Int) != (v2 : Int)) = false := by simp [t2]
        have e2b : (v != v2) = false := by simp [t2]
        have q2 : ((v : Int) == (v2 : Int)) = true := by simp [t2]
        by_cases t3 : sg = sg2
        · have e3 : (sg != sg2) = false := by simp [t3]
          have q3 : (sg == sg2) = true := by simp [t3]
          by_cases t4 : uh = uh2
          · have e4 : (uh != uh2) = false := by simp [t4]
            have q4 : (uh == uh2) = true := by simp [t4]
            by_cases t5 : ul = ul2
            · have e5 : (ul != ul2) = false := by simp [t5]
              have q5 : (ul == ul2) = true := by simp [t5]
              by_cases t6 : xn = xn2
              · have e6 : (xn != xn2) = false := by simp [t6]
                have q6 : (xn == xn2) = true := by simp [t6]
                by_cases hlen : xl.length = xl2.length
                · have e7 : ((xl.length : Int) != (xl2.length : Int)) = false := by rw [hlen]; simp
                  have e7b : (xl.length != xl2.length) = false := by rw [hlen]; simp
                  have HR2 : Hid (eqList sameE xl xl2 = R) := Lib.hid (by rw [← HR.out, q0, q1, q2, q3, q4, q5, q6]; rfl)
                  clear t0 t1 t2 t3 t4 t5 t6 q0 q1 q2 q3 q4 q5 q6 HR
                  have HL := Lib.hid hlen
                  clear hlen
                  go_enter Tryd.func11, Tryd.ntmps11
                  go_wp2
                  (try rw [hw1])
                  (try rw [hgx])
                  clear hw1 e0 e1 e2 e2b e3 e4 e5 e6 e7 e7b
                  go_loopg [5] xl.length (fun g u wr => ∃ k : Nat, u = .int .i64 k ∧ k + g = xl.length ∧ eqList sameE (xl.drop k) (xl2.drop k) = R ∧ Below w1.heap.size w1 wr)
                  case atStart => exact ⟨0, rfl, by omega, by rw [List.drop_zero, List.drop_zero]; exact HR2.out, Below.refl _ _⟩
                  case round =>
                    obtain ⟨k, rfl, hk, hdr, hb1⟩ := hrel
                    have HD := Lib.hid hdr
                    have hbw := HB.out.1.trans (hb1.mono HB.out.1.size)
                    have hkt := Below.keptTo hbw hn0
                    obtain ⟨z0, z1, z2, z3, z4, z5, z6, z7⟩ := ope8 (block_kept HB.out.2.1 hb1)
                    obtain ⟨y0, y1, y2, y3, y4, y5, y6, y7⟩ := ope8 (block_kept HB.out.2.2 hb1)
                    clear hdr
                    by_cases hlt : k < xl.length
                    · have hlt2 : k < xl2.length := by have := HL.out; omega
                      have d1 : decide (k < xl.length) = true := by simpa using hlt
                      have d2 : decide ((k : Int) < (xl.length : Int)) = true := by rw [decide_eq_true_eq]; omega
                      have x1 : (k : Int) < (xl.length : Int) := by omega
                      have x2 : (k : Int) < (xl2.length : Int) := by omega
                      have x3 : (k : Int) ≤ 4500000 := by omega
                      obtain ⟨b, o, rfl, hb, hr, hx⟩ := InRow.at (InRow.keep hkt (fun x _ h => ET.In.keep hkt x h) HI.out.1) hlt
                      obtain ⟨b', o', rfl, hb', hs, hy⟩ := InRow.at (InRow.keep hkt (fun x _ h => ET.In.keep hkt x h) HI.out.2) hlt2
                      have hE := eqList_drop sameE xl xl2 k hlt hlt2
                      rw [HD.out] at hE
                      have hnw : n0 ≤ wr.heap.size := Nat.le_trans hn0 hbw.size
                      have hcx := fun (dq : Nat) (os : Array Obj) => HC.out xl[k] (List.getElem_mem hlt) xl2[k] (List.getElem_mem hlt2) (grow (redrawn wr dq) os) (Nat.le_trans hnw (below_regrown wr dq os).size) (ET.In.keep (Below.keptTo (below_regrown wr dq os) hnw) _ hx) (ET.In.keep (Below.keptTo (below_regrown wr dq os) hnw) _ hy)
                      obtain ⟨bp, hbp⟩ : ∃ b, sameE xl[k] xl2[k] = b := ⟨_, rfl⟩
                      rw [hbp] at hE
                      simp only [hbp] at hcx
                      generalize hgx3 : xl[k] = x at *
                      generalize hgy3 : xl2[k] = y at *
                      obtain ⟨op3, wd3, v3, sg3, uh3, ul3, xn3, xa3, xc3, xl3⟩ := x
                      obtain ⟨op4, wd4, v4, sg4, uh4, ul4, xn4, xa4, xc4, xl4⟩ := y
                      have r0 : wr.cell? ⟨b, o + k * 8, none⟩ = some (.int .i64 op3) := hr 0 _ rfl
                      have r1 : wr.cell? ⟨b, o + k * 8 + 1, none⟩ = some (.int .i64 wd3) := hr 1 _ rfl
                      have r2 : wr.cell? ⟨b, o + k * 8 + 2, none⟩ = some (.int .u64 (v3 : Int)) := hr 2 _ rfl
                      have r3 : wr.cell? ⟨b, o + k * 8 + 3, none⟩ = some (.int .i64 sg3) := hr 3 _ rfl
                      have r4 : wr.cell? ⟨b, o + k * 8 + 4, none⟩ = some (.int .i64 uh3) := hr 4 _ rfl
                      have r5 : wr.cell? ⟨b, o + k * 8 + 5, none⟩ = some (.int .i64 ul3) := hr 5 _ rfl
                      have r6 : wr.cell? ⟨b, o + k * 8 + 6, none⟩ = some (.int .i64 xn3) := hr 6 _ rfl
                      have r7 : wr.cell? ⟨b, o + k * 8 + 7, none⟩ = some (.slice xa3 xl3.length xc3) := hr 7 _ rfl
                      have s0 : wr.cell? ⟨b', o' + k * 8, none⟩ = some (.int .i64 op4) := hs 0 _ rfl
                      have s1 : wr.cell? ⟨b', o' + k * 8 + 1, none⟩ = some (.int .i64 wd4) := hs 1 _ rfl
                      have s2 : wr.cell? ⟨b', o' + k * 8 + 2, none⟩ = some (.int .u64 (v4 : Int)) := hs 2 _ rfl
                      have s3 : wr.cell? ⟨b', o' + k * 8 + 3, none⟩ = some (.int .i64 sg4) := hs 3 _ rfl
                      have s4 : wr.cell? ⟨b', o' + k * 8 + 4, none⟩ = some (.int .i64 uh4) := hs 4 _ rfl
                      have s5 : wr.cell? ⟨b', o' + k * 8 + 5, none⟩ = some (.int .i64 ul4) := hs 5 _ rfl
                      have s6 : wr.cell? ⟨b', o' + k * 8 + 6, none⟩ = some (.int .i64 xn4) := hs 6 _ rfl
                      have s7 : wr.cell? ⟨b', o' + k * 8 + 7, none⟩ = some (.slice xa4 xl4.length xc4) := hs 7 _ rfl
                      simp only [ET.val, ET.cells] at hcx
                      have HCX := Lib.hid hcx
                      have HE := Lib.hid hE
                      have HBW := Lib.hid (And.intro hb1 hbw)
                      have r0R := cell_regrown r0
                      have r1R := cell_regrown r1
                      have r2R := cell_regrown r2
                      have r3R := cell_regrown r3
                      have r4R := cell_regrown r4
                      have r5R := cell_regrown r5
                      have r6R := cell_regrown r6
                      have r7R := cell_regrown r7
                      have s0R := cell_regrown s0
                      have s1R := cell_regrown s1
                      have s2R := cell_regrown s2
                      have s3R := cell_regrown s3
                      have s4R := cell_regrown s4
                      have s5R := cell_regrown s5
                      have s6R := cell_regrown s6
                      have s7R := cell_regrown s7
                      have z7R := cell_regrown z7
                      have y7R := cell_regrown y7
                      clear hr hs hx hy hgx3 hgy3 hbp hcx hE hkt hb1 hbw hb hb' HD
                      obtain ⟨gg, rfl⟩ : ∃ gg, gk = gg + 1 := ⟨gk - 1, by omega⟩
                      cases bp
                      all_goals
                        go_wp2_with fail
                        refine wp_region_quiet_below (by kernel_rfl) (by kernel_rfl) ?_
                        repeat (go_big_quiet_step (first | (go_at_call 11; exact Calls.regrown_of (HCX.out _ _))))
                        refine wpQuiet_nil ?_
                        intro _ hw'
                        obtain ⟨⟨dq, osq⟩, hw''⟩ := hw'
                        subst hw''
                        have hbq := below_regrown wr dq osq
                        have HB2 := Lib.hid (And.intro (HBW.out.1.trans (hbq.mono HBW.out.1.size)) (HBW.out.2.trans (hbq.mono HBW.out.2.size)))
                        clear r0R r1R r2R r3R r4R r5R r6R r7R s0R s1R s2R s3R s4R s5R s6R s7R z7R y7R r0 r1 r2 r3 r4 r5 r6 r7 s0 s1 s2 s3 s4 s5 s6 s7 z0 z1 z2 z3 z4 z5 z6 z7 y0 y1 y2 y3 y4 y5 y6 y7 hbq
                        generalize grow (redrawn wr dq) osq = w3 at *
                        go_wp2
                        first
                        | (go_ret
                           refine ⟨by rw [HE.out]; rfl, ?_⟩
                           first | exact HB2.out.2 | (have h9 := HB2.out.2; rw [hgx] at h9; exact h9))
                        | (go_roundg gg
                           case rel => exact ⟨k + 1, by simp; first | done | rfl | omega, by omega, by rw [HE.out]; rfl, HB2.out.1⟩
                           case measure => omega)
                    · have d1 : decide (k < xl.length) = false := by simpa using hlt
                      have d2 : decide ((k : Int) < (xl.length : Int)) = false := by rw [decide_eq_false_iff_not]; omega
                      have HE : Hid (R = true) := Lib.hid (by have h1 := HD.out; have h2 := HL.out; rw [List.drop_eq_nil_of_le (by omega), List.drop_eq_nil_of_le (by omega)] at h1; rw [← h1]; rfl)
                      go_wp2
                      go_ret
                      refine ⟨by rw [HE.out]; rfl, ?_⟩
                      first | exact hbw | (rw [hgx] at hbw; exact hbw)
                · have e7 : ((xl.length : Int) != (xl2.length : Int)) = true := by rw [bne_iff_ne]; omega
                  have e7b : (xl.length != xl2.length) = true := by rw [bne_iff_ne]; exact hlen
                  have q7 := eqList_len sameE xl xl2 hlen
                  clear t0 t1 t2 t3 t4 t5 t6 hlen
                  go_enter Tryd.func11, Tryd.ntmps11
                  go_wp2
                  (try rw [hw1])
                  go_ret
                  refine ⟨by rw [← HR.out]; rw [q7]; simp, ?_⟩
                  first | exact HB.out.1 | (have h9 := HB.out.1; rw [hgx] at h9; exact h9) | (have h9 := HB.out.1; rw [← hw1] at h9; exact h9) | (have h9 := HB.out.1; rw [hgx, ← hw1] at h9; exact h9)
              · have e6 : (xn != xn2) = true := by simp [t6]
                have q6 : (xn == xn2) = false := by simp [t6]
                clear t0 t1 t2 t3 t4 t5 t6
                go_enter Tryd.func11, Tryd.ntmps11
                go_wp2
                (try rw [hw1])
                go_ret
                refine ⟨by rw [← HR.out]; simp [*], ?_⟩
                first | exact HB.out.1 | (have h9 := HB.out.1; rw [hgx] at h9; exact h9) | (have h9 := HB.out.1; rw [← hw1] at h9; exact h9) | (have h9 := HB.out.1; rw [hgx, ← hw1] at h9; exact h9)
            · have e5 : (ul != ul2) = true := by simp [t5]
              have q5 : (ul == ul2) = false := by simp [t5]
              clear t0 t1 t2 t3 t4 t5
              go_enter Tryd.func11, Tryd.ntmps11
              go_wp2
              (try rw [hw1])
              go_ret
              refine ⟨by rw [← HR.out]; simp [*], ?_⟩
              first | exact HB.out.1 | (have h9 := HB.out.1; rw [hgx] at h9; exact h9) | (have h9 := HB.out.1; rw [← hw1] at h9; exact h9) | (have h9 := HB.out.1; rw [hgx, ← hw1] at h9; exact h9)
          · have e4 : (uh != uh2) = true := by simp [t4]
            have q4 : (uh == uh2) = false := by simp [t4]
            clear t0 t1 t2 t3 t4
            go_enter Tryd.func11, Tryd.ntmps11
            go_wp2
            (try rw [hw1])
            go_ret
            refine ⟨by rw [← HR.out]; simp [*], ?_⟩
            first | exact HB.out.1 | (have h9 := HB.out.1; rw [hgx] at h9; exact h9) | (have h9 := HB.out.1; rw [← hw1] at h9; exact h9) | (have h9 := HB.out.1; rw [hgx, ← hw1] at h9; exact h9)
        · have e3 : (sg != sg2) = true := by simp [t3]
          have q3 : (sg == sg2) = false := by simp [t3]
          clear t0 t1 t2 t3
          go_enter Tryd.func11, Tryd.ntmps11
          go_wp2
          (try rw [hw1])
          go_ret
          refine ⟨by rw [← HR.out]; simp [*], ?_⟩
          first | exact HB.out.1 | (have h9 := HB.out.1; rw [hgx] at h9; exact h9) | (have h9 := HB.out.1; rw [← hw1] at h9; exact h9) | (have h9 := HB.out.1; rw [hgx, ← hw1] at h9; exact h9)
      · have e2 : ((v : Int) != (v2 : Int)) = true := by rw [bne_iff_ne]; omega
        have e2b : (v != v2) = true := by simp [t2]
        have q2 : ((v : Int) == (v2 : Int)) = false := by rw [beq_eq_false_iff_ne]; omega
        clear t0 t1 t2
        go_enter Tryd.func11, Tryd.ntmps11
        go_wp2
        (try rw [hw1])
        go_ret
        refine ⟨by rw [← HR.out]; simp [*], ?_⟩
        first | exact HB.out.1 | (have h9 := HB.out.1; rw [hgx] at h9; exact h9) | (have h9 := HB.out.1; rw [← hw1] at h9; exact h9) | (have h9 := HB.out.1; rw [hgx, ← hw1] at h9; exact h9)
    · have e1 : (wd != wd2) = true := by simp [t1]
      have q1 : (wd == wd2) = false := by simp [t1]
      clear t0 t1
      go_enter Tryd.func11, Tryd.ntmps11
      go_wp2
      (try rw [hw1])
      go_ret
      refine ⟨by rw [← HR.out]; simp [*], ?_⟩
      first | exact HB.out.1 | (have h9 := HB.out.1; rw [hgx] at h9; exact h9) | (have h9 := HB.out.1; rw [← hw1] at h9; exact h9) | (have h9 := HB.out.1; rw [hgx, ← hw1] at h9; exact h9)
  · have e0 : (op != op2) = true := by simp [t0]
    have q0 : (op == op2) = false := by simp [t0]
    clear t0
    go_enter Tryd.func11, Tryd.ntmps11
    go_wp2
    (try rw [hw1])
    go_ret
    refine ⟨by rw [← HR.out]; simp [*], ?_⟩
    first | exact HB.out.1 | (have h9 := HB.out.1; rw [hgx] at h9; exact h9) | (have h9 := HB.out.1; rw [← hw1] at h9; exact h9) | (have h9 := HB.out.1; rw [hgx, ← hw1] at h9; exact h9)
end Go.Proofs.YtbcgeglkmpcnpaaDoor
