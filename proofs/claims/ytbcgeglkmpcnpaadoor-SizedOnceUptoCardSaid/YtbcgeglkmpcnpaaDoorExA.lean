/-
  The reference of layer 9: are two rows of statements the same.
-/
import Derived.Test.YtbcgeglkmpcnpaaDoorEzR
import Derived.Test.YtbcgeglkmpcnpaaDoorEyD
namespace Go.Proofs.YtbcgeglkmpcnpaaDoor
open Go Go.RowKit
set_option linter.unusedVariables false
set_option linter.unusedSimpArgs false
open Go.Sort

theorem ope6 {w : World} {g : Nat} {v0 v1 v2 v3 v4 v5 : Value} {t : TypeId} (h : w.heap[g]? = some (.cells #[v0, v1, v2, v3, v4, v5] t (0, 0))) : w.cell? ⟨g, 0, none⟩ = some v0 ∧ w.cell? ⟨g, 1, none⟩ = some v1 ∧ w.cell? ⟨g, 2, none⟩ = some v2 ∧ w.cell? ⟨g, 3, none⟩ = some v3 ∧ w.cell? ⟨g, 4, none⟩ = some v4 ∧ w.cell? ⟨g, 5, none⟩ = some v5 := by
  simp [World.cell?, h]
theorem thaw6 {w : World} {g : Nat} {v0 v1 v2 v3 v4 v5 : Value} {t : TypeId} (h : w.heap[g]? = some (.cells #[v0, v1, v2, v3, v4, v5] t (0, 0))) : w.frozen? ⟨g, 0, none⟩ = false ∧ w.frozen? ⟨g, 1, none⟩ = false ∧ w.frozen? ⟨g, 2, none⟩ = false ∧ w.frozen? ⟨g, 3, none⟩ = false ∧ w.frozen? ⟨g, 4, none⟩ = false ∧ w.frozen? ⟨g, 5, none⟩ = false := by
  simp [World.frozen?, h]
theorem put6 {W : World} {g : Nat} {u0 u1 u2 u3 u4 u5 : Value} {t : TypeId} (h : W.heap[g]? = some (.cells #[u0, u1, u2, u3, u4, u5] t (0, 0))) (v0 v1 v2 v3 v4 v5 : Value) : ((((((W.setCell ⟨g, 0, none⟩ (v0)).setCell ⟨g, 1, none⟩ (v1)).setCell ⟨g, 2, none⟩ (v2)).setCell ⟨g, 3, none⟩ (v3)).setCell ⟨g, 4, none⟩ (v4)).setCell ⟨g, 5, none⟩ (v5)).heap[g]? = some (.cells #[v0, v1, v2, v3, v4, v5] t (0, 0)) := by
  simp [World.setCell, Array.getElem?_modify, h]
theorem below_put6 {n : Nat} {a W : World} {B : Nat} (h : Below n a W) (hB : n ≤ B) (v0 v1 v2 v3 v4 v5 : Value) : Below n a ((((((W.setCell ⟨B, 0, none⟩ (v0)).setCell ⟨B, 1, none⟩ (v1)).setCell ⟨B, 2, none⟩ (v2)).setCell ⟨B, 3, none⟩ (v3)).setCell ⟨B, 4, none⟩ (v4)).setCell ⟨B, 5, none⟩ (v5)) := by
  refine Below.setCell (p := ⟨B, 5, none⟩) ?_ hB _
  refine Below.setCell (p := ⟨B, 4, none⟩) ?_ hB _
  refine Below.setCell (p := ⟨B, 3, none⟩) ?_ hB _
  refine Below.setCell (p := ⟨B, 2, none⟩) ?_ hB _
  refine Below.setCell (p := ⟨B, 1, none⟩) ?_ hB _
  exact Below.setCell (p := ⟨B, 0, none⟩) h hB _
theorem sameT_mk (op sg uh ul : Int) (xa : Option Addr) (xc : Nat) (xl : List ET) (sa : Option Addr) (sc : Nat) (sl : List TT) (op2 sg2 uh2 ul2 : Int) (xa2 : Option Addr) (xc2 : Nat) (xl2 : List ET) (sa2 : Option Addr) (sc2 : Nat) (sl2 : List TT) : sameT (.mk op sg uh ul xa xc xl sa sc sl) (.mk op2 sg2 uh2 ul2 xa2 xc2 xl2 sa2 sc2 sl2) = ((op == op2) && ((sg == sg2) && ((uh == uh2) && ((ul == ul2) && (eqList sameE xl xl2 && eqList sameT sl sl2))))) := by
  rw [sameT, sameTL_eq]
set_option maxHeartbeats 16000000 in
set_option maxRecDepth 100000 in
theorem refTL_any (n0 : Nat) (l m : List TT) (hl : TT.bkL l ≤ 4500000) (hm : TT.bkL m ≤ 4500000) (hc : ∀ x ∈ l, ∀ y : TT, TT.bkL y.sl ≤ 4500000 → ∀ (c c2 : Nat) (w : World), n0 ≤ w.heap.size → InRow 6 TT.cells (TT.In n0 w) n0 w x.sl x.sa → InRow 6 TT.cells (TT.In n0 w) n0 w y.sl y.sa → Calls Tryd.prog 40 #[.slice x.sa x.sl.length c, .slice y.sa y.sl.length c2] w fun e w' => e = .returned (.bool (eqList sameT x.sl y.sl)) ∧ Below w.heap.size w w') (a a2 : Option Addr) (c c2 : Nat) (w : World) (hn0 : n0 ≤ w.heap.size) (hi1 : InRow 6 TT.cells (TT.In n0 w) n0 w l a) (hi2 : InRow 6 TT.cells (TT.In n0 w) n0 w m a2) :
    Calls Tryd.prog 40 #[.slice a l.length c, .slice a2 m.length c2] w fun e w' => e = .returned (.bool (eqList sameT l m)) ∧ Below w.heap.size w w' := by
  by_cases hlen : l.length = m.length
  · have n1 : ((l.length : Int) != (m.length : Int)) = false := by rw [hlen]; simp
    have n2 : (l.length != m.length) = false := by rw [hlen]; simp
    obtain ⟨R, hR⟩ : ∃ R, eqList sameT l m = R := ⟨_, rfl⟩
    have HR := Lib.hid hR
    have HC := Lib.hid hc
    have HI := Lib.hid (And.intro hi1 hi2)
    have HL := Lib.hid hlen
    have HN := Lib.hid hn0
    have hll := Nat.le_trans (TT.bkL_len l) hl
    have hml := Nat.le_trans (TT.bkL_len m) hm
    have HBL := Lib.hid (And.intro hl hm)
    rw [hR]
    clear hR hc hi1 hi2 hlen hl hm
    go_enter Tryd.func40, Tryd.ntmps40
    go_wp2
    go_loopg [5] l.length (fun g u wr => ∃ k : Nat, u = .int .i64 k ∧ k + g = l.length ∧ eqList sameT (l.drop k) (m.drop k) = R ∧ Below w.heap.size w wr)
    case atStart => exact ⟨0, rfl, by omega, by rw [List.drop_zero, List.drop_zero]; exact HR.out, Below.refl _ _⟩
    case round =>
      obtain ⟨k, rfl, hk, hdr, hb1⟩ := hrel
      generalize wr = W0 at *
      generalize gk = GK at *
      have HD := Lib.hid hdr
      clear hdr
      by_cases hlt : k < l.length
      · have hlt2 : k < m.length := by have := HL.out; omega
        have d1 : decide (k < l.length) = true := by simpa using hlt
        have d2 : decide ((k : Int) < (l.length : Int)) = true := by rw [decide_eq_true_eq]; omega
        have x1 : (k : Int) < (l.length : Int) := by omega
        have x2 : (k : Int) < (m.length : Int) := by omega
        have hkt := Below.keptTo hb1 hn0
        obtain ⟨b, o, rfl, hb, hr, hx⟩ := InRow.at (InRow.keep hkt (fun x _ h => TT.In.keep hkt x h) HI.out.1) hlt
        obtain ⟨b', o', rfl, hb', hs, hy⟩ := InRow.at (InRow.keep hkt (fun x _ h => TT.In.keep hkt x h) HI.out.2) hlt2
        have hE := eqList_drop sameT l m k hlt hlt2
        rw [HD.out] at hE
        have hbk1 := TT.bkL_mem (List.getElem_mem hlt)
        have hbk2 := TT.bkL_mem (List.getElem_mem hlt2)
        have hcx := HC.out l[k] (List.getElem_mem hlt) m[k]
        generalize hgx : l[k] = x at *
        generalize hgy : m[k] = y at *
        obtain ⟨op1, sg1, uh1, ul1, xa1, xc1, xl1, sa1, sc1, sl1⟩ := x
        obtain ⟨op2, sg2, uh2, ul2, xa2, xc2, xl2, sa2, sc2, sl2⟩ := y
        rw [TT.In_mk] at hx hy
        rw [sameT_mk] at hE
        simp only [TT.sl, TT.sa] at hcx
        have HX := Lib.hid (And.intro hx hy)
        have HE := Lib.hid hE.symm
        have HCX := Lib.hid hcx
        have HBK := Lib.hid (And.intro hbk1 hbk2)
        have HB1 := Lib.hid hb1
        have r0 : W0.cell? ⟨b, o + k * 6, none⟩ = some (.int .i64 op1) := hr 0 _ rfl
        have r1 : W0.cell? ⟨b, o + k * 6 + 1, none⟩ = some (.int .i64 sg1) := hr 1 _ rfl
        have r2 : W0.cell? ⟨b, o + k * 6 + 2, none⟩ = some (.int .i64 uh1) := hr 2 _ rfl
        have r3 : W0.cell? ⟨b, o + k * 6 + 3, none⟩ = some (.int .i64 ul1) := hr 3 _ rfl
        have r4 : W0.cell? ⟨b, o + k * 6 + 4, none⟩ = some (.slice xa1 xl1.length xc1) := hr 4 _ rfl
        have r5 : W0.cell? ⟨b, o + k * 6 + 5, none⟩ = some (.slice sa1 sl1.length sc1) := hr 5 _ rfl
        have HS6 := Lib.hid hs
        clear hr hs hx hy hE hcx hbk1 hbk2 hgx hgy HC
        obtain ⟨gx, hgx⟩ : ∃ g, W0.heap.size = g := ⟨_, rfl⟩
        obtain ⟨VA, hVA⟩ : ∃ VA, W0.alloc (.cells #[.int .i64 0, .int .i64 0, .int .i64 0, .int .i64 0, .slice none 0 0, .slice none 0 0] 48 (0, 0)) = VA := ⟨_, rfl⟩
        have hbA : Below W0.heap.size W0 VA := by rw [← hVA]; exact (Below.refl _ _).alloc (Nat.le_refl _) _
        have hrA : VA.heap[gx]? = some (.cells #[.int .i64 0, .int .i64 0, .int .i64 0, .int .i64 0, .slice none 0 0, .slice none 0 0] 48 (0, 0)) := by rw [← hVA, ← hgx]; exact World.alloc_heap_new W0 _
        have hp6 := put6 hrA (.int .i64 op1) (.int .i64 sg1) (.int .i64 uh1) (.int .i64 ul1) (.slice xa1 xl1.length xc1) (.slice sa1 sl1.length sc1)
        have hb6 := below_put6 hbA (Nat.le_of_eq hgx) (.int .i64 op1) (.int .i64 sg1) (.int .i64 uh1) (.int .i64 ul1) (.slice xa1 xl1.length xc1) (.slice sa1 sl1.length sc1)
        obtain ⟨W1, hV9⟩ : ∃ V9, ((((((VA.setCell ⟨gx, 0, none⟩ (.int .i64 op1)).setCell ⟨gx, 1, none⟩ (.int .i64 sg1)).setCell ⟨gx, 2, none⟩ (.int .i64 uh1)).setCell ⟨gx, 3, none⟩ (.int .i64 ul1)).setCell ⟨gx, 4, none⟩ (.slice xa1 xl1.length xc1)).setCell ⟨gx, 5, none⟩ (.slice sa1 sl1.length sc1)) = V9 := ⟨_, rfl⟩
        rw [hV9] at hp6 hb6
        obtain ⟨e0, e1, e2, e3, e4, e5⟩ := ope6 hrA
        obtain ⟨f0, f1, f2, f3, f4, f5⟩ := thaw6 hrA
        have HPx := Lib.hid hp6
        have HQx := Lib.hid hb6
        clear hbA hrA hp6 hb6
        go_upto_region 7 with (fail)
        (try rw [hVA])
        (try rw [hgx])
        (try rw [hV9])
        clear hVA hgx hV9 e0 e1 e2 e3 e4 e5 f0 f1 f2 f3 f4 f5
        clear r0 r1 r2 r3 r4 r5
        have s0 : W1.cell? ⟨b', o' + k * 6, none⟩ = some (.int .i64 op2) := keep_cell HQx.out (HS6.out 0 _ rfl)
        have s1 : W1.cell? ⟨b', o' + k * 6 + 1, none⟩ = some (.int .i64 sg2) := keep_cell HQx.out (HS6.out 1 _ rfl)
        have s2 : W1.cell? ⟨b', o' + k * 6 + 2, none⟩ = some (.int .i64 uh2) := keep_cell HQx.out (HS6.out 2 _ rfl)
        have s3 : W1.cell? ⟨b', o' + k * 6 + 3, none⟩ = some (.int .i64 ul2) := keep_cell HQx.out (HS6.out 3 _ rfl)
        have s4 : W1.cell? ⟨b', o' + k * 6 + 4, none⟩ = some (.slice xa2 xl2.length xc2) := keep_cell HQx.out (HS6.out 4 _ rfl)
        have s5 : W1.cell? ⟨b', o' + k * 6 + 5, none⟩ = some (.slice sa2 sl2.length sc2) := keep_cell HQx.out (HS6.out 5 _ rfl)
        obtain ⟨gy, hgy⟩ : ∃ g, W1.heap.size = g := ⟨_, rfl⟩
        obtain ⟨VA, hVA⟩ : ∃ VA, W1.alloc (.cells #[.int .i64 0, .int .i64 0, .int .i64 0, .int .i64 0, .slice none 0 0, .slice none 0 0] 48 (0, 0)) = VA := ⟨_, rfl⟩
        have hbA : Below W1.heap.size W1 VA := by rw [← hVA]; exact (Below.refl _ _).alloc (Nat.le_refl _) _
        have hrA : VA.heap[gy]? = some (.cells #[.int .i64 0, .int .i64 0, .int .i64 0, .int .i64 0, .slice none 0 0, .slice none 0 0] 48 (0, 0)) := by rw [← hVA, ← hgy]; exact World.alloc_heap_new W1 _
        have hp6 := put6 hrA (.int .i64 op2) (.int .i64 sg2) (.int .i64 uh2) (.int .i64 ul2) (.slice xa2 xl2.length xc2) (.slice sa2 sl2.length sc2)
        have hb6 := below_put6 hbA (Nat.le_of_eq hgy) (.int .i64 op2) (.int .i64 sg2) (.int .i64 uh2) (.int .i64 ul2) (.slice xa2 xl2.length xc2) (.slice sa2 sl2.length sc2)
        obtain ⟨W2, hV9⟩ : ∃ V9, ((((((VA.setCell ⟨gy, 0, none⟩ (.int .i64 op2)).setCell ⟨gy, 1, none⟩ (.int .i64 sg2)).setCell ⟨gy, 2, none⟩ (.int .i64 uh2)).setCell ⟨gy, 3, none⟩ (.int .i64 ul2)).setCell ⟨gy, 4, none⟩ (.slice xa2 xl2.length xc2)).setCell ⟨gy, 5, none⟩ (.slice sa2 sl2.length sc2)) = V9 := ⟨_, rfl⟩
        rw [hV9] at hp6 hb6
        obtain ⟨e0, e1, e2, e3, e4, e5⟩ := ope6 hrA
        obtain ⟨f0, f1, f2, f3, f4, f5⟩ := thaw6 hrA
        have HPy := Lib.hid hp6
        have HQy := Lib.hid hb6
        clear hbA hrA hp6 hb6
        go_upto_region 8 with (fail)
        (try rw [hVA])
        (try rw [hgy])
        (try rw [hV9])
        clear hVA hgy hV9 e0 e1 e2 e3 e4 e5 f0 f1 f2 f3 f4 f5
        clear s0 s1 s2 s3 s4 s5
        have HBX := Lib.hid ((HB1.out.trans (HQx.out.mono HB1.out.size)).trans (HQy.out.mono (Nat.le_trans HB1.out.size HQx.out.size)))
        have HXY := Lib.hid (And.intro (block_kept HPx.out HQy.out) HPy.out)
        have HBW := Lib.hid (HQx.out.trans (HQy.out.mono HQx.out.size))
        clear HPx HPy HQx HQy hb1 hkt
        obtain ⟨a0, a1, a2, a3, a4, a5⟩ := ope6 HXY.out.1
        obtain ⟨b0, b1, b2, b3, b4, b5⟩ := ope6 HXY.out.2
        by_cases t0 : op1 = op2
        · have ne0 : (op1 != op2) = false := by simp [t0]
          have q0 : (op1 == op2) = true := by simp [t0]
          clear t0
          by_cases t1 : sg1 = sg2
          · have ne1 : (sg1 != sg2) = false := by simp [t1]
            have q1 : (sg1 == sg2) = true := by simp [t1]
            clear t1
            by_cases t2 : uh1 = uh2
            · have ne2 : (uh1 != uh2) = false := by simp [t2]
              have q2 : (uh1 == uh2) = true := by simp [t2]
              clear t2
              by_cases t3 : ul1 = ul2
              · have ne3 : (ul1 != ul2) = false := by simp [t3]
                have q3 : (ul1 == ul2) = true := by simp [t3]
                clear t3
                by_cases tl : xl1.length = xl2.length
                · have el : ((xl1.length : Int) != (xl2.length : Int)) = false := by rw [tl]; simp
                  have elb : (xl1.length != xl2.length) = false := by rw [tl]; simp
                  have HTL := Lib.hid tl
                  clear tl
                  have hnW0 := Nat.le_trans HN.out HB1.out.size
                  have hkw := Below.keptTo HBW.out hnW0
                  have cK := Lib.hid (HCX.out (by have h := HBK.out.2; have h2 := HBL.out.2; simp only [TT.bk] at h; omega) sc1 sc2 W2 (Nat.le_trans HN.out HBX.out.size) (InRow.keep hkw (fun x _ h => TT.In.keep hkw x h) HX.out.1.2) (InRow.keep hkw (fun x _ h => TT.In.keep hkw x h) HX.out.2.2))
                  obtain ⟨BT, hBT⟩ : ∃ x, eqList sameT sl1 sl2 = x := ⟨_, rfl⟩
                  rw [hBT] at cK HE
                  clear hBT hkw hnW0
                  go_wp2_with fail
                  refine cK.out.mono ?_
                  clear cK a0 a1 a2 a3 a4 a5 b0 b1 b2 b3 b4 b5
                  rintro e W3 ⟨rfl, hb3⟩
                  have HBY := Lib.hid (HBX.out.trans (hb3.mono HBX.out.size))
                  have HBW3 := Lib.hid (HBW.out.trans (hb3.mono HBW.out.size))
                  have HXY3 := Lib.hid (And.intro (block_kept HXY.out.1 hb3) (block_kept HXY.out.2 hb3))
                  clear HBX HBW HXY hb3
                  have HBX := HBY
                  clear HBY
                  cases BT with
                  | false =>
                    go_wp2
                    go_ret
                    exact ⟨by rw [← HE.out]; simp [*], HBX.out⟩
                  | true =>
                    have HE2 : Hid ((eqList sameE xl1 xl2 && eqList sameT (l.drop (k + 1)) (m.drop (k + 1))) = R) := Lib.hid (by rw [← HE.out, q0, q1, q2, q3]; simp)
                    obtain ⟨D, hD⟩ : ∃ x, eqList sameT (l.drop (k + 1)) (m.drop (k + 1)) = x := ⟨_, rfl⟩
                    obtain ⟨RE, hRE⟩ : ∃ x, eqList sameE xl1 xl2 = x := ⟨_, rfl⟩
                    rw [hD, hRE] at HE2
                    have HDD := Lib.hid hD
                    have HRE := Lib.hid hRE
                    clear hD hRE HE q0 q1 q2 q3 ne0 ne1 ne2 ne3 el elb
                    go_wp2
                    go_loopg [8] xl1.length (fun g u w8 => ∃ j : Nat, u = .int .i64 j ∧ j + g = xl1.length ∧ eqList sameE (xl1.drop j) (xl2.drop j) = RE ∧ Below W3.heap.size W3 w8)
                    case atStart => exact ⟨0, rfl, by omega, by rw [List.drop_zero, List.drop_zero]; exact HRE.out, Below.refl _ _⟩
                    case round =>
                      obtain ⟨j, rfl, hj, hdr, hb4⟩ := hrel
                      have HD2 := Lib.hid hdr
                      clear hdr
                      obtain ⟨a0, a1, a2, a3, a4, a5⟩ := ope6 (block_kept HXY3.out.1 hb4)
                      obtain ⟨b0, b1, b2, b3, b4, b5⟩ := ope6 (block_kept HXY3.out.2 hb4)
                      by_cases hjl : j < xl1.length
                      · have hjl2 : j < xl2.length := by have := HTL.out; omega
                        have d3 : decide (j < xl1.length) = true := by simpa using hjl
                        have d4 : decide ((j : Int) < (xl1.length : Int)) = true := by rw [decide_eq_true_eq]; omega
                        have x3 : (j : Int) < (xl1.length : Int) := by omega
                        have x4 : (j : Int) < (xl2.length : Int) := by omega
                        have hlx : (xl1.length : Int) ≤ 4500000 := by have h := HBK.out.1; have h2 := HBL.out.1; have h3 := ET.bkL_len xl1; simp only [TT.bk] at h; omega
                        have x5 : (j : Int) ≤ 4500000 := by omega
                        have hnW0 := Nat.le_trans HN.out HB1.out.size
                        have hbw := HBW3.out.trans (hb4.mono HBW3.out.size)
                        have hkt := Below.keptTo hbw hnW0
                        obtain ⟨b6, o6, rfl, hb6, hr6, hx6⟩ := InRow.at (InRow.keep hkt (fun x _ h => ET.In.keep hkt x h) HX.out.1.1) hjl
                        obtain ⟨b7, o7, rfl, hb7, hr7, hx7⟩ := InRow.at (InRow.keep hkt (fun x _ h => ET.In.keep hkt x h) HX.out.2.1) hjl2
                        have hE := eqList_drop sameE xl1 xl2 j hjl hjl2
                        rw [HD2.out] at hE
                        have hnw : n0 ≤ wr.heap.size := Nat.le_trans hnW0 hbw.size
                        have hk1 := ET.bkL_mem (List.getElem_mem hjl)
                        have hk2 := ET.bkL_mem (List.getElem_mem hjl2)
                        have hcx := fun (dq : Nat) (os : Array Obj) => refSameE_any xl1[j] (by have h := HBK.out.1; have h2 := HBL.out.1; simp only [TT.bk] at h; omega) xl2[j] (by have h := HBK.out.2; have h2 := HBL.out.2; simp only [TT.bk] at h; omega) n0 (grow (redrawn wr dq) os) (Nat.le_trans hnw (below_regrown wr dq os).size) (ET.In.keep (Below.keptTo (below_regrown wr dq os) hnw) _ hx6) (ET.In.keep (Below.keptTo (below_regrown wr dq os) hnw) _ hx7)
                        obtain ⟨bp, hbp⟩ : ∃ b, sameE xl1[j] xl2[j] = b := ⟨_, rfl⟩
                        rw [hbp] at hE
                        simp only [hbp] at hcx
                        clear hk1 hk2
                        generalize hgx3 : xl1[j] = x at *
                        generalize hgy3 : xl2[j] = y at *
                        obtain ⟨op3, wd3, v3, sg3, uh3, ul3, xn3, xa3, xc3, xl3⟩ := x
                        obtain ⟨op4, wd4, v4, sg4, uh4, ul4, xn4, xa4, xc4, xl4⟩ := y
                        have r0 : wr.cell? ⟨b6, o6 + j * 8, none⟩ = some (.int .i64 op3) := hr6 0 _ rfl
                        have r1 : wr.cell? ⟨b6, o6 + j * 8 + 1, none⟩ = some (.int .i64 wd3) := hr6 1 _ rfl
                        have r2 : wr.cell? ⟨b6, o6 + j * 8 + 2, none⟩ = some (.int .u64 (v3 : Int)) := hr6 2 _ rfl
                        have r3 : wr.cell? ⟨b6, o6 + j * 8 + 3, none⟩ = some (.int .i64 sg3) := hr6 3 _ rfl
                        have r4 : wr.cell? ⟨b6, o6 + j * 8 + 4, none⟩ = some (.int .i64 uh3) := hr6 4 _ rfl
                        have r5 : wr.cell? ⟨b6, o6 + j * 8 + 5, none⟩ = some (.int .i64 ul3) := hr6 5 _ rfl
                        have r6 : wr.cell? ⟨b6, o6 + j * 8 + 6, none⟩ = some (.int .i64 xn3) := hr6 6 _ rfl
                        have r7 : wr.cell? ⟨b6, o6 + j * 8 + 7, none⟩ = some (.slice xa3 xl3.length xc3) := hr6 7 _ rfl
                        have s0 : wr.cell? ⟨b7, o7 + j * 8, none⟩ = some (.int .i64 op4) := hr7 0 _ rfl
                        have s1 : wr.cell? ⟨b7, o7 + j * 8 + 1, none⟩ = some (.int .i64 wd4) := hr7 1 _ rfl
                        have s2 : wr.cell? ⟨b7, o7 + j * 8 + 2, none⟩ = some (.int .u64 (v4 : Int)) := hr7 2 _ rfl
                        have s3 : wr.cell? ⟨b7, o7 + j * 8 + 3, none⟩ = some (.int .i64 sg4) := hr7 3 _ rfl
                        have s4 : wr.cell? ⟨b7, o7 + j * 8 + 4, none⟩ = some (.int .i64 uh4) := hr7 4 _ rfl
                        have s5 : wr.cell? ⟨b7, o7 + j * 8 + 5, none⟩ = some (.int .i64 ul4) := hr7 5 _ rfl
                        have s6 : wr.cell? ⟨b7, o7 + j * 8 + 6, none⟩ = some (.int .i64 xn4) := hr7 6 _ rfl
                        have s7 : wr.cell? ⟨b7, o7 + j * 8 + 7, none⟩ = some (.slice xa4 xl4.length xc4) := hr7 7 _ rfl
                        simp only [ET.val, ET.cells] at hcx
                        have HCE := Lib.hid hcx
                        have HEE := Lib.hid hE
                        have HB4 := Lib.hid hb4
                        have r0R := cell_regrown r0
                        have r1R := cell_regrown r1
                        have r2R := cell_regrown r2
                        have r3R := cell_regrown r3
                        have r4R := cell_regrown r4
                        have r5R := cell_regrown r5
                        have r6R := cell_regrown r6
                        have r7R := cell_regrown r7
                        have s0R := cell_regrown s0
                        have s1R := cell_regrown s1
                        have s2R := cell_regrown s2
                        have s3R := cell_regrown s3
                        have s4R := cell_regrown s4
                        have s5R := cell_regrown s5
                        have s6R := cell_regrown s6
                        have s7R := cell_regrown s7
                        have a4R := cell_regrown a4
                        have b4R := cell_regrown b4
                        clear hr6 hx6 hr7 hx7 hgx3 hgy3 hbp hcx hE hkt hb4 hbw hb6 hb7 HD2 hnw hnW0
                        obtain ⟨gh, hgh⟩ : ∃ gh, gk = gh + 1 := ⟨gk - 1, by omega⟩
                        subst hgh
                        cases bp
                        all_goals
                          go_wp2_with fail
                          refine wp_region_quiet_below (by kernel_rfl) (by kernel_rfl) ?_
                          repeat (go_big_quiet_step (first | (go_at_call 11; exact Calls.regrown_of (HCE.out _ _))))
                          refine wpQuiet_nil ?_
                          intro _ hw'
                          obtain ⟨⟨dq, osq⟩, hw''⟩ := hw'
                          subst hw''
                          have hbq := below_regrown wr dq osq
                          have HB5 := Lib.hid (HB4.out.trans (hbq.mono HB4.out.size))
                          clear r0R r0 s0R s0 r1R r1 s1R s1 r2R r2 s2R s2 r3R r3 s3R s3 r4R r4 s4R s4 r5R r5 s5R s5 r6R r6 s6R s6 r7R r7 s7R s7 a4R b4R a0 a1 a2 a3 a4 a5 b0 b1 b2 b3 b4 b5 hbq HB4
                          generalize grow (redrawn wr dq) osq = w5 at *
                          go_wp2
                          first
                          | (go_ret
                             exact ⟨by rw [← HE2.out, HEE.out]; rfl, HBX.out.trans (HB5.out.mono HBX.out.size)⟩)
                          | (go_roundg gh
                             case rel => exact ⟨j + 1, by simp; first | done | rfl | omega, by omega, by rw [HEE.out]; rfl, HB5.out⟩
                             case measure => omega)
                      · have d3 : decide (j < xl1.length) = false := by simpa using hjl
                        have d4 : decide ((j : Int) < (xl1.length : Int)) = false := by rw [decide_eq_false_iff_not]; omega
                        have HK : Hid (eqList sameT (l.drop (k + 1)) (m.drop (k + 1)) = R) := Lib.hid (by
                          have h1 := HD2.out
                          have h2 := HTL.out
                          rw [List.drop_eq_nil_of_le (by omega), List.drop_eq_nil_of_le (by omega)] at h1
                          have h3 : RE = true := h1.symm
                          rw [HDD.out, ← HE2.out, h3]; rfl)
                        have HB5 := Lib.hid (HBX.out.trans (hb4.mono HBX.out.size))
                        clear hb4 a0 a1 a2 a3 a5 b0 b1 b2 b3 b4 b5
                        obtain ⟨gg, hgg⟩ : ∃ gg, GK = gg + 1 := ⟨GK - 1, by omega⟩
                        subst hgg
                        go_wp2
                        go_roundg gg
                        case rel => exact ⟨k + 1, by simp; first | done | rfl | omega, by omega, HK.out, HB5.out⟩
                        case measure => omega
                · have el : ((xl1.length : Int) != (xl2.length : Int)) = true := by rw [bne_iff_ne]; omega
                  have elb : (xl1.length != xl2.length) = true := by rw [bne_iff_ne]; exact tl
                  have ql := eqList_len sameE xl1 xl2 tl
                  clear tl
                  go_wp2
                  go_ret
                  exact ⟨by rw [← HE.out]; simp [*], HBX.out⟩
              · have ne3 : (ul1 != ul2) = true := by simp [t3]
                have q3 : (ul1 == ul2) = false := by simp [t3]
                clear t3
                go_wp2
                go_ret
                exact ⟨by rw [← HE.out]; simp [*], HBX.out⟩
            · have ne2 : (uh1 != uh2) = true := by simp [t2]
              have q2 : (uh1 == uh2) = false := by simp [t2]
              clear t2
              go_wp2
              go_ret
              exact ⟨by rw [← HE.out]; simp [*], HBX.out⟩
          · have ne1 : (sg1 != sg2) = true := by simp [t1]
            have q1 : (sg1 == sg2) = false := by simp [t1]
            clear t1
            go_wp2
            go_ret
            exact ⟨by rw [← HE.out]; simp [*], HBX.out⟩
        · have ne0 : (op1 != op2) = true := by simp [t0]
          have q0 : (op1 == op2) = false := by simp [t0]
          clear t0
          go_wp2
          go_ret
          exact ⟨by rw [← HE.out]; simp [*], HBX.out⟩
      · have d1 : decide (k < l.length) = false := by simpa using hlt
        have d2 : decide ((k : Int) < (l.length : Int)) = false := by rw [decide_eq_false_iff_not]; omega
        have HE : Hid (R = true) := Lib.hid (by have h1 := HD.out; have h2 := HL.out; rw [List.drop_eq_nil_of_le (by omega), List.drop_eq_nil_of_le (by omega)] at h1; rw [← h1]; rfl)
        go_wp2
        go_ret
        exact ⟨by rw [HE.out]; rfl, hb1⟩
  · have n1 : ((l.length : Int) != (m.length : Int)) = true := by rw [bne_iff_ne]; omega
    have n2 : (l.length != m.length) = true := by rw [bne_iff_ne]; exact hlen
    have ql := eqList_len sameT l m hlen
    rw [ql]
    go_enter Tryd.func40, Tryd.ntmps40
    go_wp2
    go_ret
    exact ⟨rfl, Below.refl _ _⟩
end Go.Proofs.YtbcgeglkmpcnpaaDoor
