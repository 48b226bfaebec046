/-
  FaC, FaD, in one text.
-/
import Derived.Test.YtbcgeglkmpcnpaaDoorFbA
import Derived.Test.YtbcgeglkmpcnpaaDoorEzY
namespace Go.Proofs.YtbcgeglkmpcnpaaDoor
open Go Go.RowKit
set_option linter.unusedVariables false
set_option linter.unusedSimpArgs false
open Go.Sort

theorem ope6_ {w : World} {g : Nat} {v0 v1 v2 v3 v4 v5 : Value} {t : TypeId} (h : w.heap[g]? = some (.cells #[v0, v1, v2, v3, v4, v5] t (0, 0))) : w.cell? ⟨g, 0, none⟩ = some v0 ∧ w.cell? ⟨g, 1, none⟩ = some v1 ∧ w.cell? ⟨g, 2, none⟩ = some v2 ∧ w.cell? ⟨g, 3, none⟩ = some v3 ∧ w.cell? ⟨g, 4, none⟩ = some v4 ∧ w.cell? ⟨g, 5, none⟩ = some v5 := by
  simp [World.cell?, h]
set_option maxHeartbeats 8000000 in
set_option maxRecDepth 100000 in
theorem eachT_any (g : Nat) (d : Int) (hd0 : 0 ≤ d) (hd : d ≤ 65) (n0 : Nat) (hng : n0 ≤ g) (l : List TT) (hll : l.length ≤ 12000000) (hc : ∀ x ∈ l, ∀ (c : Int) w, 0 ≤ c → c ≤ 65536 → n0 ≤ w.heap.size → Mt g c w → x.In n0 w → Calls Tryd.prog 98 #[.pointer (some ⟨g, 0, none⟩), x.val, .int .i64 d] w (MtP g c d x.sz x.dp w)) (c : Int) (hc0 : 0 ≤ c) (hcc : c ≤ 65536) (a : Option Addr) (cp : Nat) (w : World) (hn0 : n0 ≤ w.heap.size) (hm : Mt g c w) (hin : InRow 6 TT.cells (TT.In n0 w) n0 w l a) :
    Calls Tryd.prog 97 #[.slice a l.length cp, .int .i64 d, .func (.func 98) #[.pointer (some ⟨g, 0, none⟩)] #[]] w (MtP g c d (TT.szL l) (TT.dpL l) w) := by
  obtain ⟨R, hR⟩ : ∃ R, okB c d (TT.szL l) (TT.dpL l) = R := ⟨_, rfl⟩
  rw [MtP_eq]
  rw [hR]
  have HR := Lib.hid hR
  clear hR
  go_enter Tryd.func97, Tryd.ntmps97
  go_wp2
  go_loopw [11] (fun u wr => ∃ k : Nat, u = .int .i64 k ∧ k ≤ l.length ∧ okB c d (TT.szL (l.take k)) (TT.dpL (l.take k)) = true ∧ Kb1 g w wr ∧ Mt g (c + (TT.szL (l.take k) : Int)) wr) (fun u _ => l.length - (intOf u).toNat)
  case atStart => exact ⟨0, rfl, Nat.zero_le _, by simp [okB, TT.szL, TT.dpL]; omega, Kb1.refl _ _, by simpa [TT.szL] using hm⟩
  case round =>
    obtain ⟨k, rfl, hk, hal, hb0, hmk⟩ := hrel
    have HA := Lib.hid hal
    have hs1 : c + (TT.szL (l.take k) : Int) ≤ 65536 := by simp only [okB, Bool.and_eq_true, decide_eq_true_eq] at hal; exact hal.1
    obtain ⟨ck, hck⟩ : ∃ ck : Int, c + (TT.szL (l.take k) : Int) = ck := ⟨_, rfl⟩
    rw [hck] at hmk hs1
    have hs0 : 0 ≤ ck := by omega
    have HCK := Lib.hid hck
    clear hal hck
    by_cases hlt : k < l.length
    · have d1 : decide (k < l.length) = true := by simpa using hlt
      have d2 : decide ((k : Int) < (l.length : Int)) = true := by rw [decide_eq_true_eq]; omega
      have x1 : (k : Int) < (l.length : Int) := by omega
      have hkt := hb0.keptTo hng hn0
      obtain ⟨b, o, rfl, hb, hr, hx⟩ := hin.kept hkt hlt
      have HZ := Lib.hid (TT.szL_take l k hlt)
      have HD := Lib.hid (TT.dpL_take l k hlt)
      have HZ2 := Lib.hid (TT.szL_take_le l (k + 1))
      have HD2 : Hid (TT.dpL (l.take (k + 1)) ≤ TT.dpL l) := Lib.hid (by have h9 := TT.dpL_app (l.take (k + 1)) (l.drop (k + 1)); rw [List.take_append_drop] at h9; omega)
      have hcx := hc l[k] (List.getElem_mem hlt) ck
      have hxin := hx.keep hkt
      have zz := hb0.size
      obtain ⟨sx, hsx⟩ : ∃ s, l[k].sz = s := ⟨_, rfl⟩
      obtain ⟨dx, hdx⟩ : ∃ s, l[k].dp = s := ⟨_, rfl⟩
      rw [hsx, hdx] at hcx
      rw [hsx] at HZ
      rw [hdx] at HD
      clear hsx hdx
      generalize hgx : l[k] = x at *
      obtain ⟨op, sg, uh, ul, xa, xc, xl, sa, sc, sl⟩ := x
      have c0 := fun (o' : Obj) => hcx (wr.alloc o') hs0 hs1 (by simp; omega) (hmk.alloc o') (hxin.keep (Below.keptTo ((Below.refl _ _).alloc (Nat.le_refl _) o') (by omega)))
      have r0 : wr.cell? ⟨b, o + k * 6, none⟩ = some (.int .i64 op) := hr 0 _ rfl
      have r1 : wr.cell? ⟨b, o + k * 6 + 1, none⟩ = some (.int .i64 sg) := hr 1 _ rfl
      have r2 : wr.cell? ⟨b, o + k * 6 + 2, none⟩ = some (.int .i64 uh) := hr 2 _ rfl
      have r3 : wr.cell? ⟨b, o + k * 6 + 3, none⟩ = some (.int .i64 ul) := hr 3 _ rfl
      have r4 : wr.cell? ⟨b, o + k * 6 + 4, none⟩ = some (.slice xa xl.length xc) := hr 4 _ rfl
      have r5 : wr.cell? ⟨b, o + k * 6 + 5, none⟩ = some (.slice sa sl.length sc) := hr 5 _ rfl
      simp only [TT.val, TT.cells, MtP_eq] at c0
      obtain ⟨bp, hbp⟩ : ∃ b, okB ck d sx dx = b := ⟨_, rfl⟩
      simp only [hbp] at c0
      have HBP := Lib.hid hbp
      clear hin hc hcx hr hx hxin hgx hmk hbp hkt
      cases bp with
      | true =>
        have HT : Hid (okB c d (TT.szL (l.take (k + 1))) (TT.dpL (l.take (k + 1))) = true) := Lib.hid (by have h1 := HA.out; have h2 := HBP.out; have h3 := HCK.out; rw [HZ.out, HD.out]; simp only [okB, Bool.and_eq_true, decide_eq_true_eq] at *; omega)
        go_wp2_with fail
        refine (c0 _).mono ?_
        clear c0
        rintro e W1 ⟨rfl, hb1, hm1⟩
        have hb2 := (hb0.alloc _).trans hb1
        have hm2 := hm1 (by first | rfl | trivial)
        have hm3 : Mt g (c + (TT.szL (l.take (k + 1)) : Int)) W1 := by
          have e9 : c + (TT.szL (l.take (k + 1)) : Int) = ck + (sx : Int) := by rw [HZ.out]; have h3 := HCK.out; omega
          rw [e9]; exact hm2
        have HM := Lib.hid (And.intro hb2 hm3)
        clear hb1 hm1 hm2 hb2 hm3 hb0
        go_wp2
        go_roundw
        case rel => exact ⟨k + 1, by simp; first | done | rfl | omega, by omega, HT.out, HM.out.1, HM.out.2⟩
        case measure => simp [intOf]; omega
      | false =>
        have HE : Hid (R = false) := Lib.hid (by
          have h1 := HR.out; have h2 := HBP.out; have h3 := HCK.out; have h4 := HZ.out; have h5 := HD.out; have h6 := HZ2.out; have h7 := HD2.out
          rw [← h1]
          rw [Bool.eq_false_iff] at h2 ⊢
          intro h8; apply h2
          simp only [okB, Bool.and_eq_true, decide_eq_true_eq] at *
          omega)
        go_wp2_with fail
        refine (c0 _).mono ?_
        clear c0
        rintro e W1 ⟨rfl, hb1, hm1⟩
        have hb2 := (hb0.alloc _).trans hb1
        have HM := Lib.hid hb2
        clear hb1 hm1 hb0 hb2
        go_wp2
        go_ret
        exact ⟨by rw [HE.out]; rfl, HM.out, fun h => by rw [HE.out] at h; cases h⟩
    · have d1 : decide (k < l.length) = false := by simpa using hlt
      have d2 : decide ((k : Int) < (l.length : Int)) = false := by rw [decide_eq_false_iff_not]; omega
      have hkl : k = l.length := by omega
      have HE : Hid (R = true) := Lib.hid (by have h1 := HA.out; rw [hkl, List.take_length] at h1; rw [← HR.out]; exact h1)
      have HM : Hid (Kb1 g w wr ∧ Mt g (c + (TT.szL l : Int)) wr) := Lib.hid (by refine ⟨hb0, ?_⟩; have h3 := HCK.out; rw [hkl, List.take_length] at h3; rw [h3]; exact hmk)
      clear hkl hb0 hmk
      go_wp2
      go_ret
      exact ⟨by rw [HE.out]; rfl, HM.out.1, fun _ => HM.out.2⟩
set_option maxHeartbeats 8000000 in
set_option maxRecDepth 100000 in
theorem meterT_any : ∀ x : TT, x.bk ≤ 4500000 → ∀ (n0 g : Nat) (c d : Int) (w : World), n0 ≤ g → 0 ≤ c → c ≤ 65536 → 0 ≤ d → d ≤ 65 → n0 ≤ w.heap.size → Mt g c w → x.In n0 w → Calls Tryd.prog 98 #[.pointer (some ⟨g, 0, none⟩), x.val, .int .i64 d] w (MtP g c d x.sz x.dp w) := by
  refine TT.ind ?_
  intro op sg uh ul xa xc xl sa sc sl ih hbk n0 g c d w hng hc0 hc hd0 hd hn0 hm hin
  rw [TT.In_mk] at hin
  simp only [TT.bk] at hbk
  have hlen := ET.bkL_len xl
  have hlen2 := TT.bkL_len sl
  have hall := fun (c' : Int) h1 h2 h7 (w' : World) h3 h4 h5 => eachE_any g (d + 1) (by omega) h7 n0 hng xl (by omega) (fun y hy c2 w2 g1 g2 g3 g4 g5 => meterE_any y (by have := ET.bkL_mem hy; omega) n0 g c2 (d + 1) w2 hng g1 g2 (by omega) h7 g3 g4 g5) c' h1 h2 xa xc w' h3 h4 h5
  have hall2 := fun (c' : Int) h1 h2 h7 (w' : World) h3 h4 h5 => eachT_any g (d + 1) (by omega) h7 n0 hng sl (by omega) (fun y hy c2 w2 g1 g2 g3 g4 g5 => ih y hy (by have := TT.bkL_mem hy; omega) n0 g c2 (d + 1) w2 hng g1 g2 (by omega) h7 g3 g4 g5) c' h1 h2 sa sc w' h3 h4 h5
  have hnd := fun (w' : World) h1 => node_any g c d hc0 hc w' h1
  obtain ⟨R, hR⟩ : ∃ R, okB c d (TT.sz (.mk op sg uh ul xa xc xl sa sc sl)) (TT.dp (.mk op sg uh ul xa xc xl sa sc sl)) = R := ⟨_, rfl⟩
  rw [MtP_eq]
  rw [hR]
  have HS : Hid (TT.sz (.mk op sg uh ul xa xc xl sa sc sl) = 1 + ET.szL xl + TT.szL sl) := Lib.hid (by rw [TT.sz])
  have HD : Hid (TT.dp (.mk op sg uh ul xa xc xl sa sc sl) = 1 + max (ET.dpL xl) (TT.dpL sl)) := Lib.hid (by rw [TT.dp])
  have HR := Lib.hid hR
  clear hR ih hbk hlen hlen2
  obtain ⟨sz, hsz⟩ : ∃ z, TT.sz (.mk op sg uh ul xa xc xl sa sc sl) = z := ⟨_, rfl⟩
  rw [hsz] at HS HR ⊢
  obtain ⟨dp, hdp⟩ : ∃ z, TT.dp (.mk op sg uh ul xa xc xl sa sc sl) = z := ⟨_, rfl⟩
  rw [hdp] at HD HR
  clear hsz hdp
  simp only [TT.val, TT.cells]
  obtain ⟨gx, hgx⟩ : ∃ gx, w.heap.size = gx := ⟨_, rfl⟩
  obtain ⟨w1, hw1⟩ : ∃ w1, w.alloc (.cells #[.int .i64 op, .int .i64 sg, .int .i64 uh, .int .i64 ul, .slice xa xl.length xc, .slice sa sl.length sc] 48) = w1 := ⟨_, rfl⟩
  have BX : w1.heap[gx]? = some (.cells #[.int .i64 op, .int .i64 sg, .int .i64 uh, .int .i64 ul, .slice xa xl.length xc, .slice sa sl.length sc] 48) := by rw [← hw1, ← hgx]; exact World.alloc_heap_new w _
  have hb0 : Below w.heap.size w w1 := by rw [← hw1]; exact (Below.refl _ _).alloc (Nat.le_refl _) _
  have hm1 : Mt g c w1 := by rw [← hw1]; exact hm.alloc _
  have hgg : gx ≠ g := by have := hm.lt; omega
  have hk0 : Kb1 g w w1 := Kb1.of_below hb0
  have hn1 : n0 ≤ w1.heap.size := Nat.le_trans hn0 hb0.size
  have hinE := hin.1.keep (Below.keptTo hb0 hn0) (fun x _ => ET.In.keep (Below.keptTo hb0 hn0) x)
  have hinT := hin.2.keep (Below.keptTo hb0 hn0) (fun x _ => TT.In.keep (Below.keptTo hb0 hn0) x)
  have c0 := hnd w1 hm1
  obtain ⟨w2, hw2⟩ : ∃ w2, w1.setCell ⟨g, 0, none⟩ (.int .i64 (c + 1)) = w2 := ⟨_, rfl⟩
  rw [hw2] at c0
  have hk1 : Kb1 g w1 w2 := by rw [← hw2]; exact Kb1.setCell g w1 _
  have hm2 : Mt g (c + 1) w2 := by rw [← hw2]; exact hm1.set _
  have hn2 : n0 ≤ w2.heap.size := Nat.le_trans hn1 hk1.size
  have hinE2 := hinE.keep (hk1.keptTo hng hn1) (fun x _ => ET.In.keep (hk1.keptTo hng hn1) x)
  have hinT2 := hinT.keep (hk1.keptTo hng hn1) (fun x _ => TT.In.keep (hk1.keptTo hng hn1) x)
  have BX2 := hk1.kept BX hgg
  obtain ⟨x0, x1, x2, x3, x4, x5⟩ := ope6_ BX2
  have HK := Lib.hid (And.intro (hk0.trans hk1) (And.intro BX2 (And.intro hinT2 hgg)))
  clear hin hm hinE hinT hnd BX hb0 hm1 hk0 hn1 hw2 hk1 BX2 hinT2
  obtain ⟨b1, hb1⟩ : ∃ b, okB c d 1 1 = b := ⟨_, rfl⟩
  rw [hb1] at c0
  cases b1 with
  | false =>
    have HE : Hid (R = false) := Lib.hid (by
      have h1 := HR.out; have h2 := HS.out; have h3 := HD.out
      rw [← h1]
      rw [Bool.eq_false_iff] at hb1 ⊢
      intro h8; apply hb1
      simp only [okB, Bool.and_eq_true, decide_eq_true_eq] at *
      omega)
    clear hb1 hall hall2 hinE2 hm2
    go_enter Tryd.func98, Tryd.ntmps98
    go_wp2_with fail
    (try rw [hw1])
    (try rw [hgx])
    refine c0.mono ?_
    clear c0
    rintro e W1 ⟨rfl, rfl⟩
    go_wp2
    go_ret
    exact ⟨by rw [HE.out]; rfl, HK.out.1, fun h => by rw [HE.out] at h; cases h⟩
  | true =>
    have hcd : c + 1 ≤ 65536 ∧ d + 1 ≤ 65 := by simp only [okB, Bool.and_eq_true, decide_eq_true_eq] at hb1; omega
    have c1 := hall (c + 1) (by omega) hcd.1 hcd.2 w2 hn2 hm2 hinE2
    rw [MtP_eq] at c1
    obtain ⟨b2, hb2⟩ : ∃ b, okB (c + 1) (d + 1) (ET.szL xl) (ET.dpL xl) = b := ⟨_, rfl⟩
    rw [hb2] at c1
    have HB2 := Lib.hid hb2
    have v1 : d + 1 ≤ 65 := hcd.2
    have HV := Lib.hid (And.intro hng (And.intro hn2 hc0))
    clear hall hinE2 hm2 hb2
    cases b2 with
    | false =>
      have HE : Hid (R = false) := Lib.hid (by
        have h1 := HR.out; have h2 := HS.out; have h3 := HD.out; have h4 := HB2.out
        rw [← h1]
        rw [Bool.eq_false_iff] at h4 ⊢
        intro h8; apply h4
        simp only [okB, Bool.and_eq_true, decide_eq_true_eq] at *
        omega)
      clear hb1 hall2 hcd hn2
      go_enter Tryd.func98, Tryd.ntmps98
      go_wp2_with fail
      (try rw [hw1])
      (try rw [hgx])
      refine c0.mono ?_
      clear c0
      rintro e W1 ⟨rfl, rfl⟩
      go_wp2_with fail
      refine c1.mono ?_
      clear c1
      rintro e W2 ⟨rfl, hk2, hm3⟩
      have HK2 := Lib.hid (HK.out.1.trans hk2)
      clear hk2 hm3 x0 x1 x2 x3 x4 x5
      go_wp2
      go_ret
      exact ⟨by rw [HE.out]; rfl, HK2.out, fun h => by rw [HE.out] at h; cases h⟩
    | true =>
      have hc2 : c + 1 + (ET.szL xl : Int) ≤ 65536 := by have h4 := HB2.out; simp only [okB, Bool.and_eq_true, decide_eq_true_eq] at h4; omega
      have HA2 := Lib.hid (fun (w' : World) h3 h4 h5 => hall2 (c + 1 + (ET.szL xl : Int)) (by omega) hc2 v1 w' h3 h4 h5)
      have HE : Hid (okB (c + 1 + (ET.szL xl : Int)) (d + 1) (TT.szL sl) (TT.dpL sl) = R) := Lib.hid (by
        have h1 := HR.out; have h2 := HS.out; have h3 := HD.out; have h4 := HB2.out
        rw [← h1, h2, h3]
        rw [Bool.eq_iff_iff]
        simp only [okB, Bool.and_eq_true, decide_eq_true_eq] at *
        omega)
      have HF : Hid (c + 1 + (ET.szL xl : Int) + (TT.szL sl : Int) = c + (sz : Int)) := Lib.hid (by rw [HS.out]; omega)
      clear hb1 hall2 hcd hn2 hc2
      go_enter Tryd.func98, Tryd.ntmps98
      go_wp2_with fail
      (try rw [hw1])
      (try rw [hgx])
      refine c0.mono ?_
      clear c0
      rintro e W1 ⟨rfl, rfl⟩
      go_wp2_with fail
      refine c1.mono ?_
      clear c1 x0 x1 x2 x3 x4 x5
      rintro e W2 ⟨rfl, hk2, hm3⟩
      have hm4 := hm3 (by first | rfl | trivial)
      have c2 := HA2.out W2 (Nat.le_trans HV.out.2.1 hk2.size) hm4 (HK.out.2.2.1.keep (hk2.keptTo HV.out.1 HV.out.2.1) (fun x _ => TT.In.keep (hk2.keptTo HV.out.1 HV.out.2.1) x))
      rw [MtP_eq] at c2
      rw [HE.out, HF.out] at c2
      obtain ⟨x0, x1, x2, x3, x4, x5⟩ := ope6_ (hk2.kept HK.out.2.1 HK.out.2.2.2)
      have HK3 := Lib.hid (HK.out.1.trans hk2)
      clear hk2 hm3 hm4
      go_wp2_with fail
      refine c2.mono ?_
      clear c2
      rintro e W3 ⟨rfl, hk4, hm5⟩
      have HK2 := Lib.hid (And.intro (HK3.out.trans hk4) hm5)
      clear hk4 hm5 x0 x1 x2 x3 x4 x5
      cases R
      all_goals
        go_wp2
        go_ret
        first | exact ⟨rfl, HK2.out.1, HK2.out.2⟩ | exact ⟨rfl, HK2.out.1, HK2.out.2 trivial⟩ | exact ⟨rfl, HK2.out.1, HK2.out.2 rfl⟩ | exact ⟨rfl, HK2.out.1, fun h => HK2.out.2 rfl⟩ | exact ⟨rfl, HK2.out.1, fun h => by cases h⟩ | exact ⟨rfl, HK2.out.1, trivial⟩ | exact ⟨rfl, HK2.out.1⟩
set_option maxHeartbeats 8000000 in
set_option maxRecDepth 100000 in
theorem meterD_any (n0 g : Nat) (ga : Option Addr) (gc : Nat) (gl : List GT) (qa : Option Addr) (qc : Nat) (ql : List QT) (ka : Option Addr) (kc : Nat) (kl : List KT) (hql : QT.bkL ql ≤ 4500000) (hkl : KT.bkL kl ≤ 4500000) (w : World) (hng : n0 ≤ g) (hn0 : n0 ≤ w.heap.size) (hm : Mt g 0 w) (hiq : InRow 2 QT.cells (QT.In n0 w) n0 w ql qa) (hik : InRow 9 KT.cells (KT.In n0 w) n0 w kl ka) :
    Calls Tryd.prog 72 #[.pointer (some ⟨g, 0, none⟩), .agg #[.slice ga gl.length gc, .slice qa ql.length qc, .slice ka kl.length kc]] w fun e w' => e = .returned (.bool (okB 0 1 (nodesQ ql + nodesK kl) (max (deepQ ql) (deepK kl)))) ∧ Kb1 g w w' := by
  obtain ⟨R, hR⟩ : ∃ R, okB 0 1 (nodesQ ql + nodesK kl) (max (deepQ ql) (deepK kl)) = R := ⟨_, rfl⟩
  rw [hR]
  have HR := Lib.hid hR
  have hlq := QT.bkL_len ql
  have hlk := KT.bkL_len kl
  have hNQ := fun k => nodesQ_app (ql.take k) (ql.drop k)
  have hDQ := fun k => deepQ_app (ql.take k) (ql.drop k)
  have hNK := fun k => nodesK_app (kl.take k) (kl.drop k)
  have hDK := fun k => deepK_app (kl.take k) (kl.drop k)
  simp only [List.take_append_drop] at hNQ hDQ hNK hDK
  have HN := Lib.hid (And.intro hNQ (And.intro hDQ (And.intro hNK hDK)))
  clear hR hNQ hDQ hNK hDK
  obtain ⟨gx, hgx⟩ : ∃ gx, w.heap.size = gx := ⟨_, rfl⟩
  obtain ⟨wa, hwa⟩ : ∃ wa, w.alloc (.cells #[.slice ga gl.length gc, .slice qa ql.length qc, .slice ka kl.length kc] 26) = wa := ⟨_, rfl⟩
  have hba : Below w.heap.size w wa := by rw [← hwa]; exact (Below.refl _ _).alloc (Nat.le_refl _) _
  have BX : wa.heap[gx]? = some (.cells #[.slice ga gl.length gc, .slice qa ql.length qc, .slice ka kl.length kc] 26 (0, 0)) := by rw [← hwa, ← hgx]; exact World.alloc_heap_new w _
  have hma : Mt g 0 wa := by rw [← hwa]; exact hm.alloc _
  have hgg : gx ≠ g := by have := hm.lt; omega
  obtain ⟨z0, z1, z2⟩ := ope3 BX
  have HA := Lib.hid (And.intro (Kb1.of_below (B := g) hba) (And.intro hma (And.intro BX hgg)))
  clear hba BX hma hm hgg
  go_enter Tryd.func72, Tryd.ntmps72
  go_upto_region 1 with (fail)
  (try rw [hwa])
  (try rw [hgx])
  clear hwa hgx
  go_wp2
  clear z0 z1 z2
  go_loopw [12] (fun u wr => ∃ (k : Nat), u = .int .i64 k ∧ k ≤ ql.length ∧ okB 0 1 (nodesQ (ql.take k)) (deepQ (ql.take k)) = true ∧ Mt g (nodesQ (ql.take k) : Int) wr ∧ Kb1 g w wr ∧ wr.heap[gx]? = some (.cells #[.slice ga gl.length gc, .slice qa ql.length qc, .slice ka kl.length kc] 26 (0, 0))) (fun u _ => ql.length - (intOf u).toNat)
  case atStart => exact ⟨0, rfl, Nat.zero_le _, by simp [okB, nodesQ, deepQ], by simpa [nodesQ] using HA.out.2.1, HA.out.1, HA.out.2.2.1⟩
  case round =>
    obtain ⟨k, rfl, hk, hal, hmk, hkb, hbx⟩ := hrel
    have HAL := Lib.hid hal
    obtain ⟨ck, hck⟩ : ∃ ck : Int, (nodesQ (ql.take k) : Int) = ck := ⟨_, rfl⟩
    rw [hck] at hmk
    have HCK := Lib.hid hck
    have hc0 : 0 ≤ ck := by omega
    have hc1 : ck ≤ 65536 := by simp only [okB, Bool.and_eq_true, decide_eq_true_eq] at hal; omega
    clear hal hck
    by_cases hlt : k < ql.length
    · have d1 : decide (k < ql.length) = true := by simpa using hlt
      have d2 : decide ((k : Int) < (ql.length : Int)) = true := by rw [decide_eq_true_eq]; omega
      have x1 : (k : Int) < (ql.length : Int) := by omega
      have hkt := hkb.keptTo hng hn0
      obtain ⟨b, o, rfl, hb, hr, hx⟩ := hiq.kept hkt hlt
      have HZ := Lib.hid (nodesQ_take ql k hlt)
      have HD := Lib.hid (deepQ_take ql k hlt)
      have hqb := QT.bkL_mem (List.getElem_mem hlt)
      have hxin := QT.In.keep hkt _ hx
      generalize hgq : ql[k] = x at *
      obtain ⟨ck', sa, sc, sl⟩ := x
      simp only [QT.bk] at hqb
      unfold QT.In at hxin
      simp only at hxin HZ HD
      have hl9 := TT.bkL_len sl
      have r0 : wr.cell? ⟨b, o + k * 2, none⟩ = some (.bool ck') := hr 0 _ rfl
      have r1 : wr.cell? ⟨b, o + k * 2 + 1, none⟩ = some (.slice sa sl.length sc) := hr 1 _ rfl
      obtain ⟨wb, hwb⟩ : ∃ wb, wr.alloc (.cells #[.bool ck', .slice sa sl.length sc] 46) = wb := ⟨_, rfl⟩
      have hbb : Below wr.heap.size wr wb := by rw [← hwb]; exact (Below.refl _ _).alloc (Nat.le_refl _) _
      have hmb : Mt g ck wb := by rw [← hwb]; exact hmk.alloc _
      have BB : wb.heap[wr.heap.size]? = some (.cells #[.bool ck', .slice sa sl.length sc] 46 (0, 0)) := by rw [← hwb]; exact World.alloc_heap_new wr _
      obtain ⟨y0, y1⟩ := ope2 BB
      have hnr : n0 ≤ wr.heap.size := Nat.le_trans hn0 hkb.size
      have c0 := eachT_any g 1 (by omega) (by omega) n0 hng sl (by omega) (fun y hy c2 w2 g1 g2 g3 g4 g5 => meterT_any y (by have := TT.bkL_mem hy; omega) n0 g c2 1 w2 hng g1 g2 (by omega) (by omega) g3 g4 g5) ck hc0 hc1 sa sc wb (Nat.le_trans hnr hbb.size) hmb (hxin.keep (Below.keptTo hbb hnr) (fun x _ => TT.In.keep (Below.keptTo hbb hnr) x))
      rw [MtP_eq] at c0
      have hk1 := hkb.trans (Kb1.of_below (B := g) hbb)
      have hbx1 := block_kept hbx hbb
      have HK := Lib.hid (And.intro hk1 (And.intro hbx1 HA.out.2.2.2))
      obtain ⟨b1, hb1⟩ : ∃ b, okB ck 1 (TT.szL sl) (TT.dpL sl) = b := ⟨_, rfl⟩
      rw [hb1] at c0
      have HB1 := Lib.hid hb1
      have c0K := Lib.hid c0
      clear hr hx hxin hgq hmk hkb hbx hkt hbb hmb BB hk1 hbx1 c0 hb1 hqb hl9
      cases b1 with
      | true =>
        have HT : Hid (okB 0 1 (nodesQ (ql.take (k + 1))) (deepQ (ql.take (k + 1))) = true) := Lib.hid (by
          have h1 := HAL.out; have h2 := HB1.out; have h3 := HCK.out
          rw [HZ.out, HD.out]; simp only [okB, Bool.and_eq_true, decide_eq_true_eq] at *; omega)
        go_upto_region 4 with (fail)
        (try rw [hwb])
        go_wp2_with fail
        refine c0K.out.mono ?_
        clear c0K y0 y1 r0 r1
        rintro e W1 ⟨rfl, hk1, hm1⟩
        have hm2 := hm1 (by first | rfl | trivial)
        have hm3 : Mt g (nodesQ (ql.take (k + 1)) : Int) W1 := by
          have e9 : (nodesQ (ql.take (k + 1)) : Int) = ck + (TT.szL sl : Int) := by rw [HZ.out]; have h3 := HCK.out; omega
          rw [e9]; exact hm2
        have HM := Lib.hid (And.intro (HK.out.1.trans hk1) (And.intro hm3 (hk1.kept HK.out.2.1 HK.out.2.2)))
        clear hk1 hm1 hm2 hm3
        go_wp2
        go_roundw
        case rel => exact ⟨k + 1, by simp; first | done | rfl | omega, by omega, HT.out, HM.out.2.1, HM.out.1, HM.out.2.2⟩
        case measure => simp [intOf]; omega
      | false =>
        have HE : Hid (R = false) := Lib.hid (by
          have h1 := HR.out; have h2 := HB1.out; have h3 := HCK.out; have h4 := HZ.out; have h5 := HD.out; have h6 := HN.out.1 (k + 1); have h7 := HN.out.2.1 (k + 1)
          rw [← h1]
          rw [Bool.eq_false_iff] at h2 ⊢
          intro h8; apply h2
          simp only [okB, Bool.and_eq_true, decide_eq_true_eq] at *
          omega)
        go_upto_region 4 with (fail)
        (try rw [hwb])
        go_wp2_with fail
        refine c0K.out.mono ?_
        clear c0K y0 y1 r0 r1
        rintro e W1 ⟨rfl, hk1, hm1⟩
        have HM := Lib.hid (HK.out.1.trans hk1)
        clear hk1 hm1
        go_wp2
        go_ret
        exact ⟨by rw [HE.out]; rfl, HM.out⟩
    · have d1 : decide (k < ql.length) = false := by simpa using hlt
      have d2 : decide ((k : Int) < (ql.length : Int)) = false := by rw [decide_eq_false_iff_not]; omega
      have hkl' : k = ql.length := by omega
      have HQ : Hid (okB 0 1 (nodesQ ql) (deepQ ql) = true ∧ (nodesQ ql : Int) = ck) := Lib.hid (by have h1 := HAL.out; have h2 := HCK.out; rw [hkl', List.take_length] at h1 h2; exact ⟨h1, h2⟩)
      obtain ⟨z0, z1, z2⟩ := ope3 hbx
      have HW := Lib.hid (And.intro hkb (And.intro hmk hbx))
      clear hkl' hkb hmk hbx
      go_wp2
      clear z0 z1 z2
      go_loopw [26] (fun u V => ∃ (j : Nat), u = .int .i64 j ∧ j ≤ kl.length ∧ okB 0 1 (nodesQ ql + nodesK (kl.take j)) (max (deepQ ql) (deepK (kl.take j))) = true ∧ Mt g (ck + (nodesK (kl.take j) : Int)) V ∧ Kb1 g w V) (fun u _ => kl.length - (intOf u).toNat)
      case atStart => exact ⟨0, rfl, Nat.zero_le _, by simpa [nodesK, deepK] using HQ.out.1, by simpa [nodesK] using HW.out.2.1, HW.out.1⟩
      case round =>
        obtain ⟨j, rfl, hj, hal, hmj, hkb⟩ := hrel
        have HAL2 := Lib.hid hal
        obtain ⟨cj, hcj⟩ : ∃ cj : Int, ck + (nodesK (kl.take j) : Int) = cj := ⟨_, rfl⟩
        rw [hcj] at hmj
        have HCJ := Lib.hid hcj
        have hj0 : 0 ≤ cj := by omega
        have hj1 : cj ≤ 65536 := by simp only [okB, Bool.and_eq_true, decide_eq_true_eq] at hal; have := HQ.out.2; omega
        clear hal hcj
        by_cases hlt2 : j < kl.length
        · have d3 : decide (j < kl.length) = true := by simpa using hlt2
          have d4 : decide ((j : Int) < (kl.length : Int)) = true := by rw [decide_eq_true_eq]; omega
          have x2 : (j : Int) < (kl.length : Int) := by omega
          have hkt := hkb.keptTo hng hn0
          obtain ⟨b, o, rfl, hb, hr, hx⟩ := hik.kept hkt hlt2
          have HZ := Lib.hid (nodesK_take kl j hlt2)
          have HD := Lib.hid (deepK_take kl j hlt2)
          have hqb := KT.bkL_mem (List.getElem_mem hlt2)
          have hxin := KT.In.keep hkt _ hx
          generalize hgq : kl[j] = x at *
          obtain ⟨bn, X⟩ := x
          simp only [KT.bk] at hqb
          unfold KT.In at hxin
          simp only at hxin HZ HD
          obtain ⟨wb2, hwb2⟩ : ∃ wb2, wr.alloc (.cells (KT.cells ⟨bn, X⟩).toArray 74) = wb2 := ⟨_, rfl⟩
          have hbb : Below wr.heap.size wr wb2 := by rw [← hwb2]; exact (Below.refl _ _).alloc (Nat.le_refl _) _
          have hmb : Mt g cj wb2 := by rw [← hwb2]; exact hmj.alloc _
          have BB : wb2.heap[wr.heap.size]? = some (.cells (KT.cells ⟨bn, X⟩).toArray 74 (0, 0)) := by rw [← hwb2]; exact World.alloc_heap_new wr _
          have hnr : n0 ≤ wr.heap.size := Nat.le_trans hn0 hkb.size
          have c0 := meterE_any X (by omega) n0 g cj 1 wb2 hng hj0 hj1 (by omega) (by omega) (Nat.le_trans hnr hbb.size) hmb (ET.In.keep (Below.keptTo hbb hnr) X hxin)
          rw [MtP_eq] at c0
          obtain ⟨sx, hsx⟩ : ∃ s, X.sz = s := ⟨_, rfl⟩
          obtain ⟨dx, hdx⟩ : ∃ s, X.dp = s := ⟨_, rfl⟩
          rw [hsx, hdx] at c0
          rw [hsx] at HZ
          rw [hdx] at HD
          clear hsx hdx hqb hxin
          obtain ⟨op, wd, v, sg, uh, ul, xn, xa, xc, xl⟩ := X
          simp only [KT.cells, ET.cells] at BB hwb2
          simp only [ET.val, ET.cells] at c0
          obtain ⟨y0, y1, y2, y3, y4, y5, y6, y7, y8⟩ := ope9 BB
          have r0 : wr.cell? ⟨b, o + j * 9, none⟩ = some (.string (bs bn)) := hr 0 _ rfl
          have r1 : wr.cell? ⟨b, o + j * 9 + 1, none⟩ = some (.int .i64 op) := hr 1 _ rfl
          have r2 : wr.cell? ⟨b, o + j * 9 + 2, none⟩ = some (.int .i64 wd) := hr 2 _ rfl
          have r3 : wr.cell? ⟨b, o + j * 9 + 3, none⟩ = some (.int .u64 (v : Int)) := hr 3 _ rfl
          have r4 : wr.cell? ⟨b, o + j * 9 + 4, none⟩ = some (.int .i64 sg) := hr 4 _ rfl
          have r5 : wr.cell? ⟨b, o + j * 9 + 5, none⟩ = some (.int .i64 uh) := hr 5 _ rfl
          have r6 : wr.cell? ⟨b, o + j * 9 + 6, none⟩ = some (.int .i64 ul) := hr 6 _ rfl
          have r7 : wr.cell? ⟨b, o + j * 9 + 7, none⟩ = some (.int .i64 xn) := hr 7 _ rfl
          have r8 : wr.cell? ⟨b, o + j * 9 + 8, none⟩ = some (.slice xa xl.length xc) := hr 8 _ rfl
          have hk1 := hkb.trans (Kb1.of_below (B := g) hbb)
          have HK := Lib.hid hk1
          obtain ⟨b1, hb1⟩ : ∃ b, okB cj 1 sx dx = b := ⟨_, rfl⟩
          rw [hb1] at c0
          have HB1 := Lib.hid hb1
          have c0K := Lib.hid c0
          clear hr hx hgq hmj hkb hkt hbb hmb BB hk1 c0 hb1
          cases b1 with
          | true =>
            have HT : Hid (okB 0 1 (nodesQ ql + nodesK (kl.take (j + 1))) (max (deepQ ql) (deepK (kl.take (j + 1)))) = true) := Lib.hid (by
              have h1 := HAL2.out; have h2 := HB1.out; have h3 := HCJ.out; have h4 := HQ.out.2
              rw [HZ.out, HD.out]; simp only [okB, Bool.and_eq_true, decide_eq_true_eq] at *; omega)
            go_upto_region 10 with (fail)
            (try rw [hwb2])
            go_wp2_with fail
            refine c0K.out.mono ?_
            clear c0K y0 y1 y2 y3 y4 y5 y6 y7 y8 r0 r1 r2 r3 r4 r5 r6 r7 r8
            rintro e W1 ⟨rfl, hk1, hm1⟩
            have hm2 := hm1 (by first | rfl | trivial)
            have hm3 : Mt g (ck + (nodesK (kl.take (j + 1)) : Int)) W1 := by
              have e9 : ck + (nodesK (kl.take (j + 1)) : Int) = cj + (sx : Int) := by rw [HZ.out]; have h3 := HCJ.out; omega
              rw [e9]; exact hm2
            have HM := Lib.hid (And.intro (HK.out.trans hk1) hm3)
            clear hk1 hm1 hm2 hm3
            go_wp2
            go_roundw
            case rel => exact ⟨j + 1, by simp; first | done | rfl | omega, by omega, HT.out, HM.out.2, HM.out.1⟩
            case measure => simp [intOf]; omega
          | false =>
            have HE : Hid (R = false) := Lib.hid (by
              have h1 := HR.out; have h2 := HB1.out; have h3 := HCJ.out; have h4 := HZ.out; have h5 := HD.out; have h6 := HN.out.2.2.1 (j + 1); have h7 := HN.out.2.2.2 (j + 1); have h9 := HQ.out.2
              rw [← h1]
              rw [Bool.eq_false_iff] at h2 ⊢
              intro h8; apply h2
              simp only [okB, Bool.and_eq_true, decide_eq_true_eq] at *
              omega)
            go_upto_region 10 with (fail)
            (try rw [hwb2])
            go_wp2_with fail
            refine c0K.out.mono ?_
            clear c0K y0 y1 y2 y3 y4 y5 y6 y7 y8 r0 r1 r2 r3 r4 r5 r6 r7 r8
            rintro e W1 ⟨rfl, hk1, hm1⟩
            have HM := Lib.hid (HK.out.trans hk1)
            clear hk1 hm1
            go_wp2
            go_ret
            exact ⟨by rw [HE.out]; rfl, HM.out⟩
        · have d3 : decide (j < kl.length) = false := by simpa using hlt2
          have d4 : decide ((j : Int) < (kl.length : Int)) = false := by rw [decide_eq_false_iff_not]; omega
          have hkj : j = kl.length := by omega
          have HE : Hid (R = true) := Lib.hid (by have h1 := HAL2.out; rw [hkj, List.take_length] at h1; rw [← HR.out]; exact h1)
          have HM := Lib.hid hkb
          clear hkj hkb hmj
          go_wp2
          go_ret
          exact ⟨by rw [HE.out]; rfl, HM.out⟩
end Go.Proofs.YtbcgeglkmpcnpaaDoor
namespace Go.Proofs.YtbcgeglkmpcnpaaDoor
open Go Go.RowKit
set_option linter.unusedVariables false
set_option linter.unusedSimpArgs false
open Go.Sort

def Cf2 (gx : Nat) (gl : List GT) (W : World) (u2 : Value) : Prop := ∃ (m0 : Nat) (a : Option Addr) (c : Nat), u2 = .slice a gl.length c ∧ gx + 2 ≤ m0 ∧ m0 ≤ W.heap.size ∧ GsIn m0 W gl a ∧ ∀ p, a = some p → gx + 2 ≤ p.block
def Cf5 (gx : Nat) (gl : List GT) (ql : List QT) (W : World) (u2 u5 : Value) : Prop := ∃ (m0 : Nat) (a : Option Addr) (c : Nat) (a' : Option Addr) (c' : Nat) (qs : List QT), u2 = .slice a gl.length c ∧ u5 = .slice a' qs.length c' ∧ gx + 2 ≤ m0 ∧ m0 ≤ W.heap.size ∧ GsIn m0 W gl a ∧ (∀ p, a = some p → gx + 2 ≤ p.block) ∧ qs.map nrmQ = ql.map nrmQ ∧ RowQQ W m0 W.heap.size a' c' qs
def Cf8 (gx : Nat) (gl : List GT) (ql : List QT) (kl : List KT) (W : World) (u2 u5 u8 : Value) : Prop := ∃ (m0 m1 : Nat) (a : Option Addr) (c : Nat) (a' : Option Addr) (c' : Nat) (qs : List QT) (a2 : Option Addr) (c2 : Nat) (ks : List KT), u2 = .slice a gl.length c ∧ u5 = .slice a' qs.length c' ∧ u8 = .slice a2 ks.length c2 ∧ gx + 2 ≤ m0 ∧ m0 ≤ m1 ∧ m1 ≤ W.heap.size ∧ GsIn m0 W gl a ∧ (∀ p, a = some p → gx + 2 ≤ p.block) ∧ qs.map nrmQ = ql.map nrmQ ∧ ks.map nrmK = kl.map nrmK ∧ RowQQ W m0 m1 a' c' qs ∧ RowKK W m1 W.heap.size a2 c2 ks
theorem GsIn.put {n B : Nat} {W W' : World} {gl : List GT} {a : Option Addr} (h : GsIn n W gl a) (hf : ∀ p, a = some p → B < p.block) (ho : ∀ k, k ≠ B → W'.heap[k]? = W.heap[k]?) : GsIn n W' gl a := h.other (B := B) (fun p hp => by have := hf p hp; omega) ho
theorem Cf2.keep {gx : Nat} {gl : List GT} {W W' : World} {u2 : Value} (h : Cf2 gx gl W u2) (hb : Below W.heap.size W W') : Cf2 gx gl W' u2 := by
  obtain ⟨m0, a, c, h1, h2, h3, h4, h5⟩ := h
  exact ⟨m0, a, c, h1, h2, Nat.le_trans h3 hb.size, h4.keep (Below.keptTo hb h3), h5⟩
theorem Cf2.other {gx : Nat} {gl : List GT} {W W' : World} {u2 : Value} (h : Cf2 gx gl W u2) (ho : ∀ j, j ≠ gx + 1 → W'.heap[j]? = W.heap[j]?) (hs : W'.heap.size = W.heap.size) : Cf2 gx gl W' u2 := by
  obtain ⟨m0, a, c, h1, h2, h3, h4, h5⟩ := h
  exact ⟨m0, a, c, h1, h2, by omega, h4.put (B := gx + 1) (fun p hp => by have := h5 p hp; omega) ho, h5⟩
theorem Cf5.keep {gx : Nat} {gl : List GT} {ql : List QT} {W W' : World} {u2 u5 : Value} (h : Cf5 gx gl ql W u2 u5) (hb : Below W.heap.size W W') : Cf5 gx gl ql W' u2 u5 := by
  obtain ⟨m0, a, c, a', c', qs, h1, h2, h3, h4, h5, h6, h7, h8⟩ := h
  exact ⟨m0, a, c, a', c', qs, h1, h2, h3, Nat.le_trans h4 hb.size, h5.keep (Below.keptTo hb h4), h6, h7, (h8.keep (fun x _ => QT.Own.keep x) (below_same2 hb)).wider (Nat.le_refl _) hb.size⟩
theorem Cf5.other {gx : Nat} {gl : List GT} {ql : List QT} {W W' : World} {u2 u5 : Value} (h : Cf5 gx gl ql W u2 u5) (ho : ∀ j, j ≠ gx + 1 → W'.heap[j]? = W.heap[j]?) (hs : W'.heap.size = W.heap.size) : Cf5 gx gl ql W' u2 u5 := by
  obtain ⟨m0, a, c, a', c', qs, h1, h2, h3, h4, h5, h6, h7, h8⟩ := h
  refine ⟨m0, a, c, a', c', qs, h1, h2, h3, by omega, h5.put (B := gx + 1) (fun p hp => by have := h6 p hp; omega) ho, h6, h7, ?_⟩
  rw [hs]
  exact h8.keep (fun x _ => QT.Own.keep x) (fun j h _ => ho j (by omega))
theorem Cf8.keep {gx : Nat} {gl : List GT} {ql : List QT} {kl : List KT} {W W' : World} {u2 u5 u8 : Value} (h : Cf8 gx gl ql kl W u2 u5 u8) (hb : Below W.heap.size W W') : Cf8 gx gl ql kl W' u2 u5 u8 := by
  obtain ⟨m0, m1, a, c, a', c', qs, a2, c2, ks, h1, h2, h3, h4, h5, h6, h7, h8, h9, h10, h11, h12⟩ := h
  exact ⟨m0, m1, a, c, a', c', qs, a2, c2, ks, h1, h2, h3, h4, h5, Nat.le_trans h6 hb.size, h7.keep (Below.keptTo hb (by omega)), h8, h9, h10, h11.keep (fun x _ => QT.Own.keep x) ((below_same2 hb).sub (Nat.le_refl _) h6), (h12.keep (fun x _ => KT.Own.keep x) (below_same2 hb)).wider (Nat.le_refl _) hb.size⟩
theorem Cf8.other {gx : Nat} {gl : List GT} {ql : List QT} {kl : List KT} {W W' : World} {u2 u5 u8 : Value} (h : Cf8 gx gl ql kl W u2 u5 u8) (ho : ∀ j, j ≠ gx + 1 → W'.heap[j]? = W.heap[j]?) (hs : W'.heap.size = W.heap.size) : Cf8 gx gl ql kl W' u2 u5 u8 := by
  obtain ⟨m0, m1, a, c, a', c', qs, a2, c2, ks, h1, h2, h3, h4, h5, h6, h7, h8, h9, h10, h11, h12⟩ := h
  refine ⟨m0, m1, a, c, a', c', qs, a2, c2, ks, h1, h2, h3, h4, h5, by omega, h7.put (B := gx + 1) (fun p hp => by have := h8 p hp; omega) ho, h8, h9, h10, h11.keep (fun x _ => QT.Own.keep x) (fun j h _ => ho j (by omega)), ?_⟩
  rw [hs]
  exact h12.keep (fun x _ => KT.Own.keep x) (fun j h _ => ho j (by omega))
/-- A copy of a design: where its signals, processes, checks lie. -/
def CfD (d : DT) (w : World) : Ending → World → Prop := fun e w' => ∃ (f : DT) (m0 m1 : Nat), e = .returned f.val ∧ f.gl = d.gl ∧ f.ql.map nrmQ = d.ql.map nrmQ ∧ f.kl.map nrmK = d.kl.map nrmK ∧ w.heap.size ≤ m0 ∧ m0 ≤ m1 ∧ m1 ≤ w'.heap.size ∧ GsIn m0 w' f.gl f.ga ∧ (∀ p, f.ga = some p → w.heap.size ≤ p.block) ∧ RowQQ w' m0 m1 f.qa f.qc f.ql ∧ RowKK w' m1 w'.heap.size f.ka f.kc f.kl ∧ Below w.heap.size w w'
set_option maxHeartbeats 8000000 in
set_option maxRecDepth 100000 in
theorem copyFlat_any (d : DT) (hbk : d.bk ≤ 4500000) (n0 : Nat) (w : World) (hn0 : n0 ≤ w.heap.size) (hin : d.In n0 w) :
    Calls Tryd.prog 38 #[d.val] w (CfD d w) := by
  obtain ⟨ga, gc, gl, qa, qc, ql, ka, kc, kl⟩ := d
  unfold DT.In at hin
  simp only [DT.bk] at hbk
  have l1 := GT.bkL_len gl
  have l2 := QT.bkL_len ql
  have l3 := KT.bkL_len kl
  have cg := fun (W : World) (h : Below w.heap.size w W) => copyAllG_any n0 gl (by omega) ga gc W (Nat.le_trans hn0 h.size) (GsIn.keep (Below.keptTo h hn0) hin.1)
  have cq := fun (W : World) (h : Below w.heap.size w W) => copyAllQ_any n0 ql (by omega) (fun y hy w2 g1 g2 => copyQ_any y (by have := QT.bkL_mem hy; omega) n0 w2 g1 g2) qa qc W (Nat.le_trans hn0 h.size) (hin.2.1.keep (Below.keptTo h hn0) (fun x _ => QT.In.keep (Below.keptTo h hn0) x))
  have ck := fun (W : World) (h : Below w.heap.size w W) => copyAllK_any n0 kl (by omega) (fun y hy w2 g1 g2 => copyK_any y (by have := KT.bkL_mem hy; omega) n0 w2 g1 g2) ka kc W (Nat.le_trans hn0 h.size) (hin.2.2.keep (Below.keptTo h hn0) (fun x _ => KT.In.keep (Below.keptTo h hn0) x))
  have HG := Lib.hid cg
  have HQ := Lib.hid cq
  have HK := Lib.hid ck
  clear cg cq ck hbk l1 l2 l3
  simp only [DT.val, DT.cells]
  obtain ⟨gx, hgx⟩ : ∃ gx, w.heap.size = gx := ⟨_, rfl⟩
  obtain ⟨wa, hwa⟩ : ∃ wa, w.alloc (.cells #[.slice ga gl.length gc, .slice qa ql.length qc, .slice ka kl.length kc] 26) = wa := ⟨_, rfl⟩
  have hba : Below w.heap.size w wa := by rw [← hwa]; exact (Below.refl _ _).alloc (Nat.le_refl _) _
  have hsa : wa.heap.size = gx + 1 := by rw [← hwa, World.size_alloc, hgx]
  have BX : wa.heap[gx]? = some (.cells #[.slice ga gl.length gc, .slice qa ql.length qc, .slice ka kl.length kc] 26 (0, 0)) := by rw [← hwa, ← hgx]; exact World.alloc_heap_new w _
  obtain ⟨w1, hw1⟩ : ∃ w1, wa.alloc (.cells #[.slice none 0 0, .slice none 0 0, .slice none 0 0] 26 (0, 0)) = w1 := ⟨_, rfl⟩
  have hb1 : Below wa.heap.size wa w1 := by rw [← hw1]; exact (Below.refl _ _).alloc (Nat.le_refl _) _
  have hbw : Below w.heap.size w w1 := hba.trans (hb1.mono hba.size)
  have BX1 := block_kept BX hb1
  have hs1 : w1.heap.size = gx + 2 := by rw [← hw1, World.size_alloc, hsa]
  have BY : w1.heap[gx + 1]? = some (.cells #[.slice none 0 0, .slice none 0 0, .slice none 0 0] 26 (0, 0)) := by rw [← hw1, ← hsa]; exact World.alloc_heap_new wa _
  have ckeep : ∀ {W W' : World} {b : Bool}, (Below w.heap.size w W ∧ W.heap[gx]? = some (.cells #[.slice ga gl.length gc, .slice qa ql.length qc, .slice ka kl.length kc] 26 (0, 0)) ∧ gx + 2 ≤ W.heap.size ∧ (b = false → W.heap[gx + 1]? = some (.cells #[.slice none 0 0, .slice none 0 0, .slice none 0 0] 26 (0, 0))) ∧ (b = true → ∃ e0 e1 e2, W.heap[gx + 1]? = some (.cells #[e0, e1, e2] 26 (0, 0)) ∧ Cf8 gx gl ql kl W e0 e1 e2)) → Below W.heap.size W W' → (Below w.heap.size w W' ∧ W'.heap[gx]? = some (.cells #[.slice ga gl.length gc, .slice qa ql.length qc, .slice ka kl.length kc] 26 (0, 0)) ∧ gx + 2 ≤ W'.heap.size ∧ (b = false → W'.heap[gx + 1]? = some (.cells #[.slice none 0 0, .slice none 0 0, .slice none 0 0] 26 (0, 0))) ∧ (b = true → ∃ e0 e1 e2, W'.heap[gx + 1]? = some (.cells #[e0, e1, e2] 26 (0, 0)) ∧ Cf8 gx gl ql kl W' e0 e1 e2)) := fun h hb => ⟨h.1.trans (hb.mono h.1.size), block_kept h.2.1 hb, Nat.le_trans h.2.2.1 hb.size, fun q => block_kept (h.2.2.2.1 q) hb, fun q => by
    obtain ⟨v0, v1, v2, h1, h2⟩ := h.2.2.2.2 q
    exact ⟨v0, v1, v2, block_kept h1 hb, h2.keep hb⟩⟩
  have cstore : ∀ {W : World} {b : Bool} {v0 v1 v2 : Value}, (Below w.heap.size w W ∧ W.heap[gx]? = some (.cells #[.slice ga gl.length gc, .slice qa ql.length qc, .slice ka kl.length kc] 26 (0, 0)) ∧ gx + 2 ≤ W.heap.size ∧ (b = false → W.heap[gx + 1]? = some (.cells #[.slice none 0 0, .slice none 0 0, .slice none 0 0] 26 (0, 0))) ∧ (b = true → ∃ e0 e1 e2, W.heap[gx + 1]? = some (.cells #[e0, e1, e2] 26 (0, 0)) ∧ Cf8 gx gl ql kl W e0 e1 e2)) → b = false → Cf8 gx gl ql kl W v0 v1 v2 → (Below w.heap.size w (((W.setCell ⟨gx + 1, 0, none⟩ v0).setCell ⟨gx + 1, 1, none⟩ v1).setCell ⟨gx + 1, 2, none⟩ v2) ∧ (((W.setCell ⟨gx + 1, 0, none⟩ v0).setCell ⟨gx + 1, 1, none⟩ v1).setCell ⟨gx + 1, 2, none⟩ v2).heap[gx]? = some (.cells #[.slice ga gl.length gc, .slice qa ql.length qc, .slice ka kl.length kc] 26 (0, 0)) ∧ gx + 2 ≤ (((W.setCell ⟨gx + 1, 0, none⟩ v0).setCell ⟨gx + 1, 1, none⟩ v1).setCell ⟨gx + 1, 2, none⟩ v2).heap.size ∧ (true = false → (((W.setCell ⟨gx + 1, 0, none⟩ v0).setCell ⟨gx + 1, 1, none⟩ v1).setCell ⟨gx + 1, 2, none⟩ v2).heap[gx + 1]? = some (.cells #[.slice none 0 0, .slice none 0 0, .slice none 0 0] 26 (0, 0))) ∧ (true = true → ∃ e0 e1 e2, (((W.setCell ⟨gx + 1, 0, none⟩ v0).setCell ⟨gx + 1, 1, none⟩ v1).setCell ⟨gx + 1, 2, none⟩ v2).heap[gx + 1]? = some (.cells #[e0, e1, e2] 26 (0, 0)) ∧ Cf8 gx gl ql kl (((W.setCell ⟨gx + 1, 0, none⟩ v0).setCell ⟨gx + 1, 1, none⟩ v1).setCell ⟨gx + 1, 2, none⟩ v2) e0 e1 e2)) := fun {W b v0 v1 v2} h hb h8 => by
    have h1 := h.2.2.2.1 hb
    have ho : ∀ k, k ≠ gx + 1 → (((W.setCell ⟨gx + 1, 0, none⟩ v0).setCell ⟨gx + 1, 1, none⟩ v1).setCell ⟨gx + 1, 2, none⟩ v2).heap[k]? = W.heap[k]? := fun k hk => by rw [Below.heap_setCell _ _ _ k hk, Below.heap_setCell _ _ _ k hk, Below.heap_setCell _ _ _ k hk]
    refine ⟨((h.1.setCell (p := ⟨gx + 1, 0, none⟩) (show w.heap.size ≤ gx + 1 by omega) _).setCell (p := ⟨gx + 1, 1, none⟩) (show w.heap.size ≤ gx + 1 by omega) _).setCell (p := ⟨gx + 1, 2, none⟩) (show w.heap.size ≤ gx + 1 by omega) _, (ho gx (by omega)).trans h.2.1, by simp only [World.size_setCell]; exact h.2.2.1, fun q => (by cases q), fun _ => ⟨v0, v1, v2, ?_, h8.other ho (by simp only [World.size_setCell])⟩⟩
    simp [World.setCell, Array.getElem?_modify, h1]
  have HC0 : Hid (Below w.heap.size w w1.drew ∧ w1.drew.heap[gx]? = some (.cells #[.slice ga gl.length gc, .slice qa ql.length qc, .slice ka kl.length kc] 26 (0, 0)) ∧ gx + 2 ≤ w1.drew.heap.size ∧ (false = false → w1.drew.heap[gx + 1]? = some (.cells #[.slice none 0 0, .slice none 0 0, .slice none 0 0] 26 (0, 0))) ∧ (false = true → ∃ e0 e1 e2, w1.drew.heap[gx + 1]? = some (.cells #[e0, e1, e2] 26 (0, 0)) ∧ Cf8 gx gl ql kl w1.drew e0 e1 e2)) := Lib.hid ⟨⟨hbw.os, hbw.tape, hbw.output, hbw.size, hbw.block⟩, BX1, by show gx + 2 ≤ w1.heap.size; omega, fun _ => BY, fun h => by cases h⟩
  clear hba BX hb1 hbw BX1 BY hin hs1
  go_enter Tryd.func38, Tryd.ntmps38
  go_upto_region 1 with (fail)
  (try rw [hwa])
  (try rw [hgx])
  (try rw [hw1])
  (try rw [hsa])
  clear hwa hw1 hsa
  refine wp_region_inv (fun (b : Nat → Bool) (a : Act) (W9 : World) => ∃ (u0 u1 u2 u3 u4 u5 u6 u7 u8 u9 u10 : Value), a = { tmps := #[.agg #[.slice ga gl.length gc, .slice qa ql.length qc, .slice ka kl.length kc], .pointer (some ⟨gx, 0, none⟩), .pointer (some ⟨gx + 1, 0, none⟩), u0, u1, u2, u3, u4, u5, u6, u7, u8, u9], defers := [] } ∧ (Below w.heap.size w W9 ∧ W9.heap[gx]? = some (.cells #[.slice ga gl.length gc, .slice qa ql.length qc, .slice ka kl.length kc] 26 (0, 0)) ∧ gx + 2 ≤ W9.heap.size ∧ (b 10 = false → W9.heap[gx + 1]? = some (.cells #[.slice none 0 0, .slice none 0 0, .slice none 0 0] 26 (0, 0))) ∧ (b 10 = true → ∃ e0 e1 e2, W9.heap[gx + 1]? = some (.cells #[e0, e1, e2] 26 (0, 0)) ∧ Cf8 gx gl ql kl W9 e0 e1 e2)) ∧ (b 0 = true → u0 = .pointer (some ⟨gx, 0, none⟩)) ∧ (b 1 = true → u1 = .slice ga gl.length gc) ∧ (b 2 = true → Cf2 gx gl W9 u2) ∧ (b 3 = true → u3 = .pointer (some ⟨gx, 1, none⟩)) ∧ (b 4 = true → u4 = .slice qa ql.length qc) ∧ (b 5 = true → Cf5 gx gl ql W9 u2 u5) ∧ (b 6 = true → u6 = .pointer (some ⟨gx, 2, none⟩)) ∧ (b 7 = true → u7 = .slice ka kl.length kc) ∧ (b 8 = true → Cf8 gx gl ql kl W9 u2 u5 u8) ∧ (b 9 = true → (∃ v0 v1 v2, u9 = .agg #[v0, v1, v2] ∧ Cf8 gx gl ql kl W9 v0 v1 v2)) ∧ (b 10 = true → True)) (by kernel_rfl) (by kernel_rfl) ?_ ?_ ?_
  · refine ⟨undef, undef, undef, undef, undef, undef, undef, undef, undef, undef, undef, rfl, HC0.out, fun h => (by cases h), fun h => (by cases h), fun h => (by cases h), fun h => (by cases h), fun h => (by cases h), fun h => (by cases h), fun h => (by cases h), fun h => (by cases h), fun h => (by cases h), fun h => (by cases h), fun h => (by cases h)⟩
  · refine ⟨⟨rfl, ?_⟩, ⟨⟨rfl, ?_⟩, ⟨⟨rfl, ?_⟩, ⟨⟨rfl, ?_⟩, ⟨⟨rfl, ?_⟩, ⟨⟨rfl, ?_⟩, ⟨⟨rfl, ?_⟩, ⟨⟨rfl, ?_⟩, ⟨⟨rfl, ?_⟩, ⟨⟨rfl, ?_⟩, ⟨⟨rfl, ?_⟩, trivial⟩⟩⟩⟩⟩⟩⟩⟩⟩⟩⟩
    · intro b a W9 hbk hd hcl hJ K hK
      obtain ⟨u0, u1, u2, u3, u4, u5, u6, u7, u8, u9, u10, rfl, hC, f0, f1, f2, f3, f4, f5, f6, f7, f8, f9, f10⟩ := hJ
      go_simp
      exact hK _ _ ⟨_, _, _, _, _, _, _, _, _, _, undef, rfl, hC, (fun _ => rfl), (f1), (f2), (f3), (f4), (f5), (f6), (f7), (f8), (f9), (f10)⟩
    · intro b a W9 hbk hd hcl hJ K hK
      obtain ⟨u0, u1, u2, u3, u4, u5, u6, u7, u8, u9, u10, rfl, hC, f0, f1, f2, f3, f4, f5, f6, f7, f8, f9, f10⟩ := hJ
      have d0 := f0 (hd ⟨0, .data⟩ (by simp) rfl)
      obtain ⟨z0, z1, z2⟩ := ope3 hC.2.1
      subst d0
      go_simp
      exact hK _ _ ⟨_, _, _, _, _, _, _, _, _, _, undef, rfl, hC, (f0), (fun _ => rfl), (f2), (f3), (f4), (f5), (f6), (f7), (f8), (f9), (f10)⟩
    · intro b a W9 hbk hd hcl hJ K hK
      obtain ⟨u0, u1, u2, u3, u4, u5, u6, u7, u8, u9, u10, rfl, hC, f0, f1, f2, f3, f4, f5, f6, f7, f8, f9, f10⟩ := hJ
      have d1 := f1 (hd ⟨1, .data⟩ (by simp) rfl)
      have n5 := (hcl.no 5 _ rfl ⟨2, .chain⟩ (by simp) rfl rfl hbk)
      have n8 := (hcl.no 8 _ rfl ⟨5, .chain⟩ (by simp) rfl rfl n5)
      subst d1
      go_simp
      refine (HG.out W9 hC.1).mono ?_
      rintro e W8 ⟨a', c', rfl, hi, hf, hb⟩
      have hC' := ckeep hC hb
      have hcs := hC.2.2.1
      exact hK _ _ ⟨_, _, _, _, _, _, _, _, _, _, undef, rfl, hC', (f0), (f1), (fun _ => ⟨W8.heap.size, a', c', rfl, Nat.le_trans hcs hb.size, Nat.le_refl _, hi, fun p hp => Nat.le_trans hcs (hf p hp)⟩), (f3), (f4), (fun h => by rw [show b 5 = true from h] at n5; cases n5), (f6), (f7), (fun h => by rw [show b 8 = true from h] at n8; cases n8), (fun h => (by obtain ⟨v0, v1, v2, h1, h2⟩ := (f9 h); exact ⟨v0, v1, v2, h1, h2.keep hb⟩)), (f10)⟩
    · intro b a W9 hbk hd hcl hJ K hK
      obtain ⟨u0, u1, u2, u3, u4, u5, u6, u7, u8, u9, u10, rfl, hC, f0, f1, f2, f3, f4, f5, f6, f7, f8, f9, f10⟩ := hJ
      go_simp
      exact hK _ _ ⟨_, _, _, _, _, _, _, _, _, _, undef, rfl, hC, (f0), (f1), (f2), (fun _ => rfl), (f4), (f5), (f6), (f7), (f8), (f9), (f10)⟩
    · intro b a W9 hbk hd hcl hJ K hK
      obtain ⟨u0, u1, u2, u3, u4, u5, u6, u7, u8, u9, u10, rfl, hC, f0, f1, f2, f3, f4, f5, f6, f7, f8, f9, f10⟩ := hJ
      have d3 := f3 (hd ⟨3, .data⟩ (by simp) rfl)
      obtain ⟨z0, z1, z2⟩ := ope3 hC.2.1
      subst d3
      go_simp
      exact hK _ _ ⟨_, _, _, _, _, _, _, _, _, _, undef, rfl, hC, (f0), (f1), (f2), (f3), (fun _ => rfl), (f5), (f6), (f7), (f8), (f9), (f10)⟩
    · intro b a W9 hbk hd hcl hJ K hK
      obtain ⟨u0, u1, u2, u3, u4, u5, u6, u7, u8, u9, u10, rfl, hC, f0, f1, f2, f3, f4, f5, f6, f7, f8, f9, f10⟩ := hJ
      have d4 := f4 (hd ⟨4, .data⟩ (by simp) rfl)
      have d2 := f2 (hd ⟨2, .chain⟩ (by simp) rfl)
      have n8 := (hcl.no 8 _ rfl ⟨5, .chain⟩ (by simp) rfl rfl hbk)
      subst d4
      obtain ⟨m0, a, c, rfl, h2, h3, h4, h5⟩ := d2
      go_simp
      refine (HQ.out W9 hC.1).mono ?_
      rintro e W8 ⟨a', c', qs, rfl, hn, hi, hb⟩
      have hC' := ckeep hC hb
      exact hK _ _ ⟨_, _, _, _, _, _, _, _, _, _, undef, rfl, hC', (f0), (f1), (fun h => Cf2.keep (f2 h) hb), (f3), (f4), (fun _ => ⟨m0, a, c, a', c', qs, rfl, rfl, h2, Nat.le_trans h3 hb.size, h4.keep (Below.keptTo hb h3), h5, hn, hi.wider h3 (Nat.le_refl _)⟩), (f6), (f7), (fun h => by rw [show b 8 = true from h] at n8; cases n8), (fun h => (by obtain ⟨v0, v1, v2, h1, h2⟩ := (f9 h); exact ⟨v0, v1, v2, h1, h2.keep hb⟩)), (f10)⟩
    · intro b a W9 hbk hd hcl hJ K hK
      obtain ⟨u0, u1, u2, u3, u4, u5, u6, u7, u8, u9, u10, rfl, hC, f0, f1, f2, f3, f4, f5, f6, f7, f8, f9, f10⟩ := hJ
      go_simp
      exact hK _ _ ⟨_, _, _, _, _, _, _, _, _, _, undef, rfl, hC, (f0), (f1), (f2), (f3), (f4), (f5), (fun _ => rfl), (f7), (f8), (f9), (f10)⟩
    · intro b a W9 hbk hd hcl hJ K hK
      obtain ⟨u0, u1, u2, u3, u4, u5, u6, u7, u8, u9, u10, rfl, hC, f0, f1, f2, f3, f4, f5, f6, f7, f8, f9, f10⟩ := hJ
      have d6 := f6 (hd ⟨6, .data⟩ (by simp) rfl)
      obtain ⟨z0, z1, z2⟩ := ope3 hC.2.1
      subst d6
      go_simp
      exact hK _ _ ⟨_, _, _, _, _, _, _, _, _, _, undef, rfl, hC, (f0), (f1), (f2), (f3), (f4), (f5), (f6), (fun _ => rfl), (f8), (f9), (f10)⟩
    · intro b a W9 hbk hd hcl hJ K hK
      obtain ⟨u0, u1, u2, u3, u4, u5, u6, u7, u8, u9, u10, rfl, hC, f0, f1, f2, f3, f4, f5, f6, f7, f8, f9, f10⟩ := hJ
      have d7 := f7 (hd ⟨7, .data⟩ (by simp) rfl)
      have d5 := f5 (hd ⟨5, .chain⟩ (by simp) rfl)
      subst d7
      obtain ⟨m0, a, c, a', c', qs, rfl, rfl, h3, h4, h5, h6, h7, h8⟩ := d5
      go_simp
      refine (HK.out W9 hC.1).mono ?_
      rintro e W8 ⟨a2, c2, ks, rfl, hn, hi, hb⟩
      have hC' := ckeep hC hb
      exact hK _ _ ⟨_, _, _, _, _, _, _, _, _, _, undef, rfl, hC', (f0), (f1), (fun h => Cf2.keep (f2 h) hb), (f3), (f4), (fun h => Cf5.keep (f5 h) hb), (f6), (f7), (fun _ => ⟨m0, W9.heap.size, a, c, a', c', qs, a2, c2, ks, rfl, rfl, rfl, h3, h4, hb.size, h5.keep (Below.keptTo hb h4), h6, h7, hn, h8.keep (fun x _ => QT.Own.keep x) (below_same2 hb), hi⟩), (fun h => (by obtain ⟨v0, v1, v2, h1, h2⟩ := (f9 h); exact ⟨v0, v1, v2, h1, h2.keep hb⟩)), (f10)⟩
    · intro b a W9 hbk hd hcl hJ K hK
      obtain ⟨u0, u1, u2, u3, u4, u5, u6, u7, u8, u9, u10, rfl, hC, f0, f1, f2, f3, f4, f5, f6, f7, f8, f9, f10⟩ := hJ
      have d2 := f2 (hd ⟨2, .data⟩ (by simp) rfl)
      have d5 := f5 (hd ⟨5, .data⟩ (by simp) rfl)
      have d8 := f8 (hd ⟨8, .data⟩ (by simp) rfl)
      have d8' := d8
      obtain ⟨m0, m1, a, c, a', c', qs, a2, c2, ks, rfl, rfl, rfl, hr⟩ := d8
      go_simp
      exact hK _ _ ⟨_, _, _, _, _, _, _, _, _, _, undef, rfl, hC, (f0), (f1), (f2), (f3), (f4), (f5), (f6), (f7), (f8), (fun _ => ⟨_, _, _, rfl, d8'⟩), (f10)⟩
    · intro b a W9 hbk hd hcl hJ K hK
      obtain ⟨u0, u1, u2, u3, u4, u5, u6, u7, u8, u9, u10, rfl, hC, f0, f1, f2, f3, f4, f5, f6, f7, f8, f9, f10⟩ := hJ
      have d9 := f9 (hd ⟨9, .data⟩ (by simp) rfl)
      obtain ⟨v0, v1, v2, rfl, h8⟩ := d9
      obtain ⟨z0, z1, z2⟩ := ope3 (hC.2.2.2.1 hbk)
      obtain ⟨p0, p1, p2⟩ := thaw3 (hC.2.2.2.1 hbk)
      have hC' := cstore hC hbk h8
      have ho : ∀ k, k ≠ gx + 1 → (((W9.setCell ⟨gx + 1, 0, none⟩ v0).setCell ⟨gx + 1, 1, none⟩ v1).setCell ⟨gx + 1, 2, none⟩ v2).heap[k]? = W9.heap[k]? := fun k hk => by rw [Below.heap_setCell _ _ _ k hk, Below.heap_setCell _ _ _ k hk, Below.heap_setCell _ _ _ k hk]
      obtain ⟨m0, m1, a, c, a', c', qs, a2, c2, ks, rfl, rfl, rfl, hr⟩ := h8
      go_simp
      exact hK _ _ ⟨_, _, _, _, _, _, _, _, _, _, undef, rfl, hC', (f0), (f1), (fun h => Cf2.other (f2 h) ho (by simp only [World.size_setCell])), (f3), (f4), (fun h => Cf5.other (f5 h) ho (by simp only [World.size_setCell])), (f6), (f7), (fun h => Cf8.other (f8 h) ho (by simp only [World.size_setCell])), (fun h => (by obtain ⟨v0, v1, v2, h1, h2⟩ := (f9 h); exact ⟨v0, v1, v2, h1, h2.other ho (by simp only [World.size_setCell])⟩)), (fun _ => trivial)⟩
  · intro b a W9 hb hJ
    obtain ⟨u0, u1, u2, u3, u4, u5, u6, u7, u8, u9, u10, rfl, hC, f0, f1, f2, f3, f4, f5, f6, f7, f8, f9, f10⟩ := hJ
    replace f0 := f0 (hb 0 (by decide))
    replace f1 := f1 (hb 1 (by decide))
    replace f2 := f2 (hb 2 (by decide))
    replace f3 := f3 (hb 3 (by decide))
    replace f4 := f4 (hb 4 (by decide))
    replace f5 := f5 (hb 5 (by decide))
    replace f6 := f6 (hb 6 (by decide))
    replace f7 := f7 (hb 7 (by decide))
    replace f8 := f8 (hb 8 (by decide))
    replace f9 := f9 (hb 9 (by decide))
    replace f10 := f10 (hb 10 (by decide))
    obtain ⟨v0, v1, v2, h1, m0, m1, a, c, a', c', qs, a2, c2, ks, rfl, rfl, rfl, h4, h5, h6, h7, h8, h9, h10, h11, h12⟩ := hC.2.2.2.2 (hb 10 (by decide))
    obtain ⟨t0, t1, t2⟩ := ope3 h1
    have HP : Hid (CfD ⟨ga, gc, gl, qa, qc, ql, ka, kc, kl⟩ w (.returned (.agg #[.slice a gl.length c, .slice a' qs.length c', .slice a2 ks.length c2])) W9) := Lib.hid ⟨⟨a, c, gl, a', c', qs, a2, c2, ks⟩, m0, m1, rfl, rfl, h9, h10, by omega, h5, h6, h7, fun p hp => by have := h8 p hp; omega, h11, h12, hC.1⟩
    clear hC f0 f1 f2 f3 f4 f5 f6 f7 f8 f9 f10 h1 h4 h5 h6 h7 h8 h9 h10 h11 h12 ckeep cstore
    go_wp2
    have hu := Tryd.underlying26
    refine bodyPost_ret (v := .agg #[.slice a gl.length c, .slice a' qs.length c', .slice a2 ks.length c2]) (by simp [results, Tryd.results38, go_sem, hu, t0, t1, t2]) rfl HP.out
end Go.Proofs.YtbcgeglkmpcnpaaDoor
