/-
  FaH, FaI, in one text.
-/
import Derived.Test.YtbcgeglkmpcnpaaDoorFbC
import Derived.Test.YtbcgeglkmpcnpaaDoorFbD
namespace Go.Proofs.YtbcgeglkmpcnpaaDoor
open Go Go.RowKit
set_option linter.unusedVariables false
set_option linter.unusedSimpArgs false
open Go.Sort

theorem ope1 {w : World} {g : Nat} {v0 : Value} {t : TypeId} (h : w.heap[g]? = some (.cells #[v0] t (0, 0))) : w.cell? ⟨g, 0, none⟩ = some v0 := by
  simp [World.cell?, h]
set_option maxHeartbeats 8000000 in
set_option maxRecDepth 100000 in
theorem des1_any (gl : List GT) (ga : Option Addr) (gc : Nat) (gb : Nat) (x : KT) (hbk : x.bk ≤ 4500000) (hwf : x.Wf) (n0 : Nat) (w : World) (hn0 : n0 ≤ w.heap.size) (he : EnvZ w) (hg : GsIn n0 w gl ga) (hin : x.In n0 w) (hbx : w.heap[gb]? = some (.cells #[.slice ga gl.length gc] 59 (0, 0))) : Calls Tryd.prog 76 #[x.val, .pointer (some ⟨gb, 0, none⟩)] w fun e w' => e = .returned (.bool (mayE gl x.x)) ∧ Below w.heap.size w w' := by
  obtain ⟨bn, X⟩ := x
  simp only [KT.bk] at hbk
  unfold KT.Wf at hwf
  unfold KT.In at hin
  simp only at hwf hin ⊢
  have cm := fun (W : World) (h : Below w.heap.size w W) => mayE_any gl ga gc X (by omega) hwf n0 W (Nat.le_trans hn0 h.size) (he.keep h) (hg.keep (Below.keptTo h hn0)) (hin.keep (Below.keptTo h hn0))
  obtain ⟨b, hb⟩ : ∃ b, mayE gl X = b := ⟨_, rfl⟩
  simp only [hb] at cm ⊢
  have HC := Lib.hid cm
  clear cm hb he hg hin hwf hbk
  obtain ⟨op, wd, v, sg, uh, ul, xn, xa, xc, xl⟩ := X
  simp only [KT.val, KT.cells, ET.val, ET.cells] at *
  obtain ⟨wa, hwa⟩ : ∃ wa, w.alloc (.cells #[.string (bs bn), .int .i64 op, .int .i64 wd, .int .u64 (v : Int), .int .i64 sg, .int .i64 uh, .int .i64 ul, .int .i64 xn, .slice xa xl.length xc] 74) = wa := ⟨_, rfl⟩
  have hba : Below w.heap.size w wa := by rw [← hwa]; exact (Below.refl _ _).alloc (Nat.le_refl _) _
  have BX : wa.heap[w.heap.size]? = some (.cells #[.string (bs bn), .int .i64 op, .int .i64 wd, .int .u64 (v : Int), .int .i64 sg, .int .i64 uh, .int .i64 ul, .int .i64 xn, .slice xa xl.length xc] 74) := by rw [← hwa]; exact World.alloc_heap_new w _
  obtain ⟨x0, x1, x2, x3, x4, x5, x6, x7, x8⟩ := ope9 BX
  have y0 := ope1 (block_kept hbx hba)
  have c0 := HC.out wa hba
  have HB := Lib.hid hba
  clear BX hba hbx
  go_enter Tryd.func76, Tryd.ntmps76
  go_upto_region 1 with (fail)
  (try rw [hwa])
  go_wp2_with fail
  refine c0.mono ?_
  clear c0
  rintro e W1 ⟨rfl, hb1⟩
  have HB2 := Lib.hid (HB.out.trans (hb1.mono HB.out.size))
  clear hb1
  go_wp2
  go_ret
  exact ⟨rfl, HB2.out⟩

set_option maxHeartbeats 4000000 in
set_option maxRecDepth 100000 in
theorem allK_any (gl : List GT) (ga : Option Addr) (gc : Nat) (p : KT → Bool) (n0 gb : Nat) (l : List KT) (hll : l.length ≤ 12000000) (hc : ∀ x ∈ l, ∀ w, n0 ≤ w.heap.size → EnvZ w → GsIn n0 w gl ga → x.In n0 w → w.heap[gb]? = some (.cells #[.slice ga gl.length gc] 59 (0, 0)) → Calls Tryd.prog 76 #[x.val, .pointer (some ⟨gb, 0, none⟩)] w fun e w' => e = .returned (.bool (p x)) ∧ Below w.heap.size w w') (a : Option Addr) (c : Nat) (w : World) (hn0 : n0 ≤ w.heap.size) (he : EnvZ w) (hg : GsIn n0 w gl ga) (hbx : w.heap[gb]? = some (.cells #[.slice ga gl.length gc] 59 (0, 0))) (hin : InRow 9 KT.cells (KT.In n0 w) n0 w l a) :
    Calls Tryd.prog 75 #[.slice a l.length c, .func (.func 76) #[] #[.pointer (some ⟨gb, 0, none⟩)]] w fun e w' => e = .returned (.bool (l.all p)) ∧ Below w.heap.size w w' := by
  go_enter Tryd.func75, Tryd.ntmps75
  go_wp2
  go_loopw [9] (fun u wr => ∃ k : Nat, u = .int .i64 k ∧ k ≤ l.length ∧ (l.take k).all p = true ∧ Below w.heap.size w wr) (fun u _ => l.length - (intOf u).toNat)
  case atStart => exact ⟨0, rfl, Nat.zero_le _, rfl, Below.refl _ _⟩
  case round =>
    obtain ⟨k, rfl, hk, hal, hb0⟩ := hrel
    have HA := Lib.hid hal
    clear hal
    by_cases hlt : k < l.length
    · have d1 : decide (k < l.length) = true := by simpa using hlt
      have d2 : decide ((k : Int) < (l.length : Int)) = true := by rw [decide_eq_true_eq]; omega
      have x1 : (k : Int) < (l.length : Int) := by omega
      obtain ⟨b, o, rfl, hb, hr, hx⟩ := hin.kept (Below.keptTo hb0 hn0) hlt
      have HT := Lib.hid (all_take p l k hlt)
      have HS := Lib.hid (all_stop p l k hlt)
      have hcx := hc l[k] (List.getElem_mem hlt)
      have hxin := KT.In.keep (Below.keptTo hb0 hn0) _ hx
      have her := he.keep hb0
      have hgr := hg.keep (Below.keptTo hb0 hn0)
      have zz := hb0.size
      generalize p l[k] = bp at *
      generalize hgx : l[k] = x at *
      obtain ⟨bn, ⟨op, wd, v, sg, uh, ul, xn, xa, xc, xl⟩⟩ := x
      have hbr := block_kept hbx hb0
      have c0 := fun (o' : Obj) => hcx (wr.alloc o') (by simp; omega) (her.alloc o') (hgr.alloc (by omega) o') (KT.In.keep (Below.keptTo ((Below.refl _ _).alloc (Nat.le_refl _) o') (by omega)) _ hxin) (block_alloc hbr o')
      have r0 : wr.cell? ⟨b, o + k * 9, none⟩ = some (.string (bs bn)) := hr 0 _ rfl
      have r1 : wr.cell? ⟨b, o + k * 9 + 1, none⟩ = some (.int .i64 op) := hr 1 _ rfl
      have r2 : wr.cell? ⟨b, o + k * 9 + 2, none⟩ = some (.int .i64 wd) := hr 2 _ rfl
      have r3 : wr.cell? ⟨b, o + k * 9 + 3, none⟩ = some (.int .u64 (v : Int)) := hr 3 _ rfl
      have r4 : wr.cell? ⟨b, o + k * 9 + 4, none⟩ = some (.int .i64 sg) := hr 4 _ rfl
      have r5 : wr.cell? ⟨b, o + k * 9 + 5, none⟩ = some (.int .i64 uh) := hr 5 _ rfl
      have r6 : wr.cell? ⟨b, o + k * 9 + 6, none⟩ = some (.int .i64 ul) := hr 6 _ rfl
      have r7 : wr.cell? ⟨b, o + k * 9 + 7, none⟩ = some (.int .i64 xn) := hr 7 _ rfl
      have r8 : wr.cell? ⟨b, o + k * 9 + 8, none⟩ = some (.slice xa xl.length xc) := hr 8 _ rfl
      simp only [KT.val, KT.cells, ET.cells] at c0
      clear hin hc hcx hr hx hxin hgx he her hg hgr hbr hbx
      cases bp with
      | true =>
        clear HS
        go_wp2_with fail
        refine (c0 _).mono ?_
        clear c0
        rintro e W1 ⟨rfl, hb1⟩
        have hb2 := hb0.trans (((Below.refl _ _).alloc (Nat.le_refl _) _).trans (hb1.mono (by simp)) |>.mono zz)
        go_wp2
        go_roundw
        case rel => exact ⟨k + 1, by simp; first | done | rfl | omega, by omega, by rw [HT.out, HA.out]; rfl, hb2⟩
        case measure => simp [intOf]; omega
      | false =>
        have HE : Hid (l.all p = false) := Lib.hid (HS.out rfl)
        clear HS HT
        go_wp2_with fail
        refine (c0 _).mono ?_
        clear c0
        rintro e W1 ⟨rfl, hb1⟩
        have hb2 := hb0.trans (((Below.refl _ _).alloc (Nat.le_refl _) _).trans (hb1.mono (by simp)) |>.mono zz)
        go_wp2
        go_ret
        exact ⟨by rw [HE.out]; rfl, hb2⟩
    · have d1 : decide (k < l.length) = false := by simpa using hlt
      have d2 : decide ((k : Int) < (l.length : Int)) = false := by rw [decide_eq_false_iff_not]; omega
      have hkl : k = l.length := by omega
      have HE : Hid (l.all p = true) := Lib.hid (by have := HA.out; rw [hkl, List.take_length] at this; exact this)
      clear hkl
      go_wp2
      go_ret
      exact ⟨by rw [HE.out]; rfl, hb0⟩
set_option maxHeartbeats 8000000 in
set_option maxRecDepth 100000 in
theorem shapesD_any (ga : Option Addr) (gc : Nat) (gl : List GT) (qa : Option Addr) (qc : Nat) (ql : List QT) (ka : Option Addr) (kc : Nat) (kl : List KT) (hql : QT.bkL ql ≤ 4500000) (hkl : KT.bkL kl ≤ 4500000) (hqw : QT.WfL ql) (hkw : KT.WfL kl) (n0 : Nat) (w : World) (hn0 : n0 ≤ w.heap.size) (he : EnvZ w) (hg : GsIn n0 w gl ga) (hiq : InRow 2 QT.cells (QT.In n0 w) n0 w ql qa) (hik : InRow 9 KT.cells (KT.In n0 w) n0 w kl ka) :
    Calls Tryd.prog 37 #[.slice ga gl.length gc, .agg #[.slice ga gl.length gc, .slice qa ql.length qc, .slice ka kl.length kc]] w fun e w' => e = .returned (.bool (ql.all (fun q => mayTL gl q.sl 0) && kl.all (fun k => mayE gl k.x))) ∧ Below w.heap.size w w' := by
  rw [QT.wfL_iff] at hqw
  rw [KT.wfL_iff] at hkw
  have hlq := QT.bkL_len ql
  have hlk := KT.bkL_len kl
  obtain ⟨BK, hBK⟩ : ∃ b, kl.all (fun k => mayE gl k.x) = b := ⟨_, rfl⟩
  obtain ⟨R, hR⟩ : ∃ b, (ql.all (fun q => mayTL gl q.sl 0) && BK) = b := ⟨_, rfl⟩
  have ck := fun (gb : Nat) (W : World) (h : Below w.heap.size w W) hb => allK_any gl ga gc (fun k => mayE gl k.x) n0 gb kl (by omega) (fun x hx w2 g1 g2 g3 g4 g5 => des1_any gl ga gc gb x (by have := KT.bkL_mem hx; omega) (hkw x hx) n0 w2 g1 g2 g3 g4 g5) ka kc W (Nat.le_trans hn0 h.size) (he.keep h) (hg.keep (Below.keptTo h hn0)) hb (hik.keep (Below.keptTo h hn0) (fun x _ => KT.In.keep (Below.keptTo h hn0) x))
  rw [hBK, hR]
  simp only [hBK] at ck
  have HCK := Lib.hid ck
  have HR := Lib.hid hR
  clear hR ck hBK hik hkw
  obtain ⟨gx, hgx⟩ : ∃ gx, w.heap.size = gx := ⟨_, rfl⟩
  obtain ⟨wa, hwa⟩ : ∃ wa, w.alloc (.cells #[.slice ga gl.length gc] 59) = wa := ⟨_, rfl⟩
  have hsa : wa.heap.size = gx + 1 := by rw [← hwa, World.size_alloc, hgx]
  have hba : Below w.heap.size w wa := by rw [← hwa]; exact (Below.refl _ _).alloc (Nat.le_refl _) _
  have BA : wa.heap[gx]? = some (.cells #[.slice ga gl.length gc] 59 (0, 0)) := by rw [← hwa, ← hgx]; exact World.alloc_heap_new w _
  obtain ⟨w1, hw1⟩ : ∃ w1, wa.alloc (.cells #[.slice ga gl.length gc, .slice qa ql.length qc, .slice ka kl.length kc] 26) = w1 := ⟨_, rfl⟩
  have hb1 : Below wa.heap.size wa w1 := by rw [← hw1]; exact (Below.refl _ _).alloc (Nat.le_refl _) _
  have BX : w1.heap[gx + 1]? = some (.cells #[.slice ga gl.length gc, .slice qa ql.length qc, .slice ka kl.length kc] 26 (0, 0)) := by rw [← hw1, ← hsa]; exact World.alloc_heap_new wa _
  have hb : Below w.heap.size w w1 := hba.trans (hb1.mono hba.size)
  have HA := Lib.hid (And.intro hb (And.intro (block_kept BA hb1) BX))
  obtain ⟨z0, z1, z2⟩ := ope3 BX
  clear hba BA hb1 BX hb
  go_enter Tryd.func37, Tryd.ntmps37
  go_upto_region 1 with (fail)
  (try rw [hwa])
  (try rw [hgx])
  (try rw [hw1])
  (try rw [hsa])
  clear hwa hw1 hsa
  go_wp2
  clear z0 z1 z2
  go_loopw [10] (fun u wr => ∃ (k : Nat), u = .int .i64 k ∧ k ≤ ql.length ∧ (ql.take k).all (fun q => mayTL gl q.sl 0) = true ∧ Below w.heap.size w wr ∧ wr.heap[gx]? = some (.cells #[.slice ga gl.length gc] 59 (0, 0)) ∧ wr.heap[gx + 1]? = some (.cells #[.slice ga gl.length gc, .slice qa ql.length qc, .slice ka kl.length kc] 26 (0, 0))) (fun u _ => ql.length - (intOf u).toNat)
  case atStart => exact ⟨0, rfl, Nat.zero_le _, rfl, HA.out.1, HA.out.2.1, HA.out.2.2⟩
  case round =>
    obtain ⟨k, rfl, hk, hal, hb0, hsx, hbx⟩ := hrel
    have HAL := Lib.hid hal
    clear hal
    by_cases hlt : k < ql.length
    · have d1 : decide (k < ql.length) = true := by simpa using hlt
      have d2 : decide ((k : Int) < (ql.length : Int)) = true := by rw [decide_eq_true_eq]; omega
      have x1 : (k : Int) < (ql.length : Int) := by omega
      have hkt := Below.keptTo hb0 hn0
      obtain ⟨b, o, rfl, hb, hr, hx⟩ := hiq.kept hkt hlt
      have HT := Lib.hid (all_take (fun q => mayTL gl q.sl 0) ql k hlt)
      have HSt := Lib.hid (all_stop (fun q => mayTL gl q.sl 0) ql k hlt)
      have hqb := QT.bkL_mem (List.getElem_mem hlt)
      have hqf := hqw _ (List.getElem_mem hlt)
      have hxin := QT.In.keep hkt _ hx
      generalize hgq : ql[k] = x at *
      obtain ⟨ck', sa, sc, sl⟩ := x
      simp only [QT.bk] at hqb
      unfold QT.Wf at hqf
      unfold QT.In at hxin
      simp only at hxin HT HSt hqf
      rw [TT.wfL_iff] at hqf
      have hl9 := TT.bkL_len sl
      have r0 : wr.cell? ⟨b, o + k * 2, none⟩ = some (.bool ck') := hr 0 _ rfl
      have r1 : wr.cell? ⟨b, o + k * 2 + 1, none⟩ = some (.slice sa sl.length sc) := hr 1 _ rfl
      obtain ⟨wb, hwb⟩ : ∃ wb, wr.alloc (.cells #[.bool ck', .slice sa sl.length sc] 46) = wb := ⟨_, rfl⟩
      have hbb : Below wr.heap.size wr wb := by rw [← hwb]; exact (Below.refl _ _).alloc (Nat.le_refl _) _
      have BB : wb.heap[wr.heap.size]? = some (.cells #[.bool ck', .slice sa sl.length sc] 46 (0, 0)) := by rw [← hwb]; exact World.alloc_heap_new wr _
      obtain ⟨y0, y1⟩ := ope2 BB
      have hbw : Below w.heap.size w wb := hb0.trans (hbb.mono hb0.size)
      have hk9 := Below.keptTo hbb (Nat.le_trans hn0 hb0.size)
      have c0 := allS_any gl ga gc (fun y => mayT gl y 0) n0 sl (by omega) (fun y hy w2 g1 g2 g3 g4 => (st_all gl ga gc y (by have := TT.bkL_mem hy; omega) (hqf y hy)).1.1 n0 w2 g1 g2 g3 g4) sa sc wb (Nat.le_trans hn0 hbw.size) (he.keep hbw) (hg.keep (Below.keptTo hbw hn0)) (hxin.keep hk9 (fun x _ => TT.In.keep hk9 x))
      rw [← mayTL_all] at c0
      have hsx1 := block_kept hsx hbb
      have hbx1 := block_kept hbx hbb
      have t0 := ope1 hsx1
      have HK := Lib.hid (And.intro hbw (And.intro hsx1 hbx1))
      obtain ⟨b1, hb1⟩ : ∃ b, mayTL gl sl 0 = b := ⟨_, rfl⟩
      rw [hb1] at c0 HT HSt
      have c0K := Lib.hid c0
      clear hr hx hxin hgq hb0 hsx hbx hkt hbb BB hbw hk9 c0 hb1 hqb hl9 hqf hsx1 hbx1
      cases b1 with
      | true =>
        go_upto_region 4 with (fail)
        (try rw [hwb])
        go_wp2_with fail
        refine c0K.out.mono ?_
        clear c0K y0 y1 r0 r1 t0
        rintro e W1 ⟨rfl, hb1⟩
        have HM := Lib.hid (And.intro (HK.out.1.trans (hb1.mono HK.out.1.size)) (And.intro (block_kept HK.out.2.1 hb1) (block_kept HK.out.2.2 hb1)))
        clear hb1
        go_wp2
        go_roundw
        case rel => exact ⟨k + 1, by simp; first | done | rfl | omega, by omega, by rw [HT.out, HAL.out]; rfl, HM.out⟩
        case measure => simp [intOf]; omega
      | false =>
        have HE : Hid (R = false) := Lib.hid (by rw [← HR.out, HSt.out rfl]; rfl)
        go_upto_region 4 with (fail)
        (try rw [hwb])
        go_wp2_with fail
        refine c0K.out.mono ?_
        clear c0K y0 y1 r0 r1 t0
        rintro e W1 ⟨rfl, hb1⟩
        have HM := Lib.hid (HK.out.1.trans (hb1.mono HK.out.1.size))
        clear hb1
        go_wp2
        go_ret
        exact ⟨by rw [HE.out]; rfl, HM.out⟩
    · have d1 : decide (k < ql.length) = false := by simpa using hlt
      have d2 : decide ((k : Int) < (ql.length : Int)) = false := by rw [decide_eq_false_iff_not]; omega
      have HE : Hid (R = BK) := Lib.hid (by have h1 := HAL.out; rw [List.take_of_length_le (by omega)] at h1; rw [← HR.out, h1]; rfl)
      obtain ⟨z0, z1, z2⟩ := ope3 hbx
      have c0 := HCK.out gx wr hb0 hsx
      have HB := Lib.hid hb0
      clear hb0 hsx hbx hiq
      go_wp2_with fail
      refine c0.mono ?_
      clear c0 z0 z1 z2
      rintro e W1 ⟨rfl, hb1⟩
      have HM := Lib.hid (HB.out.trans (hb1.mono HB.out.size))
      clear hb1
      go_wp2
      go_ret
      exact ⟨by rw [HE.out]; rfl, HM.out⟩
set_option maxHeartbeats 8000000 in
set_option maxRecDepth 100000 in
theorem bounds_any (d : DT) (hbk : d.bk ≤ 4500000) (n0 : Nat) (w : World) (hn0 : n0 ≤ w.heap.size) (hin : d.In n0 w) : Calls Tryd.prog 36 #[d.val] w fun e w' => e = .returned (.bool (boundD d)) ∧ Below w.heap.size w w' := by
  obtain ⟨R, hR⟩ : ∃ R, boundD d = R := ⟨_, rfl⟩
  rw [hR]
  have HR := Lib.hid hR
  clear hR
  obtain ⟨ga, gc, gl, qa, qc, ql, ka, kc, kl⟩ := d
  unfold DT.In at hin
  simp only [DT.bk] at hbk
  simp only at hin
  have l1 := GT.bkL_len gl
  have l2 := QT.bkL_len ql
  have l3 := KT.bkL_len kl
  have cf := fun (W : World) (h : Below w.heap.size w W) => fewBits_any n0 gl (by omega) ga gc W (Nat.le_trans hn0 h.size) (GsIn.keep (Below.keptTo h hn0) hin.1)
  have cm := fun (g : Nat) (W : World) (h : Below w.heap.size w W) (hg : w.heap.size ≤ g) (hm : Mt g 0 W) => meterD_any n0 g ga gc gl qa qc ql ka kc kl (by omega) (by omega) W (by omega) (Nat.le_trans hn0 h.size) hm (hin.2.1.keep (Below.keptTo h hn0) (fun x _ => QT.In.keep (Below.keptTo h hn0) x)) (hin.2.2.keep (Below.keptTo h hn0) (fun x _ => KT.In.keep (Below.keptTo h hn0) x))
  obtain ⟨b1, hb1⟩ : ∃ b, decide ((512 : Int) < (gl.length : Int)) = b := ⟨_, rfl⟩
  obtain ⟨b2, hb2⟩ : ∃ b, decide ((1024 : Int) < (ql.length : Int)) = b := ⟨_, rfl⟩
  obtain ⟨b3, hb3⟩ : ∃ b, fewF 4096 gl = b := ⟨_, rfl⟩
  obtain ⟨b4, hb4⟩ : ∃ b, okB 0 1 (nodesQ ql + nodesK kl) (max (deepQ ql) (deepK kl)) = b := ⟨_, rfl⟩
  have HQ : Hid (R = (!b1 && (!b2 && (b3 && b4)))) := Lib.hid (by
    rw [← HR.out, boundD, measN, measD]
    simp only [hb3, hb4]
    have e1 : decide (gl.length ≤ 512) = !b1 := by rw [← hb1, Bool.eq_iff_iff, decide_eq_true_eq, Bool.not_eq_true', decide_eq_false_iff_not]; omega
    have e2 : decide (ql.length ≤ 1024) = !b2 := by rw [← hb2, Bool.eq_iff_iff, decide_eq_true_eq, Bool.not_eq_true', decide_eq_false_iff_not]; omega
    rw [e1, e2])
  simp only [hb3] at cf
  simp only [hb4] at cm
  have hb1' : decide ((gl.length : Int) > 512) = b1 := hb1
  have hb2' : decide ((ql.length : Int) > 1024) = b2 := hb2
  have hb1n : decide (512 < gl.length) = b1 := by rw [← hb1, Bool.eq_iff_iff, decide_eq_true_eq, decide_eq_true_eq]; omega
  have hb2n : decide (1024 < ql.length) = b2 := by rw [← hb2, Bool.eq_iff_iff, decide_eq_true_eq, decide_eq_true_eq]; omega
  have HM := Lib.hid cm
  simp only [DT.val, DT.cells]
  obtain ⟨gx, hgx⟩ : ∃ gx, w.heap.size = gx := ⟨_, rfl⟩
  obtain ⟨wa, hwa⟩ : ∃ wa, w.alloc (.cells #[.slice ga gl.length gc, .slice qa ql.length qc, .slice ka kl.length kc] 26) = wa := ⟨_, rfl⟩
  have hba : Below w.heap.size w wa := by rw [← hwa]; exact (Below.refl _ _).alloc (Nat.le_refl _) _
  have BX : wa.heap[gx]? = some (.cells #[.slice ga gl.length gc, .slice qa ql.length qc, .slice ka kl.length kc] 26 (0, 0)) := by rw [← hwa, ← hgx]; exact World.alloc_heap_new w _
  have c0 := cf wa hba
  have c0K := Lib.hid c0
  have HW := Lib.hid (And.intro hba BX)
  have HB := Lib.hid hba
  obtain ⟨z0, z1, z2⟩ := ope3 BX
  clear cf cm c0 hba BX hin hn0 hb3 hb4 l1 l2 l3 hbk HR
  cases b1 with
  | true =>
    have HE : Hid (R = false) := Lib.hid (by rw [HQ.out]; rfl)
    go_enter Tryd.func36, Tryd.ntmps36
    go_upto_region 1 with (fail)
    (try rw [hwa])
    (try rw [hgx])
    go_wp2
    go_ret
    exact ⟨by rw [HE.out]; rfl, HB.out⟩
  | false =>
    cases b2 with
    | true =>
      have HE : Hid (R = false) := Lib.hid (by rw [HQ.out]; rfl)
      go_enter Tryd.func36, Tryd.ntmps36
      go_upto_region 1 with (fail)
      (try rw [hwa])
      (try rw [hgx])
      go_wp2
      go_ret
      exact ⟨by rw [HE.out]; rfl, HB.out⟩
    | false =>
      go_enter Tryd.func36, Tryd.ntmps36
      go_upto_region 1 with (fail)
      (try rw [hwa])
      (try rw [hgx])
      clear hwa hgx
      go_wp2_with fail
      refine c0K.out.mono ?_
      clear c0K z0 z1 z2
      rintro e W1 ⟨rfl, hb1⟩
      obtain ⟨z0, z1, z2⟩ := ope3 (block_kept HW.out.2 hb1)
      have HB1 := Lib.hid (HW.out.1.trans (hb1.mono HW.out.1.size))
      cases b3 with
      | false =>
        have HE : Hid (R = false) := Lib.hid (by rw [HQ.out]; rfl)
        clear hb1
        go_wp2
        go_ret
        exact ⟨by rw [HE.out]; rfl, HB1.out⟩
      | true =>
        have HE : Hid (R = b4) := Lib.hid (by rw [HQ.out]; rfl)
        have hb2 : Below w.heap.size w (W1.alloc (.cells #[.int .i64 0] 89 (0, 0))) := HB1.out.alloc HB1.out.size _
        have hb3 : Below w.heap.size w ((W1.alloc (.cells #[.int .i64 0] 89 (0, 0))).setCell ⟨W1.heap.size, 0, none⟩ (.int .i64 0)) := hb2.setCell (p := ⟨W1.heap.size, 0, none⟩) HB1.out.size _
        have hmt : Mt W1.heap.size 0 ((W1.alloc (.cells #[.int .i64 0] 89 (0, 0))).setCell ⟨W1.heap.size, 0, none⟩ (.int .i64 0)) := Mt.set (c := 0) (World.alloc_heap_new W1 _) 0
        obtain ⟨W2, hW2⟩ : ∃ W2, (W1.alloc (.cells #[.int .i64 0] 89 (0, 0))).setCell ⟨W1.heap.size, 0, none⟩ (.int .i64 0) = W2 := ⟨_, rfl⟩
        rw [hW2] at hb3 hmt
        have y0 : (W1.alloc (.cells #[.int .i64 0] 89 (0, 0))).cell? ⟨W1.heap.size, 0, none⟩ = some (.int .i64 0) := by
          have h9 := World.alloc_heap_new W1 (.cells #[.int .i64 0] 89 (0, 0))
          simp only [World.cell?, h9]; rfl
        obtain ⟨x0, x1, x2⟩ := ope3 (show W2.heap[gx]? = some (.cells #[.slice ga gl.length gc, .slice qa ql.length qc, .slice ka kl.length kc] 26 (0, 0)) by
          rw [← hW2, Below.heap_setCell _ ⟨W1.heap.size, 0, none⟩ _ gx (by have h1 := (Array.getElem?_eq_some_iff.1 HW.out.2).1; have h2 := hb1.size; show gx ≠ W1.heap.size; omega)]
          exact block_alloc (block_kept HW.out.2 hb1) _)
        have c1K := Lib.hid (HM.out W1.heap.size W2 hb3 HB1.out.size hmt)
        have HB3 := Lib.hid hb3
        have HB4 := Lib.hid (fun (W : World) (h : Kb1 W1.heap.size W2 W) => hb3.trans (h.below HB1.out.size (by exact hb3.size)))
        clear hb1 hb2 hb3 hmt
        go_upto_region 4 with (fail)
        (try rw [hW2])
        clear hW2 z0 z1 z2 y0
        go_wp2_with fail
        refine c1K.out.mono ?_
        clear c1K
        rintro e W3 ⟨rfl, hk4⟩
        have HB5 := Lib.hid (HB4.out W3 hk4)
        clear hk4
        go_wp2
        go_ret
        exact ⟨by rw [HE.out]; rfl, HB5.out⟩
end Go.Proofs.YtbcgeglkmpcnpaaDoor
namespace Go.Proofs.YtbcgeglkmpcnpaaDoor
open Go Go.RowKit
set_option linter.unusedVariables false
set_option linter.unusedSimpArgs false
open Go.Sort

theorem QT.bk_eq (q : QT) : q.bk = 1 + TT.bkL q.sl := by cases q; rfl
theorem KT.bk_eq (q : KT) : q.bk = 1 + q.nm.length + q.x.bk := by cases q; rfl
theorem QT.wf_iff (q : QT) : q.Wf ↔ ∀ y ∈ q.sl, y.Wf := by cases q; exact TT.wfL_iff _
theorem KT.wf_iff (q : KT) : q.Wf ↔ q.x.Wf := by cases q; exact Iff.rfl
theorem szQ_cells (gl : List GT) (q : QT) (f : Int) : (szQ gl q f).1.cells = q.cells := by
  obtain ⟨ck, sa, sc, sl⟩ := q
  simp only [szQ, QT.cells, szTL_len]
theorem szQL_cells (gl : List GT) : ∀ (l : List QT) (f : Int), (szQL gl l f).1.flatMap QT.cells = l.flatMap QT.cells
  | [], f => by rw [szQL]
  | x :: r, f => by rw [szQL, List.flatMap_cons, List.flatMap_cons, szQ_cells, szQL_cells gl r]
theorem qown_same {W W' : World} {l : List QT} {lo hi : Nat} (h : LOwn (QT.Own W) lo hi l) (hs : SameOn lo hi W W') : LOwn (QT.Own W') lo hi l := LOwn.keep (fun x _ => QT.Own.keep x) hs h
theorem kown_same {W W' : World} {l : List KT} {lo hi : Nat} (h : LOwn (KT.Own W) lo hi l) (hs : SameOn lo hi W W') : LOwn (KT.Own W') lo hi l := LOwn.keep (fun x _ => KT.Own.keep x) hs h
/-- What a design asks of the world while it is sized. -/
structure SzC (g m0 m1 hi : Nat) (d : DT) (w : World) : Prop where
  h01 : m0 ≤ m1
  h1h : m1 ≤ hi
  hg : hi ≤ g
  gs : GsIn m0 w d.gl d.ga
  rq : RowQQ w m0 m1 d.qa d.qc d.ql
  rk : RowKK w m1 hi d.ka d.kc d.kl
def SzDP (g m0 m1 hi : Nat) (d : DT) (f : Int) (w : World) : Ending → World → Prop := fun e w' => e = .returned (.tuple #[]) ∧ KeptP (Chp g m0 hi) w w' ∧ RowQQ w' m0 m1 d.qa d.qc (szQL d.gl d.ql (sigF f d.gl)).1 ∧ RowKK w' m1 hi d.ka d.kc (szKL d.kl (szQL d.gl d.ql (sigF f d.gl)).2).1 ∧ SzAt g (szKL d.kl (szQL d.gl d.ql (sigF f d.gl)).2).2 w'
set_option maxHeartbeats 8000000 in
set_option maxRecDepth 100000 in
theorem sizerD_any (d : DT) (hbk : d.bk ≤ 4500000) (hwf : d.Wf) (hwd : ∀ x ∈ d.gl, x.wd ≤ 64) (hmay : mayD d = true) (g m0 m1 hi : Nat) (f : Int) (w : World) (hS : SzC g m0 m1 hi d w) (hs : SzAt g f w) :
    Calls Tryd.prog 39 #[.pointer (some ⟨g, 0, none⟩), d.val] w (SzDP g m0 m1 hi d f w) := by
  obtain ⟨ga, gc, gl, qa, qc, ql, ka, kc, kl⟩ := d
  obtain ⟨h01, h1h, hg, hgs, hrq, hrk⟩ := hS
  unfold DT.Wf at hwf
  simp only [DT.bk] at hbk
  simp only at hwf hwd hgs hrq hrk
  obtain ⟨hwg, hwq, hwk⟩ := hwf
  rw [QT.wfL_iff] at hwq
  rw [KT.wfL_iff] at hwk
  unfold mayD at hmay
  simp only [Bool.and_eq_true, List.all_eq_true] at hmay
  have l1 := GT.bkL_len gl
  have l2 := QT.bkL_len ql
  have l3 := KT.bkL_len kl
  have hgg : g < w.heap.size := (Array.getElem?_eq_some_iff.1 hs).1
  have hst := fun (q : QT) (hq : q ∈ ql) (y : TT) (hy : y ∈ q.sl) => (st_any q.ck hwd y (by have h1 := QT.bkL_mem hq; have := TT.bkL_mem hy; rw [QT.bk_eq] at h1; omega) ((QT.wf_iff q).1 (hwq q hq) y hy)).1 (by have h9 := hmay.1 q hq; rw [mayTL_all, List.all_eq_true] at h9; exact h9 y hy)
  have hke := fun (k : KT) (hk : k ∈ kl) => And.intro (size_any hwd k.x (by have h1 := KT.bkL_mem hk; rw [KT.bk_eq] at h1; omega) ((KT.wf_iff k).1 (hwk k hk)) (hmay.2 k hk)) (ow_any hwd k.x (by have h1 := KT.bkL_mem hk; rw [KT.bk_eq] at h1; omega) (hmay.2 k hk))
  have hqs := fun (q : QT) (hq : q ∈ ql) => (show q.sl.length ≤ 12000000 by have h1 := QT.bkL_mem hq; have := TT.bkL_len q.sl; rw [QT.bk_eq] at h1; omega)
  have HST := Lib.hid (And.intro hst (And.intro hke hqs))
  have l4 : gl.length ≤ 12000000 := by omega
  have l5 : ql.length ≤ 12000000 := by omega
  have l6 : kl.length ≤ 12000000 := by omega
  clear hst hke hqs hwq hwk hmay hbk l1 l2 l3
  obtain ⟨F0, hF0⟩ : ∃ F, sigF f gl = F := ⟨_, rfl⟩
  have HF0 := Lib.hid hF0
  simp only [DT.val, DT.cells]
  obtain ⟨gx, hgx⟩ : ∃ gx, w.heap.size = gx := ⟨_, rfl⟩
  obtain ⟨wa, hwa⟩ : ∃ wa, w.alloc (.cells #[.slice ga gl.length gc, .slice qa ql.length qc, .slice ka kl.length kc] 26) = wa := ⟨_, rfl⟩
  have hba : Below w.heap.size w wa := by rw [← hwa]; exact (Below.refl _ _).alloc (Nat.le_refl _) _
  have BX : wa.heap[gx]? = some (.cells #[.slice ga gl.length gc, .slice qa ql.length qc, .slice ka kl.length kc] 26 (0, 0)) := by rw [← hwa, ← hgx]; exact World.alloc_heap_new w _
  have hsa : SzAt g f wa := block_kept hs hba
  have hhg : hi ≤ w.heap.size := by omega
  obtain ⟨z0, z1, z2⟩ := ope3 BX
  have HA := Lib.hid (And.intro (KeptP.of_below (p := Chp g m0 hi) hba) (And.intro hsa (And.intro BX (And.intro hgs (And.intro hrq (And.intro hrk (Kb1.of_below (B := g) hba)))))))
  have HN := Lib.hid (And.intro h01 (And.intro h1h (And.intro hg (And.intro hgg hhg))))
  have hgxg : g ≠ gx := by omega
  have hm0 : m0 ≤ w.heap.size := by omega
  have hmg : m0 ≤ g := by omega
  clear hsa BX hs hrq hrk hba h1h h01
  go_enter Tryd.func39, Tryd.ntmps39
  go_upto_region 1 with (fail)
  (try rw [hwa])
  (try rw [hgx])
  clear hwa
  go_wp2
  clear z0 z1 z2
  go_loopw [13] (fun u wr => ∃ (k : Nat) (F : Int), u = .int .i64 k ∧ k ≤ gl.length ∧ sigF F (gl.drop k) = F0 ∧ SzAt g F wr ∧ KeptP (Chp g m0 hi) w wr ∧ Kb1 g w wr ∧ wr.heap[gx]? = some (.cells #[.slice ga gl.length gc, .slice qa ql.length qc, .slice ka kl.length kc] 26 (0, 0))) (fun u _ => gl.length - (intOf u).toNat)
  case atStart => exact ⟨0, f, rfl, Nat.zero_le _, by rw [List.drop_zero]; exact hF0, HA.out.2.1, HA.out.1, HA.out.2.2.2.2.2.2, HA.out.2.2.1⟩
  case round =>
    obtain ⟨k, F, rfl, hk, hre, hsz, hkp, hkb, hbx⟩ := hrel
    by_cases hlt : k < gl.length
    · have d1 : decide (k < gl.length) = true := by simpa using hlt
      have d2 : decide ((k : Int) < (gl.length : Int)) = true := by rw [decide_eq_true_eq]; omega
      have x1 : (k : Int) < (gl.length : Int) := by omega
      obtain ⟨b, o, rfl, hb, hr, _⟩ := InRow.kept hgs (hkb.keptTo (n := m0) (by omega) hm0) hlt
      have hwx := hwg gl[k] (List.getElem_mem hlt)
      rw [sigF_drop gl k hlt] at hre
      generalize hgxx : gl[k] = x at *
      obtain ⟨nm, wd, kd, ini⟩ := x
      simp only at hre
      have r0 : wr.cell? ⟨b, o + k * 4, none⟩ = some (.string (bs nm)) := hr 0 _ rfl
      have r1 : wr.cell? ⟨b, o + k * 4 + 1, none⟩ = some (.int .i64 wd) := hr 1 _ rfl
      have r2 : wr.cell? ⟨b, o + k * 4 + 2, none⟩ = some (.int .i64 kd) := hr 2 _ rfl
      have r3 : wr.cell? ⟨b, o + k * 4 + 3, none⟩ = some (.int .u64 (ini : Int)) := hr 3 _ rfl
      have hb1 : Below wr.heap.size wr (wr.alloc (.cells #[.string (bs nm), .int .i64 wd, .int .i64 kd, .int .u64 (ini : Int)] 71)) := (Below.refl _ _).alloc (Nat.le_refl _) _
      have ch := holds_any wd ini hwx (wr.alloc (.cells #[.string (bs nm), .int .i64 wd, .int .i64 kd, .int .u64 (ini : Int)] 71))
      have cw := want_any g F (holdsE wd ini) 92 (wr.alloc (.cells #[.string (bs nm), .int .i64 wd, .int .i64 kd, .int .u64 (ini : Int)] 71)) (block_kept hsz hb1)
      have hk1 := hkb.alloc (.cells #[.string (bs nm), .int .i64 wd, .int .i64 kd, .int .u64 (ini : Int)] 71)
      have hbx1 := block_alloc hbx (.cells #[.string (bs nm), .int .i64 wd, .int .i64 kd, .int .u64 (ini : Int)] 71)
      have HC := Lib.hid (And.intro ch cw)
      have HK := Lib.hid (And.intro hk1 (And.intro hbx1 (And.intro hre (hkp.trans (KeptP.of_below (p := Chp g m0 hi) hb1)))))
      clear hr hgxx hsz hkb hb1 hk1 hbx1 hbx ch cw hre hwx hkp
      go_wp2_with fail
      refine HC.out.1.mono ?_
      rintro e W9 ⟨rfl, rfl⟩
      go_wp2_with fail
      refine HC.out.2.mono ?_
      clear HC
      rintro e W2 ⟨rfl, k2, s2⟩
      have HP := Lib.hid (And.intro s2 (And.intro (HK.out.2.2.2.trans (KeptP.of_kb1 k2 (Or.inl rfl))) (And.intro (HK.out.1.trans k2) (k2.kept HK.out.2.1 (Ne.symm hgxg)))))
      clear k2 s2 r0 r1 r2 r3
      go_wp2
      go_roundw
      case rel => exact ⟨k + 1, _, by simp; first | done | rfl | omega, by omega, HK.out.2.2.1, HP.out⟩
      case measure => simp [intOf]; omega
    · have d1 : decide (k < gl.length) = false := by simpa using hlt
      have d2 : decide ((k : Int) < (gl.length : Int)) = false := by rw [decide_eq_false_iff_not]; omega
      have H1 : Hid (SzAt g F0 wr ∧ KeptP (Chp g m0 hi) w wr ∧ RowQQ wr m0 m1 qa qc ql ∧ RowKK wr m1 hi ka kc kl ∧ GsIn m0 wr gl ga ∧ wr.heap[gx]? = some (.cells #[.slice ga gl.length gc, .slice qa ql.length qc, .slice ka kl.length kc] 26 (0, 0))) := Lib.hid (by
        rw [List.drop_eq_nil_of_le (by omega)] at hre
        obtain ⟨h01, h1h, hg, hgg, hhg⟩ := HN.out
        have hsm : ∀ a b, b ≤ hi → SameOn a b w wr := fun a b hb q h1 h2 => hkb.block q (by omega) (by omega)
        refine ⟨by rw [← hre]; exact hsz, hkp, HA.out.2.2.2.2.1.keep (fun x _ => QT.Own.keep x) (hsm _ _ h1h), HA.out.2.2.2.2.2.1.keep (fun x _ => KT.Own.keep x) (hsm _ _ (Nat.le_refl _)), HA.out.2.2.2.1.keep (hkb.keptTo (by omega) hm0), hbx⟩)
      obtain ⟨z0, z1, z2⟩ := ope3 hbx
      clear hre hF0 hkb hkp hsz hbx hlt hgs
      go_wp2
      clear z0 z1 z2
      go_loopw [28] (fun u wq => ∃ (j : Nat), u = .int .i64 j ∧ j ≤ ql.length ∧ KeptP (Chp g m0 hi) w wq ∧ SzAt g (szQL gl (ql.take j) F0).2 wq ∧ RowQQ wq m0 m1 qa qc ((szQL gl (ql.take j) F0).1 ++ ql.drop j) ∧ RowKK wq m1 hi ka kc kl ∧ GsIn m0 wq gl ga ∧ wq.heap[gx]? = some (.cells #[.slice ga gl.length gc, .slice qa ql.length qc, .slice ka kl.length kc] 26 (0, 0))) (fun u _ => ql.length - (intOf u).toNat)
      case atStart => exact ⟨0, rfl, Nat.zero_le _, H1.out.2.1, by rw [List.take_zero, szQL]; exact H1.out.1, by rw [List.take_zero, szQL, List.drop_zero, List.nil_append]; exact H1.out.2.2.1, H1.out.2.2.2.1, H1.out.2.2.2.2⟩
      case round =>
        obtain ⟨j, rfl, hj, hkp, hsz, hrq, hrk, hgs, hbx⟩ := hrel
        by_cases hlt2 : j < ql.length
        · have d3 : decide (j < ql.length) = true := by simpa using hlt2
          have d4 : decide ((j : Int) < (ql.length : Int)) = true := by rw [decide_eq_true_eq]; omega
          have x2 : (j : Int) < (ql.length : Int) := by omega
          rcases hrq with ⟨h, _, _⟩ | ⟨BQ, rfl, h2, h3, h4, h5, h6, h7⟩
          · exfalso
            have := congrArg List.length h
            simp [szQL_len] at this
            omega
          obtain ⟨q, hq⟩ : ∃ q, ql[j] = q := ⟨_, rfl⟩
          have hqm : q ∈ ql := by rw [← hq]; exact List.getElem_mem hlt2
          rw [← List.getElem_cons_drop hlt2, hq] at h6 h7
          have HFL := Lib.hid (And.intro h2 (And.intro h3 (And.intro h4 h6)))
          obtain ⟨p, h8, h9⟩ := h7.split
          rw [LOwn] at h9
          obtain ⟨p2, hp1, hoq, hor⟩ := h9
          have hBp := h8.le
          have hph := hor.le
          have hrc : RowC wr BQ (j * 2) q.cells := by
            have h9 := h6
            rw [List.flatMap_append, List.flatMap_cons] at h9
            exact rowT_cells h9 (j * 2) (by rw [flat_len2 QT.cells_len, szQL_len, List.length_take]; congr 1; omega)
          have HSN := Lib.hid (szQL_snoc gl ql j hlt2 F0)
          rw [hq] at HSN
          obtain ⟨F, hF⟩ : ∃ F, (szQL gl (ql.take j) F0).2 = F := ⟨_, rfl⟩
          rw [hF] at hsz
          have HF := Lib.hid hF
          have hst := HST.out.1 q hqm
          have hql := HST.out.2.2 q hqm
          obtain ⟨ck', sa, sc, sl⟩ := q
          simp only at hst hql
          have hot : RowTT wr p p2 sa sc sl := hoq
          have r0 : wr.cell? ⟨BQ, j * 2, none⟩ = some (.bool ck') := hrc 0 _ rfl
          have r1 : wr.cell? ⟨BQ, j * 2 + 1, none⟩ = some (.slice sa sl.length sc) := hrc 1 _ rfl
          obtain ⟨wb, hwb⟩ : ∃ wb, wr.alloc (.cells #[.bool ck', .slice sa sl.length sc] 46) = wb := ⟨_, rfl⟩
          have hbb : Below wr.heap.size wr wb := by rw [← hwb]; exact (Below.refl _ _).alloc (Nat.le_refl _) _
          have BN : wb.heap[wr.heap.size]? = some (.cells #[.bool ck', .slice sa sl.length sc] 46 (0, 0)) := by rw [← hwb]; exact World.alloc_heap_new wr _
          have hbx1 := block_kept hbx hbb
          obtain ⟨v0, v1⟩ := ope2 BN
          obtain ⟨z0, z1, z2⟩ := ope3 hbx1
          have hgr : gx < wr.heap.size := (Array.getElem?_eq_some_iff.1 hbx).1
          have hhr : hi ≤ wr.heap.size := by have := HN.out.2.2.2.2; have := hkp.size; omega
          obtain ⟨w5, hw5⟩ : ∃ w5, wb.alloc (.cells #[.pointer (some ⟨g, 0, none⟩), .slice ga gl.length gc, .bool ck'] 114) = w5 := ⟨_, rfl⟩
          have hb5 : Below wb.heap.size wb w5 := by rw [← hw5]; exact (Below.refl _ _).alloc (Nat.le_refl _) _
          have hbw : Below wr.heap.size wr w5 := hbb.trans (hb5.mono hbb.size)
          have BM : w5.heap[wb.heap.size]? = some (.cells #[.pointer (some ⟨g, 0, none⟩), .slice ga gl.length gc, .bool ck'] 114 (0, 0)) := by rw [← hw5]; exact World.alloc_heap_new wb _
          obtain ⟨y0, y1, y2⟩ := ope3 BM
          obtain ⟨t0, t1⟩ := ope2 (block_kept BN hb5)
          have hC : StC m0 g p p2 gl ga F wr := by
            obtain ⟨h01, h1h, hg, hgg, hhg⟩ := HN.out
            exact ⟨by omega, by omega, hp1, by omega, by omega, hgs, hsz⟩
          have c0 := statements_any ck' gl sl hql hst ga gc m0 g p p2 sa sc F w5 (hC.below hbw) (ROwn.keep (fun x _ => TT.Own.keep x) (fun i h1 h2 => hbw.block i (by have := HN.out.2.1; omega)) hot)
          have c0K := Lib.hid c0
          have HQ := Lib.hid (And.intro hkp (And.intro h8 (And.intro hor (And.intro hrk (And.intro hgs (And.intro hbw (And.intro hC hbx)))))))
          clear hkp h2 h3 h4 h5 h6 h7 h8 hoq hor hrc hF hst hql hot hbb BN hbx1 hb5 hbw BM hC c0 hrk hgs hsz hbx hqm hq
          go_upto_region 9 with (fail)
          (try rw [hwb])
          clear r0 r1
          go_upto_region 10 with (fail)
          (try rw [hw5])
          clear z0 z1 z2 v0 v1
          go_wp2_with fail
          refine c0K.out.mono ?_
          clear c0K y0 y1 y2 t0 t1
          rintro e W4 ⟨rfl, k4, r4, s4⟩
          have HP : Hid (KeptP (Chp g m0 hi) w W4 ∧ SzAt g (szQL gl (ql.take (j + 1)) F0).2 W4 ∧ RowQQ W4 m0 m1 (some ⟨BQ, 0, none⟩) qc ((szQL gl (ql.take (j + 1)) F0).1 ++ ql.drop (j + 1)) ∧ RowKK W4 m1 hi ka kc kl ∧ GsIn m0 W4 gl ga ∧ W4.heap[gx]? = some (.cells #[.slice ga gl.length gc, .slice (some ⟨BQ, 0, none⟩) ql.length qc, .slice ka kl.length kc] 26 (0, 0))) := Lib.hid (by
            obtain ⟨hkp, h8, hor, hrk, hgs, hbw, hC, hbx⟩ := HQ.out
            obtain ⟨h2, h3, h4, h6⟩ := HFL.out
            obtain ⟨h01, h1h, hg, hgg, hhg⟩ := HN.out
            have hz := hbw.size
            have hsm : ∀ a b, b ≤ wr.heap.size → ¬ (a ≤ g ∧ g < b) → (b ≤ p ∨ p2 ≤ a) → SameOn a b wr W4 := fun a b h1 h6 h7 i h8 h9 => by
              rw [k4.on (a1 := a) (b1 := b) (by omega) h6 h7 i h8 h9, hbw.block i (by omega)]
            have hcl : RowT 46 W4 BQ (((szQL gl (ql.take (j + 1)) F0).1 ++ ql.drop (j + 1)).flatMap QT.cells) := by
              have h10 := h6.keep (hsm BQ (BQ + 1) (by omega) (by omega) (Or.inl (by omega)) BQ (Nat.le_refl _) (by omega))
              rw [HSN.out]
              simp only [List.flatMap_append, List.flatMap_cons, List.flatMap_nil, List.append_nil, szQ_cells, List.append_assoc] at h10 ⊢
              exact h10
            refine ⟨(hkp.trans (KeptP.of_below hbw)).trans (k4.chp (by omega) (by omega)), ?_, Or.inr ⟨BQ, rfl, h2, h3, ?_, ?_, hcl, ?_⟩, ?_, ?_, ?_⟩
            · rw [HSN.out]; simp only [HF.out, szQ]; exact s4
            · rw [h4]; simp [szQL_len]; omega
            · intro h10
              have := congrArg List.length h10
              rw [List.length_append, szQL_len, List.length_take, List.length_drop, List.length_nil] at this
              omega
            · rw [HSN.out, List.append_assoc]
              refine LOwn.join (own := QT.Own W4) (fun x _ lo lo' hi h1 h2 => QT.Own.wider h1 h2 (Nat.le_refl _)) (qown_same h8 (hsm _ _ (by omega) (by omega) (Or.inl (Nat.le_refl _)))) ?_
              rw [List.cons_append, List.nil_append, LOwn]
              refine ⟨p2, hp1, ?_, qown_same hor (hsm _ _ (by omega) (by omega) (Or.inr (Nat.le_refl _)))⟩
              show RowTT W4 p p2 _ _ _
              simp only [szQ, HF.out]
              exact r4
            · exact hrk.keep (fun x _ => KT.Own.keep x) (hsm _ _ (by omega) (by omega) (Or.inr (by omega)))
            · exact hgs.keep (Below.keptTo (((KeptP.of_below (p := Chp g m0 hi) hbw).trans (k4.chp (by omega) (by omega))).toBelow (n := m0) (by omega) (fun i hi => by unfold Chp; omega)) (Nat.le_refl _))
            · exact k4.at (block_kept hbx hbw) (by omega) (by omega))
          clear k4 r4 s4 HQ HSN HF HFL
          go_wp2
          go_roundw
          case rel => exact ⟨j + 1, by simp; first | done | rfl | omega, by omega, HP.out⟩
          case measure => simp [intOf]; omega
        · have d3 : decide (j < ql.length) = false := by simpa using hlt2
          have d4 : decide ((j : Int) < (ql.length : Int)) = false := by rw [decide_eq_false_iff_not]; omega
          obtain ⟨QS, hQS⟩ : ∃ Q, szQL gl ql F0 = Q := ⟨_, rfl⟩
          have HQS := Lib.hid hQS
          have H2 : Hid (KeptP (Chp g m0 hi) w wr ∧ SzAt g QS.2 wr ∧ RowQQ wr m0 m1 qa qc QS.1 ∧ RowKK wr m1 hi ka kc kl ∧ wr.heap[gx]? = some (.cells #[.slice ga gl.length gc, .slice qa ql.length qc, .slice ka kl.length kc] 26 (0, 0))) := Lib.hid (by
            rw [List.take_of_length_le (by omega), hQS] at hsz hrq
            rw [List.drop_eq_nil_of_le (by omega), List.append_nil] at hrq
            exact ⟨hkp, hsz, hrq, hrk, hbx⟩)
          obtain ⟨z0, z1, z2⟩ := ope3 hbx
          clear hkp hsz hrq hrk hgs hbx hlt2 hQS
          go_wp2
          clear z0 z1 z2
          go_loopw [46] (fun u wk => ∃ (i : Nat), u = .int .i64 i ∧ i ≤ kl.length ∧ KeptP (Chp g m0 hi) w wk ∧ SzAt g (szKL (kl.take i) QS.2).2 wk ∧ RowQQ wk m0 m1 qa qc QS.1 ∧ RowKK wk m1 hi ka kc ((szKL (kl.take i) QS.2).1 ++ kl.drop i) ∧ wk.heap[gx]? = some (.cells #[.slice ga gl.length gc, .slice qa ql.length qc, .slice ka kl.length kc] 26 (0, 0))) (fun u _ => kl.length - (intOf u).toNat)
          case atStart => exact ⟨0, rfl, Nat.zero_le _, H2.out.1, by rw [List.take_zero, szKL]; exact H2.out.2.1, H2.out.2.2.1, by rw [List.take_zero, szKL, List.drop_zero, List.nil_append]; exact H2.out.2.2.2.1, H2.out.2.2.2.2⟩
          case round =>
            obtain ⟨i, rfl, hi9, hkp, hsz, hrq, hrk, hbx⟩ := hrel
            by_cases hlt3 : i < kl.length
            · have d5 : decide (i < kl.length) = true := by simpa using hlt3
              have d6 : decide ((i : Int) < (kl.length : Int)) = true := by rw [decide_eq_true_eq]; omega
              have x3 : (i : Int) < (kl.length : Int) := by omega
              rcases hrk with ⟨h, _, _⟩ | ⟨BK, rfl, h2, h3, h4, h5, h6, h7⟩
              · exfalso
                have := congrArg List.length h
                simp [szKL_len] at this
                omega
              obtain ⟨q, hq⟩ : ∃ q, kl[i] = q := ⟨_, rfl⟩
              have hqm : q ∈ kl := by rw [← hq]; exact List.getElem_mem hlt3
              rw [← List.getElem_cons_drop hlt3, hq] at h6 h7
              have HFL := Lib.hid (And.intro h2 (And.intro h3 h4))
              obtain ⟨p, h8, h9⟩ := h7.split
              rw [LOwn] at h9
              obtain ⟨p2, hp1, hoq, hor⟩ := h9
              have hBp := h8.le
              have hph := hor.le
              have HSN := Lib.hid (szKL_snoc kl i hlt3 QS.2)
              rw [hq] at HSN
              obtain ⟨F, hF⟩ : ∃ F, (szKL (kl.take i) QS.2).2 = F := ⟨_, rfl⟩
              rw [hF] at hsz
              have HF := Lib.hid hF
              have hke := HST.out.2.1 q hqm
              obtain ⟨bn, X⟩ := q
              simp only at hke
              have hhr : hi ≤ wr.heap.size := by have := HN.out.2.2.2.2; have := hkp.size; omega
              have hgr : gx < wr.heap.size := (Array.getElem?_eq_some_iff.1 hbx).1
              have hrow : RowT 74 wr BK (((szKL (kl.take i) QS.2).1.flatMap KT.cells ++ [.string (bs bn)]) ++ (X.cells ++ (kl.drop (i + 1)).flatMap KT.cells)) := by
                have h10 := h6
                rw [List.flatMap_append, List.flatMap_cons] at h10
                simpa [KT.cells] using h10
              have c0 := bit_of (tb := 74) X hke.1 hke.2 g BK (i * 9 + 1) p p2 _ _ F wr (by rw [List.length_append, flat_len9 KT.cells_len, szKL_len, List.length_take]; simp; omega) (by omega) hp1 (by omega) (by have := HN.out; omega) (by have := HN.out; omega) hrow hoq hsz
              have c0K := Lib.hid c0
              have HQ := Lib.hid (And.intro hkp (And.intro h8 (And.intro hor (And.intro hrq hbx))))
              obtain ⟨z0, z1, z2⟩ := ope3 hbx
              clear hkp h2 h3 h4 h5 h6 h7 h8 hoq hor hF hke c0 hrq hsz hbx hqm hq hrow
              go_wp2_with fail
              refine c0K.out.mono ?_
              clear c0K z0 z1 z2
              rintro e W4 ⟨rfl, k4, r4, o4, s4⟩
              have HP : Hid (KeptP (Chp g m0 hi) w W4 ∧ SzAt g (szKL (kl.take (i + 1)) QS.2).2 W4 ∧ RowQQ W4 m0 m1 qa qc QS.1 ∧ RowKK W4 m1 hi (some ⟨BK, 0, none⟩) kc ((szKL (kl.take (i + 1)) QS.2).1 ++ kl.drop (i + 1)) ∧ W4.heap[gx]? = some (.cells #[.slice ga gl.length gc, .slice qa ql.length qc, .slice (some ⟨BK, 0, none⟩) kl.length kc] 26 (0, 0))) := Lib.hid (by
                obtain ⟨hkp, h8, hor, hrq, hbx⟩ := HQ.out
                obtain ⟨h2, h3, h4⟩ := HFL.out
                obtain ⟨h01, h1h, hg, hgg, hhg⟩ := HN.out
                have hsm : ∀ a b, b ≤ wr.heap.size → ¬ (a ≤ g ∧ g < b) → ¬ (a ≤ BK ∧ BK < b) → (b ≤ p ∨ p2 ≤ a) → SameOn a b wr W4 := fun a b h1 h6 h7 h10 i h8 h9 => k4.block i (by omega) (by unfold Chg; omega)
                refine ⟨hkp.trans (k4.mono (fun k h => by unfold Chg at h; unfold Chp; omega)), ?_, hrq.keep (fun x _ => QT.Own.keep x) (hsm _ _ (by omega) (by omega) (by omega) (Or.inl (by omega))), Or.inr ⟨BK, rfl, h2, h3, ?_, ?_, ?_, ?_⟩, ?_⟩
                · rw [HSN.out]; simp only [HF.out, szK]; exact s4
                · rw [h4]; simp [szKL_len]; omega
                · intro h10
                  have := congrArg List.length h10
                  rw [List.length_append, szKL_len, List.length_take, List.length_drop, List.length_nil] at this
                  omega
                · rw [HSN.out]
                  simp only [List.flatMap_append, List.flatMap_cons, List.flatMap_nil, List.append_nil, HF.out, szK, KT.cells, List.append_assoc, List.cons_append, List.nil_append]
                  simpa using r4
                · rw [HSN.out, List.append_assoc]
                  refine LOwn.join (own := KT.Own W4) (fun x _ lo lo' hi h1 h2 => KT.Own.wider h1 h2 (Nat.le_refl _)) (kown_same h8 (hsm _ _ (by omega) (by omega) (by omega) (Or.inl (Nat.le_refl _)))) ?_
                  rw [List.cons_append, List.nil_append, LOwn]
                  refine ⟨p2, hp1, ?_, kown_same hor (hsm _ _ (by omega) (by omega) (by omega) (Or.inr (Nat.le_refl _)))⟩
                  show ET.Own W4 p p2 _
                  simp only [szK, HF.out]
                  exact o4
                · exact (k4.block gx hgr (by unfold Chg; omega)).trans hbx)
              clear k4 r4 o4 s4 HQ HSN HF HFL
              go_wp2
              go_roundw
              case rel => exact ⟨i + 1, by simp; first | done | rfl | omega, by omega, HP.out⟩
              case measure => simp [intOf]; omega
            · have d5 : decide (i < kl.length) = false := by simpa using hlt3
              have d6 : decide ((i : Int) < (kl.length : Int)) = false := by rw [decide_eq_false_iff_not]; omega
              have HP : Hid (SzDP g m0 m1 hi ⟨ga, gc, gl, qa, qc, ql, ka, kc, kl⟩ f w (.returned (.tuple #[])) wr) := Lib.hid (by
                rw [List.take_of_length_le (by omega)] at hsz hrk
                rw [List.drop_eq_nil_of_le (by omega), List.append_nil] at hrk
                unfold SzDP
                simp only [HF0.out, HQS.out]
                exact ⟨by first | trivial | rfl, hkp, hrq, hrk, hsz⟩)
              clear hkp hsz hrq hrk hbx hlt3
              go_wp2
              exact bodyPost_end (v := .tuple #[]) (by simp [results, Tryd.results39, go_sem]) rfl HP.out
end Go.Proofs.YtbcgeglkmpcnpaaDoor
