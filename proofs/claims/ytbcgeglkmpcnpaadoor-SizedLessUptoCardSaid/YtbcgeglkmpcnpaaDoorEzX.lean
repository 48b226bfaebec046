/-
  sized: two rows of signals; two designs.
-/
import Derived.Test.YtbcgeglkmpcnpaaDoorEzS
import Derived.Test.YtbcgeglkmpcnpaaDoorEzD
import Derived.Deep.QuietTactic
import Derived.Laws.StructEq
import Derived.Deep.LoopGhost
import Derived.BigQuiet
namespace Go.Proofs.YtbcgeglkmpcnpaaDoor
open Go Go.RowKit
set_option linter.unusedVariables false
set_option linter.unusedSimpArgs false
open Go.Sort

theorem GT.bkL_len : ∀ l : List GT, l.length ≤ GT.bkL l
  | [] => Nat.le_refl _
  | x :: r => by have := GT.bkL_len r; simp [GT.bkL, GT.bk]; omega
theorem GT.bkL_mem {x : GT} : ∀ {l : List GT}, x ∈ l → x.bk ≤ GT.bkL l
  | y :: r, h => by
    rcases List.mem_cons.1 h with e | e
    · subst e; simp [GT.bkL]
    · have := GT.bkL_mem e; simp [GT.bkL]; omega
theorem drawnB {w W : World} {n : Nat} (h : Below n w W) (k : Nat) : Below n w (W.drewN k) := ⟨h.os, h.tape, h.output, h.size, h.block⟩
def sameG (g h : GT) : Bool := (g.nm == h.nm) && ((g.wd == h.wd) && ((g.kd == h.kd) && ((g.ini : Int) == (h.ini : Int))))
theorem sameG_iff (g h : GT) : sameG g h = true ↔ g = h := by
  obtain ⟨a, b, c, d⟩ := g
  obtain ⟨a2, b2, c2, d2⟩ := h
  simp [sameG, GT.mk.injEq, Int.ofNat_inj]
theorem sig_held : Tryd.prog.stoodInHeld 71 = false := by kernel_rfl
theorem sig_guard : Tryd.prog.eqGuardType Tryd.prog.depth 71 = false := by kernel_rfl
section
attribute [local go_sem] sig_held sig_guard
theorem sig_neq (a a2 : Bytes) (b b2 c c2 : Int) (d d2 : Nat) (w : World) : (binOp .neq 71 (.agg #[.string (bs a), .int .i64 b, .int .i64 c, .int .u64 (d : Int)]) (.agg #[.string (bs a2), .int .i64 b2, .int .i64 c2, .int .u64 (d2 : Int)])).run Tryd.prog w = .ok (.bool (!(sameG ⟨a, b, c, d⟩ ⟨a2, b2, c2, d2⟩))) w := by
  by_cases a0 : a = a2
  · by_cases a1 : b = b2
    · by_cases a3 : c = c2
      · by_cases a4 : d = d2
        · subst a0; subst a1; subst a3; subst a4
          simp [go_sem, sameG]
        · have b4 : ((d : Int) == d2) = false := by simp; omega
          have b5 : ¬ (d : Int) = d2 := by omega
          subst a0; subst a1; subst a3
          simp [go_sem, sameG, a4, b4]
      · subst a0; subst a1
        simp [go_sem, sameG, a3]
    · subst a0
      simp [go_sem, sameG, a1]
  · simp [go_sem, sameG, a0]
end
attribute [-go_sem] run_neq_struct run_eql_struct
set_option maxHeartbeats 8000000 in
set_option maxRecDepth 100000 in
theorem eqG_any (n0 : Nat) (l m : List GT) (hll : l.length ≤ 12000000) (hmm : m.length ≤ 12000000) (a : Option Addr) (c : Nat) (a2 : Option Addr) (c2 : Nat) (w : World) (hn0 : n0 ≤ w.heap.size) (hi1 : GsIn n0 w l a) (hi2 : GsIn n0 w m a2) :
    Calls Tryd.prog 42 #[.slice a l.length c, .slice a2 m.length c2] w fun e w' => e = .returned (.bool (eqList sameG l m)) ∧ Below w.heap.size w w' := by
  by_cases hlen : l.length = m.length
  · have e1 : ((l.length : Int) != (m.length : Int)) = false := by rw [hlen]; simp
    have e2 : ((l.length : Int) == (m.length : Int)) = true := by rw [hlen]; simp
    have e3 : (l.length == m.length) = true := by rw [hlen]; simp
    have HLEN := Lib.hid hlen
    obtain ⟨R, hR⟩ : ∃ R, eqList sameG l m = R := ⟨_, rfl⟩
    have HR := Lib.hid hR
    rw [hR]
    clear hR hlen
    go_enter Tryd.func42, Tryd.ntmps42
    go_wp2
    go_loopg [13] l.length (fun g u wr => ∃ (k : Nat), u = .int .i64 k ∧ k + g = l.length ∧ eqList sameG (l.drop k) (m.drop k) = R ∧ Below w.heap.size w wr)
    case atStart => exact ⟨0, rfl, by omega, by rw [List.drop_zero, List.drop_zero]; exact HR.out, Below.refl _ _⟩
    case round =>
     obtain ⟨k, rfl, hk, hkk, hb0⟩ := hrel
     have HK := Lib.hid hkk
     clear hkk
     by_cases hlt : k < l.length
     · have hlt2 : k < m.length := by have := HLEN.out; omega
       have d1 : decide (k < l.length) = true := by simpa using hlt
       have d2 : decide ((k : Int) < (l.length : Int)) = true := by rw [decide_eq_true_eq]; omega
       have d3 : decide (k < m.length) = true := by simpa using hlt2
       have d4 : decide ((k : Int) < (m.length : Int)) = true := by rw [decide_eq_true_eq]; omega
       have x1 : (k : Int) < (l.length : Int) := by omega
       have x2 : (k : Int) < (m.length : Int) := by omega
       obtain ⟨b, q, rfl, hb, hr, _⟩ := InRow.kept hi1 (Below.keptTo hb0 hn0) hlt
       obtain ⟨b', q', rfl, hb', hs, _⟩ := InRow.kept hi2 (Below.keptTo hb0 hn0) hlt2
       have HD := Lib.hid (eqList_drop sameG l m k hlt hlt2)
       generalize hgx : l[k] = x at *
       generalize hgy : m[k] = y at *
       obtain ⟨nm, wd, kd, ini⟩ := x
       obtain ⟨nm2, wd2, kd2, ini2⟩ := y
       obtain ⟨bp, hbp⟩ : ∃ bp, sameG ⟨nm, wd, kd, ini⟩ ⟨nm2, wd2, kd2, ini2⟩ = bp := ⟨_, rfl⟩
       have hcmp := fun w => sig_neq nm nm2 wd wd2 kd kd2 ini ini2 w
       simp only [hbp] at hcmp
       rw [hbp] at HD
       have r0 : wr.cell? ⟨b, q + k * 4, none⟩ = some (.string (bs nm)) := hr 0 _ rfl
       have r1 : wr.cell? ⟨b, q + k * 4 + 1, none⟩ = some (.int .i64 wd) := hr 1 _ rfl
       have r2 : wr.cell? ⟨b, q + k * 4 + 2, none⟩ = some (.int .i64 kd) := hr 2 _ rfl
       have r3 : wr.cell? ⟨b, q + k * 4 + 3, none⟩ = some (.int .u64 (ini : Int)) := hr 3 _ rfl
       have s0 : wr.cell? ⟨b', q' + k * 4, none⟩ = some (.string (bs nm2)) := hs 0 _ rfl
       have s1 : wr.cell? ⟨b', q' + k * 4 + 1, none⟩ = some (.int .i64 wd2) := hs 1 _ rfl
       have s2 : wr.cell? ⟨b', q' + k * 4 + 2, none⟩ = some (.int .i64 kd2) := hs 2 _ rfl
       have s3 : wr.cell? ⟨b', q' + k * 4 + 3, none⟩ = some (.int .u64 (ini2 : Int)) := hs 3 _ rfl
       have HH := Lib.hid (And.intro hk (And.intro hgx hgy))
       have hkg : k < l.length := hlt
       have HB := Lib.hid hb0
       clear hi1 hi2 hr hs hgx hgy hbp hb0
       cases gk with
       | zero => omega
       | succ gg =>
         cases bp
         all_goals
           simp only [Bool.not_true, Bool.not_false] at hcmp
           go_wp2
           go_quiet (fail)
           go_wp2
           first
           | (go_ret
              exact ⟨by rw [← HK.out, HD.out]; rfl, drawnB HB.out _⟩)
           | (go_roundg gg
              case rel => exact ⟨k + 1, by simp; first | done | rfl | omega, by omega, by rw [← HK.out, HD.out]; rfl, drawnB HB.out _⟩
              case measure => omega)
     · have d1 : decide (k < l.length) = false := by simpa using hlt
       have d2 : decide ((k : Int) < (l.length : Int)) = false := by rw [decide_eq_false_iff_not]; omega
       have HE : Hid (R = true) := Lib.hid (by have := HK.out; have := HLEN.out; rw [List.drop_eq_nil_of_le (by omega), List.drop_eq_nil_of_le (by omega)] at *; rw [← HK.out]; rfl)
       go_wp2
       go_ret
       exact ⟨by rw [HE.out]; rfl, hb0⟩
  · have e1 : ((l.length : Int) != (m.length : Int)) = true := by rw [bne_iff_ne]; omega
    have e2 : (l.length != m.length) = true := by rw [bne_iff_ne]; exact hlen
    have e3 : (l.length == m.length) = false := by rw [beq_eq_false_iff_ne]; exact hlen
    have HE := Lib.hid (eqList_len sameG l m hlen)
    clear hlen
    go_enter Tryd.func42, Tryd.ntmps42
    go_wp2
    go_ret
    exact ⟨by rw [HE.out]; rfl, Below.refl _ _⟩
theorem opq3 {w : World} {g : Nat} {v0 v1 v2 : Value} {t : TypeId} (h : w.heap[g]? = some (.cells #[v0, v1, v2] t (0, 0))) : w.cell? ⟨g, 0, none⟩ = some v0 ∧ w.cell? ⟨g, 1, none⟩ = some v1 ∧ w.cell? ⟨g, 2, none⟩ = some v2 := by
  simp [World.cell?, h]
def sameD (d f : DT) : Bool := eqList sameG d.gl f.gl && (eqList sameQ d.ql f.ql && eqList sameK d.kl f.kl)
set_option maxHeartbeats 8000000 in
set_option maxRecDepth 100000 in
theorem same_any (d f : DT) (hd : d.bk ≤ 4500000) (hf : f.bk ≤ 4500000) (n0 : Nat) (w : World) (hn0 : n0 ≤ w.heap.size) (hi1 : d.In n0 w) (hi2 : f.In n0 w) :
    Calls Tryd.prog 22 #[d.val, f.val] w fun e w' => e = .returned (.bool (sameD d f)) ∧ Below w.heap.size w w' := by
  obtain ⟨ga, gc, gl, qa, qc, ql, ka, kc, kl⟩ := d
  obtain ⟨ga2, gc2, gl2, qa2, qc2, ql2, ka2, kc2, kl2⟩ := f
  simp only [DT.bk] at hd hf
  have g1 := GT.bkL_len gl
  have g2 := GT.bkL_len gl2
  have g3 := QT.bkL_len ql
  have g4 := QT.bkL_len ql2
  have g5 := KT.bkL_len kl
  have g6 := KT.bkL_len kl2
  have cG := fun (W : World) (h : Below w.heap.size w W) => eqG_any n0 gl gl2 (by omega) (by omega) ga gc ga2 gc2 W (Nat.le_trans hn0 h.size) (GsIn.keep (Below.keptTo h hn0) hi1.1) (GsIn.keep (Below.keptTo h hn0) hi2.1)
  have cQ := fun (W : World) (h : Below w.heap.size w W) => eqQ_any sameQ n0 ql ql2 (by omega) (by omega) (fun x hx y hy W2 h2 k1 k2 => sameQ_any x (by have := QT.bkL_mem hx; omega) y (by have := QT.bkL_mem hy; omega) n0 W2 h2 k1 k2) qa qc qa2 qc2 W (Nat.le_trans hn0 h.size) (InRow.keep (Below.keptTo h hn0) (fun x _ => QT.In.keep (Below.keptTo h hn0) x) hi1.2.1) (InRow.keep (Below.keptTo h hn0) (fun x _ => QT.In.keep (Below.keptTo h hn0) x) hi2.2.1)
  have cK := fun (W : World) (h : Below w.heap.size w W) => eqK_any sameK n0 kl kl2 (by omega) (by omega) (fun x hx y hy W2 h2 k1 k2 => sameK_any x (by have := KT.bkL_mem hx; omega) y (by have := KT.bkL_mem hy; omega) n0 W2 h2 k1 k2) ka kc ka2 kc2 W (Nat.le_trans hn0 h.size) (InRow.keep (Below.keptTo h hn0) (fun x _ => KT.In.keep (Below.keptTo h hn0) x) hi1.2.2) (InRow.keep (Below.keptTo h hn0) (fun x _ => KT.In.keep (Below.keptTo h hn0) x) hi2.2.2)
  obtain ⟨R, hR⟩ : ∃ R, sameD ⟨ga, gc, gl, qa, qc, ql, ka, kc, kl⟩ ⟨ga2, gc2, gl2, qa2, qc2, ql2, ka2, kc2, kl2⟩ = R := ⟨_, rfl⟩
  have HR : Hid (R = (eqList sameG gl gl2 && (eqList sameQ ql ql2 && eqList sameK kl kl2))) := Lib.hid hR.symm
  rw [hR]
  generalize eqList sameG gl gl2 = b1 at *
  generalize eqList sameQ ql ql2 = b2 at *
  generalize eqList sameK kl kl2 = b3 at *
  have HQ := Lib.hid cQ
  have HK := Lib.hid cK
  clear hR hd hf g1 g2 g3 g4 g5 g6 hi1 hi2 hn0 cQ cK
  simp only [DT.val, DT.cells]
  obtain ⟨gx, hgx⟩ : ∃ gx, w.heap.size = gx := ⟨_, rfl⟩
  obtain ⟨wa, hwa⟩ : ∃ wa, w.alloc (.cells #[.slice ga gl.length gc, .slice qa ql.length qc, .slice ka kl.length kc] 26) = wa := ⟨_, rfl⟩
  have hba : Below w.heap.size w wa := by rw [← hwa]; exact (Below.refl _ _).alloc (Nat.le_refl _) _
  have hsa : wa.heap.size = gx + 1 := by rw [← hwa, World.size_alloc, hgx]
  have BD : wa.heap[gx]? = some (.cells #[.slice ga gl.length gc, .slice qa ql.length qc, .slice ka kl.length kc] 26 (0, 0)) := by rw [← hwa, ← hgx]; exact World.alloc_heap_new w _
  obtain ⟨w1, hw1⟩ : ∃ w1, wa.alloc (.cells #[.slice ga2 gl2.length gc2, .slice qa2 ql2.length qc2, .slice ka2 kl2.length kc2] 26) = w1 := ⟨_, rfl⟩
  have hbb : Below wa.heap.size wa w1 := by rw [← hw1]; exact (Below.refl _ _).alloc (Nat.le_refl _) _
  have BF : w1.heap[gx + 1]? = some (.cells #[.slice ga2 gl2.length gc2, .slice qa2 ql2.length qc2, .slice ka2 kl2.length kc2] 26 (0, 0)) := by rw [← hw1, ← hsa]; exact World.alloc_heap_new wa _
  have BD1 := block_kept BD hbb
  have hW : Below w.heap.size w w1 := hba.trans (hbb.mono hba.size)
  have c0 := cG w1 hW
  obtain ⟨d0, d1, d2⟩ := opq3 BD1
  obtain ⟨f0, f1, f2⟩ := opq3 BF
  have HW := Lib.hid (And.intro hW (And.intro BD1 BF))
  clear cG hba BD hbb BF BD1 hW
  go_enter Tryd.func22, Tryd.ntmps22
  go_upto_region 1 with (fail)
  (try rw [hwa])
  (try rw [hgx])
  (try rw [hw1])
  (try rw [hsa])
  clear hwa hw1 hsa hgx
  go_wp2_with fail
  refine c0.mono ?_
  clear c0 d0 d1 d2 f0 f1 f2
  rintro e V1 ⟨rfl, hb1⟩
  have hW1 := HW.out.1.trans (hb1.mono HW.out.1.size)
  have HW1 := Lib.hid (And.intro hW1 (And.intro (block_kept HW.out.2.1 hb1) (block_kept HW.out.2.2 hb1)))
  obtain ⟨d0, d1, d2⟩ := opq3 HW1.out.2.1
  obtain ⟨f0, f1, f2⟩ := opq3 HW1.out.2.2
  clear hb1 hW1
  cases b1 with
  | false =>
    go_wp2
    go_ret
    exact ⟨by rw [HR.out]; rfl, HW1.out.1⟩
  | true =>
    have c1 := HQ.out V1 HW1.out.1
    go_wp2_with fail
    refine c1.mono ?_
    clear c1 d0 d1 d2 f0 f1 f2
    rintro e V2 ⟨rfl, hb2⟩
    have hW2 := HW1.out.1.trans (hb2.mono HW1.out.1.size)
    have HW2 := Lib.hid (And.intro hW2 (And.intro (block_kept HW1.out.2.1 hb2) (block_kept HW1.out.2.2 hb2)))
    obtain ⟨d0, d1, d2⟩ := opq3 HW2.out.2.1
    obtain ⟨f0, f1, f2⟩ := opq3 HW2.out.2.2
    clear hb2 hW2
    cases b2 with
    | false =>
      go_wp2
      go_ret
      exact ⟨by rw [HR.out]; rfl, HW2.out.1⟩
    | true =>
      have c2 := HK.out V2 HW2.out.1
      go_wp2_with fail
      refine c2.mono ?_
      clear c2 d0 d1 d2 f0 f1 f2
      rintro e V3 ⟨rfl, hb3⟩
      have hW3 := HW2.out.1.trans (hb3.mono HW2.out.1.size)
      go_wp2
      go_ret
      exact ⟨by rw [HR.out]; first | rfl | simp, hW3⟩
end Go.Proofs.YtbcgeglkmpcnpaaDoor
