/-
  slices.Clone, slices.Grow, slices.Concat of events.
-/
import Derived.Test.YtchboknncfmcpaaQaC
import Derived.Lib.AppendZeros
namespace Go.Proofs.Ytchboknncfmcpaa
open Go Go.RowKit
set_option linter.unusedVariables false
set_option linter.unusedSimpArgs false
open Go.Sort
/-- A call that hands back a row of events, in memory of its own. -/
def RowPost (l : List EV) (w : World) (e : Ending) (w' : World) : Prop := ∃ a c, e = .returned (.slice a l.length c) ∧ EvIn w'.heap.size w' l a ∧ (a = none → c = 0) ∧ l.length ≤ c ∧ (∀ p, a = some p → w.heap.size ≤ p.block) ∧ Below w.heap.size w w'
set_option maxHeartbeats 8000000 in
set_option maxRecDepth 100000 in
theorem clone_any (l : List EV) (m : Nat) (hm : l.length = m) (hll : m ≤ 1400000) (a : Option Addr) (c : Nat) (n0 : Nat) (w : World) (hn0 : n0 ≤ w.heap.size) (hin : EvIn n0 w l a) : Calls Try.prog 35 #[.slice a m c] w (RowPost l w) := by
  subst hm
  have qT : ∀ (w : World) (r : Option Addr) (n c : Nat), (binOp .eql 22 (.slice r n c) (.slice none 0 0)).run Try.prog w = .ok (.bool r.isNone) w := fun w r n c => Lib.run_eql_slice_nil w _ _ r n c 0 0 Try.underlying22
  cases a with
  | none =>
    obtain rfl := hin.isNil
    simp only [List.length_nil]
    go_enter Try.func35, Try.ntmps35
    go_wp2
    go_ret
    exact ⟨none, 0, rfl, trivial, fun _ => rfl, Nat.le_refl _, fun _ h => (by cases h), Below.refl _ _⟩
  | some ad =>
    have hown0 : (w.alloc (.cells #[] 35)).ownsRow w.heap.size 35 5 (.slice (some ⟨w.heap.size, 0, none⟩) 0 0) 0 [] := ⟨rfl, .inr ⟨w.heap.size, 0, #[], rfl, Nat.le_refl _, World.alloc_heap_new w _, Nat.le_refl _, by decide, rfl, rfl⟩⟩
    have kE : Below w.heap.size w (w.alloc (.cells #[] 35)) := (Below.refl _ _).alloc (Nat.le_refl _) _
    have hrow1 := hin.keep kE hn0
    have HR := Lib.hid (And.intro hown0 (And.intro hrow1 kE))
    have HW := Lib.hid hin.wf
    clear hown0 hrow1 kE hin
    go_enter Try.func35, Try.ntmps35
    go_upto_region 3 with (fail)
    go_wp2_with (at_builtin; refine wpList_append_row rfl (.tmp 5) (.tmp 6) rfl w.heap.size (.slice (some ⟨w.heap.size, 0, none⟩) 0 0) 0 [] rfl HR.out.1 (some ad) l l.length c rfl rfl (fun e => by cases e) n0 HR.out.2.1 (by omega) (by simp) ?_; intro v5 w5 own5 hg5; rw [Nat.zero_add, List.nil_append] at own5; obtain ⟨a5, c5, rfl, k1, k2, k3⟩ := own_shape own5; have hB5 := HR.out.2.2.grown hg5 (by simp) (fun k e => by cases e; exact Nat.le_refl _))
    go_ret
    exact ⟨a5, c5, rfl, own_in own5 HW.out, k1, k2, k3, hB5⟩
set_option maxHeartbeats 8000000 in
set_option maxRecDepth 100000 in
theorem grow_any (n : Nat) (h0 : 0 < n) (hn : n ≤ 1000000) (w : World) : Calls Try.prog 39 #[.slice none 0 0, .int .i64 (n : Int)] w fun e w' => ∃ c, e = .returned (.slice (some ⟨w.heap.size, 0, none⟩) 0 c) ∧ w'.ownsRow w.heap.size 35 5 (.slice (some ⟨w.heap.size, 0, none⟩) 0 c) 0 [] ∧ Below w.heap.size w w' := by
  obtain ⟨i0, hi0, hz0, hz1, hz2⟩ := info_parts info_ev
  have hr := fun ty => Lib.run_append_nil_zeros (P := Try.prog) w 22 3 ty 35 i0 _ .i64 .i64 Try.underlying22 Try.underlying3 hi0 hz0 n h0 (by omega) (by omega) (by rw [hz2]; omega)
  have hge := grownCap_ge w n 0 35
  have hlm := grownCap_le_maxLen w n 0 35 (by unfold maxLen; omega)
  obtain ⟨G, hG⟩ : ∃ G, grownCap w n 0 35 = G := ⟨_, rfl⟩
  rw [hG] at hr hge hlm
  have hG63 : G ≤ 9223372036854775807 := by simpa [maxLen] using hlm
  obtain ⟨W1, hW1⟩ : ∃ W, w.drew.alloc (.cells (Builtin.zeroCells (Value.agg #[.int .i64 0, .int .i64 0, .int .i64 0, .int .i64 0, .int .u64 0]).cells n ++ Builtin.zeroCells (Value.agg #[.int .i64 0, .int .i64 0, .int .i64 0, .int .i64 0, .int .u64 0]).cells (G - n)) 35) = W := ⟨_, rfl⟩
  rw [hW1] at hr
  have HOWN : Hid (W1.ownsRow w.heap.size 35 5 (.slice (some ⟨w.heap.size, 0, none⟩) 0 G) 0 [] ∧ Below w.heap.size w W1) := Lib.hid (by
    refine ⟨⟨rfl, .inr ⟨w.heap.size, G, _, rfl, Nat.le_refl _, by rw [← hW1]; exact heap_alloc_new w.drew _, Nat.zero_le _, hlm, ?_, by simp⟩⟩, by rw [← hW1]; exact ((Below.refl _ _).drew).alloc (Nat.le_refl _) _⟩
    rw [Array.size_append, size_zeroCells, size_zeroCells]
    show n * 5 + (G - n) * 5 = G * 5
    omega)
  clear hW1 hG hi0 hz0 hz1 hz2
  have x1 : (0 : Int) < (n : Int) := by omega
  have x2 : (n : Int) ≤ 1000000 := by omega
  have x3 : ((n : Int) > 0) := x1
  have d1 : decide ((n : Int) > 0) = true := decide_eq_true x1
  have d2 : decide (0 < n) = true := decide_eq_true h0
  go_enter Try.func39, Try.ntmps39
  go_wp2_with (at_builtin; refine Lib.wpList_append_run _ rfl _ _ _ _ rfl _ _ rfl rfl _ _ (hr _) ?_)
  all_goals
    go_ret
    exact ⟨G, rfl, HOWN.out.1, HOWN.out.2⟩
/-- A row, as an operand. -/
structure RW where
  a : Option Addr
  c : Nat
  l : List EV
def RW.val (r : RW) : Value := .slice r.a r.l.length r.c
def catR (rs : List RW) : List EV := rs.flatMap RW.l
theorem catR_snoc (rs : List RW) (k : Nat) (h : k < rs.length) : catR (rs.take (k + 1)) = catR (rs.take k) ++ rs[k].l := by
  unfold catR
  rw [List.take_succ_eq_append_getElem h, List.flatMap_append]
  simp
theorem catR_le (rs : List RW) : ∀ k, (catR (rs.take k)).length ≤ (catR rs).length := by
  intro k
  unfold catR
  conv => rhs; rw [← List.take_append_drop k rs, List.flatMap_append, List.length_append]
  omega
theorem catR_wf {rs : List RW} (h : ∀ r ∈ rs, ∀ e ∈ r.l, e.Wf) : ∀ e ∈ catR rs, e.Wf := by
  intro e he
  obtain ⟨r, hr, he⟩ := List.mem_flatMap.1 he
  exact h r hr e he
set_option maxHeartbeats 8000000 in
set_option maxRecDepth 100000 in
theorem concat_any (rs : List RW) (hrl : rs.length ≤ 1000) (hpos : 0 < (catR rs).length) (hbig : (catR rs).length ≤ 1000000) (g cg : Nat) (n0 : Nat) (w : World) (hn0 : n0 ≤ w.heap.size) (hg : g < w.heap.size)
    (hc : ∀ i (h : i < rs.length), w.cell? ⟨g, i, none⟩ = some (.slice rs[i].a rs[i].l.length rs[i].c)) (hin : ∀ r ∈ rs, EvIn n0 w r.l r.a ∧ (r.a = none → r.c = 0)) :
    Calls Try.prog 28 #[.slice (some ⟨g, 0, none⟩) rs.length cg] w (RowPost (catR rs) w) := by
  have HC := Lib.hid hc
  have HI := Lib.hid hin
  have HP := Lib.hid (And.intro hpos hbig)
  clear hc hin hpos hbig
  go_enter Try.func28, Try.ntmps28
  go_wp2
  go_loopg [3, 11] rs.length (fun gh u v wr => ∃ k : Nat, v = .int .i64 (k : Int) ∧ u = .int .i64 (((catR (rs.take k)).length : Nat) : Int) ∧ k + gh = rs.length ∧ w = wr)
  case atStart => exact ⟨0, rfl, rfl, by omega, rfl⟩
  case round =>
    obtain ⟨k, rfl, rfl, hk, rfl⟩ := hrel
    by_cases hlt : k < rs.length
    · have d1 : decide (k < rs.length) = true := by simpa using hlt
      have d2 : decide ((k : Int) < (rs.length : Int)) = true := by rw [decide_eq_true_eq]; omega
      have x1 : (k : Int) < (rs.length : Int) := by omega
      have r0 := HC.out k hlt
      have HS := Lib.hid (catR_snoc rs k hlt)
      have HL := Lib.hid (And.intro (catR_le rs k) (catR_le rs (k + 1)))
      obtain ⟨r, hr⟩ : ∃ r, rs[k] = r := ⟨_, rfl⟩
      rw [hr] at r0 HS
      clear hr
      obtain ⟨ra, rc, rl⟩ := r
      simp only at r0
      obtain ⟨N, hN⟩ : ∃ N, (catR (rs.take k)).length = N := ⟨_, rfl⟩
      obtain ⟨M, hM⟩ : ∃ M, rl.length = M := ⟨_, rfl⟩
      have y1 : (N : Int) + (M : Int) ≤ 1000000 := by
        have h1 := congrArg List.length HS.out
        rw [List.length_append] at h1
        simp only at h1
        have h2 := HL.out.2
        have h3 := HP.out.2
        omega
      have HN := Lib.hid (And.intro hN hM)
      rw [hN]
      rw [hM] at r0
      clear hN hM
      have y2 : decide ((N : Int) + (M : Int) < 0) = false := by rw [decide_eq_false_iff_not]; omega
      go_wp2
      cases gk with
      | zero => omega
      | succ gg =>
        go_roundg gg
        case rel => exact ⟨k + 1, by first | rfl | (simp; done) | go_num, by rw [HS.out, List.length_append, HN.out.1]; first | done | (rw [HN.out.2]; first | rfl | (simp; done)) | (simp only; rw [HN.out.2]; first | rfl | (simp; done)), by omega, rfl⟩
        case measure => omega
    · have d1 : decide (k < rs.length) = false := by simpa using hlt
      have d2 : decide ((k : Int) < (rs.length : Int)) = false := by rw [decide_eq_false_iff_not]; omega
      obtain rfl : k = rs.length := by omega
      rw [List.take_length]
      obtain ⟨N, hN⟩ : ∃ N, (catR rs).length = N := ⟨_, rfl⟩
      rw [hN] at HP ⊢
      have cG := grow_any N HP.out.1 HP.out.2 w
      have HN := Lib.hid hN
      clear hN
      go_wp2_with fail
      refine cG.mono ?_
      clear cG
      rintro e w1 ⟨c0, rfl, own1, hb1⟩
      have HO := Lib.hid (And.intro own1 hb1)
      clear own1 hb1
      go_wp2
      obtain ⟨base, hbase⟩ : ∃ b, w.heap.size = b := ⟨_, rfl⟩
      rw [hbase]
      have HBASE := Lib.hid hbase
      clear hbase d1 d2 hlt hk
      go_loopg [6, 27] rs.length (fun gh u v wr => ∃ (k : Nat) (a9 : Option Addr) (c9 : Nat), v = .int .i64 (k : Int) ∧ u = .slice a9 (catR (rs.take k)).length c9 ∧ k + gh = rs.length ∧ wr.ownsRow w.heap.size 35 5 (.slice a9 (catR (rs.take k)).length c9) (catR (rs.take k)).length (flatV (catR (rs.take k))) ∧ Below w.heap.size w wr)
      case atStart => exact ⟨0, _, _, rfl, rfl, by omega, by rw [← HBASE.out]; exact HO.out.1, HO.out.2⟩
      case round =>
        obtain ⟨k, a9, c9, rfl, rfl, hk, own, hb0⟩ := hrel
        have HB0 := Lib.hid hb0
        have HOW := Lib.hid own
        clear own
        by_cases hlt : k < rs.length
        · have d1 : decide (k < rs.length) = true := by simpa using hlt
          have d2 : decide ((k : Int) < (rs.length : Int)) = true := by rw [decide_eq_true_eq]; omega
          have x1 : (k : Int) < (rs.length : Int) := by omega
          have r0 : wr.cell? ⟨g, k, none⟩ = some (.slice rs[k].a rs[k].l.length rs[k].c) := by rw [hb0.cell (p := ⟨g, k, none⟩) hg]; exact HC.out k hlt
          have HS := Lib.hid (catR_snoc rs k hlt)
          have HL := Lib.hid (And.intro (catR_le rs k) (catR_le rs (k + 1)))
          have hir := HI.out rs[k] (List.getElem_mem hlt)
          obtain ⟨r, hr⟩ : ∃ r, rs[k] = r := ⟨_, rfl⟩
          rw [hr] at r0 HS hir
          clear hr
          obtain ⟨ra, rc, rl⟩ := r
          simp only at r0 hir
          have hir2 := hir.1.keep hb0 hn0
          have HIR := Lib.hid (And.intro hir2 hir.2)
          obtain ⟨N9, hN9⟩ : ∃ N, (catR (rs.take k)).length = N := ⟨_, rfl⟩
          rw [hN9] at HOW ⊢
          obtain ⟨M, hM⟩ : ∃ M, rl.length = M := ⟨_, rfl⟩
          rw [hM] at r0
          have y1 : N9 + M ≤ 1000000 := by
            have h1 := congrArg List.length HS.out
            rw [List.length_append] at h1
            simp only at h1
            have h2 := HL.out.2
            have h3 := HP.out.2
            have h4 := HN.out
            omega
          have HNM := Lib.hid (And.intro hN9 hM)
          have HZ := Lib.hid hb0.size
          clear hN9 hM hir hir2 hb0
          go_upto_region 14 with (at_builtin; refine wpList_append_row rfl (.tmp 31) (.tmp 32) rfl w.heap.size (.slice a9 N9 c9) N9 (flatV (catR (rs.take k))) rfl HOW.out ra rl M rc HNM.out.2 rfl HIR.out.2 n0 HIR.out.1 (by omega) HZ.out ?_; intro v5 w5 own5 hg5; rw [← flatV_app] at own5; obtain ⟨a5, c5, rfl, k1, k2, k3⟩ := own_shape own5; have hB5 := HB0.out.grown hg5 HZ.out (fun k e => (HOW.out.lt k e).1))
          have HO5 : Hid (w5.ownsRow w.heap.size 35 5 (.slice a5 (catR (rs.take (k + 1))).length c5) (catR (rs.take (k + 1))).length (flatV (catR (rs.take (k + 1)))) ∧ (catR (rs.take (k + 1))).length = N9 + M) := Lib.hid (by
            have e1 : (catR (rs.take (k + 1))).length = N9 + M := by rw [HS.out, List.length_append, HNM.out.1]; simp only; rw [HNM.out.2]
            refine ⟨?_, e1⟩
            rw [e1, HS.out]
            exact own5)
          have HB5 := Lib.hid hB5
          clear own5 hB5 hg5
          go_wp2
          cases gk with
          | zero => omega
          | succ gg =>
            go_roundg gg
            case rel => exact ⟨k + 1, a5, c5, by first | rfl | (simp; done) | go_num, by rw [HO5.out.2], by omega, HO5.out.1, HB5.out⟩
            case measure => omega
        · have d1 : decide (k < rs.length) = false := by simpa using hlt
          have d2 : decide ((k : Int) < (rs.length : Int)) = false := by rw [decide_eq_false_iff_not]; omega
          obtain rfl : k = rs.length := by omega
          rw [List.take_length] at HOW ⊢
          obtain ⟨_, _, e9, k1, k2, k3⟩ := own_shape HOW.out
          injection e9 with e1 e2 e3
          subst e1 e3
          have HK := Lib.hid (And.intro k1 (And.intro k2 k3))
          clear k1 k2 k3
          go_wp2
          go_ret
          exact ⟨_, _, rfl, own_in HOW.out (catR_wf (fun r hr => (HI.out r hr).1.wf)), HK.out.1, HK.out.2.1, HK.out.2.2, HB0.out⟩
end Go.Proofs.Ytchboknncfmcpaa
