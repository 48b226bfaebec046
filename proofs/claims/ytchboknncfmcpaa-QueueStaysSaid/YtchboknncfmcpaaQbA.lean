/-
  QueueApart's walk.
-/
import Derived.Test.YtchboknncfmcpaaQaN
import Derived.Test.YtchboknncfmcpaaQaL
namespace Go.Proofs.Ytchboknncfmcpaa
open Go Go.RowKit
set_option linter.unusedVariables false
set_option linter.unusedSimpArgs false
open Go.Sort
theorem pushF_now {now dl nx : Int} {l : List EV} (h : ckE now dl nx l = 0) (hl : l.length ≤ 400) (t d s : Int) : pushF now dl nx l t d s = if d < 0 ∨ s < 0 ∨ 4611686018427387904 ≤ nx then 1 else if goneE now dl t d then 140 else 0 := by
  unfold pushF
  rw [if_pos h, show (if 65536 ≤ l.length then (2 : Int) else 0) = 0 from if_neg (by omega)]
theorem ck_next {now dl nx : Int} {l : List EV} {t d s v : Int} (h : pushF now dl nx l t d s = 0) (hl : l.length ≤ 400) : ckE now dl (nx + 1) (insE ⟨t, d, nx, s, v⟩ l) = 0 := by
  have hz := pushF_zero h
  exact ckE_zero.2 ⟨push_ok hz.2.1 hz.2.2.2.1 hz.2.2.2.2.1 hz.2.2.2.2.2.1 hz.2.2.2.2.2.2.2.1, by rw [insE_len]; omega⟩
/-- Both orders are refused, or neither. -/
theorem apart_errs {now dl nx : Int} {l : List EV} (h : ckE now dl nx l = 0) (hl : l.length ≤ 300) (ta da sa va tb db sb vb : Int) :
    (pushF now dl nx l ta da sa = 0 ∧ pushF (pushS l now dl nx ta da sa va).2.1 (pushS l now dl nx ta da sa va).2.2.1 (pushS l now dl nx ta da sa va).2.2.2 (pushS l now dl nx ta da sa va).1 tb db sb = 0) ↔
    (pushF now dl nx l tb db sb = 0 ∧ pushF (pushS l now dl nx tb db sb vb).2.1 (pushS l now dl nx tb db sb vb).2.2.1 (pushS l now dl nx tb db sb vb).2.2.2 (pushS l now dl nx tb db sb vb).1 ta da sa = 0) := by
  have key : ∀ (ta da sa va tb db sb : Int), (pushF now dl nx l ta da sa = 0 ∧ pushF (pushS l now dl nx ta da sa va).2.1 (pushS l now dl nx ta da sa va).2.2.1 (pushS l now dl nx ta da sa va).2.2.2 (pushS l now dl nx ta da sa va).1 tb db sb = 0) ↔
      (0 ≤ da ∧ 0 ≤ sa ∧ 0 ≤ db ∧ 0 ≤ sb ∧ nx + 1 < 4611686018427387904 ∧ goneE now dl ta da = false ∧ goneE now dl tb db = false) := by
    intro ta da sa va tb db sb
    by_cases h1 : pushF now dl nx l ta da sa = 0
    · have hz := pushF_zero h1
      have e : pushS l now dl nx ta da sa va = (insE ⟨ta, da, nx, sa, va⟩ l, now, dl, nx + 1) := by unfold pushS; rw [if_pos h1]
      rw [e]
      simp only
      rw [pushF_now (ck_next h1 (by omega)) (by rw [insE_len]; omega)]
      constructor
      · rintro ⟨_, h2⟩
        split at h2
        · omega
        · split at h2
          · omega
          · rename_i h3 h4
            exact ⟨hz.2.2.2.2.1, hz.2.2.2.2.2.1, by omega, by omega, by omega, hz.2.2.2.2.2.2.2.1, by simpa using h4⟩
      · rintro ⟨_, _, h2, h3, h4, _, h5⟩
        refine ⟨h1, ?_⟩
        rw [if_neg (by omega), h5]
        rfl
    · constructor
      · rintro ⟨h2, _⟩; exact absurd h2 h1
      · rintro ⟨h2, h3, h4, h5, h6, h7, h8⟩
        refine absurd ?_ h1
        rw [pushF_now h (by omega), if_neg (by omega), h7]
        rfl
  rw [key ta da sa va tb db sb, key tb db sb vb ta da sa]
  constructor
  · rintro ⟨h1, h2, h3, h4, h5, h6, h7⟩; exact ⟨h3, h4, h1, h2, h5, h7, h6⟩
  · rintro ⟨h1, h2, h3, h4, h5, h6, h7⟩; exact ⟨h3, h4, h1, h2, h5, h7, h6⟩
theorem zero_parts {nx : Int} {p s : EV} (h : zeroNo nx p = zeroNo nx s) : p.t = s.t ∧ p.d = s.d ∧ p.sg = s.sg ∧ p.v = s.v ∧ (p.no < nx → s.no < nx → p.no = s.no) := by
  unfold zeroNo at h
  split at h <;> split at h
  · have := congrArg EV.t h; have := congrArg EV.d h; have := congrArg EV.sg h; have := congrArg EV.v h
    simp only at *
    refine ⟨by assumption, by assumption, by assumption, by assumption, by omega⟩
  · have h1 := congrArg EV.t h; have h2 := congrArg EV.d h; have h3 := congrArg EV.sg h; have h4 := congrArg EV.v h
    simp only at h1 h2 h3 h4
    exact ⟨h1, h2, h3, h4, by omega⟩
  · have h1 := congrArg EV.t h; have h2 := congrArg EV.d h; have h3 := congrArg EV.sg h; have h4 := congrArg EV.v h
    simp only at h1 h2 h3 h4
    exact ⟨h1, h2, h3, h4, by omega⟩
  · subst h; exact ⟨rfl, rfl, rfl, rfl, fun _ _ => rfl⟩
theorem push_len {l l' : List EV} {now dl nx t d s v now' dl' nx' : Int} (h : pushS l now dl nx t d s v = (l', now', dl', nx')) {n : Nat} (hn : l.length ≤ n) : l'.length ≤ n + 1 := by
  unfold pushS at h
  split at h
  · injection h with h1 h2
    rw [← h1, insE_len]; omega
  · injection h with h1 h2
    rw [← h1]; simp
theorem keepc {w w' : World} {p : Addr} {v : Value} (hb : Below w.heap.size w w') (h : w.cell? p = some v) : w'.cell? p = some v := by
  rw [hb.cell (World.block_lt_of_cell? w p h)]; exact h
set_option maxHeartbeats 8000000 in
set_option maxRecDepth 100000 in
theorem apart_law (a : Option Addr) (c : Nat) (l : List EV) (hac : a = none → c = 0) (hlc : l.length ≤ c) (now dl nx ta da sa va : Int) (hva : 0 ≤ va ∧ va < 18446744073709551616) (tb db sb vb : Int) (hvb : 0 ≤ vb ∧ vb < 18446744073709551616) (w : World) (hin : EvIn w.heap.size w l a) : Calls Try.prog 8 #[.agg #[.slice a l.length c, .int .i64 now, .int .i64 dl, .int .i64 nx], .agg #[.int .i64 ta, .int .i64 da, .int .i64 sa, .int .u64 va], .agg #[.int .i64 tb, .int .i64 db, .int .i64 sb, .int .u64 vb]] w fun e w' => e = .returned (.bool true) ∧ Below w.heap.size w w' := by
  have HB := Lib.hid (Below.refl w.heap.size w)
  have HIl := Lib.hid hin
  clear hin
  have HCC := Lib.hid (And.intro hac hlc)
  clear hac hlc
  have HVV := Lib.hid (And.intro hva hvb)
  clear hva hvb
  go_enter Try.func8, Try.ntmps8
  obtain ⟨gq, hgq⟩ : ∃ g, w.heap.size = g := ⟨_, rfl⟩
  obtain ⟨V1_0, hV1_0⟩ : ∃ W, w.alloc (.cells #[.slice a l.length c, .int .i64 now, .int .i64 dl, .int .i64 nx] 24) = W := ⟨_, rfl⟩
  have hbV1_0 : Below w.heap.size w V1_0 := by rw [← hV1_0]; exact (Below.refl _ _).alloc (Nat.le_refl _) _
  have hzV1_0 : V1_0.heap.size = gq + 1 := by rw [← hV1_0, World.size_alloc, hgq]
  have BBq : V1_0.heap[gq]? = some (.cells #[.slice a l.length c, .int .i64 now, .int .i64 dl, .int .i64 nx] 24 (0, 0)) := by rw [← hV1_0, ← hgq]; exact World.alloc_heap_new w _
  have hbw := hbV1_0
  obtain ⟨V1_1, hV1_1⟩ : ∃ W, V1_0.alloc (.cells #[.int .i64 ta, .int .i64 da, .int .i64 sa, .int .u64 va] 44) = W := ⟨_, rfl⟩
  have hbV1_1 : Below V1_0.heap.size V1_0 V1_1 := by rw [← hV1_1]; exact (Below.refl _ _).alloc (Nat.le_refl _) _
  have hzV1_1 : V1_1.heap.size = gq + 2 := by rw [← hV1_1, World.size_alloc, hzV1_0]
  have BBr : V1_1.heap[gq + 1]? = some (.cells #[.int .i64 ta, .int .i64 da, .int .i64 sa, .int .u64 va] 44 (0, 0)) := by rw [← hV1_1, ← hzV1_0]; exact World.alloc_heap_new V1_0 _
  replace BBq := block_kept BBq hbV1_1
  replace hbw := hbw.trans (hbV1_1.mono hbw.size)
  obtain ⟨V1_2, hV1_2⟩ : ∃ W, V1_1.alloc (.cells #[.int .i64 tb, .int .i64 db, .int .i64 sb, .int .u64 vb] 44) = W := ⟨_, rfl⟩
  have hbV1_2 : Below V1_1.heap.size V1_1 V1_2 := by rw [← hV1_2]; exact (Below.refl _ _).alloc (Nat.le_refl _) _
  have hzV1_2 : V1_2.heap.size = gq + 3 := by rw [← hV1_2, World.size_alloc, hzV1_1]
  have BBs : V1_2.heap[gq + 2]? = some (.cells #[.int .i64 tb, .int .i64 db, .int .i64 sb, .int .u64 vb] 44 (0, 0)) := by rw [← hV1_2, ← hzV1_1]; exact World.alloc_heap_new V1_1 _
  replace BBq := block_kept BBq hbV1_2
  replace BBr := block_kept BBr hbV1_2
  replace hbw := hbw.trans (hbV1_2.mono hbw.size)
  have hbx1 : Below w.heap.size w V1_2 := hbw
  replace HIl := Lib.hid (InRow.less hbx1.size (fun _ _ h => h) (EvIn.keep HIl.out hbx1 (Nat.le_refl _)))
  replace HB := Lib.hid (HB.out.trans (hbx1.mono HB.out.size))
  have Hq := Lib.hid BBq
  have Hr := Lib.hid BBr
  have Hs := Lib.hid BBs
  clear BBq BBr BBs hbw hbx1 hbV1_0 hbV1_1 hbV1_2
  have HV1_0 := Lib.hid hV1_0
  clear hV1_0
  have HV1_1 := Lib.hid hV1_1
  clear hV1_1
  have HV1_2 := Lib.hid hV1_2
  clear hV1_2
  go_upto_region 1 with (fail)
  (try rw [hgq])
  (try rw [HV1_0.out])
  (try rw [hzV1_0])
  (try rw [HV1_1.out])
  (try rw [hzV1_1])
  (try rw [HV1_2.out])
  (try rw [hzV1_2])
  clear HV1_0 hzV1_0 HV1_1 hzV1_1 HV1_2 hzV1_2 hgq
  go_wp2_with fail
  refine (live_any _).mono ?_
  rintro e w2 ⟨rfl, hb⟩
  replace Hq := Lib.hid (block_kept Hq.out hb)
  replace Hr := Lib.hid (block_kept Hr.out hb)
  replace Hs := Lib.hid (block_kept Hs.out hb)
  replace HIl := Lib.hid (InRow.less hb.size (fun _ _ h => h) (EvIn.keep HIl.out hb (Nat.le_refl _)))
  replace HB := Lib.hid (HB.out.trans (hb.mono HB.out.size))
  clear hb
  obtain ⟨qc0, qc1, qc2, qc3⟩ := ope4 Hq.out
  obtain ⟨rc0, rc1, rc2, rc3⟩ := ope4 Hr.out
  obtain ⟨sc0, sc1, sc2, sc3⟩ := ope4 Hs.out
  obtain ⟨FB, hFB⟩ : ∃ FB, decide ((l.length : Int) ≤ 300) = FB := ⟨_, rfl⟩
  have cW := few_any a l.length c now dl nx w2
  rw [hFB] at cW
  have HFB := Lib.hid hFB
  clear hFB
  go_wp2_with fail
  refine (cW).mono ?_
  clear qc0 qc1 qc2 qc3 rc0 rc1 rc2 rc3 sc0 sc1 sc2 sc3
  rintro e w3 ⟨rfl, hb⟩
  replace Hq := Lib.hid (block_kept Hq.out hb)
  replace Hr := Lib.hid (block_kept Hr.out hb)
  replace Hs := Lib.hid (block_kept Hs.out hb)
  replace HIl := Lib.hid (InRow.less hb.size (fun _ _ h => h) (EvIn.keep HIl.out hb (Nat.le_refl _)))
  replace HB := Lib.hid (HB.out.trans (hb.mono HB.out.size))
  clear hb
  clear cW
  obtain ⟨qc0, qc1, qc2, qc3⟩ := ope4 Hq.out
  obtain ⟨rc0, rc1, rc2, rc3⟩ := ope4 Hr.out
  obtain ⟨sc0, sc1, sc2, sc3⟩ := ope4 Hs.out
  cases FB with
  | false =>
    go_wp2
    go_ret
    exact ⟨rfl, HB.out⟩
  | true =>
  have hlen : l.length ≤ 300 := by have := of_decide_eq_true HFB.out; omega
  have HLN := Lib.hid hlen
  clear hlen HFB
  obtain ⟨P1, hP1⟩ : ∃ P, (ta == tb) = P := ⟨_, rfl⟩
  obtain ⟨P2, hP2⟩ : ∃ P, (da == db) = P := ⟨_, rfl⟩
  have HAP : Hid ((P1 && P2) = false → ¬ (ta = tb ∧ da = db)) := Lib.hid (by rintro h ⟨rfl, rfl⟩; rw [← hP1, ← hP2] at h; simp at h)
  cases P1 with
  | false =>
    obtain ⟨K, hK⟩ : ∃ K, ckE now dl nx l = K := ⟨_, rfl⟩
    have cK := check_any a c l (by have := HLN.out; omega) now dl nx w3.heap.size w3 (Nat.le_refl _) HIl.out
    rw [hK] at cK
    have HK := Lib.hid hK
    clear hK
    go_wp2_with fail
    refine (cK).mono ?_
    clear qc0 qc1 qc2 qc3 rc0 rc1 rc2 rc3 sc0 sc1 sc2 sc3
    rintro e w4 ⟨rfl, hb⟩
    replace Hq := Lib.hid (block_kept Hq.out hb)
    replace Hr := Lib.hid (block_kept Hr.out hb)
    replace Hs := Lib.hid (block_kept Hs.out hb)
    replace HIl := Lib.hid (InRow.less hb.size (fun _ _ h => h) (EvIn.keep HIl.out hb (Nat.le_refl _)))
    replace HB := Lib.hid (HB.out.trans (hb.mono HB.out.size))
    clear hb
    clear cK
    obtain ⟨qc0, qc1, qc2, qc3⟩ := ope4 Hq.out
    obtain ⟨rc0, rc1, rc2, rc3⟩ := ope4 Hr.out
    obtain ⟨sc0, sc1, sc2, sc3⟩ := ope4 Hs.out
    by_cases hK0 : K = 0
    case neg =>
      have kk : (K != 0) = true := by simpa using hK0
      clear hK0
      go_wp2
      go_ret
      exact ⟨rfl, HB.out⟩
    subst hK0
    have kk : ((0 : Int) != 0) = false := rfl
    have cP := push_res (push_any a c l (by have := HLN.out; omega) HCC.out.1 HCC.out.2 now dl nx ta da sa va HVV.out.1 w4.heap.size w4 (Nat.le_refl _) HIl.out)
    obtain ⟨S1, hS1⟩ : ∃ S, pushS l now dl nx ta da sa va = S := ⟨_, rfl⟩
    obtain ⟨E1, hE1⟩ : ∃ E, pushF now dl nx l ta da sa = E := ⟨_, rfl⟩
    rw [hS1, hE1] at cP
    have HS1 := Lib.hid hS1
    have HE1 := Lib.hid hE1
    clear hS1 hE1
    obtain ⟨l1, now1, dl1, nx1⟩ := S1
    go_wp2_with fail
    refine (cP).mono ?_
    clear qc0 qc1 qc2 qc3 rc0 rc1 rc2 rc3 sc0 sc1 sc2 sc3
    rintro e w5 ⟨hb, a1, c1, rfl, hi1, k1, k2⟩
    replace Hq := Lib.hid (block_kept Hq.out hb)
    replace Hr := Lib.hid (block_kept Hr.out hb)
    replace Hs := Lib.hid (block_kept Hs.out hb)
    replace HIl := Lib.hid (InRow.less hb.size (fun _ _ h => h) (EvIn.keep HIl.out hb (Nat.le_refl _)))
    replace HB := Lib.hid (HB.out.trans (hb.mono HB.out.size))
    clear hb
    clear cP
    have HI1 := Lib.hid hi1
    have HK1 := Lib.hid (And.intro k1 k2)
    clear hi1 k1 k2
    obtain ⟨gx, hgx⟩ : ∃ g, w5.heap.size = g := ⟨_, rfl⟩
    obtain ⟨V6_0, hV6_0⟩ : ∃ W, w5.alloc (.cells #[.slice a1 l1.length c1, .int .i64 now1, .int .i64 dl1, .int .i64 nx1] 24) = W := ⟨_, rfl⟩
    have hbV6_0 : Below w5.heap.size w5 V6_0 := by rw [← hV6_0]; exact (Below.refl _ _).alloc (Nat.le_refl _) _
    have hzV6_0 : V6_0.heap.size = gx + 1 := by rw [← hV6_0, World.size_alloc, hgx]
    have BBx : V6_0.heap[gx]? = some (.cells #[.slice a1 l1.length c1, .int .i64 now1, .int .i64 dl1, .int .i64 nx1] 24 (0, 0)) := by rw [← hV6_0, ← hgx]; exact World.alloc_heap_new w5 _
    have hbw := hbV6_0
    have hbx6 : Below w5.heap.size w5 V6_0 := hbw
    replace Hq := Lib.hid (block_kept Hq.out hbx6)
    replace Hr := Lib.hid (block_kept Hr.out hbx6)
    replace Hs := Lib.hid (block_kept Hs.out hbx6)
    replace HIl := Lib.hid (InRow.less hbx6.size (fun _ _ h => h) (EvIn.keep HIl.out hbx6 (Nat.le_refl _)))
    replace HI1 := Lib.hid (InRow.less hbx6.size (fun _ _ h => h) (EvIn.keep HI1.out hbx6 (Nat.le_refl _)))
    replace HB := Lib.hid (HB.out.trans (hbx6.mono HB.out.size))
    have Hx := Lib.hid BBx
    clear BBx hbw hbx6 hbV6_0
    have HV6_0 := Lib.hid hV6_0
    clear hV6_0
    go_upto_region 5 with (fail)
    (try rw [hgx])
    (try rw [HV6_0.out])
    (try rw [hzV6_0])
    clear HV6_0 hzV6_0 hgx
    have HL1 : Hid (l1.length ≤ 301) := Lib.hid (push_len HS1.out HLN.out)
    obtain ⟨xc0, xc1, xc2, xc3⟩ := ope4 Hx.out
    obtain ⟨sc0, sc1, sc2, sc3⟩ := ope4 Hs.out
    have cP := push_res (push_any a1 c1 l1 (by have := HL1.out; omega) HK1.out.1 HK1.out.2 now1 dl1 nx1 tb db sb vb HVV.out.2 V6_0.heap.size V6_0 (Nat.le_refl _) HI1.out)
    obtain ⟨S2, hS2⟩ : ∃ S, pushS l1 now1 dl1 nx1 tb db sb vb = S := ⟨_, rfl⟩
    obtain ⟨E2, hE2⟩ : ∃ E, pushF now1 dl1 nx1 l1 tb db sb = E := ⟨_, rfl⟩
    rw [hS2, hE2] at cP
    have HS2 := Lib.hid hS2
    have HE2 := Lib.hid hE2
    clear hS2 hE2
    obtain ⟨l2, now2, dl2, nx2⟩ := S2
    go_wp2_with fail
    refine (cP).mono ?_
    clear xc0 xc1 xc2 xc3 sc0 sc1 sc2 sc3
    rintro e w7 ⟨hb, a2, c2, rfl, hi2, k1, k2⟩
    replace Hq := Lib.hid (block_kept Hq.out hb)
    replace Hr := Lib.hid (block_kept Hr.out hb)
    replace Hs := Lib.hid (block_kept Hs.out hb)
    replace Hx := Lib.hid (block_kept Hx.out hb)
    replace HIl := Lib.hid (InRow.less hb.size (fun _ _ h => h) (EvIn.keep HIl.out hb (Nat.le_refl _)))
    replace HI1 := Lib.hid (InRow.less hb.size (fun _ _ h => h) (EvIn.keep HI1.out hb (Nat.le_refl _)))
    replace HB := Lib.hid (HB.out.trans (hb.mono HB.out.size))
    clear hb
    clear cP
    have HI2 := Lib.hid hi2
    have HK2 := Lib.hid (And.intro k1 k2)
    clear hi2 k1 k2
    obtain ⟨gy, hgy⟩ : ∃ g, w7.heap.size = g := ⟨_, rfl⟩
    obtain ⟨V8_0, hV8_0⟩ : ∃ W, w7.alloc (.cells #[.slice a2 l2.length c2, .int .i64 now2, .int .i64 dl2, .int .i64 nx2] 24) = W := ⟨_, rfl⟩
    have hbV8_0 : Below w7.heap.size w7 V8_0 := by rw [← hV8_0]; exact (Below.refl _ _).alloc (Nat.le_refl _) _
    have hzV8_0 : V8_0.heap.size = gy + 1 := by rw [← hV8_0, World.size_alloc, hgy]
    have BBy : V8_0.heap[gy]? = some (.cells #[.slice a2 l2.length c2, .int .i64 now2, .int .i64 dl2, .int .i64 nx2] 24 (0, 0)) := by rw [← hV8_0, ← hgy]; exact World.alloc_heap_new w7 _
    have hbw := hbV8_0
    have hbx8 : Below w7.heap.size w7 V8_0 := hbw
    replace Hq := Lib.hid (block_kept Hq.out hbx8)
    replace Hr := Lib.hid (block_kept Hr.out hbx8)
    replace Hs := Lib.hid (block_kept Hs.out hbx8)
    replace Hx := Lib.hid (block_kept Hx.out hbx8)
    replace HIl := Lib.hid (InRow.less hbx8.size (fun _ _ h => h) (EvIn.keep HIl.out hbx8 (Nat.le_refl _)))
    replace HI1 := Lib.hid (InRow.less hbx8.size (fun _ _ h => h) (EvIn.keep HI1.out hbx8 (Nat.le_refl _)))
    replace HI2 := Lib.hid (InRow.less hbx8.size (fun _ _ h => h) (EvIn.keep HI2.out hbx8 (Nat.le_refl _)))
    replace HB := Lib.hid (HB.out.trans (hbx8.mono HB.out.size))
    have Hy := Lib.hid BBy
    clear BBy hbw hbx8 hbV8_0
    have HV8_0 := Lib.hid hV8_0
    clear hV8_0
    go_upto_region 6 with (fail)
    (try rw [hgy])
    (try rw [HV8_0.out])
    (try rw [hzV8_0])
    clear HV8_0 hzV8_0 hgy
    have HL2 : Hid (l2.length ≤ 302) := Lib.hid (push_len HS2.out HL1.out)
    obtain ⟨qc0, qc1, qc2, qc3⟩ := ope4 Hq.out
    obtain ⟨sc0, sc1, sc2, sc3⟩ := ope4 Hs.out
    have cP := push_res (push_any a c l (by have := HLN.out; omega) HCC.out.1 HCC.out.2 now dl nx tb db sb vb HVV.out.2 V8_0.heap.size V8_0 (Nat.le_refl _) HIl.out)
    obtain ⟨S3, hS3⟩ : ∃ S, pushS l now dl nx tb db sb vb = S := ⟨_, rfl⟩
    obtain ⟨E3, hE3⟩ : ∃ E, pushF now dl nx l tb db sb = E := ⟨_, rfl⟩
    rw [hS3, hE3] at cP
    have HS3 := Lib.hid hS3
    have HE3 := Lib.hid hE3
    clear hS3 hE3
    obtain ⟨l3, now3, dl3, nx3⟩ := S3
    go_wp2_with fail
    refine (cP).mono ?_
    clear qc0 qc1 qc2 qc3 sc0 sc1 sc2 sc3
    rintro e w9 ⟨hb, a3, c3, rfl, hi3, k1, k2⟩
    replace Hq := Lib.hid (block_kept Hq.out hb)
    replace Hr := Lib.hid (block_kept Hr.out hb)
    replace Hs := Lib.hid (block_kept Hs.out hb)
    replace Hx := Lib.hid (block_kept Hx.out hb)
    replace Hy := Lib.hid (block_kept Hy.out hb)
    replace HIl := Lib.hid (InRow.less hb.size (fun _ _ h => h) (EvIn.keep HIl.out hb (Nat.le_refl _)))
    replace HI1 := Lib.hid (InRow.less hb.size (fun _ _ h => h) (EvIn.keep HI1.out hb (Nat.le_refl _)))
    replace HI2 := Lib.hid (InRow.less hb.size (fun _ _ h => h) (EvIn.keep HI2.out hb (Nat.le_refl _)))
    replace HB := Lib.hid (HB.out.trans (hb.mono HB.out.size))
    clear hb
    clear cP
    have HI3 := Lib.hid hi3
    have HK3 := Lib.hid (And.intro k1 k2)
    clear hi3 k1 k2
    obtain ⟨gz, hgz⟩ : ∃ g, w9.heap.size = g := ⟨_, rfl⟩
    obtain ⟨V10_0, hV10_0⟩ : ∃ W, w9.alloc (.cells #[.slice a3 l3.length c3, .int .i64 now3, .int .i64 dl3, .int .i64 nx3] 24) = W := ⟨_, rfl⟩
    have hbV10_0 : Below w9.heap.size w9 V10_0 := by rw [← hV10_0]; exact (Below.refl _ _).alloc (Nat.le_refl _) _
    have hzV10_0 : V10_0.heap.size = gz + 1 := by rw [← hV10_0, World.size_alloc, hgz]
    have BBz : V10_0.heap[gz]? = some (.cells #[.slice a3 l3.length c3, .int .i64 now3, .int .i64 dl3, .int .i64 nx3] 24 (0, 0)) := by rw [← hV10_0, ← hgz]; exact World.alloc_heap_new w9 _
    have hbw := hbV10_0
    have hbx10 : Below w9.heap.size w9 V10_0 := hbw
    replace Hq := Lib.hid (block_kept Hq.out hbx10)
    replace Hr := Lib.hid (block_kept Hr.out hbx10)
    replace Hs := Lib.hid (block_kept Hs.out hbx10)
    replace Hx := Lib.hid (block_kept Hx.out hbx10)
    replace Hy := Lib.hid (block_kept Hy.out hbx10)
    replace HIl := Lib.hid (InRow.less hbx10.size (fun _ _ h => h) (EvIn.keep HIl.out hbx10 (Nat.le_refl _)))
    replace HI1 := Lib.hid (InRow.less hbx10.size (fun _ _ h => h) (EvIn.keep HI1.out hbx10 (Nat.le_refl _)))
    replace HI2 := Lib.hid (InRow.less hbx10.size (fun _ _ h => h) (EvIn.keep HI2.out hbx10 (Nat.le_refl _)))
    replace HI3 := Lib.hid (InRow.less hbx10.size (fun _ _ h => h) (EvIn.keep HI3.out hbx10 (Nat.le_refl _)))
    replace HB := Lib.hid (HB.out.trans (hbx10.mono HB.out.size))
    have Hz := Lib.hid BBz
    clear BBz hbw hbx10 hbV10_0
    have HV10_0 := Lib.hid hV10_0
    clear hV10_0
    go_upto_region 7 with (fail)
    (try rw [hgz])
    (try rw [HV10_0.out])
    (try rw [hzV10_0])
    clear HV10_0 hzV10_0 hgz
    have HL3 : Hid (l3.length ≤ 301) := Lib.hid (push_len HS3.out HLN.out)
    obtain ⟨zc0, zc1, zc2, zc3⟩ := ope4 Hz.out
    obtain ⟨rc0, rc1, rc2, rc3⟩ := ope4 Hr.out
    have cP := push_res (push_any a3 c3 l3 (by have := HL3.out; omega) HK3.out.1 HK3.out.2 now3 dl3 nx3 ta da sa va HVV.out.1 V10_0.heap.size V10_0 (Nat.le_refl _) HI3.out)
    obtain ⟨S4, hS4⟩ : ∃ S, pushS l3 now3 dl3 nx3 ta da sa va = S := ⟨_, rfl⟩
    obtain ⟨E4, hE4⟩ : ∃ E, pushF now3 dl3 nx3 l3 ta da sa = E := ⟨_, rfl⟩
    rw [hS4, hE4] at cP
    have HS4 := Lib.hid hS4
    have HE4 := Lib.hid hE4
    clear hS4 hE4
    obtain ⟨l4, now4, dl4, nx4⟩ := S4
    go_wp2_with fail
    refine (cP).mono ?_
    clear zc0 zc1 zc2 zc3 rc0 rc1 rc2 rc3
    rintro e w11 ⟨hb, a4, c4, rfl, hi4, k1, k2⟩
    replace Hq := Lib.hid (block_kept Hq.out hb)
    replace Hr := Lib.hid (block_kept Hr.out hb)
    replace Hs := Lib.hid (block_kept Hs.out hb)
    replace Hx := Lib.hid (block_kept Hx.out hb)
    replace Hy := Lib.hid (block_kept Hy.out hb)
    replace Hz := Lib.hid (block_kept Hz.out hb)
    replace HIl := Lib.hid (InRow.less hb.size (fun _ _ h => h) (EvIn.keep HIl.out hb (Nat.le_refl _)))
    replace HI1 := Lib.hid (InRow.less hb.size (fun _ _ h => h) (EvIn.keep HI1.out hb (Nat.le_refl _)))
    replace HI2 := Lib.hid (InRow.less hb.size (fun _ _ h => h) (EvIn.keep HI2.out hb (Nat.le_refl _)))
    replace HI3 := Lib.hid (InRow.less hb.size (fun _ _ h => h) (EvIn.keep HI3.out hb (Nat.le_refl _)))
    replace HB := Lib.hid (HB.out.trans (hb.mono HB.out.size))
    clear hb
    clear cP
    have HI4 := Lib.hid hi4
    have HK4 := Lib.hid (And.intro k1 k2)
    clear hi4 k1 k2
    obtain ⟨gu, hgu⟩ : ∃ g, w11.heap.size = g := ⟨_, rfl⟩
    obtain ⟨V12_0, hV12_0⟩ : ∃ W, w11.alloc (.cells #[.slice a4 l4.length c4, .int .i64 now4, .int .i64 dl4, .int .i64 nx4] 24) = W := ⟨_, rfl⟩
    have hbV12_0 : Below w11.heap.size w11 V12_0 := by rw [← hV12_0]; exact (Below.refl _ _).alloc (Nat.le_refl _) _
    have hzV12_0 : V12_0.heap.size = gu + 1 := by rw [← hV12_0, World.size_alloc, hgu]
    have BBu : V12_0.heap[gu]? = some (.cells #[.slice a4 l4.length c4, .int .i64 now4, .int .i64 dl4, .int .i64 nx4] 24 (0, 0)) := by rw [← hV12_0, ← hgu]; exact World.alloc_heap_new w11 _
    have hbw := hbV12_0
    have hbx12 : Below w11.heap.size w11 V12_0 := hbw
    replace Hq := Lib.hid (block_kept Hq.out hbx12)
    replace Hr := Lib.hid (block_kept Hr.out hbx12)
    replace Hs := Lib.hid (block_kept Hs.out hbx12)
    replace Hx := Lib.hid (block_kept Hx.out hbx12)
    replace Hy := Lib.hid (block_kept Hy.out hbx12)
    replace Hz := Lib.hid (block_kept Hz.out hbx12)
    replace HIl := Lib.hid (InRow.less hbx12.size (fun _ _ h => h) (EvIn.keep HIl.out hbx12 (Nat.le_refl _)))
    replace HI1 := Lib.hid (InRow.less hbx12.size (fun _ _ h => h) (EvIn.keep HI1.out hbx12 (Nat.le_refl _)))
    replace HI2 := Lib.hid (InRow.less hbx12.size (fun _ _ h => h) (EvIn.keep HI2.out hbx12 (Nat.le_refl _)))
    replace HI3 := Lib.hid (InRow.less hbx12.size (fun _ _ h => h) (EvIn.keep HI3.out hbx12 (Nat.le_refl _)))
    replace HI4 := Lib.hid (InRow.less hbx12.size (fun _ _ h => h) (EvIn.keep HI4.out hbx12 (Nat.le_refl _)))
    replace HB := Lib.hid (HB.out.trans (hbx12.mono HB.out.size))
    have Hu := Lib.hid BBu
    clear BBu hbw hbx12 hbV12_0
    have HV12_0 := Lib.hid hV12_0
    clear hV12_0
    go_upto_region 8 with (fail)
    (try rw [hgu])
    (try rw [HV12_0.out])
    (try rw [hzV12_0])
    clear HV12_0 hzV12_0 hgu
    have HL4 : Hid (l4.length ≤ 302) := Lib.hid (push_len HS4.out HL3.out)
    have HER : Hid ((E1 = 0 ∧ E2 = 0) ↔ (E3 = 0 ∧ E4 = 0)) := Lib.hid (by
      have h := apart_errs HK.out HLN.out ta da sa va tb db sb vb
      rw [HS1.out, HS3.out, HE1.out, HE3.out] at h
      simp only at h
      rw [HE2.out, HE4.out] at h
      exact h)
    obtain ⟨yc0, yc1, yc2, yc3⟩ := ope4 Hy.out
    obtain ⟨uc0, uc1, uc2, uc3⟩ := ope4 Hu.out
    clear kk
    obtain ⟨N1, hN1⟩ : ∃ N, (E1 != 0) = N := ⟨_, rfl⟩
    obtain ⟨N2, hN2⟩ : ∃ N, (E2 != 0) = N := ⟨_, rfl⟩
    obtain ⟨N3, hN3⟩ : ∃ N, (E3 != 0) = N := ⟨_, rfl⟩
    obtain ⟨N4, hN4⟩ : ∃ N, (E4 != 0) = N := ⟨_, rfl⟩
    have HNN : Hid ((N1 || N2) = (N3 || N4)) := Lib.hid (by
      rw [← hN1, ← hN2, ← hN3, ← hN4, Bool.eq_iff_iff]
      have h := HER.out
      simp only [Bool.or_eq_true, bne_iff_ne, ne_eq]
      constructor
      · intro h1; exact Classical.byContradiction fun h2 => by
          have h3 := h.2 ⟨Classical.byContradiction fun q => h2 (.inl q), Classical.byContradiction fun q => h2 (.inr q)⟩
          rcases h1 with h1 | h1
          · exact h1 h3.1
          · exact h1 h3.2
      · intro h1; exact Classical.byContradiction fun h2 => by
          have h3 := h.1 ⟨Classical.byContradiction fun q => h2 (.inl q), Classical.byContradiction fun q => h2 (.inr q)⟩
          rcases h1 with h1 | h1
          · exact h1 h3.1
          · exact h1 h3.2)
    have HN : Hid (N1 = false → N2 = false → E1 = 0 ∧ E2 = 0 ∧ E3 = 0 ∧ E4 = 0) := Lib.hid (fun h1 h2 => by
      rw [← hN1] at h1
      rw [← hN2] at h2
      have e1 : E1 = 0 := by simpa using h1
      have e2 : E2 = 0 := by simpa using h2
      have := HER.out.1 ⟨e1, e2⟩
      exact ⟨e1, e2, this.1, this.2⟩)
    clear HER
    cases N1 with
    | true =>
      have e9 := HNN.out
      cases N3 <;> cases N4 <;> cases N2 <;> (first | (cases e9; done) | (clear e9; go_wp2; go_ret; exact ⟨rfl, HB.out⟩))
    | false =>
    cases N2 with
    | true =>
      have e9 := HNN.out
      cases N3 <;> cases N4 <;> (first | (cases e9; done) | (clear e9; go_wp2; go_ret; exact ⟨rfl, HB.out⟩))
    | false =>
    obtain ⟨z1, z2, z3, z4⟩ := HN.out rfl rfl
    subst z1
    subst z2
    subst z3
    subst z4
    have e3 : N3 = false := by rw [← hN3]; rfl
    have e4 : N4 = false := by rw [← hN4]; rfl
    subst e3
    subst e4
    clear hN1 hN2 hN3 hN4 HNN HN
    have HLL : Hid (l2.length = l.length + 2 ∧ l4.length = l.length + 2 ∧ nx2 = nx4 ∧ l2.map (zeroNo nx) = l4.map (zeroNo nx)) := Lib.hid (by
      have f1 := HS1.out
      have f3 := HS3.out
      unfold pushS at f1 f3
      rw [if_pos HE1.out] at f1
      rw [if_pos HE3.out] at f3
      injection f1 with f1 g1
      injection g1 with g1 k1
      injection k1 with k1 m1
      injection f3 with f3 g3
      injection g3 with g3 k3
      injection k3 with k3 m3
      subst f1 g1 k1 m1 f3 g3 k3 m3
      have f2 := HS2.out
      have f4 := HS4.out
      unfold pushS at f2 f4
      rw [if_pos HE2.out] at f2
      rw [if_pos HE4.out] at f4
      injection f2 with f2 g2
      injection g2 with g2 k2
      injection k2 with k2 m2
      injection f4 with f4 g4
      injection g4 with g4 k4
      injection k4 with k4 m4
      subst f2 g2 k2 m2 f4 g4 k4 m4
      refine ⟨by rw [insE_len, insE_len], by rw [insE_len, insE_len], rfl, ?_⟩
      exact apart_lists (fun e he => (fitE_iff.1 ((okL_iff.1 (ckE_zero.1 HK.out).1).2.2.2.1 e he)).2.2.2.2.1) (HAP.out rfl))
    have hl24 : l2.length = l4.length := by rw [HLL.out.1, HLL.out.2.1]
    have e24 : ((l2.length : Int) != (l4.length : Int)) = false := by rw [hl24]; simp
    have e24' : (l2.length != l4.length) = false := by rw [hl24]; simp
    have HL24 := Lib.hid hl24
    clear hl24
    go_wp2
    clear yc0 yc1 yc2 yc3 uc0 uc1 uc2 uc3
    clear e24 e24'
    have HW9 : Hid (V12_0 = V12_0) := Lib.hid rfl
    go_loopg [16] l2.length (fun gh p wr => ∃ k : Nat, p = .int .i64 (k : Int) ∧ k + gh = l2.length ∧ Below V12_0.heap.size V12_0 wr)
    case atStart => exact ⟨0, rfl, by omega, Below.refl _ _⟩
    case round =>
      obtain ⟨k, rfl, hk, hb0⟩ := hrel
      have HB0 := Lib.hid hb0
      have HBr := Lib.hid (HB.out.trans (hb0.mono HB.out.size))
      have HQr := Lib.hid (block_kept Hq.out hb0)
      have HYr := Lib.hid (block_kept Hy.out hb0)
      have HUr := Lib.hid (block_kept Hu.out hb0)
      have hi2 := EvIn.keep HI2.out hb0 (Nat.le_refl _)
      have hi4 := EvIn.keep HI4.out hb0 (Nat.le_refl _)
      have HZ := Lib.hid hb0.size
      clear hb0
      obtain ⟨yc0, yc1, yc2, yc3⟩ := ope4 HYr.out
      obtain ⟨uc0, uc1, uc2, uc3⟩ := ope4 HUr.out
      by_cases hlt : k < l2.length
      · have d1 : decide (k < l2.length) = true := by simpa using hlt
        have d2 : decide ((k : Int) < (l2.length : Int)) = true := by rw [decide_eq_true_eq]; omega
        have hlt4 : k < l4.length := by have := HL24.out; omega
        have x1 : (k : Int) < (l2.length : Int) := by omega
        have x2 : (k : Int) < (l4.length : Int) := by omega
        have x3 : (k : Int) < 1000 := by have := HL2.out; omega
        have HPS : Hid (zeroNo nx l2[k] = zeroNo nx l4[k]) := Lib.hid (by
          have h := congrArg (fun m : List EV => m[k]?) HLL.out.2.2.2
          simpa [hlt, hlt4] using h)
        obtain ⟨b2, o2, e2⟩ := hi2.addr (by omega)
        obtain ⟨b4, o4, e4⟩ := hi4.addr (by omega)
        subst e2
        subst e4
        obtain ⟨p0, p1, p2, p3, p4⟩ := hi2.cells hlt
        have HC4 := Lib.hid (hi4.cells hlt4)
        clear hi2 hi4
        generalize l2[k] = P at *
        generalize l4[k] = S at *
        obtain ⟨pt, pd, pn, ps, pv⟩ := P
        obtain ⟨st, sd, sn, ss, sv⟩ := S
        have hzp := zero_parts HPS.out
        simp only at p0 p1 p2 p3 p4 hzp
        obtain ⟨rfl, rfl, rfl, rfl, hno⟩ := hzp
        have HNO := Lib.hid hno
        clear HPS hno
        obtain ⟨gp, hgp⟩ : ∃ g, wr.heap.size = g := ⟨_, rfl⟩
        obtain ⟨VP, hVP⟩ : ∃ W, wr.alloc (.cells #[.int .i64 pt, .int .i64 pd, .int .i64 pn, .int .i64 ps, .int .u64 pv] 35) = W := ⟨_, rfl⟩
        have hbVP : Below wr.heap.size wr VP := by rw [← hVP]; exact (Below.refl _ _).alloc (Nat.le_refl _) _
        have hzVP : VP.heap.size = gp + 1 := by rw [← hVP, World.size_alloc, hgp]
        have BBp : VP.heap[gp]? = some (.cells #[.int .i64 pt, .int .i64 pd, .int .i64 pn, .int .i64 ps, .int .u64 pv] 35 (0, 0)) := by rw [← hVP, ← hgp]; exact World.alloc_heap_new wr _
        have hbw := hbVP
        have HP1 := Lib.hid BBp
        have HGW : Hid (gp = wr.heap.size) := Lib.hid hgp.symm
        have hyv := block_kept HUr.out hbVP
        have HBP := Lib.hid (HBr.out.trans (hbw.mono HBr.out.size))
        have HBP0 := Lib.hid (HB0.out.trans (hbw.mono HB0.out.size))
        have HQP := Lib.hid (block_kept HQr.out hbVP)
        have hc4 : VP.cell? ⟨b4, o4 + k * 5, none⟩ = some (.int .i64 pt) ∧ VP.cell? ⟨b4, o4 + k * 5 + 1, none⟩ = some (.int .i64 pd) ∧ VP.cell? ⟨b4, o4 + k * 5 + 2, none⟩ = some (.int .i64 sn) ∧ VP.cell? ⟨b4, o4 + k * 5 + 3, none⟩ = some (.int .i64 ps) ∧ VP.cell? ⟨b4, o4 + k * 5 + 4, none⟩ = some (.int .u64 pv) := by
          have h := HC4.out
          exact ⟨keepc hbVP h.1, keepc hbVP h.2.1, keepc hbVP h.2.2.1, keepc hbVP h.2.2.2.1, keepc hbVP h.2.2.2.2⟩
        clear BBp hbw hbVP HC4
        have HVP := Lib.hid hVP
        clear hVP
        go_upto_region 14 with (fail)
        (try rw [hgp])
        (try rw [HVP.out])
        (try rw [hzVP])
        clear HVP hzVP hgp p0 p1 p2 p3 p4 yc0 yc1 yc2 yc3 uc0 uc1 uc2 uc3
        obtain ⟨s0, s1, s2, s3, s4⟩ := hc4
        obtain ⟨uc0, uc1, uc2, uc3⟩ := ope4 hyv
        clear hyv
        obtain ⟨gt, hgt⟩ : ∃ g, VP.heap.size = g := ⟨_, rfl⟩
        obtain ⟨VS, hVS⟩ : ∃ W, VP.alloc (.cells #[.int .i64 pt, .int .i64 pd, .int .i64 sn, .int .i64 ps, .int .u64 pv] 35) = W := ⟨_, rfl⟩
        have hbVS : Below VP.heap.size VP VS := by rw [← hVS]; exact (Below.refl _ _).alloc (Nat.le_refl _) _
        have hzVS : VS.heap.size = gt + 1 := by rw [← hVS, World.size_alloc, hgt]
        have BBs : VS.heap[gt]? = some (.cells #[.int .i64 pt, .int .i64 pd, .int .i64 sn, .int .i64 ps, .int .u64 pv] 35 (0, 0)) := by rw [← hVS, ← hgt]; exact World.alloc_heap_new VP _
        have hbw := hbVS
        have HS1' := Lib.hid BBs
        have HP2 := Lib.hid (block_kept HP1.out hbVS)
        have HBS := Lib.hid (HBP.out.trans (hbw.mono HBP.out.size))
        have HBS0 := Lib.hid (HBP0.out.trans (hbw.mono HBP0.out.size))
        have HQS := Lib.hid (block_kept HQP.out hbVS)
        have HGP : Hid (gp < gt ∧ wr.heap.size ≤ gp) := Lib.hid ⟨by have := (Array.getElem?_eq_some_iff.1 HP1.out).1; omega, by rw [HGW.out]; exact Nat.le_refl _⟩
        clear BBs hbw hbVS
        have HVS := Lib.hid hVS
        clear hVS
        go_upto_region 15 with (fail)
        (try rw [hgt])
        (try rw [HVS.out])
        (try rw [hzVS])
        clear HVS hzVS hgt s0 s1 s2 s3 s4 uc0 uc1 uc2 uc3
        obtain ⟨qc0, qc1, qc2, qc3⟩ := ope4 HQS.out
        obtain ⟨p0, p1, p2, p3, p4⟩ := ope5 HP2.out
        obtain ⟨s0, s1, s2, s3, s4⟩ := ope5 HS1'.out
        by_cases hn : nx ≤ pn ∨ nx ≤ sn
        · have fp := froz HP2.out 2
          have fs := froz HS1'.out 2
          obtain ⟨W6, hW6⟩ : ∃ W, VS.setCell ⟨gp, 2, none⟩ (.int .i64 0) = W := ⟨_, rfl⟩
          have bp6 : W6.heap[gp]? = some (.cells #[.int .i64 pt, .int .i64 pd, .int .i64 0, .int .i64 ps, .int .u64 pv] 35 (0, 0)) := by rw [← hW6]; simpa using block_set (j := 2) (v := .int .i64 0) HP2.out
          have bs6 : W6.heap[gt]? = some (.cells #[.int .i64 pt, .int .i64 pd, .int .i64 sn, .int .i64 ps, .int .u64 pv] 35 (0, 0)) := by rw [← hW6]; exact block_set_ne HS1'.out (by have := HGP.out; omega)
          have hb6 : Below w.heap.size w W6 := by rw [← hW6]; exact HBS.out.setCell (p := ⟨gp, 2, none⟩) (by show w.heap.size ≤ gp; have := HGP.out; have := HBr.out.size; omega) _
          have hc6 : Below V12_0.heap.size V12_0 W6 := by rw [← hW6]; exact HBS0.out.setCell (p := ⟨gp, 2, none⟩) (by show V12_0.heap.size ≤ gp; have := HGP.out; have := HZ.out; omega) _
          obtain ⟨W7, hW7⟩ : ∃ W, W6.setCell ⟨gt, 2, none⟩ (.int .i64 0) = W := ⟨_, rfl⟩
          have bp7 : W7.heap[gp]? = some (.cells #[.int .i64 pt, .int .i64 pd, .int .i64 0, .int .i64 ps, .int .u64 pv] 35 (0, 0)) := by rw [← hW7]; exact block_set_ne bp6 (by have := HGP.out; omega)
          have bs7 : W7.heap[gt]? = some (.cells #[.int .i64 pt, .int .i64 pd, .int .i64 0, .int .i64 ps, .int .u64 pv] 35 (0, 0)) := by rw [← hW7]; simpa using block_set (j := 2) (v := .int .i64 0) bs6
          have hb7 : Below w.heap.size w W7 := by rw [← hW7]; exact hb6.setCell (p := ⟨gt, 2, none⟩) (by show w.heap.size ≤ gt; have := HGP.out; have := HBr.out.size; omega) _
          have hc7 : Below V12_0.heap.size V12_0 W7 := by rw [← hW7]; exact hc6.setCell (p := ⟨gt, 2, none⟩) (by show V12_0.heap.size ≤ gt; have := HGP.out; have := HZ.out; omega) _
          have H7 := Lib.hid (And.intro bp7 (And.intro bs7 (And.intro hb7 hc7)))
          have fs6 := froz bs6 2
          obtain ⟨t0, t1, t2, t3, t4⟩ := ope5 bs6
          clear bp6 bs6 hb6 hc6 bp7 bs7 hb7 hc7
          have HW6 := Lib.hid hW6
          have HW7 := Lib.hid hW7
          clear hW6 hW7
          have qn : ∀ W, (binOp .neq 35 (.agg #[.int .i64 pt, .int .i64 pd, .int .i64 0, .int .i64 ps, .int .u64 pv]) (.agg #[.int .i64 pt, .int .i64 pd, .int .i64 0, .int .i64 ps, .int .u64 pv])).run Try.prog W = .ok (.bool false) W := fun W => by rw [ev_neq]; simp
          have fin : ∀ (hh : True), True := fun _ => trivial
          by_cases hp : nx ≤ pn
          · have h1 : decide (pn ≥ nx) = true := decide_eq_true hp
            have h1' : decide (nx ≤ pn) = true := h1
            clear hn hp
            go_upto_region 17 with (fail)
            (try rw [HW6.out])
            clear p0 p1 p2 p3 p4 s0 s1 s2 s3 s4 qc0 qc1 qc2 qc3 fp fs
            go_upto_region 18 with (fail)
            (try rw [HW7.out])
            clear t0 t1 t2 t3 t4 fs6
            obtain ⟨p0, p1, p2, p3, p4⟩ := ope5 H7.out.1
            obtain ⟨s0, s1, s2, s3, s4⟩ := ope5 H7.out.2.1
            go_wp2
            cases gk with
            | zero => omega
            | succ gg =>
              go_roundg gg
              case rel => exact ⟨k + 1, by first | rfl | (simp; done) | go_num, by omega, H7.out.2.2.2⟩
              case measure => omega
          · have h1 : decide (pn ≥ nx) = false := decide_eq_false hp
            have h1' : decide (nx ≤ pn) = false := h1
            have h2 : decide (sn ≥ nx) = true := decide_eq_true (by omega)
            have h2' : decide (nx ≤ sn) = true := h2
            clear hn hp
            go_upto_region 17 with (fail)
            (try rw [HW6.out])
            clear p0 p1 p2 p3 p4 s0 s1 s2 s3 s4 qc0 qc1 qc2 qc3 fp fs
            go_upto_region 18 with (fail)
            (try rw [HW7.out])
            clear t0 t1 t2 t3 t4 fs6
            obtain ⟨p0, p1, p2, p3, p4⟩ := ope5 H7.out.1
            obtain ⟨s0, s1, s2, s3, s4⟩ := ope5 H7.out.2.1
            go_wp2
            cases gk with
            | zero => omega
            | succ gg =>
              go_roundg gg
              case rel => exact ⟨k + 1, by first | rfl | (simp; done) | go_num, by omega, H7.out.2.2.2⟩
              case measure => omega
        · have h1 : decide (pn ≥ nx) = false := by rw [decide_eq_false_iff_not]; omega
          have h2 : decide (sn ≥ nx) = false := by rw [decide_eq_false_iff_not]; omega
          have h1' : decide (nx ≤ pn) = false := h1
          have h2' : decide (nx ≤ sn) = false := h2
          obtain rfl : pn = sn := HNO.out (by omega) (by omega)
          have qn : ∀ W, (binOp .neq 35 (.agg #[.int .i64 pt, .int .i64 pd, .int .i64 pn, .int .i64 ps, .int .u64 pv]) (.agg #[.int .i64 pt, .int .i64 pd, .int .i64 pn, .int .i64 ps, .int .u64 pv])).run Try.prog W = .ok (.bool false) W := fun W => by rw [ev_neq]; simp
          clear hn
          go_wp2
          cases gk with
          | zero => omega
          | succ gg =>
            go_roundg gg
            case rel => exact ⟨k + 1, by first | rfl | (simp; done) | go_num, by omega, HBS0.out⟩
            case measure => omega
      · have d1 : decide (k < l2.length) = false := by simpa using hlt
        have d2 : decide ((k : Int) < (l2.length : Int)) = false := by rw [decide_eq_false_iff_not]; omega
        have e7 : (nx2 == nx4) = true := by rw [HLL.out.2.2.1]; simp
        clear hi2 hi4
        go_wp2
        go_ret
        exact ⟨rfl, HBr.out⟩
  | true =>
    cases P2 with
    | true =>
      go_wp2
      go_ret
      exact ⟨rfl, HB.out⟩
    | false =>
      obtain ⟨K, hK⟩ : ∃ K, ckE now dl nx l = K := ⟨_, rfl⟩
      have cK := check_any a c l (by have := HLN.out; omega) now dl nx w3.heap.size w3 (Nat.le_refl _) HIl.out
      rw [hK] at cK
      have HK := Lib.hid hK
      clear hK
      go_wp2_with fail
      refine (cK).mono ?_
      clear qc0 qc1 qc2 qc3 rc0 rc1 rc2 rc3 sc0 sc1 sc2 sc3
      rintro e w4 ⟨rfl, hb⟩
      replace Hq := Lib.hid (block_kept Hq.out hb)
      replace Hr := Lib.hid (block_kept Hr.out hb)
      replace Hs := Lib.hid (block_kept Hs.out hb)
      replace HIl := Lib.hid (InRow.less hb.size (fun _ _ h => h) (EvIn.keep HIl.out hb (Nat.le_refl _)))
      replace HB := Lib.hid (HB.out.trans (hb.mono HB.out.size))
      clear hb
      clear cK
      obtain ⟨qc0, qc1, qc2, qc3⟩ := ope4 Hq.out
      obtain ⟨rc0, rc1, rc2, rc3⟩ := ope4 Hr.out
      obtain ⟨sc0, sc1, sc2, sc3⟩ := ope4 Hs.out
      by_cases hK0 : K = 0
      case neg =>
        have kk : (K != 0) = true := by simpa using hK0
        clear hK0
        go_wp2
        go_ret
        exact ⟨rfl, HB.out⟩
      subst hK0
      have kk : ((0 : Int) != 0) = false := rfl
      have cP := push_res (push_any a c l (by have := HLN.out; omega) HCC.out.1 HCC.out.2 now dl nx ta da sa va HVV.out.1 w4.heap.size w4 (Nat.le_refl _) HIl.out)
      obtain ⟨S1, hS1⟩ : ∃ S, pushS l now dl nx ta da sa va = S := ⟨_, rfl⟩
      obtain ⟨E1, hE1⟩ : ∃ E, pushF now dl nx l ta da sa = E := ⟨_, rfl⟩
      rw [hS1, hE1] at cP
      have HS1 := Lib.hid hS1
      have HE1 := Lib.hid hE1
      clear hS1 hE1
      obtain ⟨l1, now1, dl1, nx1⟩ := S1
      go_wp2_with fail
      refine (cP).mono ?_
      clear qc0 qc1 qc2 qc3 rc0 rc1 rc2 rc3 sc0 sc1 sc2 sc3
      rintro e w5 ⟨hb, a1, c1, rfl, hi1, k1, k2⟩
      replace Hq := Lib.hid (block_kept Hq.out hb)
      replace Hr := Lib.hid (block_kept Hr.out hb)
      replace Hs := Lib.hid (block_kept Hs.out hb)
      replace HIl := Lib.hid (InRow.less hb.size (fun _ _ h => h) (EvIn.keep HIl.out hb (Nat.le_refl _)))
      replace HB := Lib.hid (HB.out.trans (hb.mono HB.out.size))
      clear hb
      clear cP
      have HI1 := Lib.hid hi1
      have HK1 := Lib.hid (And.intro k1 k2)
      clear hi1 k1 k2
      obtain ⟨gx, hgx⟩ : ∃ g, w5.heap.size = g := ⟨_, rfl⟩
      obtain ⟨V6_0, hV6_0⟩ : ∃ W, w5.alloc (.cells #[.slice a1 l1.length c1, .int .i64 now1, .int .i64 dl1, .int .i64 nx1] 24) = W := ⟨_, rfl⟩
      have hbV6_0 : Below w5.heap.size w5 V6_0 := by rw [← hV6_0]; exact (Below.refl _ _).alloc (Nat.le_refl _) _
      have hzV6_0 : V6_0.heap.size = gx + 1 := by rw [← hV6_0, World.size_alloc, hgx]
      have BBx : V6_0.heap[gx]? = some (.cells #[.slice a1 l1.length c1, .int .i64 now1, .int .i64 dl1, .int .i64 nx1] 24 (0, 0)) := by rw [← hV6_0, ← hgx]; exact World.alloc_heap_new w5 _
      have hbw := hbV6_0
      have hbx6 : Below w5.heap.size w5 V6_0 := hbw
      replace Hq := Lib.hid (block_kept Hq.out hbx6)
      replace Hr := Lib.hid (block_kept Hr.out hbx6)
      replace Hs := Lib.hid (block_kept Hs.out hbx6)
      replace HIl := Lib.hid (InRow.less hbx6.size (fun _ _ h => h) (EvIn.keep HIl.out hbx6 (Nat.le_refl _)))
      replace HI1 := Lib.hid (InRow.less hbx6.size (fun _ _ h => h) (EvIn.keep HI1.out hbx6 (Nat.le_refl _)))
      replace HB := Lib.hid (HB.out.trans (hbx6.mono HB.out.size))
      have Hx := Lib.hid BBx
      clear BBx hbw hbx6 hbV6_0
      have HV6_0 := Lib.hid hV6_0
      clear hV6_0
      go_upto_region 5 with (fail)
      (try rw [hgx])
      (try rw [HV6_0.out])
      (try rw [hzV6_0])
      clear HV6_0 hzV6_0 hgx
      have HL1 : Hid (l1.length ≤ 301) := Lib.hid (push_len HS1.out HLN.out)
      obtain ⟨xc0, xc1, xc2, xc3⟩ := ope4 Hx.out
      obtain ⟨sc0, sc1, sc2, sc3⟩ := ope4 Hs.out
      have cP := push_res (push_any a1 c1 l1 (by have := HL1.out; omega) HK1.out.1 HK1.out.2 now1 dl1 nx1 tb db sb vb HVV.out.2 V6_0.heap.size V6_0 (Nat.le_refl _) HI1.out)
      obtain ⟨S2, hS2⟩ : ∃ S, pushS l1 now1 dl1 nx1 tb db sb vb = S := ⟨_, rfl⟩
      obtain ⟨E2, hE2⟩ : ∃ E, pushF now1 dl1 nx1 l1 tb db sb = E := ⟨_, rfl⟩
      rw [hS2, hE2] at cP
      have HS2 := Lib.hid hS2
      have HE2 := Lib.hid hE2
      clear hS2 hE2
      obtain ⟨l2, now2, dl2, nx2⟩ := S2
      go_wp2_with fail
      refine (cP).mono ?_
      clear xc0 xc1 xc2 xc3 sc0 sc1 sc2 sc3
      rintro e w7 ⟨hb, a2, c2, rfl, hi2, k1, k2⟩
      replace Hq := Lib.hid (block_kept Hq.out hb)
      replace Hr := Lib.hid (block_kept Hr.out hb)
      replace Hs := Lib.hid (block_kept Hs.out hb)
      replace Hx := Lib.hid (block_kept Hx.out hb)
      replace HIl := Lib.hid (InRow.less hb.size (fun _ _ h => h) (EvIn.keep HIl.out hb (Nat.le_refl _)))
      replace HI1 := Lib.hid (InRow.less hb.size (fun _ _ h => h) (EvIn.keep HI1.out hb (Nat.le_refl _)))
      replace HB := Lib.hid (HB.out.trans (hb.mono HB.out.size))
      clear hb
      clear cP
      have HI2 := Lib.hid hi2
      have HK2 := Lib.hid (And.intro k1 k2)
      clear hi2 k1 k2
      obtain ⟨gy, hgy⟩ : ∃ g, w7.heap.size = g := ⟨_, rfl⟩
      obtain ⟨V8_0, hV8_0⟩ : ∃ W, w7.alloc (.cells #[.slice a2 l2.length c2, .int .i64 now2, .int .i64 dl2, .int .i64 nx2] 24) = W := ⟨_, rfl⟩
      have hbV8_0 : Below w7.heap.size w7 V8_0 := by rw [← hV8_0]; exact (Below.refl _ _).alloc (Nat.le_refl _) _
      have hzV8_0 : V8_0.heap.size = gy + 1 := by rw [← hV8_0, World.size_alloc, hgy]
      have BBy : V8_0.heap[gy]? = some (.cells #[.slice a2 l2.length c2, .int .i64 now2, .int .i64 dl2, .int .i64 nx2] 24 (0, 0)) := by rw [← hV8_0, ← hgy]; exact World.alloc_heap_new w7 _
      have hbw := hbV8_0
      have hbx8 : Below w7.heap.size w7 V8_0 := hbw
      replace Hq := Lib.hid (block_kept Hq.out hbx8)
      replace Hr := Lib.hid (block_kept Hr.out hbx8)
      replace Hs := Lib.hid (block_kept Hs.out hbx8)
      replace Hx := Lib.hid (block_kept Hx.out hbx8)
      replace HIl := Lib.hid (InRow.less hbx8.size (fun _ _ h => h) (EvIn.keep HIl.out hbx8 (Nat.le_refl _)))
      replace HI1 := Lib.hid (InRow.less hbx8.size (fun _ _ h => h) (EvIn.keep HI1.out hbx8 (Nat.le_refl _)))
      replace HI2 := Lib.hid (InRow.less hbx8.size (fun _ _ h => h) (EvIn.keep HI2.out hbx8 (Nat.le_refl _)))
      replace HB := Lib.hid (HB.out.trans (hbx8.mono HB.out.size))
      have Hy := Lib.hid BBy
      clear BBy hbw hbx8 hbV8_0
      have HV8_0 := Lib.hid hV8_0
      clear hV8_0
      go_upto_region 6 with (fail)
      (try rw [hgy])
      (try rw [HV8_0.out])
      (try rw [hzV8_0])
      clear HV8_0 hzV8_0 hgy
      have HL2 : Hid (l2.length ≤ 302) := Lib.hid (push_len HS2.out HL1.out)
      obtain ⟨qc0, qc1, qc2, qc3⟩ := ope4 Hq.out
      obtain ⟨sc0, sc1, sc2, sc3⟩ := ope4 Hs.out
      have cP := push_res (push_any a c l (by have := HLN.out; omega) HCC.out.1 HCC.out.2 now dl nx tb db sb vb HVV.out.2 V8_0.heap.size V8_0 (Nat.le_refl _) HIl.out)
      obtain ⟨S3, hS3⟩ : ∃ S, pushS l now dl nx tb db sb vb = S := ⟨_, rfl⟩
      obtain ⟨E3, hE3⟩ : ∃ E, pushF now dl nx l tb db sb = E := ⟨_, rfl⟩
      rw [hS3, hE3] at cP
      have HS3 := Lib.hid hS3
      have HE3 := Lib.hid hE3
      clear hS3 hE3
      obtain ⟨l3, now3, dl3, nx3⟩ := S3
      go_wp2_with fail
      refine (cP).mono ?_
      clear qc0 qc1 qc2 qc3 sc0 sc1 sc2 sc3
      rintro e w9 ⟨hb, a3, c3, rfl, hi3, k1, k2⟩
      replace Hq := Lib.hid (block_kept Hq.out hb)
      replace Hr := Lib.hid (block_kept Hr.out hb)
      replace Hs := Lib.hid (block_kept Hs.out hb)
      replace Hx := Lib.hid (block_kept Hx.out hb)
      replace Hy := Lib.hid (block_kept Hy.out hb)
      replace HIl := Lib.hid (InRow.less hb.size (fun _ _ h => h) (EvIn.keep HIl.out hb (Nat.le_refl _)))
      replace HI1 := Lib.hid (InRow.less hb.size (fun _ _ h => h) (EvIn.keep HI1.out hb (Nat.le_refl _)))
      replace HI2 := Lib.hid (InRow.less hb.size (fun _ _ h => h) (EvIn.keep HI2.out hb (Nat.le_refl _)))
      replace HB := Lib.hid (HB.out.trans (hb.mono HB.out.size))
      clear hb
      clear cP
      have HI3 := Lib.hid hi3
      have HK3 := Lib.hid (And.intro k1 k2)
      clear hi3 k1 k2
      obtain ⟨gz, hgz⟩ : ∃ g, w9.heap.size = g := ⟨_, rfl⟩
      obtain ⟨V10_0, hV10_0⟩ : ∃ W, w9.alloc (.cells #[.slice a3 l3.length c3, .int .i64 now3, .int .i64 dl3, .int .i64 nx3] 24) = W := ⟨_, rfl⟩
      have hbV10_0 : Below w9.heap.size w9 V10_0 := by rw [← hV10_0]; exact (Below.refl _ _).alloc (Nat.le_refl _) _
      have hzV10_0 : V10_0.heap.size = gz + 1 := by rw [← hV10_0, World.size_alloc, hgz]
      have BBz : V10_0.heap[gz]? = some (.cells #[.slice a3 l3.length c3, .int .i64 now3, .int .i64 dl3, .int .i64 nx3] 24 (0, 0)) := by rw [← hV10_0, ← hgz]; exact World.alloc_heap_new w9 _
      have hbw := hbV10_0
      have hbx10 : Below w9.heap.size w9 V10_0 := hbw
      replace Hq := Lib.hid (block_kept Hq.out hbx10)
      replace Hr := Lib.hid (block_kept Hr.out hbx10)
      replace Hs := Lib.hid (block_kept Hs.out hbx10)
      replace Hx := Lib.hid (block_kept Hx.out hbx10)
      replace Hy := Lib.hid (block_kept Hy.out hbx10)
      replace HIl := Lib.hid (InRow.less hbx10.size (fun _ _ h => h) (EvIn.keep HIl.out hbx10 (Nat.le_refl _)))
      replace HI1 := Lib.hid (InRow.less hbx10.size (fun _ _ h => h) (EvIn.keep HI1.out hbx10 (Nat.le_refl _)))
      replace HI2 := Lib.hid (InRow.less hbx10.size (fun _ _ h => h) (EvIn.keep HI2.out hbx10 (Nat.le_refl _)))
      replace HI3 := Lib.hid (InRow.less hbx10.size (fun _ _ h => h) (EvIn.keep HI3.out hbx10 (Nat.le_refl _)))
      replace HB := Lib.hid (HB.out.trans (hbx10.mono HB.out.size))
      have Hz := Lib.hid BBz
      clear BBz hbw hbx10 hbV10_0
      have HV10_0 := Lib.hid hV10_0
      clear hV10_0
      go_upto_region 7 with (fail)
      (try rw [hgz])
      (try rw [HV10_0.out])
      (try rw [hzV10_0])
      clear HV10_0 hzV10_0 hgz
      have HL3 : Hid (l3.length ≤ 301) := Lib.hid (push_len HS3.out HLN.out)
      obtain ⟨zc0, zc1, zc2, zc3⟩ := ope4 Hz.out
      obtain ⟨rc0, rc1, rc2, rc3⟩ := ope4 Hr.out
      have cP := push_res (push_any a3 c3 l3 (by have := HL3.out; omega) HK3.out.1 HK3.out.2 now3 dl3 nx3 ta da sa va HVV.out.1 V10_0.heap.size V10_0 (Nat.le_refl _) HI3.out)
      obtain ⟨S4, hS4⟩ : ∃ S, pushS l3 now3 dl3 nx3 ta da sa va = S := ⟨_, rfl⟩
      obtain ⟨E4, hE4⟩ : ∃ E, pushF now3 dl3 nx3 l3 ta da sa = E := ⟨_, rfl⟩
      rw [hS4, hE4] at cP
      have HS4 := Lib.hid hS4
      have HE4 := Lib.hid hE4
      clear hS4 hE4
      obtain ⟨l4, now4, dl4, nx4⟩ := S4
      go_wp2_with fail
      refine (cP).mono ?_
      clear zc0 zc1 zc2 zc3 rc0 rc1 rc2 rc3
      rintro e w11 ⟨hb, a4, c4, rfl, hi4, k1, k2⟩
      replace Hq := Lib.hid (block_kept Hq.out hb)
      replace Hr := Lib.hid (block_kept Hr.out hb)
      replace Hs := Lib.hid (block_kept Hs.out hb)
      replace Hx := Lib.hid (block_kept Hx.out hb)
      replace Hy := Lib.hid (block_kept Hy.out hb)
      replace Hz := Lib.hid (block_kept Hz.out hb)
      replace HIl := Lib.hid (InRow.less hb.size (fun _ _ h => h) (EvIn.keep HIl.out hb (Nat.le_refl _)))
      replace HI1 := Lib.hid (InRow.less hb.size (fun _ _ h => h) (EvIn.keep HI1.out hb (Nat.le_refl _)))
      replace HI2 := Lib.hid (InRow.less hb.size (fun _ _ h => h) (EvIn.keep HI2.out hb (Nat.le_refl _)))
      replace HI3 := Lib.hid (InRow.less hb.size (fun _ _ h => h) (EvIn.keep HI3.out hb (Nat.le_refl _)))
      replace HB := Lib.hid (HB.out.trans (hb.mono HB.out.size))
      clear hb
      clear cP
      have HI4 := Lib.hid hi4
      have HK4 := Lib.hid (And.intro k1 k2)
      clear hi4 k1 k2
      obtain ⟨gu, hgu⟩ : ∃ g, w11.heap.size = g := ⟨_, rfl⟩
      obtain ⟨V12_0, hV12_0⟩ : ∃ W, w11.alloc (.cells #[.slice a4 l4.length c4, .int .i64 now4, .int .i64 dl4, .int .i64 nx4] 24) = W := ⟨_, rfl⟩
      have hbV12_0 : Below w11.heap.size w11 V12_0 := by rw [← hV12_0]; exact (Below.refl _ _).alloc (Nat.le_refl _) _
      have hzV12_0 : V12_0.heap.size = gu + 1 := by rw [← hV12_0, World.size_alloc, hgu]
      have BBu : V12_0.heap[gu]? = some (.cells #[.slice a4 l4.length c4, .int .i64 now4, .int .i64 dl4, .int .i64 nx4] 24 (0, 0)) := by rw [← hV12_0, ← hgu]; exact World.alloc_heap_new w11 _
      have hbw := hbV12_0
      have hbx12 : Below w11.heap.size w11 V12_0 := hbw
      replace Hq := Lib.hid (block_kept Hq.out hbx12)
      replace Hr := Lib.hid (block_kept Hr.out hbx12)
      replace Hs := Lib.hid (block_kept Hs.out hbx12)
      replace Hx := Lib.hid (block_kept Hx.out hbx12)
      replace Hy := Lib.hid (block_kept Hy.out hbx12)
      replace Hz := Lib.hid (block_kept Hz.out hbx12)
      replace HIl := Lib.hid (InRow.less hbx12.size (fun _ _ h => h) (EvIn.keep HIl.out hbx12 (Nat.le_refl _)))
      replace HI1 := Lib.hid (InRow.less hbx12.size (fun _ _ h => h) (EvIn.keep HI1.out hbx12 (Nat.le_refl _)))
      replace HI2 := Lib.hid (InRow.less hbx12.size (fun _ _ h => h) (EvIn.keep HI2.out hbx12 (Nat.le_refl _)))
      replace HI3 := Lib.hid (InRow.less hbx12.size (fun _ _ h => h) (EvIn.keep HI3.out hbx12 (Nat.le_refl _)))
      replace HI4 := Lib.hid (InRow.less hbx12.size (fun _ _ h => h) (EvIn.keep HI4.out hbx12 (Nat.le_refl _)))
      replace HB := Lib.hid (HB.out.trans (hbx12.mono HB.out.size))
      have Hu := Lib.hid BBu
      clear BBu hbw hbx12 hbV12_0
      have HV12_0 := Lib.hid hV12_0
      clear hV12_0
      go_upto_region 8 with (fail)
      (try rw [hgu])
      (try rw [HV12_0.out])
      (try rw [hzV12_0])
      clear HV12_0 hzV12_0 hgu
      have HL4 : Hid (l4.length ≤ 302) := Lib.hid (push_len HS4.out HL3.out)
      have HER : Hid ((E1 = 0 ∧ E2 = 0) ↔ (E3 = 0 ∧ E4 = 0)) := Lib.hid (by
        have h := apart_errs HK.out HLN.out ta da sa va tb db sb vb
        rw [HS1.out, HS3.out, HE1.out, HE3.out] at h
        simp only at h
        rw [HE2.out, HE4.out] at h
        exact h)
      obtain ⟨yc0, yc1, yc2, yc3⟩ := ope4 Hy.out
      obtain ⟨uc0, uc1, uc2, uc3⟩ := ope4 Hu.out
      clear kk
      obtain ⟨N1, hN1⟩ : ∃ N, (E1 != 0) = N := ⟨_, rfl⟩
      obtain ⟨N2, hN2⟩ : ∃ N, (E2 != 0) = N := ⟨_, rfl⟩
      obtain ⟨N3, hN3⟩ : ∃ N, (E3 != 0) = N := ⟨_, rfl⟩
      obtain ⟨N4, hN4⟩ : ∃ N, (E4 != 0) = N := ⟨_, rfl⟩
      have HNN : Hid ((N1 || N2) = (N3 || N4)) := Lib.hid (by
        rw [← hN1, ← hN2, ← hN3, ← hN4, Bool.eq_iff_iff]
        have h := HER.out
        simp only [Bool.or_eq_true, bne_iff_ne, ne_eq]
        constructor
        · intro h1; exact Classical.byContradiction fun h2 => by
            have h3 := h.2 ⟨Classical.byContradiction fun q => h2 (.inl q), Classical.byContradiction fun q => h2 (.inr q)⟩
            rcases h1 with h1 | h1
            · exact h1 h3.1
            · exact h1 h3.2
        · intro h1; exact Classical.byContradiction fun h2 => by
            have h3 := h.1 ⟨Classical.byContradiction fun q => h2 (.inl q), Classical.byContradiction fun q => h2 (.inr q)⟩
            rcases h1 with h1 | h1
            · exact h1 h3.1
            · exact h1 h3.2)
      have HN : Hid (N1 = false → N2 = false → E1 = 0 ∧ E2 = 0 ∧ E3 = 0 ∧ E4 = 0) := Lib.hid (fun h1 h2 => by
        rw [← hN1] at h1
        rw [← hN2] at h2
        have e1 : E1 = 0 := by simpa using h1
        have e2 : E2 = 0 := by simpa using h2
        have := HER.out.1 ⟨e1, e2⟩
        exact ⟨e1, e2, this.1, this.2⟩)
      clear HER
      cases N1 with
      | true =>
        have e9 := HNN.out
        cases N3 <;> cases N4 <;> cases N2 <;> (first | (cases e9; done) | (clear e9; go_wp2; go_ret; exact ⟨rfl, HB.out⟩))
      | false =>
      cases N2 with
      | true =>
        have e9 := HNN.out
        cases N3 <;> cases N4 <;> (first | (cases e9; done) | (clear e9; go_wp2; go_ret; exact ⟨rfl, HB.out⟩))
      | false =>
      obtain ⟨z1, z2, z3, z4⟩ := HN.out rfl rfl
      subst z1
      subst z2
      subst z3
      subst z4
      have e3 : N3 = false := by rw [← hN3]; rfl
      have e4 : N4 = false := by rw [← hN4]; rfl
      subst e3
      subst e4
      clear hN1 hN2 hN3 hN4 HNN HN
      have HLL : Hid (l2.length = l.length + 2 ∧ l4.length = l.length + 2 ∧ nx2 = nx4 ∧ l2.map (zeroNo nx) = l4.map (zeroNo nx)) := Lib.hid (by
        have f1 := HS1.out
        have f3 := HS3.out
        unfold pushS at f1 f3
        rw [if_pos HE1.out] at f1
        rw [if_pos HE3.out] at f3
        injection f1 with f1 g1
        injection g1 with g1 k1
        injection k1 with k1 m1
        injection f3 with f3 g3
        injection g3 with g3 k3
        injection k3 with k3 m3
        subst f1 g1 k1 m1 f3 g3 k3 m3
        have f2 := HS2.out
        have f4 := HS4.out
        unfold pushS at f2 f4
        rw [if_pos HE2.out] at f2
        rw [if_pos HE4.out] at f4
        injection f2 with f2 g2
        injection g2 with g2 k2
        injection k2 with k2 m2
        injection f4 with f4 g4
        injection g4 with g4 k4
        injection k4 with k4 m4
        subst f2 g2 k2 m2 f4 g4 k4 m4
        refine ⟨by rw [insE_len, insE_len], by rw [insE_len, insE_len], rfl, ?_⟩
        exact apart_lists (fun e he => (fitE_iff.1 ((okL_iff.1 (ckE_zero.1 HK.out).1).2.2.2.1 e he)).2.2.2.2.1) (HAP.out rfl))
      have hl24 : l2.length = l4.length := by rw [HLL.out.1, HLL.out.2.1]
      have e24 : ((l2.length : Int) != (l4.length : Int)) = false := by rw [hl24]; simp
      have e24' : (l2.length != l4.length) = false := by rw [hl24]; simp
      have HL24 := Lib.hid hl24
      clear hl24
      go_wp2
      clear yc0 yc1 yc2 yc3 uc0 uc1 uc2 uc3
      clear e24 e24'
      have HW9 : Hid (V12_0 = V12_0) := Lib.hid rfl
      go_loopg [16] l2.length (fun gh p wr => ∃ k : Nat, p = .int .i64 (k : Int) ∧ k + gh = l2.length ∧ Below V12_0.heap.size V12_0 wr)
      case atStart => exact ⟨0, rfl, by omega, Below.refl _ _⟩
      case round =>
        obtain ⟨k, rfl, hk, hb0⟩ := hrel
        have HB0 := Lib.hid hb0
        have HBr := Lib.hid (HB.out.trans (hb0.mono HB.out.size))
        have HQr := Lib.hid (block_kept Hq.out hb0)
        have HYr := Lib.hid (block_kept Hy.out hb0)
        have HUr := Lib.hid (block_kept Hu.out hb0)
        have hi2 := EvIn.keep HI2.out hb0 (Nat.le_refl _)
        have hi4 := EvIn.keep HI4.out hb0 (Nat.le_refl _)
        have HZ := Lib.hid hb0.size
        clear hb0
        obtain ⟨yc0, yc1, yc2, yc3⟩ := ope4 HYr.out
        obtain ⟨uc0, uc1, uc2, uc3⟩ := ope4 HUr.out
        by_cases hlt : k < l2.length
        · have d1 : decide (k < l2.length) = true := by simpa using hlt
          have d2 : decide ((k : Int) < (l2.length : Int)) = true := by rw [decide_eq_true_eq]; omega
          have hlt4 : k < l4.length := by have := HL24.out; omega
          have x1 : (k : Int) < (l2.length : Int) := by omega
          have x2 : (k : Int) < (l4.length : Int) := by omega
          have x3 : (k : Int) < 1000 := by have := HL2.out; omega
          have HPS : Hid (zeroNo nx l2[k] = zeroNo nx l4[k]) := Lib.hid (by
            have h := congrArg (fun m : List EV => m[k]?) HLL.out.2.2.2
            simpa [hlt, hlt4] using h)
          obtain ⟨b2, o2, e2⟩ := hi2.addr (by omega)
          obtain ⟨b4, o4, e4⟩ := hi4.addr (by omega)
          subst e2
          subst e4
          obtain ⟨p0, p1, p2, p3, p4⟩ := hi2.cells hlt
          have HC4 := Lib.hid (hi4.cells hlt4)
          clear hi2 hi4
          generalize l2[k] = P at *
          generalize l4[k] = S at *
          obtain ⟨pt, pd, pn, ps, pv⟩ := P
          obtain ⟨st, sd, sn, ss, sv⟩ := S
          have hzp := zero_parts HPS.out
          simp only at p0 p1 p2 p3 p4 hzp
          obtain ⟨rfl, rfl, rfl, rfl, hno⟩ := hzp
          have HNO := Lib.hid hno
          clear HPS hno
          obtain ⟨gp, hgp⟩ : ∃ g, wr.heap.size = g := ⟨_, rfl⟩
          obtain ⟨VP, hVP⟩ : ∃ W, wr.alloc (.cells #[.int .i64 pt, .int .i64 pd, .int .i64 pn, .int .i64 ps, .int .u64 pv] 35) = W := ⟨_, rfl⟩
          have hbVP : Below wr.heap.size wr VP := by rw [← hVP]; exact (Below.refl _ _).alloc (Nat.le_refl _) _
          have hzVP : VP.heap.size = gp + 1 := by rw [← hVP, World.size_alloc, hgp]
          have BBp : VP.heap[gp]? = some (.cells #[.int .i64 pt, .int .i64 pd, .int .i64 pn, .int .i64 ps, .int .u64 pv] 35 (0, 0)) := by rw [← hVP, ← hgp]; exact World.alloc_heap_new wr _
          have hbw := hbVP
          have HP1 := Lib.hid BBp
          have HGW : Hid (gp = wr.heap.size) := Lib.hid hgp.symm
          have hyv := block_kept HUr.out hbVP
          have HBP := Lib.hid (HBr.out.trans (hbw.mono HBr.out.size))
          have HBP0 := Lib.hid (HB0.out.trans (hbw.mono HB0.out.size))
          have HQP := Lib.hid (block_kept HQr.out hbVP)
          have hc4 : VP.cell? ⟨b4, o4 + k * 5, none⟩ = some (.int .i64 pt) ∧ VP.cell? ⟨b4, o4 + k * 5 + 1, none⟩ = some (.int .i64 pd) ∧ VP.cell? ⟨b4, o4 + k * 5 + 2, none⟩ = some (.int .i64 sn) ∧ VP.cell? ⟨b4, o4 + k * 5 + 3, none⟩ = some (.int .i64 ps) ∧ VP.cell? ⟨b4, o4 + k * 5 + 4, none⟩ = some (.int .u64 pv) := by
            have h := HC4.out
            exact ⟨keepc hbVP h.1, keepc hbVP h.2.1, keepc hbVP h.2.2.1, keepc hbVP h.2.2.2.1, keepc hbVP h.2.2.2.2⟩
          clear BBp hbw hbVP HC4
          have HVP := Lib.hid hVP
          clear hVP
          go_upto_region 14 with (fail)
          (try rw [hgp])
          (try rw [HVP.out])
          (try rw [hzVP])
          clear HVP hzVP hgp p0 p1 p2 p3 p4 yc0 yc1 yc2 yc3 uc0 uc1 uc2 uc3
          obtain ⟨s0, s1, s2, s3, s4⟩ := hc4
          obtain ⟨uc0, uc1, uc2, uc3⟩ := ope4 hyv
          clear hyv
          obtain ⟨gt, hgt⟩ : ∃ g, VP.heap.size = g := ⟨_, rfl⟩
          obtain ⟨VS, hVS⟩ : ∃ W, VP.alloc (.cells #[.int .i64 pt, .int .i64 pd, .int .i64 sn, .int .i64 ps, .int .u64 pv] 35) = W := ⟨_, rfl⟩
          have hbVS : Below VP.heap.size VP VS := by rw [← hVS]; exact (Below.refl _ _).alloc (Nat.le_refl _) _
          have hzVS : VS.heap.size = gt + 1 := by rw [← hVS, World.size_alloc, hgt]
          have BBs : VS.heap[gt]? = some (.cells #[.int .i64 pt, .int .i64 pd, .int .i64 sn, .int .i64 ps, .int .u64 pv] 35 (0, 0)) := by rw [← hVS, ← hgt]; exact World.alloc_heap_new VP _
          have hbw := hbVS
          have HS1' := Lib.hid BBs
          have HP2 := Lib.hid (block_kept HP1.out hbVS)
          have HBS := Lib.hid (HBP.out.trans (hbw.mono HBP.out.size))
          have HBS0 := Lib.hid (HBP0.out.trans (hbw.mono HBP0.out.size))
          have HQS := Lib.hid (block_kept HQP.out hbVS)
          have HGP : Hid (gp < gt ∧ wr.heap.size ≤ gp) := Lib.hid ⟨by have := (Array.getElem?_eq_some_iff.1 HP1.out).1; omega, by rw [HGW.out]; exact Nat.le_refl _⟩
          clear BBs hbw hbVS
          have HVS := Lib.hid hVS
          clear hVS
          go_upto_region 15 with (fail)
          (try rw [hgt])
          (try rw [HVS.out])
          (try rw [hzVS])
          clear HVS hzVS hgt s0 s1 s2 s3 s4 uc0 uc1 uc2 uc3
          obtain ⟨qc0, qc1, qc2, qc3⟩ := ope4 HQS.out
          obtain ⟨p0, p1, p2, p3, p4⟩ := ope5 HP2.out
          obtain ⟨s0, s1, s2, s3, s4⟩ := ope5 HS1'.out
          by_cases hn : nx ≤ pn ∨ nx ≤ sn
          · have fp := froz HP2.out 2
            have fs := froz HS1'.out 2
            obtain ⟨W6, hW6⟩ : ∃ W, VS.setCell ⟨gp, 2, none⟩ (.int .i64 0) = W := ⟨_, rfl⟩
            have bp6 : W6.heap[gp]? = some (.cells #[.int .i64 pt, .int .i64 pd, .int .i64 0, .int .i64 ps, .int .u64 pv] 35 (0, 0)) := by rw [← hW6]; simpa using block_set (j := 2) (v := .int .i64 0) HP2.out
            have bs6 : W6.heap[gt]? = some (.cells #[.int .i64 pt, .int .i64 pd, .int .i64 sn, .int .i64 ps, .int .u64 pv] 35 (0, 0)) := by rw [← hW6]; exact block_set_ne HS1'.out (by have := HGP.out; omega)
            have hb6 : Below w.heap.size w W6 := by rw [← hW6]; exact HBS.out.setCell (p := ⟨gp, 2, none⟩) (by show w.heap.size ≤ gp; have := HGP.out; have := HBr.out.size; omega) _
            have hc6 : Below V12_0.heap.size V12_0 W6 := by rw [← hW6]; exact HBS0.out.setCell (p := ⟨gp, 2, none⟩) (by show V12_0.heap.size ≤ gp; have := HGP.out; have := HZ.out; omega) _
            obtain ⟨W7, hW7⟩ : ∃ W, W6.setCell ⟨gt, 2, none⟩ (.int .i64 0) = W := ⟨_, rfl⟩
            have bp7 : W7.heap[gp]? = some (.cells #[.int .i64 pt, .int .i64 pd, .int .i64 0, .int .i64 ps, .int .u64 pv] 35 (0, 0)) := by rw [← hW7]; exact block_set_ne bp6 (by have := HGP.out; omega)
            have bs7 : W7.heap[gt]? = some (.cells #[.int .i64 pt, .int .i64 pd, .int .i64 0, .int .i64 ps, .int .u64 pv] 35 (0, 0)) := by rw [← hW7]; simpa using block_set (j := 2) (v := .int .i64 0) bs6
            have hb7 : Below w.heap.size w W7 := by rw [← hW7]; exact hb6.setCell (p := ⟨gt, 2, none⟩) (by show w.heap.size ≤ gt; have := HGP.out; have := HBr.out.size; omega) _
            have hc7 : Below V12_0.heap.size V12_0 W7 := by rw [← hW7]; exact hc6.setCell (p := ⟨gt, 2, none⟩) (by show V12_0.heap.size ≤ gt; have := HGP.out; have := HZ.out; omega) _
            have H7 := Lib.hid (And.intro bp7 (And.intro bs7 (And.intro hb7 hc7)))
            have fs6 := froz bs6 2
            obtain ⟨t0, t1, t2, t3, t4⟩ := ope5 bs6
            clear bp6 bs6 hb6 hc6 bp7 bs7 hb7 hc7
            have HW6 := Lib.hid hW6
            have HW7 := Lib.hid hW7
            clear hW6 hW7
            have qn : ∀ W, (binOp .neq 35 (.agg #[.int .i64 pt, .int .i64 pd, .int .i64 0, .int .i64 ps, .int .u64 pv]) (.agg #[.int .i64 pt, .int .i64 pd, .int .i64 0, .int .i64 ps, .int .u64 pv])).run Try.prog W = .ok (.bool false) W := fun W => by rw [ev_neq]; simp
            have fin : ∀ (hh : True), True := fun _ => trivial
            by_cases hp : nx ≤ pn
            · have h1 : decide (pn ≥ nx) = true := decide_eq_true hp
              have h1' : decide (nx ≤ pn) = true := h1
              clear hn hp
              go_upto_region 17 with (fail)
              (try rw [HW6.out])
              clear p0 p1 p2 p3 p4 s0 s1 s2 s3 s4 qc0 qc1 qc2 qc3 fp fs
              go_upto_region 18 with (fail)
              (try rw [HW7.out])
              clear t0 t1 t2 t3 t4 fs6
              obtain ⟨p0, p1, p2, p3, p4⟩ := ope5 H7.out.1
              obtain ⟨s0, s1, s2, s3, s4⟩ := ope5 H7.out.2.1
              go_wp2
              cases gk with
              | zero => omega
              | succ gg =>
                go_roundg gg
                case rel => exact ⟨k + 1, by first | rfl | (simp; done) | go_num, by omega, H7.out.2.2.2⟩
                case measure => omega
            · have h1 : decide (pn ≥ nx) = false := decide_eq_false hp
              have h1' : decide (nx ≤ pn) = false := h1
              have h2 : decide (sn ≥ nx) = true := decide_eq_true (by omega)
              have h2' : decide (nx ≤ sn) = true := h2
              clear hn hp
              go_upto_region 17 with (fail)
              (try rw [HW6.out])
              clear p0 p1 p2 p3 p4 s0 s1 s2 s3 s4 qc0 qc1 qc2 qc3 fp fs
              go_upto_region 18 with (fail)
              (try rw [HW7.out])
              clear t0 t1 t2 t3 t4 fs6
              obtain ⟨p0, p1, p2, p3, p4⟩ := ope5 H7.out.1
              obtain ⟨s0, s1, s2, s3, s4⟩ := ope5 H7.out.2.1
              go_wp2
              cases gk with
              | zero => omega
              | succ gg =>
                go_roundg gg
                case rel => exact ⟨k + 1, by first | rfl | (simp; done) | go_num, by omega, H7.out.2.2.2⟩
                case measure => omega
          · have h1 : decide (pn ≥ nx) = false := by rw [decide_eq_false_iff_not]; omega
            have h2 : decide (sn ≥ nx) = false := by rw [decide_eq_false_iff_not]; omega
            have h1' : decide (nx ≤ pn) = false := h1
            have h2' : decide (nx ≤ sn) = false := h2
            obtain rfl : pn = sn := HNO.out (by omega) (by omega)
            have qn : ∀ W, (binOp .neq 35 (.agg #[.int .i64 pt, .int .i64 pd, .int .i64 pn, .int .i64 ps, .int .u64 pv]) (.agg #[.int .i64 pt, .int .i64 pd, .int .i64 pn, .int .i64 ps, .int .u64 pv])).run Try.prog W = .ok (.bool false) W := fun W => by rw [ev_neq]; simp
            clear hn
            go_wp2
            cases gk with
            | zero => omega
            | succ gg =>
              go_roundg gg
              case rel => exact ⟨k + 1, by first | rfl | (simp; done) | go_num, by omega, HBS0.out⟩
              case measure => omega
        · have d1 : decide (k < l2.length) = false := by simpa using hlt
          have d2 : decide ((k : Int) < (l2.length : Int)) = false := by rw [decide_eq_false_iff_not]; omega
          have e7 : (nx2 == nx4) = true := by rw [HLL.out.2.2.1]; simp
          clear hi2 hi4
          go_wp2
          go_ret
          exact ⟨rfl, HBr.out⟩
end Go.Proofs.Ytchboknncfmcpaa
