/-
  queue: Push.
-/
import Derived.Test.YtchboknncfmcpaaQaE
import Derived.Test.YtchboknncfmcpaaQaF
import Derived.Test.YtchboknncfmcpaaQaS
import Derived.Test.YtchboknncfmcpaaEzY
import Derived.Deep.RegionWith
import Derived.Deep.RegionHeld3
namespace Go.Proofs.Ytchboknncfmcpaa
open Go Go.RowKit
set_option linter.unusedVariables false
set_option linter.unusedSimpArgs false
open Go.Sort
/-- What Push leaves. -/
def PushPost (l : List EV) (now dl nx t d s v : Int) (w : World) (e : Ending) (w' : World) : Prop :=
  Below w.heap.size w w' ∧
  ((pushF now dl nx l t d s ≠ 0 ∧ e = .returned (.tuple #[.agg #[.slice none 0 0, .int .i64 0, .int .i64 0, .int .i64 0], .int .i64 (pushF now dl nx l t d s)])) ∨
   (pushF now dl nx l t d s = 0 ∧ ∃ a c, e = .returned (.tuple #[.agg #[.slice a (l.length + 1) c, .int .i64 now, .int .i64 dl, .int .i64 (nx + 1)], .int .i64 0]) ∧ EvIn w'.heap.size w' (insE ⟨t, d, nx, s, v⟩ l) a ∧ (a = none → c = 0) ∧ l.length + 1 ≤ c ∧ (∀ p, a = some p → w.heap.size ≤ p.block)))
/-- What Concat leaves for Push. -/
def CatPost (l : List EV) (x : EV) (W : World) (e : Ending) (w' : World) : Prop := ∃ a c, e = .returned (.slice a (l.length + 1) c) ∧ EvIn w'.heap.size w' (insE x l) a ∧ (a = none → c = 0) ∧ l.length + 1 ≤ c ∧ Below W.heap.size W w'
set_option maxHeartbeats 8000000 in
set_option maxRecDepth 100000 in
theorem cat3_any (l1 l3 : List EV) (t d nx s v : Int) (hv : 0 ≤ v ∧ v < 18446744073709551616) (a1 a3 : Option Addr) (m1 c1 m3 c3 : Nat) (h1 : l1.length = m1) (h3 : l3.length = m3) (hbig : m1 + m3 ≤ 999990) (g5 g10 n0 : Nat) (W : World) (hn0 : n0 ≤ W.heap.size)
    (b5 : W.heap[g5]? = some (.cells #[.int .i64 t, .int .i64 d, .int .i64 nx, .int .i64 s, .int .u64 v] 35 (0, 0))) (b10 : W.heap[g10]? = some (.cells #[.slice a1 m1 c1, .slice (some ⟨g5, 0, none⟩) 1 1, .slice a3 m3 c3] 22 (0, 0)))
    (hi1 : EvIn n0 W l1 a1) (hi3 : EvIn n0 W l3 a3) (z1 : a1 = none → c1 = 0) (z3 : a3 = none → c3 = 0) :
    Calls Try.prog 28 #[.slice (some ⟨g10, 0, none⟩) 3 3] W fun e w' => ∃ a c, e = .returned (.slice a (m1 + m3 + 1) c) ∧ EvIn w'.heap.size w' (l1 ++ ⟨t, d, nx, s, v⟩ :: l3) a ∧ (a = none → c = 0) ∧ m1 + m3 + 1 ≤ c ∧ (∀ p, a = some p → W.heap.size ≤ p.block) ∧ Below W.heap.size W w' := by
  subst h1
  subst h3
  have hg5 : g5 < W.heap.size := (Array.getElem?_eq_some_iff.1 b5).1
  have hg10 : g10 < W.heap.size := (Array.getElem?_eq_some_iff.1 b10).1
  have hxi : EvIn W.heap.size W [⟨t, d, nx, s, v⟩] (some ⟨g5, 0, none⟩) := by
    refine inrow_of_flat hg5 (fun j u hu => ?_) (fun y hy => by rw [List.mem_singleton.1 hy]; exact hv)
    have hu2 : (#[.int .i64 t, .int .i64 d, .int .i64 nx, .int .i64 s, .int .u64 v] : Array Value)[j]? = some u := by simpa [flatV, EV.cells] using hu
    rw [Nat.zero_add]
    simpa [World.cell?, b5] using hu2
  have hin2 : ∀ r ∈ [(⟨a1, c1, l1⟩ : RW), ⟨some ⟨g5, 0, none⟩, 1, [⟨t, d, nx, s, v⟩]⟩, ⟨a3, c3, l3⟩], EvIn W.heap.size W r.l r.a ∧ (r.a = none → r.c = 0) := by
    intro r hr
    simp only [List.mem_cons, List.not_mem_nil, or_false] at hr
    rcases hr with rfl | rfl | rfl
    · exact ⟨InRow.less hn0 (fun _ _ h => h) hi1, z1⟩
    · exact ⟨hxi, fun h => by cases h⟩
    · exact ⟨InRow.less hn0 (fun _ _ h => h) hi3, z3⟩
  have hcr : catR [(⟨a1, c1, l1⟩ : RW), ⟨some ⟨g5, 0, none⟩, 1, [⟨t, d, nx, s, v⟩]⟩, ⟨a3, c3, l3⟩] = l1 ++ ⟨t, d, nx, s, v⟩ :: l3 := by simp [catR]
  have hcl : (l1 ++ (⟨t, d, nx, s, v⟩ : EV) :: l3).length = l1.length + l3.length + 1 := by rw [List.length_append, List.length_cons]; omega
  have h9 := concat_any [(⟨a1, c1, l1⟩ : RW), ⟨some ⟨g5, 0, none⟩, 1, [⟨t, d, nx, s, v⟩]⟩, ⟨a3, c3, l3⟩] (by simp) (by rw [hcr, hcl]; omega) (by rw [hcr, hcl]; omega) g10 3 W.heap.size W (Nat.le_refl _) hg10
    (fun i hi => by
      have hi3 : i < 3 := hi
      match i, hi3 with
      | 0, _ => simp [World.cell?, b10]
      | 1, _ => simp [World.cell?, b10]
      | 2, _ => simp [World.cell?, b10]) hin2
  refine h9.mono ?_
  rintro e w' ⟨a', c', rfl, k1, k2, k3, k5, k4⟩
  rw [hcr] at k1 k3 ⊢
  rw [hcl] at k3 ⊢
  exact ⟨a', c', rfl, k1, k2, k3, k5, k4⟩
set_option maxHeartbeats 8000000 in
set_option maxRecDepth 100000 in
theorem push_any (a : Option Addr) (c : Nat) (l : List EV) (hll : l.length ≤ 900000) (hac : a = none → c = 0) (hlc : l.length ≤ c) (now dl nx t d s v : Int) (hv : 0 ≤ v ∧ v < 18446744073709551616) (n0 : Nat) (w : World) (hn0 : n0 ≤ w.heap.size) (hin : EvIn n0 w l a) : Calls Try.prog 11 #[.agg #[.slice a l.length c, .int .i64 now, .int .i64 dl, .int .i64 nx], .int .i64 t, .int .i64 d, .int .i64 s, .int .u64 v] w (PushPost l now dl nx t d s v w) := by
  obtain ⟨gq, hgq⟩ : ∃ g, w.heap.size = g := ⟨_, rfl⟩
  obtain ⟨V0, hV0⟩ : ∃ W, w.alloc (.cells #[.slice a l.length c, .int .i64 now, .int .i64 dl, .int .i64 nx] 24) = W := ⟨_, rfl⟩
  have hbV0 : Below w.heap.size w V0 := by rw [← hV0]; exact (Below.refl _ _).alloc (Nat.le_refl _) _
  have hzV0 : V0.heap.size = gq + 1 := by rw [← hV0, World.size_alloc, hgq]
  have BBq : V0.heap[gq]? = some (.cells #[.slice a l.length c, .int .i64 now, .int .i64 dl, .int .i64 nx] 24 (0, 0)) := by rw [← hV0, ← hgq]; exact World.alloc_heap_new w _
  have hbw := hbV0
  obtain ⟨V1, hV1⟩ : ∃ W, V0.alloc (.cells #[.slice none 0 0, .int .i64 0, .int .i64 0, .int .i64 0] 24) = W := ⟨_, rfl⟩
  have hbV1 : Below V0.heap.size V0 V1 := by rw [← hV1]; exact (Below.refl _ _).alloc (Nat.le_refl _) _
  have hzV1 : V1.heap.size = gq + 2 := by rw [← hV1, World.size_alloc, hzV0]
  have BBr : V1.heap[gq + 1]? = some (.cells #[.slice none 0 0, .int .i64 0, .int .i64 0, .int .i64 0] 24 (0, 0)) := by rw [← hV1, ← hzV0]; exact World.alloc_heap_new V0 _
  replace BBq := block_kept BBq hbV1
  replace hbw := hbw.trans (hbV1.mono hbw.size)
  have BQ1 := BBq
  obtain ⟨V2, hV2⟩ : ∃ W, V1.alloc (.cells #[.int .i64 t, .int .i64 d, .int .i64 nx, .int .i64 s, .int .u64 v] 35) = W := ⟨_, rfl⟩
  have hbV2 : Below V1.heap.size V1 V2 := by rw [← hV2]; exact (Below.refl _ _).alloc (Nat.le_refl _) _
  have hzV2 : V2.heap.size = gq + 3 := by rw [← hV2, World.size_alloc, hzV1]
  have BBe : V2.heap[gq + 2]? = some (.cells #[.int .i64 t, .int .i64 d, .int .i64 nx, .int .i64 s, .int .u64 v] 35 (0, 0)) := by rw [← hV2, ← hzV1]; exact World.alloc_heap_new V1 _
  replace BBq := block_kept BBq hbV2
  replace BBr := block_kept BBr hbV2
  replace hbw := hbw.trans (hbV2.mono hbw.size)
  have hs2 : n0 ≤ V2.heap.size := by have := hbw.size; omega
  have hi2 := hin.keep hbw hn0
  have cF := pushFault_any a c l (by omega) now dl nx t d nx s v n0 V2 hs2 hi2
  obtain ⟨R, hR⟩ : ∃ R, pushF now dl nx l t d s = R := ⟨_, rfl⟩
  have HR := Lib.hid hR
  rw [hR] at cF
  clear hR
  have HQ := Lib.hid BBq
  have HRR := Lib.hid BBr
  have HEV := Lib.hid BBe
  have HBW := Lib.hid (And.intro hbw hs2)
  have HI := Lib.hid hi2
  have HCC := Lib.hid (And.intro hac (And.intro hlc hv))
  have hac0 := hac
  have HG := Lib.hid (show w.heap.size ≤ gq by omega)
  clear BBq BBr BBe hbw hin hi2 hbV0 hbV1 hbV2 hs2 hac hlc hv
  have HQ1 := Lib.hid BQ1
  clear BQ1
  obtain ⟨q0, q1, q2, q3⟩ := ope4 HQ1.out
  go_enter Try.func11, Try.ntmps11
  go_upto_region 1 with (fail)
  (try rw [hgq])
  (try rw [hV0])
  (try rw [hzV0])
  (try rw [hV1])
  (try rw [hzV1])
  go_upto_region 2 with (fail)
  (try rw [hgq])
  (try rw [hV0])
  (try rw [hzV0])
  (try rw [hV1])
  (try rw [hzV1])
  (try rw [hV2])
  (try rw [hzV2])
  clear hV0 hV1 hV2 hgq hzV0 hzV1 hzV2 q0 q1 q2 q3
  obtain ⟨q0, q1, q2, q3⟩ := ope4 HQ.out
  obtain ⟨e0, e1, e2, e3, e4⟩ := ope5 HEV.out
  go_wp2_with fail
  refine cF.mono ?_
  clear cF q0 q1 q2 q3 e0 e1 e2 e3 e4
  rintro e W3 ⟨rfl, hb⟩
  have HQ3 := Lib.hid (block_kept HQ.out hb)
  have HR3 := Lib.hid (block_kept HRR.out hb)
  have HE3 := Lib.hid (block_kept HEV.out hb)
  have HB3 := Lib.hid (And.intro (HBW.out.1.trans (hb.mono HBW.out.1.size)) (Nat.le_trans HBW.out.2 hb.size))
  have HI3 := Lib.hid (HI.out.keep hb HBW.out.2)
  clear HQ HRR HEV HBW HI hb
  obtain ⟨q0, q1, q2, q3⟩ := ope4 HQ3.out
  obtain ⟨r0, r1, r2, r3⟩ := ope4 HR3.out
  obtain ⟨e0, e1, e2, e3, e4⟩ := ope5 HE3.out
  have fr := froz HR3.out
  by_cases hR0 : R = 0
  case neg =>
    have kk : (R != 0) = true := by simpa using hR0
    have HRZ := Lib.hid hR0
    clear hR0 q0 q1 q2 q3 e0 e1 e2 e3 e4
    have f0 := fr 0
    have f1 := fr 1
    have f2 := fr 2
    have f3 := fr 3
    clear fr
    obtain ⟨W4, hW4⟩ : ∃ W, ((((W3.setCell ⟨gq + 1, 0, none⟩ (.slice none 0 0)).setCell ⟨gq + 1, 1, none⟩ (.int .i64 0)).setCell ⟨gq + 1, 2, none⟩ (.int .i64 0)).setCell ⟨gq + 1, 3, none⟩ (.int .i64 0)) = W := ⟨_, rfl⟩
    have hB4 : Below w.heap.size W3 W4 := by
      rw [← hW4]
      have := HG.out
      exact (((((Below.refl _ _).setCell (p := ⟨gq + 1, 0, none⟩) (by show w.heap.size ≤ gq + 1; omega) _).setCell (p := ⟨gq + 1, 1, none⟩) (by show w.heap.size ≤ gq + 1; omega) _).setCell (p := ⟨gq + 1, 2, none⟩) (by show w.heap.size ≤ gq + 1; omega) _).setCell (p := ⟨gq + 1, 3, none⟩) (by show w.heap.size ≤ gq + 1; omega) _)
    have B4 : W4.heap[gq + 1]? = some (.cells #[.slice none 0 0, .int .i64 0, .int .i64 0, .int .i64 0] 24 (0, 0)) := by
      rw [← hW4]
      have := block_set (j := 3) (v := .int .i64 0) (block_set (j := 2) (v := .int .i64 0) (block_set (j := 1) (v := .int .i64 0) (block_set (j := 0) (v := .slice none 0 0) HR3.out)))
      simpa using this
    obtain ⟨z0, z1, z2, z3⟩ := ope4 B4
    clear B4
    have HB4 := Lib.hid hB4
    clear hB4
    go_wp2
    (try rw [hW4])
    clear hW4
    have hu := Try.underlying24
    refine bodyPost_ret (v := .tuple #[.agg #[.slice none 0 0, .int .i64 0, .int .i64 0, .int .i64 0], .int .i64 R]) (by simp [results, Try.results11, go_sem, hu, z0, z1, z2, z3]) rfl ?_
    exact ⟨HB3.out.1.trans HB4.out, .inl ⟨by rw [HR.out]; exact HRZ.out, by rw [HR.out]⟩⟩
  subst hR0
  clear fr r0 r1 r2 r3
  have kk : ((0 : Int) != 0) = false := rfl
  have HPZ := Lib.hid (pushF_zero HR.out)
  obtain ⟨m, hm⟩ : ∃ m, lead (fun e => aheadE e ⟨t, d, nx, s, v⟩) l = m := ⟨_, rfl⟩
  have hml : m ≤ l.length := by rw [← hm]; exact lead_le _ _
  have cL := leadingA_any l (by omega) a c t d nx s v n0 m hml (fun k h hk => lead_lt (fun e => aheadE e ⟨t, d, nx, s, v⟩) l k (by rw [hm]; exact hk)) (fun k h hk => lead_ge ((chainE_iff l).2 (okL_iff.1 HPZ.out.2.1).2.2.2.2) _ k h (by rw [hm]; exact hk)) W3 HB3.out.2 HI3.out
  have HM := Lib.hid (And.intro hm hml)
  clear hm hml
  go_wp2_with fail
  refine cL.mono ?_
  clear cL q0 q1 q2 q3 e0 e1 e2 e3 e4
  rintro e W4 ⟨rfl, hb⟩
  have HQ4 := Lib.hid (block_kept HQ3.out hb)
  have HR4 := Lib.hid (block_kept HR3.out hb)
  have HE4 := Lib.hid (block_kept HE3.out hb)
  have HB4 := Lib.hid (And.intro (HB3.out.1.trans (hb.mono HB3.out.1.size)) (Nat.le_trans HB3.out.2 hb.size))
  have HI4 := Lib.hid (HI3.out.keep hb HB3.out.2)
  clear HQ3 HR3 HE3 HB3 HI3 hb
  obtain ⟨q0, q1, q2, q3⟩ := ope4 HQ4.out
  obtain ⟨e0, e1, e2, e3, e4⟩ := ope5 HE4.out
  have fq := froz HQ4.out 0
  have hml := HM.out.2
  have hlc := HCC.out.2.1
  have HSH : Hid ((a = none ∧ c = 0 ∧ l = [] ∧ m = 0) ∨ (∃ ad, a = some ad ∧ c = m) ∨ (∃ ad, a = some ad ∧ ¬ c = m)) := Lib.hid (by
    cases a with
    | none =>
      have h1 := HI4.out.isNil
      exact .inl ⟨rfl, hac0 rfl, h1, by subst h1; simpa using hml⟩
    | some ad =>
      by_cases hcm : c = m
      · exact .inr (.inl ⟨ad, rfl, hcm⟩)
      · exact .inr (.inr ⟨ad, rfl, hcm⟩))
  obtain ⟨a3, ha3⟩ : ∃ a3, a3 = if c = m then a else a.map (fun p => p.add (m * 5)) := ⟨_, rfl⟩
  have HA3 := Lib.hid ha3
  have HLE := Lib.hid (And.intro hml hlc)
  have HLN : Hid ((l.take m).length = m ∧ (l.drop m).length = l.length - m ∧ m + (l.length - m) ≤ 999990) := Lib.hid ⟨by rw [List.length_take]; omega, by rw [List.length_drop], by omega⟩
  have HIN : Hid (m + (l.length - m) + 1 = l.length + 1 ∧ l.take m ++ ⟨t, d, nx, s, v⟩ :: l.drop m = insE ⟨t, d, nx, s, v⟩ l) := Lib.hid ⟨by omega, by rw [insE, HM.out.1]⟩
  have HGZ : Hid (gq + 1 < W4.heap.size) := Lib.hid (Array.getElem?_eq_some_iff.1 HR4.out).1
  have HZ3 : Hid (a3 = none → c - m = 0) := Lib.hid (fun h => by
    rw [ha3] at h
    split at h
    · have := HCC.out.1 h; omega
    · cases a with
      | none => have := HCC.out.1 rfl; omega
      | some ad => cases h)
  have HP3 : Hid (∀ W, EvIn n0 W l a → EvIn n0 W (l.drop m) a3) := Lib.hid (fun W h => by
    by_cases hl0 : m = l.length
    · rw [hl0, List.drop_length]; trivial
    · rw [ha3, if_neg (by omega)]
      obtain ⟨b, o, e⟩ := h.addr (by omega)
      subst e
      rw [Option.map_some, Addr.add_mid]
      exact h.drop m hml)
  clear ha3 hml hlc hac0 fq
  go_upto_region 6 with (fail)
  refine wp_region_inv (fun (b : Nat → Bool) (ac : Act) (W9 : World) => ∃ (u0 u1 u2 u3 u4 u5 u6 u7 u8 u9 u10 u11 u12 u13 : Value) (g5 g10 z5 : Nat) (a5 : Option Addr) (c5 : Nat), ac = { tmps := #[.agg #[.slice a l.length c, .int .i64 now, .int .i64 dl, .int .i64 nx], .int .i64 t, .int .i64 d, .int .i64 s, .int .u64 v, .pointer (some ⟨gq, 0, none⟩), undef, undef, undef, undef, .pointer (some ⟨gq + 1, 0, none⟩), .int .i64 0, .pointer (some ⟨gq + 2, 0, none⟩), .int .i64 0, .int .i64 (m : Int), .int .i64 t, .int .i64 d, .pointer (some ⟨gq, 3, none⟩), .int .i64 nx, .int .i64 s, .int .u64 v, .agg #[.int .i64 t, .int .i64 d, .int .i64 nx, .int .i64 s, .int .u64 v], .agg #[.slice a l.length c, .int .i64 now, .int .i64 dl, .int .i64 nx], .agg #[.int .i64 t, .int .i64 d, .int .i64 nx, .int .i64 s, .int .u64 v], .int .i64 0, .int .i64 0, .bool false, undef, undef, .pointer (some ⟨gq, 0, none⟩), .slice a l.length c, .agg #[.int .i64 t, .int .i64 d, .int .i64 nx, .int .i64 s, .int .u64 v], .int .i64 (m : Int), u0, u1, u2, u3, u4, u5, u6, u7, u8, u9, u10, u11, u12, undef, undef, undef, undef, undef], defers := [] } ∧ (Below w.heap.size w W9 ∧ W9.heap[gq + 1]? = some (.cells #[.slice none 0 0, .int .i64 0, .int .i64 0, .int .i64 0] 24 (0, 0)) ∧ W4.heap.size ≤ W9.heap.size ∧ (b 13 = false → Below W4.heap.size W4 W9)) ∧ (b 0 = true → u0 = .pointer (some ⟨gq, 0, none⟩)) ∧ (b 1 = true → u1 = .slice a l.length c) ∧ (b 2 = true → u2 = .int .i64 (m : Int)) ∧ (b 3 = true → u3 = .slice a m c) ∧ (b 4 = true → u4 = .agg #[.int .i64 t, .int .i64 d, .int .i64 nx, .int .i64 s, .int .u64 v]) ∧ (b 5 = true → u5 = .slice (some ⟨g5, 0, none⟩) 1 1 ∧ (b 13 = false → W9.heap[g5]? = some (.cells #[.int .i64 t, .int .i64 d, .int .i64 nx, .int .i64 s, .int .u64 v] 35 (0, 0)))) ∧ (b 6 = true → u6 = .pointer (some ⟨gq, 0, none⟩)) ∧ (b 7 = true → u7 = .slice a l.length c) ∧ (b 8 = true → u8 = .int .i64 (m : Int)) ∧ (b 9 = true → u9 = .slice a3 (l.length - m) (c - m)) ∧ (b 10 = true → u10 = .slice (some ⟨g10, 0, none⟩) 3 3 ∧ (b 13 = false → W9.heap[g10]? = some (.cells #[.slice a m c, .slice (some ⟨g5, 0, none⟩) 1 1, .slice a3 (l.length - m) (c - m)] 22 (0, 0)) ∧ W9.heap[g5]? = some (.cells #[.int .i64 t, .int .i64 d, .int .i64 nx, .int .i64 s, .int .u64 v] 35 (0, 0)))) ∧ (b 11 = true → u11 = .slice a5 (l.length + 1) c5 ∧ (a5 = none → c5 = 0) ∧ (l.length + 1) ≤ c5 ∧ (∀ p, a5 = some p → W4.heap.size ≤ p.block) ∧ EvIn z5 W9 (insE ⟨t, d, nx, s, v⟩ l) a5 ∧ z5 ≤ W9.heap.size) ∧ (b 12 = true → u12 = .pointer (some ⟨gq, 0, none⟩)) ∧ (b 13 = true → W9.heap[gq]? = some (.cells #[.slice a5 (l.length + 1) c5, .int .i64 now, .int .i64 dl, .int .i64 nx] 24 (0, 0)))) (by kernel_rfl) (by kernel_rfl) ?_ ?_ ?_
  · refine ⟨undef, undef, undef, undef, undef, undef, undef, undef, undef, undef, undef, undef, undef, undef, 0, 0, 0, none, 0, rfl, ⟨HB4.out.1.drew, HR4.out, Nat.le_refl _, fun _ => (Below.refl _ _).drew⟩, fun h => (by cases h), fun h => (by cases h), fun h => (by cases h), fun h => (by cases h), fun h => (by cases h), fun h => (by cases h), fun h => (by cases h), fun h => (by cases h), fun h => (by cases h), fun h => (by cases h), fun h => (by cases h), fun h => (by cases h), fun h => (by cases h), fun h => (by cases h)⟩
  · refine ⟨⟨rfl, ?_⟩, ⟨⟨rfl, ?_⟩, ⟨⟨rfl, ?_⟩, ⟨⟨rfl, ?_⟩, ⟨⟨rfl, ?_⟩, ⟨⟨rfl, ?_⟩, ⟨⟨rfl, ?_⟩, ⟨⟨rfl, ?_⟩, ⟨⟨rfl, ?_⟩, ⟨⟨rfl, ?_⟩, ⟨⟨rfl, ?_⟩, ⟨⟨rfl, ?_⟩, ⟨⟨rfl, ?_⟩, ⟨⟨rfl, ?_⟩, trivial⟩⟩⟩⟩⟩⟩⟩⟩⟩⟩⟩⟩⟩⟩
    · intro b ac W9 hbk hd hcl hJ K hK
      obtain ⟨u0, u1, u2, u3, u4, u5, u6, u7, u8, u9, u10, u11, u12, u13, g5, g10, z5, a5, c5, rfl, hC, f0, f1, f2, f3, f4, f5, f6, f7, f8, f9, f10, f11, f12, f13⟩ := hJ
      go_simp
      exact hK _ _ ⟨_, _, _, _, _, _, _, _, _, _, _, _, _, undef, g5, g10, z5, a5, c5, rfl, hC, (fun _ => rfl), (f1), (f2), (f3), (f4), (f5), (f6), (f7), (f8), (f9), (f10), (f11), (f12), (f13)⟩
    · intro b ac W9 hbk hd hcl hJ K hK
      obtain ⟨u0, u1, u2, u3, u4, u5, u6, u7, u8, u9, u10, u11, u12, u13, g5, g10, z5, a5, c5, rfl, hC, f0, f1, f2, f3, f4, f5, f6, f7, f8, f9, f10, f11, f12, f13⟩ := hJ
      have d0 := f0 (hd ⟨0, .data⟩ (by simp) rfl)
      have n13 := hcl.no 13 _ rfl ⟨1, .phase⟩ (by simp) rfl rfl hbk
      subst d0
      obtain ⟨z0, z1, z2, z3⟩ := ope4 (block_kept HQ4.out (hC.2.2.2 n13))
      go_simp
      exact hK _ _ ⟨_, _, _, _, _, _, _, _, _, _, _, _, _, undef, g5, g10, z5, a5, c5, rfl, hC, (f0), (fun _ => rfl), (f2), (f3), (f4), (f5), (f6), (f7), (f8), (f9), (f10), (f11), (f12), (f13)⟩
    · intro b ac W9 hbk hd hcl hJ K hK
      obtain ⟨u0, u1, u2, u3, u4, u5, u6, u7, u8, u9, u10, u11, u12, u13, g5, g10, z5, a5, c5, rfl, hC, f0, f1, f2, f3, f4, f5, f6, f7, f8, f9, f10, f11, f12, f13⟩ := hJ
      go_simp
      exact hK _ _ ⟨_, _, _, _, _, _, _, _, _, _, _, _, _, undef, g5, g10, z5, a5, c5, rfl, hC, (f0), (f1), (fun _ => rfl), (f3), (f4), (f5), (f6), (f7), (f8), (f9), (f10), (f11), (f12), (f13)⟩
    · intro b ac W9 hbk hd hcl hJ K hK
      obtain ⟨u0, u1, u2, u3, u4, u5, u6, u7, u8, u9, u10, u11, u12, u13, g5, g10, z5, a5, c5, rfl, hC, f0, f1, f2, f3, f4, f5, f6, f7, f8, f9, f10, f11, f12, f13⟩ := hJ
      have d1 := f1 (hd ⟨1, .data⟩ (by simp) rfl)
      have d2 := f2 (hd ⟨2, .data⟩ (by simp) rfl)
      subst d1
      subst d2
      have hml := HLE.out.1
      have hlc := HLE.out.2
      have hmc : m ≤ c := by omega
      rcases HSH.out with ⟨rfl, rfl, rfl, rfl⟩ | ⟨ad, rfl, rfl⟩ | ⟨ad, rfl, hcm⟩
      all_goals go_simp
      all_goals exact hK _ _ ⟨_, _, _, _, _, _, _, _, _, _, _, _, _, undef, g5, g10, z5, a5, c5, rfl, hC, (f0), (f1), (f2), (fun _ => rfl), (f4), (f5), (f6), (f7), (f8), (f9), (f10), (f11), (f12), (f13)⟩
    · intro b ac W9 hbk hd hcl hJ K hK
      obtain ⟨u0, u1, u2, u3, u4, u5, u6, u7, u8, u9, u10, u11, u12, u13, g5, g10, z5, a5, c5, rfl, hC, f0, f1, f2, f3, f4, f5, f6, f7, f8, f9, f10, f11, f12, f13⟩ := hJ
      have n13 := hcl.no 13 _ rfl ⟨4, .phase⟩ (by simp) rfl rfl hbk
      obtain ⟨z0, z1, z2, z3, z4⟩ := ope5 (block_kept HE4.out (hC.2.2.2 n13))
      go_simp
      exact hK _ _ ⟨_, _, _, _, _, _, _, _, _, _, _, _, _, undef, g5, g10, z5, a5, c5, rfl, hC, (f0), (f1), (f2), (f3), (fun _ => rfl), (f5), (f6), (f7), (f8), (f9), (f10), (f11), (f12), (f13)⟩
    · intro b ac W9 hbk hd hcl hJ K hK
      obtain ⟨u0, u1, u2, u3, u4, u5, u6, u7, u8, u9, u10, u11, u12, u13, g5, g10, z5, a5, c5, rfl, hC, f0, f1, f2, f3, f4, f5, f6, f7, f8, f9, f10, f11, f12, f13⟩ := hJ
      have d4 := f4 (hd ⟨4, .data⟩ (by simp) rfl)
      subst d4
      obtain ⟨W8, hW8⟩ : ∃ W, W9.alloc (.cells #[.int .i64 t, .int .i64 d, .int .i64 nx, .int .i64 s, .int .u64 v] 35) = W := ⟨_, rfl⟩
      have hb : Below W9.heap.size W9 W8 := by rw [← hW8]; exact (Below.refl _ _).alloc (Nat.le_refl _) _
      have bn : W8.heap[W9.heap.size]? = some (.cells #[.int .i64 t, .int .i64 d, .int .i64 nx, .int .i64 s, .int .u64 v] 35 (0, 0)) := by rw [← hW8]; exact World.alloc_heap_new W9 _
      have hC' : Below w.heap.size w W8 ∧ W8.heap[gq + 1]? = some (.cells #[.slice none 0 0, .int .i64 0, .int .i64 0, .int .i64 0] 24 (0, 0)) ∧ W4.heap.size ≤ W8.heap.size ∧ (b 13 = false → Below W4.heap.size W4 W8) := ⟨hC.1.trans (hb.mono hC.1.size), block_kept hC.2.1 hb, Nat.le_trans hC.2.2.1 hb.size, fun h => (hC.2.2.2 h).trans (hb.mono (hC.2.2.2 h).size)⟩
      go_simp
      (try rw [hW8])
      exact hK _ _ ⟨_, _, _, _, _, _, _, _, _, _, _, _, _, undef, W9.heap.size, g10, z5, a5, c5, rfl, hC', (f0), (f1), (f2), (f3), (f4), (fun _ => ⟨rfl, fun _ => bn⟩), (f6), (f7), (f8), (f9), (fun h => absurd (hcl 10 _ rfl h ⟨5, .data⟩ (by simp) rfl) (by rw [hbk]; decide)), (fun h => ⟨(f11 h).1, (f11 h).2.1, (f11 h).2.2.1, (f11 h).2.2.2.1, (f11 h).2.2.2.2.1.keep hb (f11 h).2.2.2.2.2, Nat.le_trans (f11 h).2.2.2.2.2 hb.size⟩), (f12), (fun h => block_kept (f13 h) hb)⟩
    · intro b ac W9 hbk hd hcl hJ K hK
      obtain ⟨u0, u1, u2, u3, u4, u5, u6, u7, u8, u9, u10, u11, u12, u13, g5, g10, z5, a5, c5, rfl, hC, f0, f1, f2, f3, f4, f5, f6, f7, f8, f9, f10, f11, f12, f13⟩ := hJ
      go_simp
      exact hK _ _ ⟨_, _, _, _, _, _, _, _, _, _, _, _, _, undef, g5, g10, z5, a5, c5, rfl, hC, (f0), (f1), (f2), (f3), (f4), (f5), (fun _ => rfl), (f7), (f8), (f9), (f10), (f11), (f12), (f13)⟩
    · intro b ac W9 hbk hd hcl hJ K hK
      obtain ⟨u0, u1, u2, u3, u4, u5, u6, u7, u8, u9, u10, u11, u12, u13, g5, g10, z5, a5, c5, rfl, hC, f0, f1, f2, f3, f4, f5, f6, f7, f8, f9, f10, f11, f12, f13⟩ := hJ
      have d6 := f6 (hd ⟨6, .data⟩ (by simp) rfl)
      have n13 := hcl.no 13 _ rfl ⟨7, .phase⟩ (by simp) rfl rfl hbk
      subst d6
      obtain ⟨z0, z1, z2, z3⟩ := ope4 (block_kept HQ4.out (hC.2.2.2 n13))
      go_simp
      exact hK _ _ ⟨_, _, _, _, _, _, _, _, _, _, _, _, _, undef, g5, g10, z5, a5, c5, rfl, hC, (f0), (f1), (f2), (f3), (f4), (f5), (f6), (fun _ => rfl), (f8), (f9), (f10), (f11), (f12), (f13)⟩
    · intro b ac W9 hbk hd hcl hJ K hK
      obtain ⟨u0, u1, u2, u3, u4, u5, u6, u7, u8, u9, u10, u11, u12, u13, g5, g10, z5, a5, c5, rfl, hC, f0, f1, f2, f3, f4, f5, f6, f7, f8, f9, f10, f11, f12, f13⟩ := hJ
      go_simp
      exact hK _ _ ⟨_, _, _, _, _, _, _, _, _, _, _, _, _, undef, g5, g10, z5, a5, c5, rfl, hC, (f0), (f1), (f2), (f3), (f4), (f5), (f6), (f7), (fun _ => rfl), (f9), (f10), (f11), (f12), (f13)⟩
    · intro b ac W9 hbk hd hcl hJ K hK
      obtain ⟨u0, u1, u2, u3, u4, u5, u6, u7, u8, u9, u10, u11, u12, u13, g5, g10, z5, a5, c5, rfl, hC, f0, f1, f2, f3, f4, f5, f6, f7, f8, f9, f10, f11, f12, f13⟩ := hJ
      have d7 := f7 (hd ⟨7, .data⟩ (by simp) rfl)
      have d8 := f8 (hd ⟨8, .data⟩ (by simp) rfl)
      subst d7
      subst d8
      have hml := HLE.out.1
      have hlc := HLE.out.2
      have hmc : m ≤ c := by omega
      rcases HSH.out with ⟨rfl, rfl, rfl, rfl⟩ | ⟨ad, rfl, rfl⟩ | ⟨ad, rfl, hcm⟩
      all_goals go_simp
      all_goals exact hK _ _ ⟨_, _, _, _, _, _, _, _, _, _, _, _, _, undef, g5, g10, z5, a5, c5, rfl, hC, (f0), (f1), (f2), (f3), (f4), (f5), (f6), (f7), (f8), (fun _ => (by have h9 := HA3.out; clear HA3; subst h9; first | rfl | (simp; done) | (simp [*]; done))), (f10), (f11), (f12), (f13)⟩
    · intro b ac W9 hbk hd hcl hJ K hK
      obtain ⟨u0, u1, u2, u3, u4, u5, u6, u7, u8, u9, u10, u11, u12, u13, g5, g10, z5, a5, c5, rfl, hC, f0, f1, f2, f3, f4, f5, f6, f7, f8, f9, f10, f11, f12, f13⟩ := hJ
      have d3 := f3 (hd ⟨3, .data⟩ (by simp) rfl)
      have d5 := f5 (hd ⟨5, .data⟩ (by simp) rfl)
      have d9 := f9 (hd ⟨9, .data⟩ (by simp) rfl)
      subst d3
      obtain ⟨rfl, k5⟩ := d5
      subst d9
      obtain ⟨W8, hW8⟩ : ∃ W, W9.alloc (.cells #[.slice a m c, .slice (some ⟨g5, 0, none⟩) 1 1, .slice a3 (l.length - m) (c - m)] 22) = W := ⟨_, rfl⟩
      have hb : Below W9.heap.size W9 W8 := by rw [← hW8]; exact (Below.refl _ _).alloc (Nat.le_refl _) _
      have bn : W8.heap[W9.heap.size]? = some (.cells #[.slice a m c, .slice (some ⟨g5, 0, none⟩) 1 1, .slice a3 (l.length - m) (c - m)] 22 (0, 0)) := by rw [← hW8]; exact World.alloc_heap_new W9 _
      have hC' : Below w.heap.size w W8 ∧ W8.heap[gq + 1]? = some (.cells #[.slice none 0 0, .int .i64 0, .int .i64 0, .int .i64 0] 24 (0, 0)) ∧ W4.heap.size ≤ W8.heap.size ∧ (b 13 = false → Below W4.heap.size W4 W8) := ⟨hC.1.trans (hb.mono hC.1.size), block_kept hC.2.1 hb, Nat.le_trans hC.2.2.1 hb.size, fun h => (hC.2.2.2 h).trans (hb.mono (hC.2.2.2 h).size)⟩
      go_simp
      (try rw [hW8])
      exact hK _ _ ⟨_, _, _, _, _, _, _, _, _, _, _, _, _, undef, g5, W9.heap.size, z5, a5, c5, rfl, hC', (f0), (f1), (f2), (f3), (f4), (fun _ => ⟨rfl, fun q => block_kept (k5 q) hb⟩), (f6), (f7), (f8), (f9), (fun _ => ⟨rfl, fun q => ⟨bn, block_kept (k5 q) hb⟩⟩), (fun h => ⟨(f11 h).1, (f11 h).2.1, (f11 h).2.2.1, (f11 h).2.2.2.1, (f11 h).2.2.2.2.1.keep hb (f11 h).2.2.2.2.2, Nat.le_trans (f11 h).2.2.2.2.2 hb.size⟩), (f12), (fun h => block_kept (f13 h) hb)⟩
    · intro b ac W9 hbk hd hcl hJ K hK
      obtain ⟨u0, u1, u2, u3, u4, u5, u6, u7, u8, u9, u10, u11, u12, u13, g5, g10, z5, a5, c5, rfl, hC, f0, f1, f2, f3, f4, f5, f6, f7, f8, f9, f10, f11, f12, f13⟩ := hJ
      have d10 := f10 (hd ⟨10, .data⟩ (by simp) rfl)
      have n13 := hcl.no 13 _ rfl ⟨11, .phase⟩ (by simp) rfl rfl hbk
      obtain ⟨rfl, k10⟩ := d10
      have hW := hC.2.2.2 n13
      go_simp
      refine (cat3_any (l.take m) (l.drop m) t d nx s v HCC.out.2.2 a a3 m c (l.length - m) (c - m) HLN.out.1 HLN.out.2.1 HLN.out.2.2 g5 g10 n0 W9 (Nat.le_trans HB4.out.2 hW.size) (k10 n13).2 (k10 n13).1 ((HI4.out.keep hW HB4.out.2).take m) (HP3.out W9 (HI4.out.keep hW HB4.out.2)) HCC.out.1 HZ3.out).mono ?_
      rintro e W8 ⟨a5', c5', rfl, j1, j2, j3, j4, hb⟩
      have hC' : Below w.heap.size w W8 ∧ W8.heap[gq + 1]? = some (.cells #[.slice none 0 0, .int .i64 0, .int .i64 0, .int .i64 0] 24 (0, 0)) ∧ W4.heap.size ≤ W8.heap.size ∧ (b 13 = false → Below W4.heap.size W4 W8) := ⟨hC.1.trans (hb.mono hC.1.size), block_kept hC.2.1 hb, Nat.le_trans hC.2.2.1 hb.size, fun h => (hC.2.2.2 h).trans (hb.mono (hC.2.2.2 h).size)⟩
      rw [HIN.out.2] at j1
      rw [HIN.out.1] at j3
      (try rw [HIN.out.1])
      exact hK _ _ ⟨_, _, _, _, _, _, _, _, _, _, _, _, _, undef, g5, g10, W8.heap.size, a5', c5', rfl, hC', (f0), (f1), (f2), (f3), (f4), (fun h => ⟨(f5 h).1, fun q => block_kept ((f5 h).2 q) hb⟩), (f6), (f7), (f8), (f9), (fun _ => ⟨rfl, fun q => ⟨block_kept (k10 q).1 hb, block_kept (k10 q).2 hb⟩⟩), (fun _ => ⟨rfl, j2, j3, fun p hp => Nat.le_trans hW.size (j4 p hp), j1, Nat.le_refl _⟩), (f12), (fun h => by rw [show b 13 = true from h] at n13; cases n13)⟩
    · intro b ac W9 hbk hd hcl hJ K hK
      obtain ⟨u0, u1, u2, u3, u4, u5, u6, u7, u8, u9, u10, u11, u12, u13, g5, g10, z5, a5, c5, rfl, hC, f0, f1, f2, f3, f4, f5, f6, f7, f8, f9, f10, f11, f12, f13⟩ := hJ
      go_simp
      exact hK _ _ ⟨_, _, _, _, _, _, _, _, _, _, _, _, _, undef, g5, g10, z5, a5, c5, rfl, hC, (f0), (f1), (f2), (f3), (f4), (f5), (f6), (f7), (f8), (f9), (f10), (f11), (fun _ => rfl), (f13)⟩
    · intro b ac W9 hbk hd hcl hJ K hK
      obtain ⟨u0, u1, u2, u3, u4, u5, u6, u7, u8, u9, u10, u11, u12, u13, g5, g10, z5, a5, c5, rfl, hC, f0, f1, f2, f3, f4, f5, f6, f7, f8, f9, f10, f11, f12, f13⟩ := hJ
      have d12 := f12 (hd ⟨12, .data⟩ (by simp) rfl)
      have d11 := f11 (hd ⟨11, .data⟩ (by simp) rfl)
      subst d12
      obtain ⟨rfl, k1, k2, k3, k4, k5⟩ := d11
      have HQ9 := block_kept HQ4.out (hC.2.2.2 hbk)
      have q9 := (ope4 HQ9).1
      have fz9 := froz HQ9 0
      obtain ⟨W8, hW8⟩ : ∃ W, W9.setCell ⟨gq, 0, none⟩ (.slice a5 (l.length + 1) c5) = W := ⟨_, rfl⟩
      have B8 : W8.heap[gq]? = some (.cells #[.slice a5 (l.length + 1) c5, .int .i64 now, .int .i64 dl, .int .i64 nx] 24 (0, 0)) := by
        rw [← hW8]
        have := block_set (j := 0) (v := .slice a5 (l.length + 1) c5) HQ9
        simpa using this
      have hz8 : W8.heap.size = W9.heap.size := by rw [← hW8, World.size_setCell]
      have hi8 : EvIn z5 W8 (insE ⟨t, d, nx, s, v⟩ l) a5 := by rw [← hW8]; exact k4.set (fun p hp => by have h1 := k3 p hp; have h2 := HGZ.out; omega)
      have hC' : Below w.heap.size w W8 ∧ W8.heap[gq + 1]? = some (.cells #[.slice none 0 0, .int .i64 0, .int .i64 0, .int .i64 0] 24 (0, 0)) ∧ W4.heap.size ≤ W8.heap.size := ⟨by rw [← hW8]; exact hC.1.setCell (p := ⟨gq, 0, none⟩) (by show w.heap.size ≤ gq; exact HG.out) _, by rw [← hW8]; exact block_set_ne hC.2.1 (by omega), by rw [hz8]; exact hC.2.2.1⟩
      go_simp
      (try rw [hW8])
      exact hK _ _ ⟨_, _, _, _, _, _, _, _, _, _, _, _, _, undef, g5, g10, z5, a5, c5, rfl, ⟨hC'.1, hC'.2.1, hC'.2.2, fun h => by cases h⟩, (f0), (f1), (f2), (f3), (f4), (fun h => ⟨(f5 h).1, fun q => by cases q⟩), (f6), (f7), (f8), (f9), (fun h => ⟨(f10 h).1, fun q => by cases q⟩), (fun _ => ⟨rfl, k1, k2, k3, hi8, by rw [hz8]; exact k5⟩), (f12), (fun _ => B8)⟩
  · intro b ac W6 hb hJ
    obtain ⟨u0, u1, u2, u3, u4, u5, u6, u7, u8, u9, u10, u11, u12, u13, g5, g10, z5, a5, c5, rfl, hC, f0, f1, f2, f3, f4, f5, f6, f7, f8, f9, f10, f11, f12, f13⟩ := hJ
    replace f0 := f0 (hb 0 (by decide))
    replace f1 := f1 (hb 1 (by decide))
    replace f2 := f2 (hb 2 (by decide))
    replace f3 := f3 (hb 3 (by decide))
    replace f4 := f4 (hb 4 (by decide))
    replace f5 := f5 (hb 5 (by decide))
    replace f6 := f6 (hb 6 (by decide))
    replace f7 := f7 (hb 7 (by decide))
    replace f8 := f8 (hb 8 (by decide))
    replace f9 := f9 (hb 9 (by decide))
    replace f10 := f10 (hb 10 (by decide))
    replace f11 := f11 (hb 11 (by decide))
    replace f12 := f12 (hb 12 (by decide))
    replace f13 := f13 (hb 13 (by decide))
    clear f0 f1 f2 f3 f4 f5 f6 f7 f8 f9 f10 f12
    have HQ6 := Lib.hid f13
    have HR6 := Lib.hid hC.2.1
    have H6 := Lib.hid (And.intro hC.1 f11)
    clear f13 f11 hC
    obtain ⟨q0, q1, q2, q3⟩ := ope4 HQ6.out
    have f3 := froz HQ6.out 3
    have w1 : nx + 1 ≤ 4611686018427387904 := by have := HPZ.out.2.2.2.2.2.2.1; omega
    have w2 : 0 ≤ nx := (okL_iff.1 HPZ.out.2.1).2.2.1
    have w3 : wrap64 (nx + 1) = nx + 1 := by unfold wrap64; omega
    obtain ⟨W7, hW7⟩ : ∃ W, W6.setCell ⟨gq, 3, none⟩ (.int .i64 (nx + 1)) = W := ⟨_, rfl⟩
    have hq7 : W7.heap[gq]? = some (.cells #[.slice a5 (l.length + 1) c5, .int .i64 now, .int .i64 dl, .int .i64 (nx + 1)] 24 (0, 0)) := by
      rw [← hW7]
      have := block_set (j := 3) (v := .int .i64 (nx + 1)) HQ6.out
      simpa using this
    have hr7 : W7.heap[gq + 1]? = some (.cells #[.slice none 0 0, .int .i64 0, .int .i64 0, .int .i64 0] 24 (0, 0)) := by
      rw [← hW7]
      exact block_set_ne HR6.out (by omega)
    have hne7 : ∀ p, a5 = some p → p.block ≠ gq ∧ p.block ≠ gq + 1 := fun p hp => by have h1 := H6.out.2.2.2.2.1 p hp; have h2 := HGZ.out; omega
    have hb7 : Below w.heap.size w W7 := by rw [← hW7]; exact H6.out.1.setCell (p := ⟨gq, 3, none⟩) (by show w.heap.size ≤ gq; exact HG.out) _
    have hi7 : EvIn z5 W7 (insE ⟨t, d, nx, s, v⟩ l) a5 := by rw [← hW7]; exact H6.out.2.2.2.2.2.1.set (fun p hp => (hne7 p hp).1)
    have hz7 : z5 ≤ W7.heap.size := by rw [← hW7, World.size_setCell]; exact H6.out.2.2.2.2.2.2
    have HQ7 := Lib.hid hq7
    have HR7 := Lib.hid hr7
    have H7 := Lib.hid (And.intro hb7 (And.intro hi7 (And.intro hz7 hne7)))
    clear hq7 hr7 hb7 hi7 hz7 hne7
    go_upto_region 8 with (fail)
    (try rw [hW7])
    clear hW7 q0 q1 q2 q3 f3
    obtain ⟨q0, q1, q2, q3⟩ := ope4 HQ7.out
    obtain ⟨r0, r1, r2, r3⟩ := ope4 HR7.out
    have f0 := froz HR7.out 0
    have f1 := froz HR7.out 1
    have f2 := froz HR7.out 2
    have f3 := froz HR7.out 3
    obtain ⟨W8, hW8⟩ : ∃ W, ((((W7.setCell ⟨gq + 1, 0, none⟩ (.slice a5 (l.length + 1) c5)).setCell ⟨gq + 1, 1, none⟩ (.int .i64 now)).setCell ⟨gq + 1, 2, none⟩ (.int .i64 dl)).setCell ⟨gq + 1, 3, none⟩ (.int .i64 (nx + 1))) = W := ⟨_, rfl⟩
    have B8 : W8.heap[gq + 1]? = some (.cells #[.slice a5 (l.length + 1) c5, .int .i64 now, .int .i64 dl, .int .i64 (nx + 1)] 24 (0, 0)) := by
      rw [← hW8]
      have := block_set (j := 3) (v := .int .i64 (nx + 1)) (block_set (j := 2) (v := .int .i64 dl) (block_set (j := 1) (v := .int .i64 now) (block_set (j := 0) (v := .slice a5 (l.length + 1) c5) HR7.out)))
      simpa using this
    have hb8 : Below w.heap.size w W8 := by
      rw [← hW8]
      have := HG.out
      exact ((((H7.out.1.setCell (p := ⟨gq + 1, 0, none⟩) (by show w.heap.size ≤ gq + 1; omega) _).setCell (p := ⟨gq + 1, 1, none⟩) (by show w.heap.size ≤ gq + 1; omega) _).setCell (p := ⟨gq + 1, 2, none⟩) (by show w.heap.size ≤ gq + 1; omega) _).setCell (p := ⟨gq + 1, 3, none⟩) (by show w.heap.size ≤ gq + 1; omega) _)
    have hne : ∀ p, a5 = some p → p.block ≠ gq + 1 := fun p hp => (H7.out.2.2.2 p hp).2
    have hi8 : EvIn W8.heap.size W8 (insE ⟨t, d, nx, s, v⟩ l) a5 := by
      rw [← hW8]
      refine InRow.less (n := z5) (by simp only [World.size_setCell]; exact H7.out.2.2.1) (fun _ _ h => h) ((((H7.out.2.1.set hne).set hne).set hne).set hne)
    have H8 := Lib.hid (And.intro hb8 hi8)
    clear hb8 hi8 hne
    obtain ⟨z0, z1, z2, z3⟩ := ope4 B8
    clear B8
    go_wp2
    (try rw [hW8])
    clear hW8 q0 q1 q2 q3 r0 r1 r2 r3 f0 f1 f2 f3
    have hu := Try.underlying24
    refine bodyPost_ret (v := .tuple #[.agg #[.slice a5 (l.length + 1) c5, .int .i64 now, .int .i64 dl, .int .i64 (nx + 1)], .int .i64 0]) (by simp [results, Try.results11, go_sem, hu, z0, z1, z2, z3]) rfl ?_
    refine ⟨H8.out.1, .inr ⟨HR.out, a5, c5, rfl, H8.out.2, H6.out.2.2.1, H6.out.2.2.2.1, fun p hp => ?_⟩⟩
    have h1 := H6.out.2.2.2.2.1 p hp
    have h2 := HGZ.out
    have h3 := HG.out
    omega
end Go.Proofs.Ytchboknncfmcpaa
