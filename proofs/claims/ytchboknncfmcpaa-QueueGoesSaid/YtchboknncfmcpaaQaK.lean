/-
  queue: Pop. The reference's Pop.
-/
import Derived.Test.YtchboknncfmcpaaQaJ
import Derived.Test.YtchboknncfmcpaaQaD
import Derived.Test.YtchboknncfmcpaaQaE
namespace Go.Proofs.Ytchboknncfmcpaa
open Go Go.RowKit
set_option linter.unusedVariables false
set_option linter.unusedSimpArgs false
open Go.Sort
/-- What Pop leaves. -/
def PopPost (l : List EV) (now dl nx : Int) (w : World) (e : Ending) (w' : World) : Prop :=
  Below w.heap.size w w' ∧
  ((popF now dl nx l ≠ 0 ∧ e = .returned (.tuple #[.agg #[.slice none 0 0, .int .i64 0, .int .i64 0, .int .i64 0], .agg #[.int .i64 0, .int .i64 0, .int .i64 0, .int .i64 0, .int .u64 0], .int .i64 (popF now dl nx l)])) ∨
   (popF now dl nx l = 0 ∧ ∃ (t d n1 s v : Int) (r : List EV) (a : Option Addr) (c : Nat), l = ⟨t, d, n1, s, v⟩ :: r ∧ e = .returned (.tuple #[.agg #[.slice a r.length c, .int .i64 t, .int .i64 d, .int .i64 nx], .agg #[.int .i64 t, .int .i64 d, .int .i64 n1, .int .i64 s, .int .u64 v], .int .i64 0]) ∧ EvIn w'.heap.size w' r a ∧ (a = none → c = 0) ∧ r.length ≤ c ∧ (∀ p, a = some p → w.heap.size ≤ p.block)))
theorem popF_zero {now dl nx : Int} {l : List EV} (h : popF now dl nx l = 0) : ckE now dl nx l = 0 ∧ l.length ≠ 0 ∧ l.length ≤ 65536 := by
  unfold popF at h
  split at h
  · rename_i h0
    split at h
    · omega
    · exact ⟨h0, by assumption, (ckE_zero.1 h0).2⟩
  · rename_i h0; exact absurd h h0
set_option maxHeartbeats 8000000 in
set_option maxRecDepth 100000 in
theorem pop_any (a : Option Addr) (c : Nat) (l : List EV) (hll : l.length ≤ 900000) (hac : a = none → c = 0) (hlc : l.length ≤ c) (now dl nx : Int) (n0 : Nat) (w : World) (hn0 : n0 ≤ w.heap.size) (hin : EvIn n0 w l a) : Calls Try.prog 18 #[.agg #[.slice a l.length c, .int .i64 now, .int .i64 dl, .int .i64 nx]] w (PopPost l now dl nx w) := by
  obtain ⟨gq, hgq⟩ : ∃ g, w.heap.size = g := ⟨_, rfl⟩
  obtain ⟨V0, hV0⟩ : ∃ W, w.alloc (.cells #[.slice a l.length c, .int .i64 now, .int .i64 dl, .int .i64 nx] 24) = W := ⟨_, rfl⟩
  have hbV0 : Below w.heap.size w V0 := by rw [← hV0]; exact (Below.refl _ _).alloc (Nat.le_refl _) _
  have hzV0 : V0.heap.size = gq + 1 := by rw [← hV0, World.size_alloc, hgq]
  have BBq : V0.heap[gq]? = some (.cells #[.slice a l.length c, .int .i64 now, .int .i64 dl, .int .i64 nx] 24 (0, 0)) := by rw [← hV0, ← hgq]; exact World.alloc_heap_new w _
  have hbw := hbV0
  obtain ⟨V1, hV1⟩ : ∃ W, V0.alloc (.cells #[.slice none 0 0, .int .i64 0, .int .i64 0, .int .i64 0] 24) = W := ⟨_, rfl⟩
  have hbV1 : Below V0.heap.size V0 V1 := by rw [← hV1]; exact (Below.refl _ _).alloc (Nat.le_refl _) _
  have hzV1 : V1.heap.size = gq + 2 := by rw [← hV1, World.size_alloc, hzV0]
  have BBr : V1.heap[gq + 1]? = some (.cells #[.slice none 0 0, .int .i64 0, .int .i64 0, .int .i64 0] 24 (0, 0)) := by rw [← hV1, ← hzV0]; exact World.alloc_heap_new V0 _
  replace BBq := block_kept BBq hbV1
  replace hbw := hbw.trans (hbV1.mono hbw.size)
  obtain ⟨V2, hV2⟩ : ∃ W, V1.alloc (.cells #[.int .i64 0, .int .i64 0, .int .i64 0, .int .i64 0, .int .u64 0] 35) = W := ⟨_, rfl⟩
  have hbV2 : Below V1.heap.size V1 V2 := by rw [← hV2]; exact (Below.refl _ _).alloc (Nat.le_refl _) _
  have hzV2 : V2.heap.size = gq + 3 := by rw [← hV2, World.size_alloc, hzV1]
  have BBx : V2.heap[gq + 2]? = some (.cells #[.int .i64 0, .int .i64 0, .int .i64 0, .int .i64 0, .int .u64 0] 35 (0, 0)) := by rw [← hV2, ← hzV1]; exact World.alloc_heap_new V1 _
  replace BBq := block_kept BBq hbV2
  replace BBr := block_kept BBr hbV2
  replace hbw := hbw.trans (hbV2.mono hbw.size)
  have hs2 : n0 ≤ V2.heap.size := by have := hbw.size; omega
  have hi2 := hin.keep hbw hn0
  have cF := popFault_any a c l (by omega) now dl nx n0 V2 hs2 hi2
  obtain ⟨R, hR⟩ : ∃ R, popF now dl nx l = R := ⟨_, rfl⟩
  have HR := Lib.hid hR
  rw [hR] at cF
  clear hR
  have HQ := Lib.hid BBq
  have HRR := Lib.hid BBr
  have HX := Lib.hid BBx
  have HBW := Lib.hid (And.intro hbw hs2)
  have HI := Lib.hid hi2
  have HCC := Lib.hid (And.intro hac (And.intro hlc (And.intro hll hn0)))
  have HG0 := Lib.hid (show w.heap.size ≤ gq by omega)
  clear BBq BBr BBx hbw hin hi2 hbV0 hbV1 hbV2 hs2 hac hlc
  obtain ⟨q0, q1, q2, q3⟩ := ope4 HQ.out
  go_enter Try.func18, Try.ntmps18
  go_upto_region 1 with (fail)
  (try rw [hgq])
  (try rw [hV0])
  (try rw [hzV0])
  (try rw [hV1])
  (try rw [hzV1])
  (try rw [hV2])
  (try rw [hzV2])
  clear hV0 hV1 hV2 hgq hzV0 hzV1 hzV2
  go_wp2_with fail
  refine cF.mono ?_
  clear cF q0 q1 q2 q3
  rintro e W3 ⟨rfl, hb⟩
  have HQ3 := Lib.hid (block_kept HQ.out hb)
  have HR3 := Lib.hid (block_kept HRR.out hb)
  have HX3 := Lib.hid (block_kept HX.out hb)
  have HB3 := Lib.hid (And.intro (HBW.out.1.trans (hb.mono HBW.out.1.size)) (Nat.le_trans HBW.out.2 hb.size))
  have HI3 := Lib.hid (HI.out.keep hb HBW.out.2)
  have HG : Hid (w.heap.size ≤ gq ∧ gq + 2 < W3.heap.size) := Lib.hid ⟨HG0.out, (Array.getElem?_eq_some_iff.1 HX3.out).1⟩
  clear HQ HRR HX HBW HI hb HG0
  by_cases hR0 : R = 0
  case neg =>
    have kk : (R != 0) = true := by simpa using hR0
    have HRZ := Lib.hid hR0
    clear hR0
    obtain ⟨q0, q1, q2, q3⟩ := ope4 HQ3.out
    obtain ⟨r0, r1, r2, r3⟩ := ope4 HR3.out
    obtain ⟨x0, x1, x2, x3, x4⟩ := ope5 HX3.out
    have fr0 := froz HR3.out 0
    have fr1 := froz HR3.out 1
    have fr2 := froz HR3.out 2
    have fr3 := froz HR3.out 3
    have fx0 := froz HX3.out 0
    have fx1 := froz HX3.out 1
    have fx2 := froz HX3.out 2
    have fx3 := froz HX3.out 3
    have fx4 := froz HX3.out 4
    obtain ⟨W4, hW4⟩ : ∃ W, (((((((((W3.setCell ⟨gq + 1, 0, none⟩ (.slice none 0 0)).setCell ⟨gq + 1, 1, none⟩ (.int .i64 0)).setCell ⟨gq + 1, 2, none⟩ (.int .i64 0)).setCell ⟨gq + 1, 3, none⟩ (.int .i64 0)).setCell ⟨gq + 2, 0, none⟩ (.int .i64 0)).setCell ⟨gq + 2, 1, none⟩ (.int .i64 0)).setCell ⟨gq + 2, 2, none⟩ (.int .i64 0)).setCell ⟨gq + 2, 3, none⟩ (.int .i64 0)).setCell ⟨gq + 2, 4, none⟩ (.int .u64 0)) = W := ⟨_, rfl⟩
    have B1 : W4.heap[gq + 1]? = some (.cells #[.slice none 0 0, .int .i64 0, .int .i64 0, .int .i64 0] 24 (0, 0)) := by rw [← hW4]; exact block_set5_ne (block_set4 HR3.out) (by omega)
    have B2 : W4.heap[gq + 2]? = some (.cells #[.int .i64 0, .int .i64 0, .int .i64 0, .int .i64 0, .int .u64 0] 35 (0, 0)) := by rw [← hW4]; exact block_set5 (block_set4_ne HX3.out (by omega))
    have hbz : Below w.heap.size w W4 := by rw [← hW4]; exact below_set5 (below_set4 HB3.out.1 (by have := HG.out; omega) _ _ _ _) (by have := HG.out; omega) _ _ _ _ _
    obtain ⟨z0, z1, z2, z3⟩ := ope4 B1
    obtain ⟨y0, y1, y2, y3, y4⟩ := ope5 B2
    have HZ := Lib.hid hbz
    clear B1 B2 hbz
    go_wp2
    (try rw [hW4])
    clear hW4
    have hu := Try.underlying24
    have hu2 := Try.underlying35
    refine bodyPost_ret (v := .tuple #[.agg #[.slice none 0 0, .int .i64 0, .int .i64 0, .int .i64 0], .agg #[.int .i64 0, .int .i64 0, .int .i64 0, .int .i64 0, .int .u64 0], .int .i64 R]) (by simp [results, Try.results18, go_sem, hu, hu2, z0, z1, z2, z3, y0, y1, y2, y3, y4]) rfl ?_
    exact ⟨HZ.out, .inl ⟨by rw [HR.out]; exact HRZ.out, by rw [HR.out]⟩⟩
  subst hR0
  have kk : ((0 : Int) != 0) = false := rfl
  have HPZ := Lib.hid (popF_zero HR.out)
  have HP0 := Lib.hid HR.out
  clear HR
  obtain ⟨x, r, hlr⟩ : ∃ x r, l = x :: r := by
    cases l with
    | nil => exact absurd rfl HPZ.out.2.1
    | cons x r => exact ⟨x, r, rfl⟩
  obtain ⟨t, d, n1, s, v⟩ := x
  have HLR := Lib.hid hlr
  have hll : 0 < l.length := by rw [hlr]; simp
  obtain ⟨ba, o, e⟩ := HI3.out.addr hll
  subst e
  have HXR : Hid (l[0]'hll = ⟨t, d, n1, s, v⟩ ∧ l.drop 1 = r ∧ l.length - 1 = r.length) := Lib.hid (by subst hlr; exact ⟨rfl, rfl, rfl⟩)
  clear hlr
  have HLL := Lib.hid hll
  have HKQ : Hid (∀ W, Kx (gq + 1) (gq + 2) W3 W → W.heap[gq]? = some (.cells #[.slice (some ⟨ba, o, none⟩) l.length c, .int .i64 now, .int .i64 dl, .int .i64 nx] 24 (0, 0))) := Lib.hid (fun W hW => hW.block HQ3.out (by omega) (by omega))
  have HKI : Hid (∀ W, Kx (gq + 1) (gq + 2) W3 W → EvIn n0 W l (some ⟨ba, o, none⟩)) := Lib.hid (fun W hW => hW.ev HB3.out.2 (by have := HG.out; have := HCC.out; omega) (by have := HG.out; have := HCC.out; omega) HI3.out)
  obtain ⟨q0, q1, q2, q3⟩ := ope4 HQ3.out
  go_upto_region 4 with (fail)
  clear q0 q1 q2 q3
  refine wp_region_inv (fun (b : Nat → Bool) (ac : Act) (W9 : World) => ∃ (u0 u1 u2 u3 u4 u5 u6 u7 u8 : Value) (z5 : Nat) (a5 : Option Addr) (c5 : Nat), ac = { tmps := #[.agg #[.slice (some ⟨ba, o, none⟩) l.length c, .int .i64 now, .int .i64 dl, .int .i64 nx], .pointer (some ⟨gq, 0, none⟩), .pointer (some ⟨gq + 1, 0, none⟩), .pointer (some ⟨gq + 2, 0, none⟩), u8, .int .i64 0, .agg #[.slice (some ⟨ba, o, none⟩) l.length c, .int .i64 now, .int .i64 dl, .int .i64 nx], .int .i64 0, .int .i64 0, .bool false, undef, undef, undef, u0, u1, u2, u3, u4, u5], defers := [] } ∧ (Below w.heap.size w W9 ∧ Kx (gq + 1) (gq + 2) W3 W9 ∧ (b 6 = false → W9.heap[gq + 1]? = some (.cells #[.slice none 0 0, .int .i64 0, .int .i64 0, .int .i64 0] 24 (0, 0))) ∧ (b 7 = false → W9.heap[gq + 2]? = some (.cells #[.int .i64 0, .int .i64 0, .int .i64 0, .int .i64 0, .int .u64 0] 35 (0, 0)))) ∧ (b 0 = true → u0 = .agg #[.slice (some ⟨ba, o, none⟩) l.length c, .int .i64 now, .int .i64 dl, .int .i64 nx]) ∧ (b 1 = true → u1 = .agg #[.slice a5 (l.length - 1) c5, .int .i64 t, .int .i64 d, .int .i64 nx] ∧ (a5 = none → c5 = 0) ∧ l.length - 1 ≤ c5 ∧ (∀ p, a5 = some p → W3.heap.size ≤ p.block) ∧ EvIn z5 W9 (l.drop 1) a5 ∧ z5 ≤ W9.heap.size) ∧ (b 2 = true → u2 = .pointer (some ⟨gq, 0, none⟩)) ∧ (b 3 = true → u3 = .slice (some ⟨ba, o, none⟩) l.length c) ∧ (b 4 = true → u4 = .pointer (some ⟨ba, o, none⟩)) ∧ (b 5 = true → u5 = .agg #[.int .i64 t, .int .i64 d, .int .i64 n1, .int .i64 s, .int .u64 v]) ∧ (b 6 = true → W9.heap[gq + 1]? = some (.cells #[.slice a5 (l.length - 1) c5, .int .i64 t, .int .i64 d, .int .i64 nx] 24 (0, 0))) ∧ (b 7 = true → W9.heap[gq + 2]? = some (.cells #[.int .i64 t, .int .i64 d, .int .i64 n1, .int .i64 s, .int .u64 v] 35 (0, 0))) ∧ (b 8 = true → u8 = .int .i64 0)) (by kernel_rfl) (by kernel_rfl) ?_ ?_ ?_
  · refine ⟨undef, undef, undef, undef, undef, undef, undef, undef, .int .i64 0, 0, none, 0, rfl, ⟨HB3.out.1.drew, Kx.refl _ _ _, fun _ => HR3.out, fun _ => HX3.out⟩, fun h => (by cases h), fun h => (by cases h), fun h => (by cases h), fun h => (by cases h), fun h => (by cases h), fun h => (by cases h), fun h => (by cases h), fun h => (by cases h), fun h => (by cases h)⟩
  · refine ⟨⟨rfl, ?_⟩, ⟨⟨rfl, ?_⟩, ⟨⟨rfl, ?_⟩, ⟨⟨rfl, ?_⟩, ⟨⟨rfl, ?_⟩, ⟨⟨rfl, ?_⟩, ⟨⟨rfl, ?_⟩, ⟨⟨rfl, ?_⟩, ⟨⟨rfl, ?_⟩, trivial⟩⟩⟩⟩⟩⟩⟩⟩⟩
    · intro b ac W9 hbk hd hcl hJ K hK
      obtain ⟨u0, u1, u2, u3, u4, u5, u6, u7, u8, z5, a5, c5, rfl, hC, f0, f1, f2, f3, f4, f5, f6, f7, f8⟩ := hJ
      obtain ⟨z0, z1, z2, z3⟩ := ope4 (HKQ.out W9 hC.2.1)
      go_simp
      exact hK _ _ ⟨_, _, _, _, _, _, undef, undef, _, z5, a5, c5, rfl, hC, (fun _ => rfl), (f1), (f2), (f3), (f4), (f5), (f6), (f7), (f8)⟩
    · intro b ac W9 hbk hd hcl hJ K hK
      obtain ⟨u0, u1, u2, u3, u4, u5, u6, u7, u8, z5, a5, c5, rfl, hC, f0, f1, f2, f3, f4, f5, f6, f7, f8⟩ := hJ
      have d0 := f0 (hd ⟨0, .data⟩ (by simp) rfl)
      subst d0
      have n6 := hcl.no 6 _ rfl ⟨1, .phase⟩ (by simp) rfl rfl hbk
      have n7 := hcl.no 7 _ rfl ⟨1, .phase⟩ (by simp) rfl rfl hbk
      go_simp
      refine (without_any ⟨ba, o, none⟩ c l HCC.out.2.2.1 HCC.out.2.1 1 (by decide) (by have := HLL.out; omega) now dl nx n0 W9 (Nat.le_trans HB3.out.2 hC.2.1.1) (HKI.out W9 hC.2.1)).mono ?_
      rintro e W8 ⟨hb, a8, c8, rfl, k1, k2, k3, k4⟩
      have e1 : (l[1 - 1]'(by have := HLL.out; omega)) = ⟨t, d, n1, s, v⟩ := HXR.out.1
      rw [e1]
      have hC' : Below w.heap.size w W8 ∧ Kx (gq + 1) (gq + 2) W3 W8 ∧ (b 6 = false → W8.heap[gq + 1]? = some (.cells #[.slice none 0 0, .int .i64 0, .int .i64 0, .int .i64 0] 24 (0, 0))) ∧ (b 7 = false → W8.heap[gq + 2]? = some (.cells #[.int .i64 0, .int .i64 0, .int .i64 0, .int .i64 0, .int .u64 0] 35 (0, 0))) := ⟨hC.1.trans (hb.mono hC.1.size), hC.2.1.below hb, fun h => block_kept (hC.2.2.1 h) hb, fun h => block_kept (hC.2.2.2 h) hb⟩
      exact hK _ _ ⟨_, _, _, _, _, _, undef, undef, _, W8.heap.size, a8, c8, rfl, hC', (f0), (fun _ => ⟨rfl, k2, k3, fun p hp => Nat.le_trans hC.2.1.1 (k4 p hp), k1, Nat.le_refl _⟩), (f2), (f3), (f4), (f5), (fun h => by rw [show b 6 = true from h] at n6; cases n6), (fun h => by rw [show b 7 = true from h] at n7; cases n7), (f8)⟩
    · intro b ac W9 hbk hd hcl hJ K hK
      obtain ⟨u0, u1, u2, u3, u4, u5, u6, u7, u8, z5, a5, c5, rfl, hC, f0, f1, f2, f3, f4, f5, f6, f7, f8⟩ := hJ
      go_simp
      exact hK _ _ ⟨_, _, _, _, _, _, undef, undef, _, z5, a5, c5, rfl, hC, (f0), (f1), (fun _ => rfl), (f3), (f4), (f5), (f6), (f7), (f8)⟩
    · intro b ac W9 hbk hd hcl hJ K hK
      obtain ⟨u0, u1, u2, u3, u4, u5, u6, u7, u8, z5, a5, c5, rfl, hC, f0, f1, f2, f3, f4, f5, f6, f7, f8⟩ := hJ
      have d2 := f2 (hd ⟨2, .data⟩ (by simp) rfl)
      subst d2
      obtain ⟨z0, z1, z2, z3⟩ := ope4 (HKQ.out W9 hC.2.1)
      go_simp
      exact hK _ _ ⟨_, _, _, _, _, _, undef, undef, _, z5, a5, c5, rfl, hC, (f0), (f1), (f2), (fun _ => rfl), (f4), (f5), (f6), (f7), (f8)⟩
    · intro b ac W9 hbk hd hcl hJ K hK
      obtain ⟨u0, u1, u2, u3, u4, u5, u6, u7, u8, z5, a5, c5, rfl, hC, f0, f1, f2, f3, f4, f5, f6, f7, f8⟩ := hJ
      have d3 := f3 (hd ⟨3, .data⟩ (by simp) rfl)
      subst d3
      have hl0 := HLL.out
      have hl1 : (0 : Int) < (l.length : Int) := by omega
      go_simp
      exact hK _ _ ⟨_, _, _, _, _, _, undef, undef, _, z5, a5, c5, rfl, hC, (f0), (f1), (f2), (f3), (fun _ => rfl), (f5), (f6), (f7), (f8)⟩
    · intro b ac W9 hbk hd hcl hJ K hK
      obtain ⟨u0, u1, u2, u3, u4, u5, u6, u7, u8, z5, a5, c5, rfl, hC, f0, f1, f2, f3, f4, f5, f6, f7, f8⟩ := hJ
      have d4 := f4 (hd ⟨4, .data⟩ (by simp) rfl)
      subst d4
      obtain ⟨z0, z1, z2, z3, z4⟩ := (HKI.out W9 hC.2.1).cells HLL.out
      simp only [HXR.out.1, Nat.zero_mul, Nat.add_zero] at z0 z1 z2 z3 z4
      go_simp
      exact hK _ _ ⟨_, _, _, _, _, _, undef, undef, _, z5, a5, c5, rfl, hC, (f0), (f1), (f2), (f3), (f4), (fun _ => rfl), (f6), (f7), (f8)⟩
    · intro b ac W9 hbk hd hcl hJ K hK
      obtain ⟨u0, u1, u2, u3, u4, u5, u6, u7, u8, z5, a5, c5, rfl, hC, f0, f1, f2, f3, f4, f5, f6, f7, f8⟩ := hJ
      have d1 := f1 (hd ⟨1, .data⟩ (by simp) rfl)
      obtain ⟨rfl, k1, k2, k3, k4, k5⟩ := d1
      have HZ := hC.2.2.1 hbk
      have fz := froz HZ
      have fz0 := fz 0
      have fz1 := fz 1
      have fz2 := fz 2
      have fz3 := fz 3
      clear fz
      obtain ⟨y0, y1, y2, y3⟩ := ope4 HZ
      obtain ⟨W8, hW8⟩ : ∃ W, ((((W9.setCell ⟨gq + 1, 0, none⟩ (.slice a5 (l.length - 1) c5)).setCell ⟨gq + 1, 1, none⟩ (.int .i64 t)).setCell ⟨gq + 1, 2, none⟩ (.int .i64 d)).setCell ⟨gq + 1, 3, none⟩ (.int .i64 nx)) = W := ⟨_, rfl⟩
      have B8 : W8.heap[gq + 1]? = some (.cells #[.slice a5 (l.length - 1) c5, .int .i64 t, .int .i64 d, .int .i64 nx] 24 (0, 0)) := by rw [← hW8]; exact block_set4 HZ
      have hz8 : W8.heap.size = W9.heap.size := by rw [← hW8]; simp only [World.size_setCell]
      have hb8 : Below w.heap.size w W8 := by rw [← hW8]; exact below_set4 hC.1 (by have := HG.out; omega) _ _ _ _
      have hk8 : Kx (gq + 1) (gq + 2) W3 W8 := by rw [← hW8]; exact hC.2.1.set1.set1.set1.set1
      have hi8 : EvIn z5 W8 (l.drop 1) a5 := by rw [← hW8]; exact k4.set4 (fun p hp => by have h1 := k3 p hp; have h2 := HG.out; omega)
      go_simp
      (try rw [hW8])
      exact hK _ _ ⟨_, _, _, _, _, _, undef, undef, _, z5, a5, c5, rfl, ⟨hb8, hk8, (fun h => by cases h), (fun h => by rw [← hW8]; exact block_set4_ne (hC.2.2.2 h) (by omega))⟩, (f0), (fun _ => ⟨rfl, k1, k2, k3, hi8, by rw [hz8]; exact k5⟩), (f2), (f3), (f4), (f5), (fun _ => B8), (fun h => absurd (hcl 7 _ rfl h ⟨6, .chain⟩ (by simp) rfl) (by rw [hbk]; decide)), (f8)⟩
    · intro b ac W9 hbk hd hcl hJ K hK
      obtain ⟨u0, u1, u2, u3, u4, u5, u6, u7, u8, z5, a5, c5, rfl, hC, f0, f1, f2, f3, f4, f5, f6, f7, f8⟩ := hJ
      have d5 := f5 (hd ⟨5, .data⟩ (by simp) rfl)
      have d1 := f1 (hd ⟨1, .phase⟩ (by simp) rfl)
      subst d5
      have HZ := hC.2.2.2 hbk
      have fz := froz HZ
      have fz0 := fz 0
      have fz1 := fz 1
      have fz2 := fz 2
      have fz3 := fz 3
      have fz4 := fz 4
      clear fz
      obtain ⟨y0, y1, y2, y3, y4⟩ := ope5 HZ
      obtain ⟨W8, hW8⟩ : ∃ W, (((((W9.setCell ⟨gq + 2, 0, none⟩ (.int .i64 t)).setCell ⟨gq + 2, 1, none⟩ (.int .i64 d)).setCell ⟨gq + 2, 2, none⟩ (.int .i64 n1)).setCell ⟨gq + 2, 3, none⟩ (.int .i64 s)).setCell ⟨gq + 2, 4, none⟩ (.int .u64 v)) = W := ⟨_, rfl⟩
      have B8 : W8.heap[gq + 2]? = some (.cells #[.int .i64 t, .int .i64 d, .int .i64 n1, .int .i64 s, .int .u64 v] 35 (0, 0)) := by rw [← hW8]; exact block_set5 HZ
      have hz8 : W8.heap.size = W9.heap.size := by rw [← hW8]; simp only [World.size_setCell]
      have hb8 : Below w.heap.size w W8 := by rw [← hW8]; exact below_set5 hC.1 (by have := HG.out; omega) _ _ _ _ _
      have hk8 : Kx (gq + 1) (gq + 2) W3 W8 := by rw [← hW8]; exact hC.2.1.set2.set2.set2.set2.set2
      obtain ⟨rfl, k1, k2, k3, k4, k5⟩ := d1
      have hi8 : EvIn z5 W8 (l.drop 1) a5 := by rw [← hW8]; exact k4.set5 (fun p hp => by have h1 := k3 p hp; have h2 := HG.out; omega)
      go_simp
      (try rw [hW8])
      exact hK _ _ ⟨_, _, _, _, _, _, undef, undef, _, z5, a5, c5, rfl, ⟨hb8, hk8, (fun h => by rw [← hW8]; exact block_set5_ne (hC.2.2.1 h) (by omega)), (fun h => by cases h)⟩, (f0), (fun _ => ⟨rfl, k1, k2, k3, hi8, by rw [hz8]; exact k5⟩), (f2), (f3), (f4), (f5), (fun h => by rw [← hW8]; exact block_set5_ne (f6 h) (by omega)), (fun _ => B8), (f8)⟩
    · intro b ac W9 hbk hd hcl hJ K hK
      obtain ⟨u0, u1, u2, u3, u4, u5, u6, u7, u8, z5, a5, c5, rfl, hC, f0, f1, f2, f3, f4, f5, f6, f7, f8⟩ := hJ
      go_simp
      exact hK _ _ ⟨_, _, _, _, _, _, undef, undef, _, z5, a5, c5, rfl, hC, (f0), (f1), (f2), (f3), (f4), (f5), (f6), (f7), (fun _ => rfl)⟩
  · intro b ac W6 hb hJ
    obtain ⟨u0, u1, u2, u3, u4, u5, u6, u7, u8, z5, a5, c5, rfl, hC, f0, f1, f2, f3, f4, f5, f6, f7, f8⟩ := hJ
    replace f0 := f0 (hb 0 (by decide))
    replace f1 := f1 (hb 1 (by decide))
    replace f2 := f2 (hb 2 (by decide))
    replace f3 := f3 (hb 3 (by decide))
    replace f4 := f4 (hb 4 (by decide))
    replace f5 := f5 (hb 5 (by decide))
    replace f6 := f6 (hb 6 (by decide))
    replace f7 := f7 (hb 7 (by decide))
    replace f8 := f8 (hb 8 (by decide))
    clear f0 f2 f3 f4 f5
    obtain ⟨rfl, k1, k2, k3, k4, k5⟩ := f1
    subst f8
    have HF := Lib.hid (And.intro hC.1 (And.intro k1 (And.intro k2 (And.intro k3 (And.intro k4 k5)))))
    obtain ⟨z0, z1, z2, z3⟩ := ope4 f6
    obtain ⟨y0, y1, y2, y3, y4⟩ := ope5 f7
    clear hC k1 k2 k3 k4 k5 f6 f7
    go_wp2
    have hu := Try.underlying24
    have hu2 := Try.underlying35
    refine bodyPost_ret (v := .tuple #[.agg #[.slice a5 (l.length - 1) c5, .int .i64 t, .int .i64 d, .int .i64 nx], .agg #[.int .i64 t, .int .i64 d, .int .i64 n1, .int .i64 s, .int .u64 v], .int .i64 0]) (by simp [results, Try.results18, go_sem, hu, hu2, z0, z1, z2, z3, y0, y1, y2, y3, y4]) rfl ?_
    refine ⟨HF.out.1, .inr ⟨HP0.out, t, d, n1, s, v, r, a5, c5, HLR.out, by rw [HXR.out.2.2], by rw [← HXR.out.2.1]; exact InRow.less HF.out.2.2.2.2.2 (fun _ _ h => h) HF.out.2.2.2.2.1, HF.out.2.1, by rw [← HXR.out.2.2]; exact HF.out.2.2.1, fun p hp => ?_⟩⟩
    have h1 := HF.out.2.2.2.1 p hp
    have h2 := HG.out
    omega
set_option maxHeartbeats 8000000 in
set_option maxRecDepth 100000 in
theorem refPop_any (a : Option Addr) (c : Nat) (l : List EV) (hll : l.length ≤ 900000) (hac : a = none → c = 0) (hlc : l.length ≤ c) (now dl nx : Int) (n0 : Nat) (w : World) (hn0 : n0 ≤ w.heap.size) (hin : EvIn n0 w l a) : Calls Try.prog 19 #[.agg #[.slice a l.length c, .int .i64 now, .int .i64 dl, .int .i64 nx]] w (PopPost l now dl nx w) := by
  obtain ⟨gq, hgq⟩ : ∃ g, w.heap.size = g := ⟨_, rfl⟩
  obtain ⟨V0, hV0⟩ : ∃ W, w.alloc (.cells #[.slice a l.length c, .int .i64 now, .int .i64 dl, .int .i64 nx] 24) = W := ⟨_, rfl⟩
  have hbV0 : Below w.heap.size w V0 := by rw [← hV0]; exact (Below.refl _ _).alloc (Nat.le_refl _) _
  have hzV0 : V0.heap.size = gq + 1 := by rw [← hV0, World.size_alloc, hgq]
  have BBq : V0.heap[gq]? = some (.cells #[.slice a l.length c, .int .i64 now, .int .i64 dl, .int .i64 nx] 24 (0, 0)) := by rw [← hV0, ← hgq]; exact World.alloc_heap_new w _
  have hbw := hbV0
  obtain ⟨V1, hV1⟩ : ∃ W, V0.alloc (.cells #[.slice none 0 0, .int .i64 0, .int .i64 0, .int .i64 0] 24) = W := ⟨_, rfl⟩
  have hbV1 : Below V0.heap.size V0 V1 := by rw [← hV1]; exact (Below.refl _ _).alloc (Nat.le_refl _) _
  have hzV1 : V1.heap.size = gq + 2 := by rw [← hV1, World.size_alloc, hzV0]
  have BBr : V1.heap[gq + 1]? = some (.cells #[.slice none 0 0, .int .i64 0, .int .i64 0, .int .i64 0] 24 (0, 0)) := by rw [← hV1, ← hzV0]; exact World.alloc_heap_new V0 _
  replace BBq := block_kept BBq hbV1
  replace hbw := hbw.trans (hbV1.mono hbw.size)
  obtain ⟨V2, hV2⟩ : ∃ W, V1.alloc (.cells #[.int .i64 0, .int .i64 0, .int .i64 0, .int .i64 0, .int .u64 0] 35) = W := ⟨_, rfl⟩
  have hbV2 : Below V1.heap.size V1 V2 := by rw [← hV2]; exact (Below.refl _ _).alloc (Nat.le_refl _) _
  have hzV2 : V2.heap.size = gq + 3 := by rw [← hV2, World.size_alloc, hzV1]
  have BBx : V2.heap[gq + 2]? = some (.cells #[.int .i64 0, .int .i64 0, .int .i64 0, .int .i64 0, .int .u64 0] 35 (0, 0)) := by rw [← hV2, ← hzV1]; exact World.alloc_heap_new V1 _
  replace BBq := block_kept BBq hbV2
  replace BBr := block_kept BBr hbV2
  replace hbw := hbw.trans (hbV2.mono hbw.size)
  have hs2 : n0 ≤ V2.heap.size := by have := hbw.size; omega
  have hi2 := hin.keep hbw hn0
  have cF := refCheck_any a c l (by omega) now dl nx n0 V2 hs2 hi2
  obtain ⟨R, hR⟩ : ∃ R, ckE now dl nx l = R := ⟨_, rfl⟩
  have HR := Lib.hid hR
  rw [hR] at cF
  clear hR
  have HQ := Lib.hid BBq
  have HRR := Lib.hid BBr
  have HX := Lib.hid BBx
  have HBW := Lib.hid (And.intro hbw hs2)
  have HI := Lib.hid hi2
  have HCC := Lib.hid (And.intro hac (And.intro hlc (And.intro hll hn0)))
  have HG0 := Lib.hid (show w.heap.size ≤ gq by omega)
  clear BBq BBr BBx hbw hin hi2 hbV0 hbV1 hbV2 hs2 hac hlc
  obtain ⟨q0, q1, q2, q3⟩ := ope4 HQ.out
  go_enter Try.func19, Try.ntmps19
  go_upto_region 1 with (fail)
  (try rw [hgq])
  (try rw [hV0])
  (try rw [hzV0])
  (try rw [hV1])
  (try rw [hzV1])
  (try rw [hV2])
  (try rw [hzV2])
  clear hV0 hV1 hV2 hgq hzV0 hzV1 hzV2
  go_wp2_with fail
  refine cF.mono ?_
  clear cF q0 q1 q2 q3
  rintro e W3 ⟨rfl, hb⟩
  have HQ3 := Lib.hid (block_kept HQ.out hb)
  have HR3 := Lib.hid (block_kept HRR.out hb)
  have HX3 := Lib.hid (block_kept HX.out hb)
  have HB3 := Lib.hid (And.intro (HBW.out.1.trans (hb.mono HBW.out.1.size)) (Nat.le_trans HBW.out.2 hb.size))
  have HI3 := Lib.hid (HI.out.keep hb HBW.out.2)
  have HG : Hid (w.heap.size ≤ gq ∧ gq + 2 < W3.heap.size) := Lib.hid ⟨HG0.out, (Array.getElem?_eq_some_iff.1 HX3.out).1⟩
  clear HQ HRR HX HBW HI hb HG0
  have HPF : Hid (popF now dl nx l = if ckE now dl nx l = 0 then (if l.length = 0 then 141 else 0) else ckE now dl nx l) := Lib.hid rfl
  by_cases hR0 : R = 0
  case neg =>
    have kk : (R != 0) = true := by simpa using hR0
    have HRZ := Lib.hid hR0
    have HPR : Hid (popF now dl nx l = R) := Lib.hid (by rw [HPF.out, HR.out, if_neg hR0])
    clear hR0
    obtain ⟨q0, q1, q2, q3⟩ := ope4 HQ3.out
    obtain ⟨r0, r1, r2, r3⟩ := ope4 HR3.out
    obtain ⟨x0, x1, x2, x3, x4⟩ := ope5 HX3.out
    have fr0 := froz HR3.out 0
    have fr1 := froz HR3.out 1
    have fr2 := froz HR3.out 2
    have fr3 := froz HR3.out 3
    have fx0 := froz HX3.out 0
    have fx1 := froz HX3.out 1
    have fx2 := froz HX3.out 2
    have fx3 := froz HX3.out 3
    have fx4 := froz HX3.out 4
    obtain ⟨W4, hW4⟩ : ∃ W, (((((((((W3.setCell ⟨gq + 1, 0, none⟩ (.slice none 0 0)).setCell ⟨gq + 1, 1, none⟩ (.int .i64 0)).setCell ⟨gq + 1, 2, none⟩ (.int .i64 0)).setCell ⟨gq + 1, 3, none⟩ (.int .i64 0)).setCell ⟨gq + 2, 0, none⟩ (.int .i64 0)).setCell ⟨gq + 2, 1, none⟩ (.int .i64 0)).setCell ⟨gq + 2, 2, none⟩ (.int .i64 0)).setCell ⟨gq + 2, 3, none⟩ (.int .i64 0)).setCell ⟨gq + 2, 4, none⟩ (.int .u64 0)) = W := ⟨_, rfl⟩
    have B1 : W4.heap[gq + 1]? = some (.cells #[.slice none 0 0, .int .i64 0, .int .i64 0, .int .i64 0] 24 (0, 0)) := by rw [← hW4]; exact block_set5_ne (block_set4 HR3.out) (by omega)
    have B2 : W4.heap[gq + 2]? = some (.cells #[.int .i64 0, .int .i64 0, .int .i64 0, .int .i64 0, .int .u64 0] 35 (0, 0)) := by rw [← hW4]; exact block_set5 (block_set4_ne HX3.out (by omega))
    have hbz : Below w.heap.size w W4 := by rw [← hW4]; exact below_set5 (below_set4 HB3.out.1 (by have := HG.out; omega) _ _ _ _) (by have := HG.out; omega) _ _ _ _ _
    obtain ⟨z0, z1, z2, z3⟩ := ope4 B1
    obtain ⟨y0, y1, y2, y3, y4⟩ := ope5 B2
    have HZ := Lib.hid hbz
    clear B1 B2 hbz
    go_wp2
    (try rw [hW4])
    clear hW4
    have hu := Try.underlying24
    have hu2 := Try.underlying35
    refine bodyPost_ret (v := .tuple #[.agg #[.slice none 0 0, .int .i64 0, .int .i64 0, .int .i64 0], .agg #[.int .i64 0, .int .i64 0, .int .i64 0, .int .i64 0, .int .u64 0], .int .i64 R]) (by simp [results, Try.results19, go_sem, hu, hu2, z0, z1, z2, z3, y0, y1, y2, y3, y4]) rfl ?_
    exact ⟨HZ.out, .inl ⟨by rw [HPR.out]; exact HRZ.out, by rw [HPR.out]⟩⟩
  subst hR0
  have kk : ((0 : Int) != 0) = false := rfl
  obtain ⟨q0, q1, q2, q3⟩ := ope4 HQ3.out
  obtain ⟨E, hE⟩ : ∃ E, ((l.length : Int) == 0) = E := ⟨_, rfl⟩
  have cE := refEmpty_any a l.length c now dl nx W3
  rw [hE] at cE
  have HEE := Lib.hid hE
  clear hE
  go_wp2_with fail
  refine cE.mono ?_
  clear cE q0 q1 q2 q3
  rintro e W3' ⟨rfl, hb⟩
  replace HQ3 := Lib.hid (block_kept HQ3.out hb)
  replace HR3 := Lib.hid (block_kept HR3.out hb)
  replace HX3 := Lib.hid (block_kept HX3.out hb)
  replace HI3 := Lib.hid (HI3.out.keep hb HB3.out.2)
  replace HB3 := Lib.hid (And.intro (HB3.out.1.trans (hb.mono HB3.out.1.size)) (Nat.le_trans HB3.out.2 hb.size))
  replace HG : Hid (w.heap.size ≤ gq ∧ gq + 2 < W3'.heap.size) := Lib.hid ⟨HG.out.1, (Array.getElem?_eq_some_iff.1 HX3.out).1⟩
  clear hb
  clear W3
  obtain ⟨W3, rfl⟩ : ∃ W, W = W3' := ⟨_, rfl⟩
  cases E with
  | true =>
    have HPR : Hid (popF now dl nx l = 141) := Lib.hid (by rw [HPF.out, if_pos HR.out, if_pos (by have := beq_iff_eq.1 HEE.out; omega)])
    obtain ⟨q0, q1, q2, q3⟩ := ope4 HQ3.out
    obtain ⟨r0, r1, r2, r3⟩ := ope4 HR3.out
    obtain ⟨x0, x1, x2, x3, x4⟩ := ope5 HX3.out
    have fr0 := froz HR3.out 0
    have fr1 := froz HR3.out 1
    have fr2 := froz HR3.out 2
    have fr3 := froz HR3.out 3
    have fx0 := froz HX3.out 0
    have fx1 := froz HX3.out 1
    have fx2 := froz HX3.out 2
    have fx3 := froz HX3.out 3
    have fx4 := froz HX3.out 4
    obtain ⟨W4, hW4⟩ : ∃ W, (((((((((W3.setCell ⟨gq + 1, 0, none⟩ (.slice none 0 0)).setCell ⟨gq + 1, 1, none⟩ (.int .i64 0)).setCell ⟨gq + 1, 2, none⟩ (.int .i64 0)).setCell ⟨gq + 1, 3, none⟩ (.int .i64 0)).setCell ⟨gq + 2, 0, none⟩ (.int .i64 0)).setCell ⟨gq + 2, 1, none⟩ (.int .i64 0)).setCell ⟨gq + 2, 2, none⟩ (.int .i64 0)).setCell ⟨gq + 2, 3, none⟩ (.int .i64 0)).setCell ⟨gq + 2, 4, none⟩ (.int .u64 0)) = W := ⟨_, rfl⟩
    have B1 : W4.heap[gq + 1]? = some (.cells #[.slice none 0 0, .int .i64 0, .int .i64 0, .int .i64 0] 24 (0, 0)) := by rw [← hW4]; exact block_set5_ne (block_set4 HR3.out) (by omega)
    have B2 : W4.heap[gq + 2]? = some (.cells #[.int .i64 0, .int .i64 0, .int .i64 0, .int .i64 0, .int .u64 0] 35 (0, 0)) := by rw [← hW4]; exact block_set5 (block_set4_ne HX3.out (by omega))
    have hbz : Below w.heap.size w W4 := by rw [← hW4]; exact below_set5 (below_set4 HB3.out.1 (by have := HG.out; omega) _ _ _ _) (by have := HG.out; omega) _ _ _ _ _
    obtain ⟨z0, z1, z2, z3⟩ := ope4 B1
    obtain ⟨y0, y1, y2, y3, y4⟩ := ope5 B2
    have HZ := Lib.hid hbz
    clear B1 B2 hbz
    go_wp2
    (try rw [hW4])
    clear hW4
    have hu := Try.underlying24
    have hu2 := Try.underlying35
    refine bodyPost_ret (v := .tuple #[.agg #[.slice none 0 0, .int .i64 0, .int .i64 0, .int .i64 0], .agg #[.int .i64 0, .int .i64 0, .int .i64 0, .int .i64 0, .int .u64 0], .int .i64 141]) (by simp [results, Try.results19, go_sem, hu, hu2, z0, z1, z2, z3, y0, y1, y2, y3, y4]) rfl ?_
    exact ⟨HZ.out, .inl ⟨by rw [HPR.out]; decide, by rw [HPR.out]⟩⟩
  | false =>
  have HP0 : Hid (popF now dl nx l = 0) := Lib.hid (by rw [HPF.out, if_pos HR.out, if_neg (by have := beq_eq_false_iff_ne.1 HEE.out; omega)])
  have HPZ := Lib.hid (popF_zero HP0.out)
  clear HPF HEE HR
  obtain ⟨x, r, hlr⟩ : ∃ x r, l = x :: r := by
    cases l with
    | nil => exact absurd rfl HPZ.out.2.1
    | cons x r => exact ⟨x, r, rfl⟩
  obtain ⟨t, d, n1, s, v⟩ := x
  have HLR := Lib.hid hlr
  have hll : 0 < l.length := by rw [hlr]; simp
  obtain ⟨ba, o, e⟩ := HI3.out.addr hll
  subst e
  have HXR : Hid (l[0]'hll = ⟨t, d, n1, s, v⟩ ∧ l.drop 1 = r ∧ l.length - 1 = r.length) := Lib.hid (by subst hlr; exact ⟨rfl, rfl, rfl⟩)
  clear hlr
  have HLL := Lib.hid hll
  have HKQ : Hid (∀ W, Kx (gq + 1) (gq + 2) W3 W → W.heap[gq]? = some (.cells #[.slice (some ⟨ba, o, none⟩) l.length c, .int .i64 now, .int .i64 dl, .int .i64 nx] 24 (0, 0))) := Lib.hid (fun W hW => hW.block HQ3.out (by omega) (by omega))
  have HKI : Hid (∀ W, Kx (gq + 1) (gq + 2) W3 W → EvIn n0 W l (some ⟨ba, o, none⟩)) := Lib.hid (fun W hW => hW.ev HB3.out.2 (by have := HG.out; have := HCC.out; omega) (by have := HG.out; have := HCC.out; omega) HI3.out)
  obtain ⟨q0, q1, q2, q3⟩ := ope4 HQ3.out
  go_upto_region 6 with (fail)
  clear q0 q1 q2 q3
  refine wp_region_inv (fun (b : Nat → Bool) (ac : Act) (W9 : World) => ∃ (u0 u1 u2 u3 u4 u5 u6 u7 u8 : Value) (z5 : Nat) (a5 : Option Addr) (c5 : Nat), ac = { tmps := #[.agg #[.slice (some ⟨ba, o, none⟩) l.length c, .int .i64 now, .int .i64 dl, .int .i64 nx], .pointer (some ⟨gq, 0, none⟩), .pointer (some ⟨gq + 1, 0, none⟩), .pointer (some ⟨gq + 2, 0, none⟩), u8, .int .i64 0, .agg #[.slice (some ⟨ba, o, none⟩) l.length c, .int .i64 now, .int .i64 dl, .int .i64 nx], .int .i64 0, .int .i64 0, .bool false, undef, undef, undef, .agg #[.slice (some ⟨ba, o, none⟩) l.length c, .int .i64 now, .int .i64 dl, .int .i64 nx], .bool false, undef, undef, u0, u1, u2, u3, u4, u5], defers := [] } ∧ (Below w.heap.size w W9 ∧ Kx (gq + 1) (gq + 2) W3 W9 ∧ (b 6 = false → W9.heap[gq + 1]? = some (.cells #[.slice none 0 0, .int .i64 0, .int .i64 0, .int .i64 0] 24 (0, 0))) ∧ (b 7 = false → W9.heap[gq + 2]? = some (.cells #[.int .i64 0, .int .i64 0, .int .i64 0, .int .i64 0, .int .u64 0] 35 (0, 0)))) ∧ (b 0 = true → u0 = .agg #[.slice (some ⟨ba, o, none⟩) l.length c, .int .i64 now, .int .i64 dl, .int .i64 nx]) ∧ (b 1 = true → u1 = .agg #[.slice a5 (l.length - 1) c5, .int .i64 t, .int .i64 d, .int .i64 nx] ∧ (a5 = none → c5 = 0) ∧ l.length - 1 ≤ c5 ∧ (∀ p, a5 = some p → W3.heap.size ≤ p.block) ∧ EvIn z5 W9 (l.drop 1) a5 ∧ z5 ≤ W9.heap.size) ∧ (b 2 = true → u2 = .pointer (some ⟨gq, 0, none⟩)) ∧ (b 3 = true → u3 = .slice (some ⟨ba, o, none⟩) l.length c) ∧ (b 4 = true → u4 = .pointer (some ⟨ba, o, none⟩)) ∧ (b 5 = true → u5 = .agg #[.int .i64 t, .int .i64 d, .int .i64 n1, .int .i64 s, .int .u64 v]) ∧ (b 6 = true → W9.heap[gq + 1]? = some (.cells #[.slice a5 (l.length - 1) c5, .int .i64 t, .int .i64 d, .int .i64 nx] 24 (0, 0))) ∧ (b 7 = true → W9.heap[gq + 2]? = some (.cells #[.int .i64 t, .int .i64 d, .int .i64 n1, .int .i64 s, .int .u64 v] 35 (0, 0))) ∧ (b 8 = true → u8 = .int .i64 0)) (by kernel_rfl) (by kernel_rfl) ?_ ?_ ?_
  · refine ⟨undef, undef, undef, undef, undef, undef, undef, undef, .int .i64 0, 0, none, 0, rfl, ⟨HB3.out.1.drew, Kx.refl _ _ _, fun _ => HR3.out, fun _ => HX3.out⟩, fun h => (by cases h), fun h => (by cases h), fun h => (by cases h), fun h => (by cases h), fun h => (by cases h), fun h => (by cases h), fun h => (by cases h), fun h => (by cases h), fun h => (by cases h)⟩
  · refine ⟨⟨rfl, ?_⟩, ⟨⟨rfl, ?_⟩, ⟨⟨rfl, ?_⟩, ⟨⟨rfl, ?_⟩, ⟨⟨rfl, ?_⟩, ⟨⟨rfl, ?_⟩, ⟨⟨rfl, ?_⟩, ⟨⟨rfl, ?_⟩, ⟨⟨rfl, ?_⟩, trivial⟩⟩⟩⟩⟩⟩⟩⟩⟩
    · intro b ac W9 hbk hd hcl hJ K hK
      obtain ⟨u0, u1, u2, u3, u4, u5, u6, u7, u8, z5, a5, c5, rfl, hC, f0, f1, f2, f3, f4, f5, f6, f7, f8⟩ := hJ
      obtain ⟨z0, z1, z2, z3⟩ := ope4 (HKQ.out W9 hC.2.1)
      go_simp
      exact hK _ _ ⟨_, _, _, _, _, _, undef, undef, _, z5, a5, c5, rfl, hC, (fun _ => rfl), (f1), (f2), (f3), (f4), (f5), (f6), (f7), (f8)⟩
    · intro b ac W9 hbk hd hcl hJ K hK
      obtain ⟨u0, u1, u2, u3, u4, u5, u6, u7, u8, z5, a5, c5, rfl, hC, f0, f1, f2, f3, f4, f5, f6, f7, f8⟩ := hJ
      have d0 := f0 (hd ⟨0, .data⟩ (by simp) rfl)
      subst d0
      have n6 := hcl.no 6 _ rfl ⟨1, .phase⟩ (by simp) rfl rfl hbk
      have n7 := hcl.no 7 _ rfl ⟨1, .phase⟩ (by simp) rfl rfl hbk
      go_simp
      refine (first_any ⟨ba, o, none⟩ c l HCC.out.2.2.1 HCC.out.2.1 1 (by decide) (by have := HLL.out; omega) now dl nx n0 W9 (Nat.le_trans HB3.out.2 hC.2.1.1) (HKI.out W9 hC.2.1)).mono ?_
      rintro e W8 ⟨hb, a8, c8, rfl, k1, k2, k3, k4⟩
      have e1 : (l[1 - 1]'(by have := HLL.out; omega)) = ⟨t, d, n1, s, v⟩ := HXR.out.1
      rw [e1]
      have hC' : Below w.heap.size w W8 ∧ Kx (gq + 1) (gq + 2) W3 W8 ∧ (b 6 = false → W8.heap[gq + 1]? = some (.cells #[.slice none 0 0, .int .i64 0, .int .i64 0, .int .i64 0] 24 (0, 0))) ∧ (b 7 = false → W8.heap[gq + 2]? = some (.cells #[.int .i64 0, .int .i64 0, .int .i64 0, .int .i64 0, .int .u64 0] 35 (0, 0))) := ⟨hC.1.trans (hb.mono hC.1.size), hC.2.1.below hb, fun h => block_kept (hC.2.2.1 h) hb, fun h => block_kept (hC.2.2.2 h) hb⟩
      exact hK _ _ ⟨_, _, _, _, _, _, undef, undef, _, W8.heap.size, a8, c8, rfl, hC', (f0), (fun _ => ⟨rfl, k2, k3, fun p hp => Nat.le_trans hC.2.1.1 (k4 p hp), k1, Nat.le_refl _⟩), (f2), (f3), (f4), (f5), (fun h => by rw [show b 6 = true from h] at n6; cases n6), (fun h => by rw [show b 7 = true from h] at n7; cases n7), (f8)⟩
    · intro b ac W9 hbk hd hcl hJ K hK
      obtain ⟨u0, u1, u2, u3, u4, u5, u6, u7, u8, z5, a5, c5, rfl, hC, f0, f1, f2, f3, f4, f5, f6, f7, f8⟩ := hJ
      go_simp
      exact hK _ _ ⟨_, _, _, _, _, _, undef, undef, _, z5, a5, c5, rfl, hC, (f0), (f1), (fun _ => rfl), (f3), (f4), (f5), (f6), (f7), (f8)⟩
    · intro b ac W9 hbk hd hcl hJ K hK
      obtain ⟨u0, u1, u2, u3, u4, u5, u6, u7, u8, z5, a5, c5, rfl, hC, f0, f1, f2, f3, f4, f5, f6, f7, f8⟩ := hJ
      have d2 := f2 (hd ⟨2, .data⟩ (by simp) rfl)
      subst d2
      obtain ⟨z0, z1, z2, z3⟩ := ope4 (HKQ.out W9 hC.2.1)
      go_simp
      exact hK _ _ ⟨_, _, _, _, _, _, undef, undef, _, z5, a5, c5, rfl, hC, (f0), (f1), (f2), (fun _ => rfl), (f4), (f5), (f6), (f7), (f8)⟩
    · intro b ac W9 hbk hd hcl hJ K hK
      obtain ⟨u0, u1, u2, u3, u4, u5, u6, u7, u8, z5, a5, c5, rfl, hC, f0, f1, f2, f3, f4, f5, f6, f7, f8⟩ := hJ
      have d3 := f3 (hd ⟨3, .data⟩ (by simp) rfl)
      subst d3
      have hl0 := HLL.out
      have hl1 : (0 : Int) < (l.length : Int) := by omega
      go_simp
      exact hK _ _ ⟨_, _, _, _, _, _, undef, undef, _, z5, a5, c5, rfl, hC, (f0), (f1), (f2), (f3), (fun _ => rfl), (f5), (f6), (f7), (f8)⟩
    · intro b ac W9 hbk hd hcl hJ K hK
      obtain ⟨u0, u1, u2, u3, u4, u5, u6, u7, u8, z5, a5, c5, rfl, hC, f0, f1, f2, f3, f4, f5, f6, f7, f8⟩ := hJ
      have d4 := f4 (hd ⟨4, .data⟩ (by simp) rfl)
      subst d4
      obtain ⟨z0, z1, z2, z3, z4⟩ := (HKI.out W9 hC.2.1).cells HLL.out
      simp only [HXR.out.1, Nat.zero_mul, Nat.add_zero] at z0 z1 z2 z3 z4
      go_simp
      exact hK _ _ ⟨_, _, _, _, _, _, undef, undef, _, z5, a5, c5, rfl, hC, (f0), (f1), (f2), (f3), (f4), (fun _ => rfl), (f6), (f7), (f8)⟩
    · intro b ac W9 hbk hd hcl hJ K hK
      obtain ⟨u0, u1, u2, u3, u4, u5, u6, u7, u8, z5, a5, c5, rfl, hC, f0, f1, f2, f3, f4, f5, f6, f7, f8⟩ := hJ
      have d1 := f1 (hd ⟨1, .data⟩ (by simp) rfl)
      obtain ⟨rfl, k1, k2, k3, k4, k5⟩ := d1
      have HZ := hC.2.2.1 hbk
      have fz := froz HZ
      have fz0 := fz 0
      have fz1 := fz 1
      have fz2 := fz 2
      have fz3 := fz 3
      clear fz
      obtain ⟨y0, y1, y2, y3⟩ := ope4 HZ
      obtain ⟨W8, hW8⟩ : ∃ W, ((((W9.setCell ⟨gq + 1, 0, none⟩ (.slice a5 (l.length - 1) c5)).setCell ⟨gq + 1, 1, none⟩ (.int .i64 t)).setCell ⟨gq + 1, 2, none⟩ (.int .i64 d)).setCell ⟨gq + 1, 3, none⟩ (.int .i64 nx)) = W := ⟨_, rfl⟩
      have B8 : W8.heap[gq + 1]? = some (.cells #[.slice a5 (l.length - 1) c5, .int .i64 t, .int .i64 d, .int .i64 nx] 24 (0, 0)) := by rw [← hW8]; exact block_set4 HZ
      have hz8 : W8.heap.size = W9.heap.size := by rw [← hW8]; simp only [World.size_setCell]
      have hb8 : Below w.heap.size w W8 := by rw [← hW8]; exact below_set4 hC.1 (by have := HG.out; omega) _ _ _ _
      have hk8 : Kx (gq + 1) (gq + 2) W3 W8 := by rw [← hW8]; exact hC.2.1.set1.set1.set1.set1
      have hi8 : EvIn z5 W8 (l.drop 1) a5 := by rw [← hW8]; exact k4.set4 (fun p hp => by have h1 := k3 p hp; have h2 := HG.out; omega)
      go_simp
      (try rw [hW8])
      exact hK _ _ ⟨_, _, _, _, _, _, undef, undef, _, z5, a5, c5, rfl, ⟨hb8, hk8, (fun h => by cases h), (fun h => by rw [← hW8]; exact block_set4_ne (hC.2.2.2 h) (by omega))⟩, (f0), (fun _ => ⟨rfl, k1, k2, k3, hi8, by rw [hz8]; exact k5⟩), (f2), (f3), (f4), (f5), (fun _ => B8), (fun h => absurd (hcl 7 _ rfl h ⟨6, .chain⟩ (by simp) rfl) (by rw [hbk]; decide)), (f8)⟩
    · intro b ac W9 hbk hd hcl hJ K hK
      obtain ⟨u0, u1, u2, u3, u4, u5, u6, u7, u8, z5, a5, c5, rfl, hC, f0, f1, f2, f3, f4, f5, f6, f7, f8⟩ := hJ
      have d5 := f5 (hd ⟨5, .data⟩ (by simp) rfl)
      have d1 := f1 (hd ⟨1, .phase⟩ (by simp) rfl)
      subst d5
      have HZ := hC.2.2.2 hbk
      have fz := froz HZ
      have fz0 := fz 0
      have fz1 := fz 1
      have fz2 := fz 2
      have fz3 := fz 3
      have fz4 := fz 4
      clear fz
      obtain ⟨y0, y1, y2, y3, y4⟩ := ope5 HZ
      obtain ⟨W8, hW8⟩ : ∃ W, (((((W9.setCell ⟨gq + 2, 0, none⟩ (.int .i64 t)).setCell ⟨gq + 2, 1, none⟩ (.int .i64 d)).setCell ⟨gq + 2, 2, none⟩ (.int .i64 n1)).setCell ⟨gq + 2, 3, none⟩ (.int .i64 s)).setCell ⟨gq + 2, 4, none⟩ (.int .u64 v)) = W := ⟨_, rfl⟩
      have B8 : W8.heap[gq + 2]? = some (.cells #[.int .i64 t, .int .i64 d, .int .i64 n1, .int .i64 s, .int .u64 v] 35 (0, 0)) := by rw [← hW8]; exact block_set5 HZ
      have hz8 : W8.heap.size = W9.heap.size := by rw [← hW8]; simp only [World.size_setCell]
      have hb8 : Below w.heap.size w W8 := by rw [← hW8]; exact below_set5 hC.1 (by have := HG.out; omega) _ _ _ _ _
      have hk8 : Kx (gq + 1) (gq + 2) W3 W8 := by rw [← hW8]; exact hC.2.1.set2.set2.set2.set2.set2
      obtain ⟨rfl, k1, k2, k3, k4, k5⟩ := d1
      have hi8 : EvIn z5 W8 (l.drop 1) a5 := by rw [← hW8]; exact k4.set5 (fun p hp => by have h1 := k3 p hp; have h2 := HG.out; omega)
      go_simp
      (try rw [hW8])
      exact hK _ _ ⟨_, _, _, _, _, _, undef, undef, _, z5, a5, c5, rfl, ⟨hb8, hk8, (fun h => by rw [← hW8]; exact block_set5_ne (hC.2.2.1 h) (by omega)), (fun h => by cases h)⟩, (f0), (fun _ => ⟨rfl, k1, k2, k3, hi8, by rw [hz8]; exact k5⟩), (f2), (f3), (f4), (f5), (fun h => by rw [← hW8]; exact block_set5_ne (f6 h) (by omega)), (fun _ => B8), (f8)⟩
    · intro b ac W9 hbk hd hcl hJ K hK
      obtain ⟨u0, u1, u2, u3, u4, u5, u6, u7, u8, z5, a5, c5, rfl, hC, f0, f1, f2, f3, f4, f5, f6, f7, f8⟩ := hJ
      go_simp
      exact hK _ _ ⟨_, _, _, _, _, _, undef, undef, _, z5, a5, c5, rfl, hC, (f0), (f1), (f2), (f3), (f4), (f5), (f6), (f7), (fun _ => rfl)⟩
  · intro b ac W6 hb hJ
    obtain ⟨u0, u1, u2, u3, u4, u5, u6, u7, u8, z5, a5, c5, rfl, hC, f0, f1, f2, f3, f4, f5, f6, f7, f8⟩ := hJ
    replace f0 := f0 (hb 0 (by decide))
    replace f1 := f1 (hb 1 (by decide))
    replace f2 := f2 (hb 2 (by decide))
    replace f3 := f3 (hb 3 (by decide))
    replace f4 := f4 (hb 4 (by decide))
    replace f5 := f5 (hb 5 (by decide))
    replace f6 := f6 (hb 6 (by decide))
    replace f7 := f7 (hb 7 (by decide))
    replace f8 := f8 (hb 8 (by decide))
    clear f0 f2 f3 f4 f5
    obtain ⟨rfl, k1, k2, k3, k4, k5⟩ := f1
    subst f8
    have HF := Lib.hid (And.intro hC.1 (And.intro k1 (And.intro k2 (And.intro k3 (And.intro k4 k5)))))
    obtain ⟨z0, z1, z2, z3⟩ := ope4 f6
    obtain ⟨y0, y1, y2, y3, y4⟩ := ope5 f7
    clear hC k1 k2 k3 k4 k5 f6 f7
    go_wp2
    have hu := Try.underlying24
    have hu2 := Try.underlying35
    refine bodyPost_ret (v := .tuple #[.agg #[.slice a5 (l.length - 1) c5, .int .i64 t, .int .i64 d, .int .i64 nx], .agg #[.int .i64 t, .int .i64 d, .int .i64 n1, .int .i64 s, .int .u64 v], .int .i64 0]) (by simp [results, Try.results19, go_sem, hu, hu2, z0, z1, z2, z3, y0, y1, y2, y3, y4]) rfl ?_
    refine ⟨HF.out.1, .inr ⟨HP0.out, t, d, n1, s, v, r, a5, c5, HLR.out, by rw [HXR.out.2.2], by rw [← HXR.out.2.1]; exact InRow.less HF.out.2.2.2.2.2 (fun _ _ h => h) HF.out.2.2.2.2.1, HF.out.2.1, by rw [← HXR.out.2.2]; exact HF.out.2.2.1, fun p hp => ?_⟩⟩
    have h1 := HF.out.2.2.2.1 p hp
    have h2 := HG.out
    omega
end Go.Proofs.Ytchboknncfmcpaa
