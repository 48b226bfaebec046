/-
  queue: the reference's first.
-/
import Derived.Test.YtchboknncfmcpaaQaI
import Derived.Test.YtchboknncfmcpaaEzY
namespace Go.Proofs.Ytchboknncfmcpaa
open Go Go.RowKit
set_option linter.unusedVariables false
set_option linter.unusedSimpArgs false
open Go.Sort
set_option maxHeartbeats 8000000 in
set_option maxRecDepth 100000 in
theorem first_any (ad : Addr) (c : Nat) (l : List EV) (hll : l.length ≤ 900000) (hlc : l.length ≤ c) (n : Nat) (hn : 0 < n) (hnl : n ≤ l.length) (now dl nx : Int) (n0 : Nat) (w : World) (hn0 : n0 ≤ w.heap.size) (hin : EvIn n0 w l (some ad)) : Calls Try.prog 33 #[.agg #[.slice (some ad) l.length c, .int .i64 now, .int .i64 dl, .int .i64 nx], .int .i64 (n : Int)] w (LeftPost l n (l[n - 1]'(by omega)).t (l[n - 1]'(by omega)).d nx w) := by
  obtain ⟨x, hx⟩ : ∃ x, l[n - 1]'(by omega) = x := ⟨_, rfl⟩
  rw [hx]
  obtain ⟨t, d, n1, s, v⟩ := x
  simp only
  obtain ⟨gq, hgq⟩ : ∃ g, w.heap.size = g := ⟨_, rfl⟩
  obtain ⟨V0, hV0⟩ : ∃ W, w.alloc (.cells #[.slice (some ad) l.length c, .int .i64 now, .int .i64 dl, .int .i64 nx] 24) = W := ⟨_, rfl⟩
  have hbV0 : Below w.heap.size w V0 := by rw [← hV0]; exact (Below.refl _ _).alloc (Nat.le_refl _) _
  have hzV0 : V0.heap.size = gq + 1 := by rw [← hV0, World.size_alloc, hgq]
  have BBq : V0.heap[gq]? = some (.cells #[.slice (some ad) l.length c, .int .i64 now, .int .i64 dl, .int .i64 nx] 24 (0, 0)) := by rw [← hV0, ← hgq]; exact World.alloc_heap_new w _
  have hbw := hbV0
  obtain ⟨V1, hV1⟩ : ∃ W, V0.alloc (.cells #[.slice none 0 0, .int .i64 0, .int .i64 0, .int .i64 0] 24) = W := ⟨_, rfl⟩
  have hbV1 : Below V0.heap.size V0 V1 := by rw [← hV1]; exact (Below.refl _ _).alloc (Nat.le_refl _) _
  have hzV1 : V1.heap.size = gq + 2 := by rw [← hV1, World.size_alloc, hzV0]
  have BBr : V1.heap[gq + 1]? = some (.cells #[.slice none 0 0, .int .i64 0, .int .i64 0, .int .i64 0] 24 (0, 0)) := by rw [← hV1, ← hzV0]; exact World.alloc_heap_new V0 _
  replace BBq := block_kept BBq hbV1
  replace hbw := hbw.trans (hbV1.mono hbw.size)
  have hi1 := hin.keep hbw hn0
  obtain ⟨ba, o, e⟩ := hi1.addr (by omega)
  injection e with e
  subst e
  obtain ⟨r0, r1, r2, r3, r4⟩ := hi1.cells (i := n - 1) (by omega)
  rw [hx] at r0 r1 r2 r3 r4
  simp only at r0 r1 r2 r3 r4
  clear hx
  obtain ⟨n', hn'⟩ : ∃ n', n - 1 = n' := ⟨_, rfl⟩
  rw [hn'] at r0 r1 r2 r3 r4
  have x2 : (n : Int) - 1 = (n' : Int) := by omega
  have x3 : (n' : Int) < (l.length : Int) := by omega
  have x4 : 0 ≤ (n' : Int) := by omega
  have x5 : n' < l.length := by omega
  have x6 : wrap64 ((n : Int) - 1) = (n' : Int) := by rw [x2]; unfold wrap64; omega
  clear hn'
  obtain ⟨V2, hV2⟩ : ∃ W, V1.alloc (.cells #[.int .i64 t, .int .i64 d, .int .i64 n1, .int .i64 s, .int .u64 v] 35) = W := ⟨_, rfl⟩
  have hbV2 : Below V1.heap.size V1 V2 := by rw [← hV2]; exact (Below.refl _ _).alloc (Nat.le_refl _) _
  have hzV2 : V2.heap.size = gq + 3 := by rw [← hV2, World.size_alloc, hzV1]
  have BBe : V2.heap[gq + 2]? = some (.cells #[.int .i64 t, .int .i64 d, .int .i64 n1, .int .i64 s, .int .u64 v] 35 (0, 0)) := by rw [← hV2, ← hzV1]; exact World.alloc_heap_new V1 _
  have HQ2 := Lib.hid (block_kept BBq hbV2)
  have HR2 := Lib.hid (block_kept BBr hbV2)
  have HE2 := Lib.hid BBe
  have HB2 := Lib.hid (And.intro (hbw.trans (hbV2.mono hbw.size)) (show n0 ≤ V2.heap.size by have := (hbw.trans (hbV2.mono hbw.size)).size; omega))
  have HI2 := Lib.hid (hi1.keep hbV2 (by have := hbw.size; omega))
  have HG := Lib.hid (And.intro (show w.heap.size ≤ gq by omega) (And.intro hll (And.intro hn hnl)))
  have HLC := Lib.hid hlc
  obtain ⟨q0, q1, q2, q3⟩ := ope4 BBq
  clear BBq BBr BBe hbw hin hi1 hbV0 hbV1 hbV2 hlc
  go_enter Try.func33, Try.ntmps33
  go_upto_region 1 with (fail)
  (try rw [hgq])
  (try rw [hV0])
  (try rw [hzV0])
  (try rw [hV1])
  (try rw [hzV1])
  go_upto_region 2 with (fail)
  (try rw [hgq])
  (try rw [hV0])
  (try rw [hzV0])
  (try rw [hV1])
  (try rw [hzV1])
  (try rw [hV2])
  (try rw [hzV2])
  clear hll hn hV0 hV1 hV2 hgq hzV0 hzV1 hzV2 q0 q1 q2 q3 r0 r1 r2 r3 r4 x2 x3 x4 x5 x6
  obtain ⟨a4, ha4⟩ : ∃ a4, a4 = if c = n then some (⟨ba, o, none⟩ : Addr) else some ⟨ba, o + n * 5, none⟩ := ⟨_, rfl⟩
  have HA4 := Lib.hid ha4
  have HCN : Hid (c = n ∨ ¬ c = n) := Lib.hid (by omega)
  have HLE := Lib.hid (And.intro hnl HLC.out)
  have HLL := Lib.hid HG.out.2
  have HDI : Hid ((l.drop n).length = l.length - n ∧ (a4 = none → c - n = 0) ∧ (∀ e ∈ l.drop n, e.Wf)) := Lib.hid ⟨List.length_drop, fun h => by (rw [ha4] at h; split at h <;> cases h), (HI2.out.drop n hnl).wf⟩
  have HKI : Hid (∀ W, Kx (gq + 1) (gq + 1) V2 W → EvIn n0 W (l.drop n) a4) := Lib.hid (fun W hW => by
    have h9 := HG.out.1
    have h1 := hW.ev HB2.out.2 (by omega) (by omega) HI2.out
    rw [ha4]
    split
    · rw [List.drop_eq_nil_of_le (by have := HLC.out; omega)]; trivial
    · exact h1.drop n hnl)
  have HKQ : Hid (∀ W, Kx (gq + 1) (gq + 1) V2 W → W.heap[gq]? = some (.cells #[.slice (some ⟨ba, o, none⟩) l.length c, .int .i64 now, .int .i64 dl, .int .i64 nx] 24 (0, 0))) := Lib.hid (fun W hW => hW.block HQ2.out (by omega) (by omega))
  have HKE : Hid (∀ W, Kx (gq + 1) (gq + 1) V2 W → W.heap[gq + 2]? = some (.cells #[.int .i64 t, .int .i64 d, .int .i64 n1, .int .i64 s, .int .u64 v] 35 (0, 0))) := Lib.hid (fun W hW => hW.block HE2.out (by omega) (by omega))
  have hg0 : w.heap.size ≤ gq ∧ gq + 2 < V2.heap.size := ⟨HG.out.1, (Array.getElem?_eq_some_iff.1 HE2.out).1⟩
  clear HG
  have HG := Lib.hid hg0
  clear hg0 ha4 hnl
  go_wp2_with fail
  refine wp_region_inv (fun (b : Nat → Bool) (ac : Act) (W9 : World) => ∃ (u0 u1 u2 u3 u4 u5 u6 u7 u8 u9 u10 u11 u12 u13 : Value) (g0 z5 : Nat) (a5 : Option Addr) (c5 : Nat), ac = { tmps := #[.agg #[.slice (some ⟨ba, o, none⟩) l.length c, .int .i64 now, .int .i64 dl, .int .i64 nx], .int .i64 (n : Int), .pointer (some ⟨gq, 0, none⟩), undef, .pointer (some ⟨gq + 1, 0, none⟩), .pointer (some ⟨gq + 2, 0, none⟩), .pointer (some ⟨gq, 0, none⟩), .slice (some ⟨ba, o, none⟩) l.length c, .int .i64 (n : Int), .int .i64 (n' : Int), .pointer (some ⟨ba, o + n' * 5, none⟩), .agg #[.int .i64 t, .int .i64 d, .int .i64 n1, .int .i64 s, .int .u64 v], u0, u1, u2, u3, u4, u5, u6, u7, u8, u9, u10, u11, u12], defers := [] } ∧ (Below w.heap.size w W9 ∧ Kx (gq + 1) (gq + 1) V2 W9 ∧ (b 13 = false → W9.heap[gq + 1]? = some (.cells #[.slice none 0 0, .int .i64 0, .int .i64 0, .int .i64 0] 24 (0, 0)))) ∧ (b 0 = true → u0 = .slice (some ⟨g0, 0, none⟩) 0 0 ∧ (b 5 = false → W9.ownsRow V2.heap.size 35 5 (.slice (some ⟨g0, 0, none⟩) 0 0) 0 [])) ∧ (b 1 = true → u1 = .pointer (some ⟨gq, 0, none⟩)) ∧ (b 2 = true → u2 = .slice (some ⟨ba, o, none⟩) l.length c) ∧ (b 3 = true → u3 = .int .i64 (n : Int)) ∧ (b 4 = true → u4 = .slice a4 (l.length - n) (c - n)) ∧ (b 5 = true → u5 = .slice a5 (l.length - n) c5 ∧ (a5 = none → c5 = 0) ∧ (l.length - n) ≤ c5 ∧ (∀ p, a5 = some p → V2.heap.size ≤ p.block) ∧ EvIn z5 W9 (l.drop n) a5 ∧ z5 ≤ W9.heap.size) ∧ (b 6 = true → u6 = .pointer (some ⟨gq + 2, 0, none⟩)) ∧ (b 7 = true → u7 = .int .i64 t) ∧ (b 8 = true → u8 = .pointer (some ⟨gq + 2, 1, none⟩)) ∧ (b 9 = true → u9 = .int .i64 d) ∧ (b 10 = true → u10 = .pointer (some ⟨gq, 3, none⟩)) ∧ (b 11 = true → u11 = .int .i64 nx) ∧ (b 12 = true → u12 = .agg #[.slice a5 (l.length - n) c5, .int .i64 t, .int .i64 d, .int .i64 nx]) ∧ (b 13 = true → W9.heap[gq + 1]? = some (.cells #[.slice a5 (l.length - n) c5, .int .i64 t, .int .i64 d, .int .i64 nx] 24 (0, 0)))) (by kernel_rfl) (by kernel_rfl) ?_ ?_ ?_
  · refine ⟨undef, undef, undef, undef, undef, undef, undef, undef, undef, undef, undef, undef, undef, undef, 0, 0, none, 0, rfl, ⟨HB2.out.1.drew, Kx.refl _ _ _, fun _ => HR2.out⟩, fun h => (by cases h), fun h => (by cases h), fun h => (by cases h), fun h => (by cases h), fun h => (by cases h), fun h => (by cases h), fun h => (by cases h), fun h => (by cases h), fun h => (by cases h), fun h => (by cases h), fun h => (by cases h), fun h => (by cases h), fun h => (by cases h), fun h => (by cases h)⟩
  · refine ⟨⟨rfl, ?_⟩, ⟨⟨rfl, ?_⟩, ⟨⟨rfl, ?_⟩, ⟨⟨rfl, ?_⟩, ⟨⟨rfl, ?_⟩, ⟨⟨rfl, ?_⟩, ⟨⟨rfl, ?_⟩, ⟨⟨rfl, ?_⟩, ⟨⟨rfl, ?_⟩, ⟨⟨rfl, ?_⟩, ⟨⟨rfl, ?_⟩, ⟨⟨rfl, ?_⟩, ⟨⟨rfl, ?_⟩, ⟨⟨rfl, ?_⟩, trivial⟩⟩⟩⟩⟩⟩⟩⟩⟩⟩⟩⟩⟩⟩
    · intro b ac W9 hbk hd hcl hJ K hK
      obtain ⟨u0, u1, u2, u3, u4, u5, u6, u7, u8, u9, u10, u11, u12, u13, g0, z5, a5, c5, rfl, hC, f0, f1, f2, f3, f4, f5, f6, f7, f8, f9, f10, f11, f12, f13⟩ := hJ
      have n5 := hcl.no 5 _ rfl ⟨0, .data⟩ (by simp) rfl rfl hbk
      obtain ⟨W8, hW8⟩ : ∃ W, W9.alloc (.cells #[] 35) = W := ⟨_, rfl⟩
      have hb : Below W9.heap.size W9 W8 := by rw [← hW8]; exact (Below.refl _ _).alloc (Nat.le_refl _) _
      have hown : W8.ownsRow V2.heap.size 35 5 (.slice (some ⟨W9.heap.size, 0, none⟩) 0 0) 0 [] := by rw [← hW8]; exact own_empty_at W9 hC.2.1.1
      have hC' : Below w.heap.size w W8 ∧ Kx (gq + 1) (gq + 1) V2 W8 ∧ (b 13 = false → W8.heap[gq + 1]? = some (.cells #[.slice none 0 0, .int .i64 0, .int .i64 0, .int .i64 0] 24 (0, 0))) := ⟨hC.1.trans (hb.mono hC.1.size), hC.2.1.below hb, fun h => block_kept (hC.2.2 h) hb⟩
      go_simp
      (try rw [hW8])
      exact hK _ _ ⟨_, _, _, _, _, _, _, _, _, _, _, _, _, undef, W9.heap.size, z5, a5, c5, rfl, hC', (fun _ => ⟨rfl, fun _ => hown⟩), (f1), (f2), (f3), (f4), (fun h => by rw [show b 5 = true from h] at n5; cases n5), (f6), (f7), (f8), (f9), (f10), (f11), (f12), (fun h => block_kept (f13 h) hb)⟩
    · intro b ac W9 hbk hd hcl hJ K hK
      obtain ⟨u0, u1, u2, u3, u4, u5, u6, u7, u8, u9, u10, u11, u12, u13, g0, z5, a5, c5, rfl, hC, f0, f1, f2, f3, f4, f5, f6, f7, f8, f9, f10, f11, f12, f13⟩ := hJ
      go_simp
      exact hK _ _ ⟨_, _, _, _, _, _, _, _, _, _, _, _, _, undef, g0, z5, a5, c5, rfl, hC, (f0), (fun _ => rfl), (f2), (f3), (f4), (f5), (f6), (f7), (f8), (f9), (f10), (f11), (f12), (f13)⟩
    · intro b ac W9 hbk hd hcl hJ K hK
      obtain ⟨u0, u1, u2, u3, u4, u5, u6, u7, u8, u9, u10, u11, u12, u13, g0, z5, a5, c5, rfl, hC, f0, f1, f2, f3, f4, f5, f6, f7, f8, f9, f10, f11, f12, f13⟩ := hJ
      have d1 := f1 (hd ⟨1, .data⟩ (by simp) rfl)
      subst d1
      obtain ⟨z0, z1, z2, z3⟩ := ope4 (HKQ.out W9 hC.2.1)
      go_simp
      exact hK _ _ ⟨_, _, _, _, _, _, _, _, _, _, _, _, _, undef, g0, z5, a5, c5, rfl, hC, (f0), (f1), (fun _ => rfl), (f3), (f4), (f5), (f6), (f7), (f8), (f9), (f10), (f11), (f12), (f13)⟩
    · intro b ac W9 hbk hd hcl hJ K hK
      obtain ⟨u0, u1, u2, u3, u4, u5, u6, u7, u8, u9, u10, u11, u12, u13, g0, z5, a5, c5, rfl, hC, f0, f1, f2, f3, f4, f5, f6, f7, f8, f9, f10, f11, f12, f13⟩ := hJ
      go_simp
      exact hK _ _ ⟨_, _, _, _, _, _, _, _, _, _, _, _, _, undef, g0, z5, a5, c5, rfl, hC, (f0), (f1), (f2), (fun _ => rfl), (f4), (f5), (f6), (f7), (f8), (f9), (f10), (f11), (f12), (f13)⟩
    · intro b ac W9 hbk hd hcl hJ K hK
      obtain ⟨u0, u1, u2, u3, u4, u5, u6, u7, u8, u9, u10, u11, u12, u13, g0, z5, a5, c5, rfl, hC, f0, f1, f2, f3, f4, f5, f6, f7, f8, f9, f10, f11, f12, f13⟩ := hJ
      have d2 := f2 (hd ⟨2, .data⟩ (by simp) rfl)
      have d3 := f3 (hd ⟨3, .data⟩ (by simp) rfl)
      subst d2
      subst d3
      have hln := HLE.out.1
      have hlc := HLE.out.2
      have hnc : n ≤ c := by omega
      rcases HCN.out with rfl | hcn
      all_goals go_simp
      all_goals exact hK _ _ ⟨_, _, _, _, _, _, _, _, _, _, _, _, _, undef, g0, z5, a5, c5, rfl, hC, (f0), (f1), (f2), (f3), (fun _ => (by have h9 := HA4.out; clear HA4; subst h9; first | rfl | (simp; done) | (simp [*]; done))), (f5), (f6), (f7), (f8), (f9), (f10), (f11), (f12), (f13)⟩
    · intro b ac W9 hbk hd hcl hJ K hK
      obtain ⟨u0, u1, u2, u3, u4, u5, u6, u7, u8, u9, u10, u11, u12, u13, g0, z5, a5, c5, rfl, hC, f0, f1, f2, f3, f4, f5, f6, f7, f8, f9, f10, f11, f12, f13⟩ := hJ
      have d0 := f0 (hd ⟨0, .data⟩ (by simp) rfl)
      have d4 := f4 (hd ⟨4, .data⟩ (by simp) rfl)
      obtain ⟨rfl, k0⟩ := d0
      have hown := k0 hbk
      subst d4
      have n12 := hcl.no 12 _ rfl ⟨5, .data⟩ (by simp) rfl rfl hbk
      have n13 := hcl.no 13 _ rfl ⟨12, .data⟩ (by simp) rfl rfl n12
      refine wp_append_row (.tmp 12) (.tmp 16) rfl V2.heap.size _ 0 [] rfl hown a4 (l.drop n) (l.length - n) (c - n) HDI.out.1 rfl HDI.out.2.1 n0 (HKI.out W9 hC.2.1) (by have := HG.out; have := HLL.out; omega) hC.2.1.1 ?_
      intro v8 W8 own8 hg8
      rw [Nat.zero_add, List.nil_append] at own8
      obtain ⟨a8, c8, rfl, k1, k2, k3⟩ := own_shape own8
      have hi8 := own_in' HDI.out.1 own8 HDI.out.2.2
      have hC' : Below w.heap.size w W8 ∧ Kx (gq + 1) (gq + 1) V2 W8 ∧ (b 13 = false → W8.heap[gq + 1]? = some (.cells #[.slice none 0 0, .int .i64 0, .int .i64 0, .int .i64 0] 24 (0, 0))) := by
        have hlow : Below V2.heap.size W9 W8 := (Below.refl _ _).grown hg8 hC.2.1.1 (fun k e => (hown.lt k e).1)
        refine ⟨hC.1.trans (hlow.mono (by have := HG.out; omega)), hC.2.1.low (Nat.le_refl _) hlow, fun h => ?_⟩
        rw [hlow.block (gq + 1) (by have := HG.out; omega)]
        exact hC.2.2 h
      simp only [Act.put, List.setIfInBounds_toArray, List.set_cons_zero, List.set_cons_succ]
      exact hK _ _ ⟨_, _, _, _, _, _, _, _, _, _, _, _, _, undef, g0, W8.heap.size, a8, c8, rfl, hC', (fun _ => ⟨rfl, fun h => by cases h⟩), (f1), (f2), (f3), (f4), (fun _ => ⟨rfl, k1, k2, k3, hi8, Nat.le_refl _⟩), (f6), (f7), (f8), (f9), (f10), (f11), (fun h => by rw [show b 12 = true from h] at n12; cases n12), (fun h => by rw [show b 13 = true from h] at n13; cases n13)⟩
    · intro b ac W9 hbk hd hcl hJ K hK
      obtain ⟨u0, u1, u2, u3, u4, u5, u6, u7, u8, u9, u10, u11, u12, u13, g0, z5, a5, c5, rfl, hC, f0, f1, f2, f3, f4, f5, f6, f7, f8, f9, f10, f11, f12, f13⟩ := hJ
      go_simp
      exact hK _ _ ⟨_, _, _, _, _, _, _, _, _, _, _, _, _, undef, g0, z5, a5, c5, rfl, hC, (f0), (f1), (f2), (f3), (f4), (f5), (fun _ => rfl), (f7), (f8), (f9), (f10), (f11), (f12), (f13)⟩
    · intro b ac W9 hbk hd hcl hJ K hK
      obtain ⟨u0, u1, u2, u3, u4, u5, u6, u7, u8, u9, u10, u11, u12, u13, g0, z5, a5, c5, rfl, hC, f0, f1, f2, f3, f4, f5, f6, f7, f8, f9, f10, f11, f12, f13⟩ := hJ
      have d6 := f6 (hd ⟨6, .data⟩ (by simp) rfl)
      subst d6
      obtain ⟨z0, z1, z2, z3, z4⟩ := ope5 (HKE.out W9 hC.2.1)
      go_simp
      exact hK _ _ ⟨_, _, _, _, _, _, _, _, _, _, _, _, _, undef, g0, z5, a5, c5, rfl, hC, (f0), (f1), (f2), (f3), (f4), (f5), (f6), (fun _ => rfl), (f8), (f9), (f10), (f11), (f12), (f13)⟩
    · intro b ac W9 hbk hd hcl hJ K hK
      obtain ⟨u0, u1, u2, u3, u4, u5, u6, u7, u8, u9, u10, u11, u12, u13, g0, z5, a5, c5, rfl, hC, f0, f1, f2, f3, f4, f5, f6, f7, f8, f9, f10, f11, f12, f13⟩ := hJ
      go_simp
      exact hK _ _ ⟨_, _, _, _, _, _, _, _, _, _, _, _, _, undef, g0, z5, a5, c5, rfl, hC, (f0), (f1), (f2), (f3), (f4), (f5), (f6), (f7), (fun _ => rfl), (f9), (f10), (f11), (f12), (f13)⟩
    · intro b ac W9 hbk hd hcl hJ K hK
      obtain ⟨u0, u1, u2, u3, u4, u5, u6, u7, u8, u9, u10, u11, u12, u13, g0, z5, a5, c5, rfl, hC, f0, f1, f2, f3, f4, f5, f6, f7, f8, f9, f10, f11, f12, f13⟩ := hJ
      have d8 := f8 (hd ⟨8, .data⟩ (by simp) rfl)
      subst d8
      obtain ⟨z0, z1, z2, z3, z4⟩ := ope5 (HKE.out W9 hC.2.1)
      go_simp
      exact hK _ _ ⟨_, _, _, _, _, _, _, _, _, _, _, _, _, undef, g0, z5, a5, c5, rfl, hC, (f0), (f1), (f2), (f3), (f4), (f5), (f6), (f7), (f8), (fun _ => rfl), (f10), (f11), (f12), (f13)⟩
    · intro b ac W9 hbk hd hcl hJ K hK
      obtain ⟨u0, u1, u2, u3, u4, u5, u6, u7, u8, u9, u10, u11, u12, u13, g0, z5, a5, c5, rfl, hC, f0, f1, f2, f3, f4, f5, f6, f7, f8, f9, f10, f11, f12, f13⟩ := hJ
      go_simp
      exact hK _ _ ⟨_, _, _, _, _, _, _, _, _, _, _, _, _, undef, g0, z5, a5, c5, rfl, hC, (f0), (f1), (f2), (f3), (f4), (f5), (f6), (f7), (f8), (f9), (fun _ => rfl), (f11), (f12), (f13)⟩
    · intro b ac W9 hbk hd hcl hJ K hK
      obtain ⟨u0, u1, u2, u3, u4, u5, u6, u7, u8, u9, u10, u11, u12, u13, g0, z5, a5, c5, rfl, hC, f0, f1, f2, f3, f4, f5, f6, f7, f8, f9, f10, f11, f12, f13⟩ := hJ
      have d10 := f10 (hd ⟨10, .data⟩ (by simp) rfl)
      subst d10
      obtain ⟨z0, z1, z2, z3⟩ := ope4 (HKQ.out W9 hC.2.1)
      go_simp
      exact hK _ _ ⟨_, _, _, _, _, _, _, _, _, _, _, _, _, undef, g0, z5, a5, c5, rfl, hC, (f0), (f1), (f2), (f3), (f4), (f5), (f6), (f7), (f8), (f9), (f10), (fun _ => rfl), (f12), (f13)⟩
    · intro b ac W9 hbk hd hcl hJ K hK
      obtain ⟨u0, u1, u2, u3, u4, u5, u6, u7, u8, u9, u10, u11, u12, u13, g0, z5, a5, c5, rfl, hC, f0, f1, f2, f3, f4, f5, f6, f7, f8, f9, f10, f11, f12, f13⟩ := hJ
      have d5 := f5 (hd ⟨5, .data⟩ (by simp) rfl)
      have d7 := f7 (hd ⟨7, .data⟩ (by simp) rfl)
      have d9 := f9 (hd ⟨9, .data⟩ (by simp) rfl)
      have d11 := f11 (hd ⟨11, .data⟩ (by simp) rfl)
      obtain ⟨rfl, k5⟩ := d5
      subst d7
      subst d9
      subst d11
      go_simp
      exact hK _ _ ⟨_, _, _, _, _, _, _, _, _, _, _, _, _, undef, g0, z5, a5, c5, rfl, hC, (f0), (f1), (f2), (f3), (f4), (f5), (f6), (f7), (f8), (f9), (f10), (f11), (fun _ => rfl), (f13)⟩
    · intro b ac W9 hbk hd hcl hJ K hK
      obtain ⟨u0, u1, u2, u3, u4, u5, u6, u7, u8, u9, u10, u11, u12, u13, g0, z5, a5, c5, rfl, hC, f0, f1, f2, f3, f4, f5, f6, f7, f8, f9, f10, f11, f12, f13⟩ := hJ
      have d12 := f12 (hd ⟨12, .data⟩ (by simp) rfl)
      subst d12
      have d5 := f5 (hcl 12 _ rfl (hd ⟨12, .data⟩ (by simp) rfl) ⟨5, .data⟩ (by simp) rfl)
      obtain ⟨rfl, k1, k2, k3, k4, k5⟩ := d5
      have HZ := hC.2.2 hbk
      have fz := froz HZ
      have fz0 := fz 0
      have fz1 := fz 1
      have fz2 := fz 2
      have fz3 := fz 3
      clear fz
      obtain ⟨y0, y1, y2, y3⟩ := ope4 HZ
      obtain ⟨W8, hW8⟩ : ∃ W, ((((W9.setCell ⟨gq + 1, 0, none⟩ (.slice a5 (l.length - n) c5)).setCell ⟨gq + 1, 1, none⟩ (.int .i64 t)).setCell ⟨gq + 1, 2, none⟩ (.int .i64 d)).setCell ⟨gq + 1, 3, none⟩ (.int .i64 nx)) = W := ⟨_, rfl⟩
      have B8 : W8.heap[gq + 1]? = some (.cells #[.slice a5 (l.length - n) c5, .int .i64 t, .int .i64 d, .int .i64 nx] 24 (0, 0)) := by rw [← hW8]; exact block_set4 HZ
      have hz8 : W8.heap.size = W9.heap.size := by rw [← hW8]; simp only [World.size_setCell]
      have hb8 : Below w.heap.size w W8 := by rw [← hW8]; exact below_set4 hC.1 (by have := HG.out; omega) _ _ _ _
      have hk8 : Kx (gq + 1) (gq + 1) V2 W8 := by rw [← hW8]; exact hC.2.1.set1.set1.set1.set1
      have hi8 : EvIn z5 W8 (l.drop n) a5 := by rw [← hW8]; exact k4.set4 (fun p hp => by have h1 := k3 p hp; have h2 := HG.out; omega)
      go_simp
      (try rw [hW8])
      exact hK _ _ ⟨_, _, _, _, _, _, _, _, _, _, _, _, _, undef, g0, z5, a5, c5, rfl, ⟨hb8, hk8, fun h => by cases h⟩, (fun h => ⟨(f0 h).1, fun q => absurd (hcl 12 _ rfl (hd ⟨12, .data⟩ (by simp) rfl) ⟨5, .data⟩ (by simp) rfl) (by rw [show b 5 = false from q]; decide)⟩), (f1), (f2), (f3), (f4), (fun _ => ⟨rfl, k1, k2, k3, hi8, by rw [hz8]; exact k5⟩), (f6), (f7), (f8), (f9), (f10), (f11), (f12), (fun _ => B8)⟩
  · intro b ac W6 hb hJ
    obtain ⟨u0, u1, u2, u3, u4, u5, u6, u7, u8, u9, u10, u11, u12, u13, g0, z5, a5, c5, rfl, hC, f0, f1, f2, f3, f4, f5, f6, f7, f8, f9, f10, f11, f12, f13⟩ := hJ
    replace f0 := f0 (hb 0 (by decide))
    replace f1 := f1 (hb 1 (by decide))
    replace f2 := f2 (hb 2 (by decide))
    replace f3 := f3 (hb 3 (by decide))
    replace f4 := f4 (hb 4 (by decide))
    replace f5 := f5 (hb 5 (by decide))
    replace f6 := f6 (hb 6 (by decide))
    replace f7 := f7 (hb 7 (by decide))
    replace f8 := f8 (hb 8 (by decide))
    replace f9 := f9 (hb 9 (by decide))
    replace f10 := f10 (hb 10 (by decide))
    replace f11 := f11 (hb 11 (by decide))
    replace f12 := f12 (hb 12 (by decide))
    replace f13 := f13 (hb 13 (by decide))
    clear f0 f1 f2 f3 f4 f6 f7 f8 f9 f10 f11 f12
    obtain ⟨rfl, k1, k2, k3, k4, k5⟩ := f5
    have HF := Lib.hid (And.intro hC.1 (And.intro k1 (And.intro k2 (And.intro k3 (And.intro k4 k5)))))
    obtain ⟨z0, z1, z2, z3⟩ := ope4 f13
    clear hC k1 k2 k3 k4 k5 f13
    go_wp2
    have hu := Try.underlying24
    refine bodyPost_ret (v := .agg #[.slice a5 (l.length - n) c5, .int .i64 t, .int .i64 d, .int .i64 nx]) (by simp [results, Try.results33, go_sem, hu, z0, z1, z2, z3]) rfl ?_
    refine ⟨HF.out.1, a5, c5, rfl, InRow.less HF.out.2.2.2.2.2 (fun _ _ h => h) HF.out.2.2.2.2.1, HF.out.2.1, HF.out.2.2.1, fun p hp => ?_⟩
    have h1 := HF.out.2.2.2.1 p hp
    have h2 := HG.out
    omega
end Go.Proofs.Ytchboknncfmcpaa
