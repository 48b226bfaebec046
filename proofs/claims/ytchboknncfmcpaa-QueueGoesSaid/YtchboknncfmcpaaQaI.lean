/-
  queue: without. The reference's first.
-/
import Derived.Test.YtchboknncfmcpaaQaS
import Derived.Deep.RegionHeld3
namespace Go.Proofs.Ytchboknncfmcpaa
open Go Go.RowKit
set_option linter.unusedVariables false
set_option linter.unusedSimpArgs false
open Go.Sort
/-- What is left when the first ones are gone by. -/
def LeftPost (l : List EV) (n : Nat) (t d nx : Int) (w : World) (e : Ending) (w' : World) : Prop :=
  Below w.heap.size w w' ∧ ∃ a c, e = .returned (.agg #[.slice a (l.length - n) c, .int .i64 t, .int .i64 d, .int .i64 nx]) ∧ EvIn w'.heap.size w' (l.drop n) a ∧ (a = none → c = 0) ∧ l.length - n ≤ c ∧ (∀ p, a = some p → w.heap.size ≤ p.block)
set_option maxHeartbeats 8000000 in
set_option maxRecDepth 100000 in
theorem without_any (ad : Addr) (c : Nat) (l : List EV) (hll : l.length ≤ 900000) (hlc : l.length ≤ c) (n : Nat) (hn : 0 < n) (hnl : n ≤ l.length) (now dl nx : Int) (n0 : Nat) (w : World) (hn0 : n0 ≤ w.heap.size) (hin : EvIn n0 w l (some ad)) : Calls Try.prog 32 #[.agg #[.slice (some ad) l.length c, .int .i64 now, .int .i64 dl, .int .i64 nx], .int .i64 (n : Int)] w (LeftPost l n (l[n - 1]'(by omega)).t (l[n - 1]'(by omega)).d nx w) := by
  obtain ⟨x, hx⟩ : ∃ x, l[n - 1]'(by omega) = x := ⟨_, rfl⟩
  rw [hx]
  obtain ⟨t, d, n1, s, v⟩ := x
  simp only
  obtain ⟨gq, hgq⟩ : ∃ g, w.heap.size = g := ⟨_, rfl⟩
  obtain ⟨V0, hV0⟩ : ∃ W, w.alloc (.cells #[.slice (some ad) l.length c, .int .i64 now, .int .i64 dl, .int .i64 nx] 24) = W := ⟨_, rfl⟩
  have hbV0 : Below w.heap.size w V0 := by rw [← hV0]; exact (Below.refl _ _).alloc (Nat.le_refl _) _
  have hzV0 : V0.heap.size = gq + 1 := by rw [← hV0, World.size_alloc, hgq]
  have BBq : V0.heap[gq]? = some (.cells #[.slice (some ad) l.length c, .int .i64 now, .int .i64 dl, .int .i64 nx] 24 (0, 0)) := by rw [← hV0, ← hgq]; exact World.alloc_heap_new w _
  have hbw := hbV0
  obtain ⟨V1, hV1⟩ : ∃ W, V0.alloc (.cells #[.slice none 0 0, .int .i64 0, .int .i64 0, .int .i64 0] 24) = W := ⟨_, rfl⟩
  have hbV1 : Below V0.heap.size V0 V1 := by rw [← hV1]; exact (Below.refl _ _).alloc (Nat.le_refl _) _
  have hzV1 : V1.heap.size = gq + 2 := by rw [← hV1, World.size_alloc, hzV0]
  have BBr : V1.heap[gq + 1]? = some (.cells #[.slice none 0 0, .int .i64 0, .int .i64 0, .int .i64 0] 24 (0, 0)) := by rw [← hV1, ← hzV0]; exact World.alloc_heap_new V0 _
  replace BBq := block_kept BBq hbV1
  replace hbw := hbw.trans (hbV1.mono hbw.size)
  have hi1 := hin.keep hbw hn0
  obtain ⟨b, o, e⟩ := hi1.addr (by omega)
  injection e with e
  subst e
  obtain ⟨r0, r1, r2, r3, r4⟩ := hi1.cells (i := n - 1) (by omega)
  rw [hx] at r0 r1 r2 r3 r4
  simp only at r0 r1 r2 r3 r4
  clear hx
  obtain ⟨n', hn'⟩ : ∃ n', n - 1 = n' := ⟨_, rfl⟩
  rw [hn'] at r0 r1 r2 r3 r4
  have x2 : (n : Int) - 1 = (n' : Int) := by omega
  have x3 : (n' : Int) < (l.length : Int) := by omega
  have x4 : 0 ≤ (n' : Int) := by omega
  have x5 : n' < l.length := by omega
  have x6 : wrap64 ((n : Int) - 1) = (n' : Int) := by rw [x2]; unfold wrap64; omega
  clear hn'
  obtain ⟨V2, hV2⟩ : ∃ W, V1.alloc (.cells #[.int .i64 t, .int .i64 d, .int .i64 n1, .int .i64 s, .int .u64 v] 35) = W := ⟨_, rfl⟩
  have hbV2 : Below V1.heap.size V1 V2 := by rw [← hV2]; exact (Below.refl _ _).alloc (Nat.le_refl _) _
  have hzV2 : V2.heap.size = gq + 3 := by rw [← hV2, World.size_alloc, hzV1]
  have BBe : V2.heap[gq + 2]? = some (.cells #[.int .i64 t, .int .i64 d, .int .i64 n1, .int .i64 s, .int .u64 v] 35 (0, 0)) := by rw [← hV2, ← hzV1]; exact World.alloc_heap_new V1 _
  have HQ2 := Lib.hid (block_kept BBq hbV2)
  have HR2 := Lib.hid (block_kept BBr hbV2)
  have HE2 := Lib.hid BBe
  have HB2 := Lib.hid (And.intro (hbw.trans (hbV2.mono hbw.size)) (show n0 ≤ V2.heap.size by have := (hbw.trans (hbV2.mono hbw.size)).size; omega))
  have HI2 := Lib.hid (hi1.keep hbV2 (by have := hbw.size; omega))
  have HG := Lib.hid (And.intro (show w.heap.size ≤ gq by omega) (And.intro hll (And.intro hn hnl)))
  have HLC := Lib.hid hlc
  obtain ⟨q0, q1, q2, q3⟩ := ope4 BBq
  clear BBq BBr BBe hbw hin hi1 hbV0 hbV1 hbV2 hlc
  go_enter Try.func32, Try.ntmps32
  go_upto_region 1 with (fail)
  (try rw [hgq])
  (try rw [hV0])
  (try rw [hzV0])
  (try rw [hV1])
  (try rw [hzV1])
  go_upto_region 2 with (fail)
  (try rw [hgq])
  (try rw [hV0])
  (try rw [hzV0])
  (try rw [hV1])
  (try rw [hzV1])
  (try rw [hV2])
  (try rw [hzV2])
  clear hll hn hV0 hV1 hV2 hgq hzV0 hzV1 hzV2 q0 q1 q2 q3 r0 r1 r2 r3 r4 x2 x3 x4 x5 x6
  obtain ⟨q0, q1, q2, q3⟩ := ope4 HQ2.out
  obtain ⟨e0, e1, e2, e3, e4⟩ := ope5 HE2.out
  obtain ⟨y0, y1, y2, y3⟩ := ope4 HR2.out
  have q0D : V2.drew.cell? ⟨gq, 0, none⟩ = some (.slice (some ⟨b, o, none⟩) l.length c) := q0
  have q3D : V2.drew.cell? ⟨gq, 3, none⟩ = some (.int .i64 nx) := q3
  have e0D : V2.drew.cell? ⟨gq + 2, 0, none⟩ = some (.int .i64 t) := e0
  have e1D : V2.drew.cell? ⟨gq + 2, 1, none⟩ = some (.int .i64 d) := e1
  have f0 := froz HR2.out 0
  have f1 := froz HR2.out 1
  have f2 := froz HR2.out 2
  have f3 := froz HR2.out 3
  have hlc := HLC.out
  have hnc : n ≤ c := by omega
  have HDI : Hid ((n = c → EvIn n0 V2 (l.drop n) (some ⟨b, o, none⟩)) ∧ EvIn n0 V2 (l.drop n) (some ⟨b, o + n * 5, none⟩) ∧ (l.drop n).length = l.length - n) := Lib.hid ⟨fun h => by rw [List.drop_eq_nil_of_le (by omega)]; trivial, HI2.out.drop n hnl, by rw [List.length_drop]⟩
  by_cases hcn : n = c
  · obtain rfl := hcn
    have HZL : Hid (l.length - n = 0) := Lib.hid (by omega)
    go_wp2_with fail
    go_region_held3 (fun u1 => u1.cell? ⟨gq, 0, none⟩ = some (.slice (some ⟨b, o, none⟩) l.length n) ∧ u1.cell? ⟨gq, 3, none⟩ = some (.int .i64 nx) ∧ u1.cell? ⟨gq + 2, 0, none⟩ = some (.int .i64 t) ∧ u1.cell? ⟨gq + 2, 1, none⟩ = some (.int .i64 d)) (first | (with_reducible exact ⟨q0N, q3N, e0N, e1N⟩) | (with_reducible exact ⟨alloc_cell q0 _, alloc_cell q3 _, alloc_cell e0 _, alloc_cell e1 _⟩) | (with_reducible exact ⟨q0D, q3D, e0D, e1D⟩) | exact ⟨cell_set4 q0N (by show gq ≠ gq + 1; omega), cell_set4 q3N (by show gq ≠ gq + 1; omega), cell_set4 e0N (by show gq + 2 ≠ gq + 1; omega), cell_set4 e1N (by show gq + 2 ≠ gq + 1; omega)⟩) ((go_at_call 35; refine Calls.mono (clone_any (l.drop n) 0 (by have h9 := HDI.out.2.2; have h8 := HG.out.2.2.2; have h7 := HLC.out; omega) (by have := HG.out; omega) (some ⟨b, o, none⟩) _ n0 V2.drew HB2.out.2 ((HDI.out.1 (by first | rfl | trivial)).keep ((Below.refl _ _).drew) HB2.out.2)) ?_; rintro e W5 ⟨a5, c5, he5, hi5, k1, k2, k3, hb5⟩; rw [HDI.out.2.2] at he5 k2; subst he5; have hb5' : Below V2.heap.size V2 W5 := (Below.refl _ _).drew.trans hb5; have k3' : ∀ p, a5 = some p → V2.heap.size ≤ p.block := k3; replace hb5 := hb5'; replace k3 := k3'; clear hb5' k3'; have HQ5 := block_kept HQ2.out hb5; have HE5 := block_kept HE2.out hb5; have HR5 := Lib.hid (block_kept HR2.out hb5); obtain ⟨q0N, q1N, q2N, q3N⟩ := ope4 HQ5; obtain ⟨e0N, e1N, e2N, e3N, e4N⟩ := ope5 HE5; obtain ⟨y0N, y1N, y2N, y3N⟩ := ope4 HR5.out; have f0N := froz HR5.out 0; have f1N := froz HR5.out 1; have f2N := froz HR5.out 2; have f3N := froz HR5.out 3; have HB5 := Lib.hid (HB2.out.1.trans (hb5.mono HB2.out.1.size)); have HI5 := Lib.hid (And.intro hi5 (And.intro k1 (And.intro k2 k3))); clear hi5 k1 k2 k3 HQ5 HE5))
    clear q0D q3D e0D e1D q0 q1 q2 q3 e0 e1 e2 e3 e4 y0 y1 y2 y3 f0 f1 f2 f3
    obtain ⟨W6, hW6⟩ : ∃ W, ((((W5.setCell ⟨gq + 1, 0, none⟩ (.slice a5 0 c5)).setCell ⟨gq + 1, 1, none⟩ (.int .i64 t)).setCell ⟨gq + 1, 2, none⟩ (.int .i64 d)).setCell ⟨gq + 1, 3, none⟩ (.int .i64 nx)) = W := ⟨_, rfl⟩
    have HGZ : gq + 1 < V2.heap.size := (Array.getElem?_eq_some_iff.1 HR2.out).1
    have hne : ∀ p, a5 = some p → p.block ≠ gq + 1 := fun p hp => by have h1 := HI5.out.2.2.2 p hp; omega
    have B6 : W6.heap[gq + 1]? = some (.cells #[.slice a5 0 c5, .int .i64 t, .int .i64 d, .int .i64 nx] 24 (0, 0)) := by rw [← hW6]; exact block_set4 HR5.out
    have HB6 : Hid (Below w.heap.size w W6) := Lib.hid (by rw [← hW6]; exact below_set4 HB5.out (by have := HG.out.1; omega) _ _ _ _)
    have HI6 : Hid (EvIn W6.heap.size W6 (l.drop n) a5) := Lib.hid (by rw [← hW6]; exact InRow.less (by simp only [World.size_setCell]; exact Nat.le_refl _) (fun _ _ h => h) (HI5.out.1.set4 hne))
    obtain ⟨z0, z1, z2, z3⟩ := ope4 B6
    clear B6 hne HGZ
    go_wp2
    (try rw [hW6])
    clear hW6
    have hu := Try.underlying24
    refine bodyPost_ret (v := .agg #[.slice a5 0 c5, .int .i64 t, .int .i64 d, .int .i64 nx]) (by simp [results, Try.results32, go_sem, hu, z0, z1, z2, z3]) rfl ?_
    refine ⟨HB6.out, a5, c5, (by rw [HZL.out]), HI6.out, HI5.out.2.1, HI5.out.2.2.1, fun p hp => ?_⟩
    have h1 := HI5.out.2.2.2 p hp
    have h2 := HB2.out.1.size
    omega
  · have hcn2 : ¬ c = n := fun h => hcn h.symm
    go_wp2_with fail
    go_region_held3 (fun u1 => u1.cell? ⟨gq, 0, none⟩ = some (.slice (some ⟨b, o, none⟩) l.length c) ∧ u1.cell? ⟨gq, 3, none⟩ = some (.int .i64 nx) ∧ u1.cell? ⟨gq + 2, 0, none⟩ = some (.int .i64 t) ∧ u1.cell? ⟨gq + 2, 1, none⟩ = some (.int .i64 d)) (first | (with_reducible exact ⟨q0N, q3N, e0N, e1N⟩) | (with_reducible exact ⟨alloc_cell q0 _, alloc_cell q3 _, alloc_cell e0 _, alloc_cell e1 _⟩) | (with_reducible exact ⟨q0D, q3D, e0D, e1D⟩) | exact ⟨cell_set4 q0N (by show gq ≠ gq + 1; omega), cell_set4 q3N (by show gq ≠ gq + 1; omega), cell_set4 e0N (by show gq + 2 ≠ gq + 1; omega), cell_set4 e1N (by show gq + 2 ≠ gq + 1; omega)⟩) ((go_at_call 35; refine Calls.mono (clone_any (l.drop n) _ (HDI.out.2.2) (by have := HG.out; omega) (some ⟨b, o + n * 5, none⟩) _ n0 V2.drew HB2.out.2 ((HDI.out.2.1).keep ((Below.refl _ _).drew) HB2.out.2)) ?_; rintro e W5 ⟨a5, c5, he5, hi5, k1, k2, k3, hb5⟩; rw [HDI.out.2.2] at he5 k2; subst he5; have hb5' : Below V2.heap.size V2 W5 := (Below.refl _ _).drew.trans hb5; have k3' : ∀ p, a5 = some p → V2.heap.size ≤ p.block := k3; replace hb5 := hb5'; replace k3 := k3'; clear hb5' k3'; have HQ5 := block_kept HQ2.out hb5; have HE5 := block_kept HE2.out hb5; have HR5 := Lib.hid (block_kept HR2.out hb5); obtain ⟨q0N, q1N, q2N, q3N⟩ := ope4 HQ5; obtain ⟨e0N, e1N, e2N, e3N, e4N⟩ := ope5 HE5; obtain ⟨y0N, y1N, y2N, y3N⟩ := ope4 HR5.out; have f0N := froz HR5.out 0; have f1N := froz HR5.out 1; have f2N := froz HR5.out 2; have f3N := froz HR5.out 3; have HB5 := Lib.hid (HB2.out.1.trans (hb5.mono HB2.out.1.size)); have HI5 := Lib.hid (And.intro hi5 (And.intro k1 (And.intro k2 k3))); clear hi5 k1 k2 k3 HQ5 HE5))
    clear q0D q3D e0D e1D q0 q1 q2 q3 e0 e1 e2 e3 e4 y0 y1 y2 y3 f0 f1 f2 f3
    obtain ⟨W6, hW6⟩ : ∃ W, ((((W5.setCell ⟨gq + 1, 0, none⟩ (.slice a5 (l.length - n) c5)).setCell ⟨gq + 1, 1, none⟩ (.int .i64 t)).setCell ⟨gq + 1, 2, none⟩ (.int .i64 d)).setCell ⟨gq + 1, 3, none⟩ (.int .i64 nx)) = W := ⟨_, rfl⟩
    have HGZ : gq + 1 < V2.heap.size := (Array.getElem?_eq_some_iff.1 HR2.out).1
    have hne : ∀ p, a5 = some p → p.block ≠ gq + 1 := fun p hp => by have h1 := HI5.out.2.2.2 p hp; omega
    have B6 : W6.heap[gq + 1]? = some (.cells #[.slice a5 (l.length - n) c5, .int .i64 t, .int .i64 d, .int .i64 nx] 24 (0, 0)) := by rw [← hW6]; exact block_set4 HR5.out
    have HB6 : Hid (Below w.heap.size w W6) := Lib.hid (by rw [← hW6]; exact below_set4 HB5.out (by have := HG.out.1; omega) _ _ _ _)
    have HI6 : Hid (EvIn W6.heap.size W6 (l.drop n) a5) := Lib.hid (by rw [← hW6]; exact InRow.less (by simp only [World.size_setCell]; exact Nat.le_refl _) (fun _ _ h => h) (HI5.out.1.set4 hne))
    obtain ⟨z0, z1, z2, z3⟩ := ope4 B6
    clear B6 hne HGZ
    go_wp2
    (try rw [hW6])
    clear hW6
    have hu := Try.underlying24
    refine bodyPost_ret (v := .agg #[.slice a5 (l.length - n) c5, .int .i64 t, .int .i64 d, .int .i64 nx]) (by simp [results, Try.results32, go_sem, hu, z0, z1, z2, z3]) rfl ?_
    refine ⟨HB6.out, a5, c5, rfl, HI6.out, HI5.out.2.1, HI5.out.2.2.1, fun p hp => ?_⟩
    have h1 := HI5.out.2.2.2 p hp
    have h2 := HB2.out.1.size
    omega
end Go.Proofs.Ytchboknncfmcpaa
