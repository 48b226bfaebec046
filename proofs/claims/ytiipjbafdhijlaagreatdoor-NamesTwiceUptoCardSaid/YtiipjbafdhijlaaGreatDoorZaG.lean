/-
  NaG, in one text.
-/
import Derived.Test.YtiipjbafdhijlaaGreatDoorZaF
import Derived.Test.YtiipjbafdhijlaaGreatDoorZAz
import Derived.Deep.DeepCutAuto
import Derived.Test.YtiipjbafdhijlaaGreatDoorZmP
namespace Go.Proofs.YtiipjbafdhijlaaGreatDoor
open Go Go.RowKit
set_option linter.unusedVariables false
set_option linter.unusedSimpArgs false
open Go.Sort
set_option maxHeartbeats 4000000 in
theorem few7_any (x : FT) (hsz : x.sz ≤ 4500000) (n0 : Nat) (w : World) (hn0 : n0 ≤ w.heap.size) (hx : x.In n0 w) : Calls Tryz.prog 9 #[x.val] w fun e w' => e = .returned (.bool (decide (x.sz ≤ 2000) && decide (x.dp ≤ 100))) ∧ Below w.heap.size w w' := by
 have h1 := fun (w' : World) a b => refsize_any x (by omega) n0 w' a b
 have h2 := fun (w' : World) a b => refdeep_any x (by omega) n0 w' a b
 obtain ⟨S, hS⟩ : ∃ S, x.sz = S := ⟨_, rfl⟩
 obtain ⟨D, hD⟩ : ∃ D, x.dp = D := ⟨_, rfl⟩
 rw [hS] at h1 hsz
 rw [hD] at h2
 rw [hS, hD]
 obtain ⟨b1, hb1⟩ : ∃ b, decide (S ≤ 2000) = b := ⟨_, rfl⟩
 obtain ⟨b2, hb2⟩ : ∃ b, decide (D ≤ 100) = b := ⟨_, rfl⟩
 have e1 : decide ((S : Int) ≤ 2000) = b1 := by rw [← hb1]; exact decide_eq_decide.2 (by omega)
 have e2 : decide ((D : Int) ≤ 100) = b2 := by rw [← hb2]; exact decide_eq_decide.2 (by omega)
 rw [hb1, hb2]
 clear hb1 hb2 hS hD
 have hx0 := hx
 obtain ⟨ma, mc, ml⟩ := x
 simp only [FT.val, FT.cells] at h1 h2 ⊢
 have H1 := Lib.hid h1
 have H2 := Lib.hid h2
 clear h1 h2 hx
 go_enter Tryz.func9, Tryz.ntmps9
 go_upto_region 1 with (fail)
 have BX : (w.alloc (.cells #[.slice ma ml.length mc] 24)).heap[w.heap.size]? = some (.cells #[.slice ma ml.length mc] 24) := World.alloc_heap_new w _
 have hB2 : Below w.heap.size w (w.alloc (.cells #[.slice ma ml.length mc] 24)) := (Below.refl _ _).alloc (Nat.le_refl _) _
 have hi2 := FT.In.keep (Below.keptTo hB2 hn0) _ hx0
 clear hx0
 generalize w.alloc (.cells #[.slice ma ml.length mc] 24) = w1 at *
 have hn1 : n0 ≤ w1.heap.size := by have := hB2.size; omega
 have x0 := (cell_of_box_1 BX).1
 go_wp2_with fail
 refine (H1.out _ hn1 hi2).mono ?_
 rintro e w2 ⟨rfl, hb⟩
 clear H1 x0
 replace BX := block_kept BX hb
 have hk9 := Below.keptTo hb hn1
 replace hi2 := FT.In.keep hk9 _ hi2
 replace hn1 := Nat.le_trans hn1 hb.size
 replace hB2 := hB2.trans (hb.mono hB2.size)
 clear hb hk9
 have x0 := (cell_of_box_1 BX).1
 cases b1 with
 | false =>
  go_wp2
  go_ret
  exact ⟨rfl, hB2⟩
 | true =>
  go_wp2_with fail
  refine (H2.out _ hn1 hi2).mono ?_
  rintro e w3 ⟨rfl, hb⟩
  have hB3 := hB2.trans (hb.mono hB2.size)
  clear H2
  go_wp2
  go_ret
  exact ⟨rfl, hB3⟩
set_option maxHeartbeats 4000000 in
theorem inst7_any (a b : Bytes) (w : World) : Calls Tryz.prog 25 #[.string (bs a), .string (bs b)] w fun e w' => e = .returned (.agg #[.int .i64 7, .string (bs a), .string (bs b), .slice none 0 0, .slice none 0 0, .slice none 0 0, .slice none 0 0, .slice none 0 0, .slice none 0 0]) ∧ Below w.heap.size w w' := by
 go_enter Tryz.func25, Tryz.ntmps25
 go_wp2
 refine bodyPost_ret (v := .agg #[.int .i64 7, .string (bs a), .string (bs b), .slice none 0 0, .slice none 0 0, .slice none 0 0, .slice none 0 0, .slice none 0 0, .slice none 0 0]) (by simp [results, Tryz.results25, go_sem, *]) rfl ⟨rfl, ?_⟩
 repeat (first | exact Below.refl _ _ | (refine Below.setCell ?_ (by first | (simp; done) | (simp; omega) | omega) _) | (refine Below.alloc ?_ (by first | (simp; done) | (simp; omega) | omega) _) | (refine below_drewN ?_ _) | (refine Below.drew ?_) | (refine below_via (by assumption) ?_ (by first | (simp; done) | (simp; omega) | omega)))
set_option maxHeartbeats 4000000 in
theorem module7_any (a : Bytes) (ia : Option Addr) (n c : Nat) (w : World) : Calls Tryz.prog 17 #[.string (bs a), .slice ia n c] w fun e w' => e = .returned (.agg #[.string (bs a), .slice none 0 0, .slice none 0 0, .slice ia n c]) ∧ Below w.heap.size w w' := by
 go_enter Tryz.func17, Tryz.ntmps17
 go_wp2
 refine bodyPost_ret (v := .agg #[.string (bs a), .slice none 0 0, .slice none 0 0, .slice ia n c]) (by simp [results, Tryz.results17, go_sem, *]) rfl ⟨rfl, ?_⟩
 repeat (first | exact Below.refl _ _ | (refine Below.setCell ?_ (by first | (simp; done) | (simp; omega) | omega) _) | (refine Below.alloc ?_ (by first | (simp; done) | (simp; omega) | omega) _) | (refine below_drewN ?_ _) | (refine Below.drew ?_) | (refine below_via (by assumption) ?_ (by first | (simp; done) | (simp; omega) | omega)))
set_option maxHeartbeats 4000000 in
theorem one7_any (w : World) : Calls Tryz.prog 22 #[] w fun e w' => e = .returned (.agg #[.int .i64 1, .string ⟨#[]⟩, .int .i64 0, .int .i64 0, .int .u64 1, .slice none 0 0]) ∧ Below w.heap.size w w' := by
 go_enter Tryz.func22, Tryz.ntmps22
 go_wp2
 refine bodyPost_ret (v := .agg #[.int .i64 1, .string ⟨#[]⟩, .int .i64 0, .int .i64 0, .int .u64 1, .slice none 0 0]) (by simp [results, Tryz.results22, go_sem, *]) rfl ⟨rfl, ?_⟩
 repeat (first | exact Below.refl _ _ | (refine Below.setCell ?_ (by first | (simp; done) | (simp; omega) | omega) _) | (refine Below.alloc ?_ (by first | (simp; done) | (simp; omega) | omega) _) | (refine below_drewN ?_ _) | (refine Below.drew ?_) | (refine below_via (by assumption) ?_ (by first | (simp; done) | (simp; omega) | omega)))
end Go.Proofs.YtiipjbafdhijlaaGreatDoor
namespace Go.Proofs.YtiipjbafdhijlaaGreatDoor
open Go Go.RowKit
set_option linter.unusedVariables false
set_option linter.unusedSimpArgs false
open Go.Sort
set_option maxHeartbeats 4000000 in
set_option maxRecDepth 100000 in
theorem cloneBind_nil (w : World) : Calls Tryz.prog 101 #[.slice none 0 0] w fun e w' => e = .returned (.slice none 0 0) ∧ w' = w := by
 have he : (binOp .eql 35 (.slice none 0 0) (.slice none 0 0)).run Tryz.prog w = .ok (.bool true) w := Lib.run_eql_slice_nil w 35 78 none 0 0 0 0 Tryz.underlying35
 go_enter Tryz.func101, Tryz.ntmps101
 go_wp2
 go_ret
 exact ⟨rfl, rfl⟩
set_option maxHeartbeats 4000000 in
set_option maxRecDepth 100000 in
theorem copiedBind_nil (fv : Value) (w : World) : Calls Tryz.prog 65 #[.slice none 0 0, fv] w fun e w' => e = .returned (.slice none 0 0) ∧ w' = w := by
 have q := cloneBind_nil w
 go_enter Tryz.func65, Tryz.ntmps65
 go_wp2_with fail
 refine q.mono ?_
 clear q
 rintro e w' ⟨rfl, rfl⟩
 go_wp2_with fail
 go_loopg [11] 0 (fun g u wr => u = .int .i64 0 ∧ wr = w')
 case atStart => exact ⟨rfl, rfl⟩
 case round =>
  obtain ⟨rfl, rfl⟩ := hrel
  go_wp2
  go_ret
  exact ⟨rfl, rfl⟩
set_option maxHeartbeats 4000000 in
set_option maxRecDepth 100000 in
theorem clonePort_nil (w : World) : Calls Tryz.prog 103 #[.slice none 0 0] w fun e w' => e = .returned (.slice none 0 0) ∧ w' = w := by
 have he : (binOp .eql 36 (.slice none 0 0) (.slice none 0 0)).run Tryz.prog w = .ok (.bool true) w := Lib.run_eql_slice_nil w 36 76 none 0 0 0 0 Tryz.underlying36
 go_enter Tryz.func103, Tryz.ntmps103
 go_wp2
 go_ret
 exact ⟨rfl, rfl⟩
set_option maxHeartbeats 4000000 in
set_option maxRecDepth 100000 in
theorem copiedPort_nil (fv : Value) (w : World) : Calls Tryz.prog 67 #[.slice none 0 0, fv] w fun e w' => e = .returned (.slice none 0 0) ∧ w' = w := by
 have q := clonePort_nil w
 go_enter Tryz.func67, Tryz.ntmps67
 go_wp2_with fail
 refine q.mono ?_
 clear q
 rintro e w' ⟨rfl, rfl⟩
 go_wp2_with fail
 go_loopg [11] 0 (fun g u wr => u = .int .i64 0 ∧ wr = w')
 case atStart => exact ⟨rfl, rfl⟩
 case round =>
  obtain ⟨rfl, rfl⟩ := hrel
  go_wp2
  go_ret
  exact ⟨rfl, rfl⟩
set_option maxHeartbeats 4000000 in
set_option maxRecDepth 100000 in
theorem cloneItem_nil (w : World) : Calls Tryz.prog 104 #[.slice none 0 0] w fun e w' => e = .returned (.slice none 0 0) ∧ w' = w := by
 have he : (binOp .eql 37 (.slice none 0 0) (.slice none 0 0)).run Tryz.prog w = .ok (.bool true) w := Lib.run_eql_slice_nil w 37 48 none 0 0 0 0 Tryz.underlying37
 go_enter Tryz.func104, Tryz.ntmps104
 go_wp2
 go_ret
 exact ⟨rfl, rfl⟩
set_option maxHeartbeats 4000000 in
set_option maxRecDepth 100000 in
theorem copiedItem_nil (fv : Value) (w : World) : Calls Tryz.prog 69 #[.slice none 0 0, fv] w fun e w' => e = .returned (.slice none 0 0) ∧ w' = w := by
 have q := cloneItem_nil w
 go_enter Tryz.func69, Tryz.ntmps69
 go_wp2_with fail
 refine q.mono ?_
 clear q
 rintro e w' ⟨rfl, rfl⟩
 go_wp2_with fail
 go_loopg [11] 0 (fun g u wr => u = .int .i64 0 ∧ wr = w')
 case atStart => exact ⟨rfl, rfl⟩
 case round =>
  obtain ⟨rfl, rfl⟩ := hrel
  go_wp2
  go_ret
  exact ⟨rfl, rfl⟩
set_option maxHeartbeats 8000000 in
set_option maxRecDepth 100000 in
theorem copiedModule_nil (a : Bytes) (w : World) : Calls Tryz.prog 44 #[.agg #[.string (bs a), .slice none 0 0, .slice none 0 0, .slice none 0 0]] w fun e w' => e = .returned (.agg #[.string (bs a), .slice none 0 0, .slice none 0 0, .slice none 0 0]) ∧ Below w.heap.size w w' := by
 have q1 := copiedBind_nil
 have q2 := copiedPort_nil
 have q3 := copiedItem_nil
 have HQ := Lib.hid (And.intro q1 (And.intro q2 q3))
 clear q1 q2 q3
 go_enter Tryz.func44, Tryz.ntmps44
 have hn0 : ∀ O O' : Obj, ((w.alloc O).alloc O').heap.size = w.heap.size + 2 := fun _ _ => by simp
 go_wp2_with fail
 refine (HQ.out.1 _ _).mono ?_
 rintro e w1 ⟨rfl, rfl⟩
 go_wp2_with fail
 refine (HQ.out.2.1 _ _).mono ?_
 rintro e w1 ⟨rfl, rfl⟩
 go_wp2_with fail
 refine (HQ.out.2.2 _ _).mono ?_
 rintro e w1 ⟨rfl, rfl⟩
 go_wp2_with fail
 refine bodyPost_ret (v := .agg #[.string (bs a), .slice none 0 0, .slice none 0 0, .slice none 0 0]) (by simp [results, Tryz.results44, go_sem, *]) rfl ⟨rfl, ?_⟩
 repeat (first | exact Below.refl _ _ | assumption | (refine Below.setCell ?_ (by first | (simp; done) | (simp; omega) | omega) _) | (refine Below.alloc ?_ (by first | (simp; done) | (simp; omega) | omega) _) | (refine below_drewN ?_ _) | (refine Below.drew ?_) | (refine below_via (by assumption) ?_ (by first | (simp; done) | (simp; omega) | omega)))
end Go.Proofs.YtiipjbafdhijlaaGreatDoor
namespace Go.Proofs.YtiipjbafdhijlaaGreatDoor
open Go Go.RowKit
set_option linter.unusedVariables false
set_option linter.unusedSimpArgs false
open Go.Sort
theorem set4_block {V : World} {b : Nat} {x y z t : Value} {ty : TypeId} (h : V.heap[b]? = some (.cells #[x, y, z, t] ty (0, 0))) (u0 u1 u2 u3 : Value) : ((((V.setCell ⟨b, 0, none⟩ u0).setCell ⟨b, 1, none⟩ u1).setCell ⟨b, 2, none⟩ u2).setCell ⟨b, 3, none⟩ u3).heap[b]? = some (.cells #[u0, u1, u2, u3] ty (0, 0)) := by
 have hb := (Array.getElem?_eq_some_iff.1 h).1
 simp [World.setCell, Array.getElem?_modify, h]
/-- What a copied module is. -/
def CpV (m : MT) (v : Value) : Prop := ∃ pa pn pc ta tn tc ia jn ic, v = .agg #[.string (bs m.nm), .slice pa pn pc, .slice ta tn tc, .slice ia jn ic]
set_option maxHeartbeats 8000000 in
set_option maxRecDepth 100000 in
theorem namesFind_any (RV : MT → Nat → World → Value → Prop) (hRV : ∀ m base base' V V' v, RV m base V v → base' ≤ base → V.heap.size ≤ V'.heap.size → (∀ i, base ≤ i → i < V.heap.size → V'.heap[i]? = V.heap[i]?) → RV m base' V' v)
  (W : World) (n0 : Nat) (f : FT) (s : Bytes) (hs : s.length ≤ 12000000) (hn0 : n0 ≤ W.heap.size) (hin : f.In n0 W) (hll : f.ml.length ≤ 6000000)
  (hcp : ∀ m ∈ f.ml, m.nm = s → ∀ V, W.heap.size ≤ V.heap.size → m.In n0 V → Calls Tryz.prog 44 #[m.val] V fun e V' => ∃ v, e = .returned v ∧ CpV m v ∧ RV m V.heap.size V' v ∧ Below V.heap.size V V') :
  Calls Tryz.prog 26 #[f.val, .string (bs s)] W fun e W' => Below W.heap.size W W' ∧ ((f.ml.find? (fun m => m.nm == s) = none ∧ e = .returned (.tuple #[.agg #[.string ⟨#[]⟩, .slice none 0 0, .slice none 0 0, .slice none 0 0], .bool false])) ∨
   ∃ m v, f.ml.find? (fun m => m.nm == s) = some m ∧ e = .returned (.tuple #[v, .bool true]) ∧ CpV m v ∧ RV m (W.heap.size + 2) W' v) := by
 obtain ⟨ma, mc, ml⟩ := f
 have hin : InRow 4 MT.cells (MT.In n0 W) n0 W ml ma := hin
 simp only at hll hcp ⊢
 simp only [FT.val, FT.cells]
 obtain ⟨FD, hFD⟩ : ∃ FD, ml.find? (fun m => m.nm == s) = FD := ⟨_, rfl⟩
 rw [hFD]
 obtain ⟨g, hg⟩ : ∃ g, W.heap.size = g := ⟨_, rfl⟩
 rw [hg] at hn0 hcp ⊢
 obtain ⟨W1, hW1⟩ : ∃ W1, (W.alloc (.cells #[.slice ma ml.length mc] 24)).alloc (.cells #[.string ⟨#[]⟩, .slice none 0 0, .slice none 0 0, .slice none 0 0] 39) = W1 := ⟨_, rfl⟩
 have hz1 : W1.heap.size = g + 2 := by rw [← hW1]; simp [hg]
 have hB1 : Below g W W1 := by rw [← hW1]; exact ((Below.refl _ _).alloc (by omega) _).alloc (by simp; omega) _
 have BF : W1.heap[g]? = some (.cells #[.slice ma ml.length mc] 24 (0, 0)) := by
  rw [← hW1, ← hg]; exact block_alloc (World.alloc_heap_new W _) _
 have BR : W1.heap[g + 1]? = some (.cells #[.string ⟨#[]⟩, .slice none 0 0, .slice none 0 0, .slice none 0 0] 39 (0, 0)) := by
  rw [← hW1, ← hg]; have := World.alloc_heap_new (W.alloc (.cells #[.slice ma ml.length mc] 24)) (.cells #[.string ⟨#[]⟩, .slice none 0 0, .slice none 0 0, .slice none 0 0] 39); rwa [World.size_alloc] at this
 have y0 : W1.cell? ⟨g, 0, none⟩ = some (.slice ma ml.length mc) := by simp [World.cell?, BF]
 have HH := Lib.hid (And.intro hin (And.intro hcp (And.intro hFD (And.intro hB1 BR))))
 clear hin hcp hFD hB1 BF BR
 go_enter Tryz.func26, Tryz.ntmps26
 go_wp2_with fail
 clear hW1
 go_loopg [11] ml.length (fun gh u wr => ∃ k : Nat, u = .int .i64 k ∧ k + gh = ml.length ∧ (ml.drop k).find? (fun m => m.nm == s) = FD ∧ wr.heap[g + 1]? = some (.cells #[.string ⟨#[]⟩, .slice none 0 0, .slice none 0 0, .slice none 0 0] 39 (0, 0)) ∧ Below g W wr ∧ g + 2 ≤ wr.heap.size)
 case atStart => exact ⟨0, rfl, by omega, HH.out.2.2.1, HH.out.2.2.2.2, HH.out.2.2.2.1, by omega⟩
 case round =>
  obtain ⟨k, rfl, hk, hfd, hbr, hbW, hz⟩ := hrel
  clear y0
  by_cases hlt : k < ml.length
  ·have d1 : decide (k < ml.length) = true := by simpa using hlt
   have d2 : decide ((k : Int) < (ml.length : Int)) = true := by rw [decide_eq_true_eq]; omega
   have x1 : (k : Int) < (ml.length : Int) := by omega
   have hkt : KeptTo n0 W wr := Below.keptTo hbW hn0
   obtain ⟨b, o, rfl, hb, hr, hxin⟩ := (HH.out.1).at hlt
   rw [← List.getElem_cons_drop hlt, List.find?_cons] at hfd
   have hxin2 : ml[k].In n0 wr := MT.In.keep hkt _ hxin
   have hcp := HH.out.2.1 ml[k] (List.getElem_mem hlt)
   obtain ⟨x, hxk⟩ : ∃ x, ml[k] = x := ⟨_, rfl⟩
   rw [hxk] at hfd hr hxin2 hcp
   have HX := Lib.hid (And.intro hfd (And.intro hcp hxin2))
   clear hfd hcp hxin hxin2 hxk
   obtain ⟨nm, pa, pc, pl, ta, tc, tl, ia, ic, il⟩ := x
   have r0 : wr.cell? ⟨b, o + k * 4, none⟩ = some (.string (bs nm)) := hkt _ _ _ hb (hr 0 _ rfl)
   have r1 : wr.cell? ⟨b, o + k * 4 + 1, none⟩ = some (.slice pa pl.length pc) := hkt _ _ _ hb (hr 1 _ rfl)
   have r2 : wr.cell? ⟨b, o + k * 4 + 2, none⟩ = some (.slice ta tl.length tc) := hkt _ _ _ hb (hr 2 _ rfl)
   have r3 : wr.cell? ⟨b, o + k * 4 + 3, none⟩ = some (.slice ia il.length ic) := hkt _ _ _ hb (hr 3 _ rfl)
   obtain ⟨z, hzz⟩ : ∃ z, wr.heap.size = z := ⟨_, rfl⟩
   rw [hzz] at hz
   obtain ⟨Wa, hWa⟩ : ∃ Wa, wr.alloc (.cells #[.string (bs nm), .slice pa pl.length pc, .slice ta tl.length tc, .slice ia il.length ic] 39) = Wa := ⟨_, rfl⟩
   have hza : Wa.heap.size = z + 1 := by rw [← hWa, ← hzz]; simp
   have hal : Below z wr Wa := by rw [← hWa, ← hzz]; exact (Below.refl _ _).alloc (Nat.le_refl _) _
   have BX : Wa.heap[z]? = some (.cells #[.string (bs nm), .slice pa pl.length pc, .slice ta tl.length tc, .slice ia il.length ic] 39 (0, 0)) := by rw [← hWa, ← hzz]; exact World.alloc_heap_new wr _
   have BRa := (hal.block (g + 1) (by omega)).trans hbr
   have y0 : Wa.cell? ⟨z, 0, none⟩ = some (.string (bs nm)) := by simp [World.cell?, BX]
   have y1 : Wa.cell? ⟨z, 1, none⟩ = some (.slice pa pl.length pc) := by simp [World.cell?, BX]
   have y2 : Wa.cell? ⟨z, 2, none⟩ = some (.slice ta tl.length tc) := by simp [World.cell?, BX]
   have y3 : Wa.cell? ⟨z, 3, none⟩ = some (.slice ia il.length ic) := by simp [World.cell?, BX]
   have HW := Lib.hid (And.intro hbW (And.intro hal BRa))
   have kA : KeptTo n0 wr Wa := Below.keptTo hal (by omega)
   clear hbW hal BX BRa hbr hr hkt
   cases hc : nm == s with
   | false =>
    have HN : Hid ((ml.drop (k + 1)).find? (fun m => m.nm == s) = FD ∧ Wa.heap[g + 1]? = some (.cells #[.string ⟨#[]⟩, .slice none 0 0, .slice none 0 0, .slice none 0 0] 39 (0, 0)) ∧ Below g W Wa ∧ g + 2 ≤ Wa.heap.size) := Lib.hid ⟨by
     have h1 := HX.out.1
     simp only [hc] at h1
     exact h1, HW.out.2.2, HW.out.1.trans (HW.out.2.1.mono (by omega)), by omega⟩
    clear HX HW kA
    go_wp2_with fail
    cases gk with
    | zero => omega
    | succ gg =>
     go_roundg gg
     case rel => exact ⟨k + 1, rfl, by omega, HN.out⟩
     case measure => omega
   | true =>
    have hse : nm = s := by simpa using hc
    have q1 := HX.out.2.1 hse Wa (by omega) (MT.In.keep kA _ HX.out.2.2)
    have HE : Hid (FD = some ⟨nm, pa, pc, pl, ta, tc, tl, ia, ic, il⟩) := Lib.hid (by
     have h1 := HX.out.1
     simp only [hc] at h1
     exact h1.symm)
    simp only [MT.val, MT.cells] at q1
    clear HX kA hse
    go_wp2_with fail
    (try rw [hWa])
    refine q1.mono ?_
    clear q1 hWa r0 r1 r2 r3 y0 y1 y2 y3
    rintro e V ⟨v, rfl, ⟨pa2, pn, pc2, ta2, tn, tc2, ia2, jn, ic2, rfl⟩, hrv, hBV⟩
    have hzV := hBV.size
    have BRV := (hBV.block (g + 1) (by omega)).trans HW.out.2.2
    have ZB := set4_block BRV (.string (bs nm)) (.slice pa2 pn pc2) (.slice ta2 tn tc2) (.slice ia2 jn ic2)
    obtain ⟨V7, hV7⟩ : ∃ V7, ((((V.setCell ⟨g + 1, 0, none⟩ (.string (bs nm))).setCell ⟨g + 1, 1, none⟩ (.slice pa2 pn pc2)).setCell ⟨g + 1, 2, none⟩ (.slice ta2 tn tc2)).setCell ⟨g + 1, 3, none⟩ (.slice ia2 jn ic2)) = V7 := ⟨_, rfl⟩
    rw [hV7] at ZB
    have hk7 : KeptBut (fun i => i = g + 1) V V7 := by
     rw [← hV7]
     exact (((KeptBut.setCell V ⟨g + 1, 0, none⟩ _ (p := fun i => i = g + 1) rfl).trans (KeptBut.setCell _ ⟨g + 1, 1, none⟩ _ (p := fun i => i = g + 1) rfl) (fun _ _ e => e)).trans (KeptBut.setCell _ ⟨g + 1, 2, none⟩ _ (p := fun i => i = g + 1) rfl) (fun _ _ e => e)).trans (KeptBut.setCell _ ⟨g + 1, 3, none⟩ _ (p := fun i => i = g + 1) rfl) (fun _ _ e => e)
    have z0 : V7.cell? ⟨g + 1, 0, none⟩ = some (.string (bs nm)) := by simp [World.cell?, ZB]
    have z1 : V7.cell? ⟨g + 1, 1, none⟩ = some (.slice pa2 pn pc2) := by simp [World.cell?, ZB]
    have z2 : V7.cell? ⟨g + 1, 2, none⟩ = some (.slice ta2 tn tc2) := by simp [World.cell?, ZB]
    have z3 : V7.cell? ⟨g + 1, 3, none⟩ = some (.slice ia2 jn ic2) := by simp [World.cell?, ZB]
    have c0 : V.cell? ⟨g + 1, 0, none⟩ = some (.string ⟨#[]⟩) := by simp [World.cell?, BRV]
    have c1 : V.cell? ⟨g + 1, 1, none⟩ = some (.slice none 0 0) := by simp [World.cell?, BRV]
    have c2 : V.cell? ⟨g + 1, 2, none⟩ = some (.slice none 0 0) := by simp [World.cell?, BRV]
    have c3 : V.cell? ⟨g + 1, 3, none⟩ = some (.slice none 0 0) := by simp [World.cell?, BRV]
    have f0 : V.frozen? ⟨g + 1, 0, none⟩ = false := by simp [World.frozen?, BRV]
    have f1 : V.frozen? ⟨g + 1, 1, none⟩ = false := by simp [World.frozen?, BRV]
    have f2 : V.frozen? ⟨g + 1, 2, none⟩ = false := by simp [World.frozen?, BRV]
    have f3 : V.frozen? ⟨g + 1, 3, none⟩ = false := by simp [World.frozen?, BRV]
    have HF : Hid (Below g W V7 ∧ RV ⟨nm, pa, pc, pl, ta, tc, tl, ia, ic, il⟩ (g + 2) V7 (.agg #[.string (bs nm), .slice pa2 pn pc2, .slice ta2 tn tc2, .slice ia2 jn ic2])) := Lib.hid (by
     refine ⟨HW.out.1.trans ((HW.out.2.1.mono (by omega)).trans ((hBV.mono (by omega)).trans (hk7.below (by omega) (fun i hi e => by (try simp only at e); omega)))), ?_⟩
     exact hRV _ _ _ _ _ _ hrv (by omega) hk7.size (fun i h1 h2 => hk7.block i h2 (by (try simp only); omega)))
    have HZ := Lib.hid (And.intro z0 (And.intro z1 (And.intro z2 (And.intro z3 hV7))))
    clear hrv hBV BRV ZB hV7 hk7 z0 z1 z2 z3 HW
    go_wp2_with fail
    obtain ⟨z0, z1, z2, z3, hV7⟩ := HZ.out
    refine bodyPost_ret (v := .tuple #[.agg #[.string (bs nm), .slice pa2 pn pc2, .slice ta2 tn tc2, .slice ia2 jn ic2], .bool true]) (by simp [results, Tryz.results26, go_sem, hV7, z0, z1, z2, z3]) rfl ?_
    rw [hV7]
    exact ⟨HF.out.1, .inr ⟨_, _, HE.out, rfl, ⟨_, _, _, _, _, _, _, _, _, rfl⟩, HF.out.2⟩⟩
  ·have d1 : decide (k < ml.length) = false := by simpa using hlt
   have d2 : decide ((k : Int) < (ml.length : Int)) = false := by rw [decide_eq_false_iff_not]; omega
   have HE : Hid (FD = none) := Lib.hid (by rw [← hfd, List.drop_eq_nil_of_le (by omega)]; rfl)
   have ZB := set4_block hbr (.string ⟨#[]⟩) (.slice none 0 0) (.slice none 0 0) (.slice none 0 0)
   have z0 : ((((wr.setCell ⟨g + 1, 0, none⟩ (.string ⟨#[]⟩)).setCell ⟨g + 1, 1, none⟩ (.slice none 0 0)).setCell ⟨g + 1, 2, none⟩ (.slice none 0 0)).setCell ⟨g + 1, 3, none⟩ (.slice none 0 0)).cell? ⟨g + 1, 0, none⟩ = some (.string ⟨#[]⟩) := by simp only [World.cell?, ZB]; rfl
   have z1 : ((((wr.setCell ⟨g + 1, 0, none⟩ (.string ⟨#[]⟩)).setCell ⟨g + 1, 1, none⟩ (.slice none 0 0)).setCell ⟨g + 1, 2, none⟩ (.slice none 0 0)).setCell ⟨g + 1, 3, none⟩ (.slice none 0 0)).cell? ⟨g + 1, 1, none⟩ = some (.slice none 0 0) := by simp only [World.cell?, ZB]; rfl
   have z2 : ((((wr.setCell ⟨g + 1, 0, none⟩ (.string ⟨#[]⟩)).setCell ⟨g + 1, 1, none⟩ (.slice none 0 0)).setCell ⟨g + 1, 2, none⟩ (.slice none 0 0)).setCell ⟨g + 1, 3, none⟩ (.slice none 0 0)).cell? ⟨g + 1, 2, none⟩ = some (.slice none 0 0) := by simp only [World.cell?, ZB]; rfl
   have z3 : ((((wr.setCell ⟨g + 1, 0, none⟩ (.string ⟨#[]⟩)).setCell ⟨g + 1, 1, none⟩ (.slice none 0 0)).setCell ⟨g + 1, 2, none⟩ (.slice none 0 0)).setCell ⟨g + 1, 3, none⟩ (.slice none 0 0)).cell? ⟨g + 1, 3, none⟩ = some (.slice none 0 0) := by simp only [World.cell?, ZB]; rfl
   have c0 : wr.cell? ⟨g + 1, 0, none⟩ = some (.string ⟨#[]⟩) := by simp [World.cell?, hbr]
   have c1 : wr.cell? ⟨g + 1, 1, none⟩ = some (.slice none 0 0) := by simp [World.cell?, hbr]
   have c2 : wr.cell? ⟨g + 1, 2, none⟩ = some (.slice none 0 0) := by simp [World.cell?, hbr]
   have c3 : wr.cell? ⟨g + 1, 3, none⟩ = some (.slice none 0 0) := by simp [World.cell?, hbr]
   have f0 : wr.frozen? ⟨g + 1, 0, none⟩ = false := by simp [World.frozen?, hbr]
   have f1 : wr.frozen? ⟨g + 1, 1, none⟩ = false := by simp [World.frozen?, hbr]
   have f2 : wr.frozen? ⟨g + 1, 2, none⟩ = false := by simp [World.frozen?, hbr]
   have f3 : wr.frozen? ⟨g + 1, 3, none⟩ = false := by simp [World.frozen?, hbr]
   have HZ := Lib.hid (And.intro ((((hbW.setCell (p := ⟨g + 1, 0, none⟩) (by show g ≤ g + 1; omega) (.string ⟨#[]⟩)).setCell (p := ⟨g + 1, 1, none⟩) (by show g ≤ g + 1; omega) (.slice none 0 0)).setCell (p := ⟨g + 1, 2, none⟩) (by show g ≤ g + 1; omega) (.slice none 0 0)).setCell (p := ⟨g + 1, 3, none⟩) (by show g ≤ g + 1; omega) (.slice none 0 0)) (And.intro z0 (And.intro z1 (And.intro z2 z3))))
   clear ZB z0 z1 z2 z3 hbW hbr hfd
   go_wp2_with fail
   obtain ⟨hb, z0, z1, z2, z3⟩ := HZ.out
   refine bodyPost_ret (v := .tuple #[.agg #[.string ⟨#[]⟩, .slice none 0 0, .slice none 0 0, .slice none 0 0], .bool false]) (by simp [results, Tryz.results26, go_sem, z0, z1, z2, z3]) rfl ?_
   exact ⟨hb, .inl ⟨HE.out, rfl⟩⟩
end Go.Proofs.YtiipjbafdhijlaaGreatDoor
namespace Go.Proofs.YtiipjbafdhijlaaGreatDoor
open Go Go.RowKit
set_option linter.unusedVariables false
set_option linter.unusedSimpArgs false
open Go.Sort
theorem set9_block {V : World} {b : Nat} {x0 x1 x2 x3 x4 x5 x6 x7 x8 : Value} {ty : TypeId} (h : V.heap[b]? = some (.cells #[x0, x1, x2, x3, x4, x5, x6, x7, x8] ty (0, 0))) (u0 u1 u2 u3 u4 u5 u6 u7 u8 : Value) : (((((((((V.setCell ⟨b, 0, none⟩ u0).setCell ⟨b, 1, none⟩ u1).setCell ⟨b, 2, none⟩ u2).setCell ⟨b, 3, none⟩ u3).setCell ⟨b, 4, none⟩ u4).setCell ⟨b, 5, none⟩ u5).setCell ⟨b, 6, none⟩ u6).setCell ⟨b, 7, none⟩ u7).setCell ⟨b, 8, none⟩ u8).heap[b]? = some (.cells #[u0, u1, u2, u3, u4, u5, u6, u7, u8] ty (0, 0)) := by
 have hb := (Array.getElem?_eq_some_iff.1 h).1
 simp [World.setCell, Array.getElem?_modify, h]
set_option maxHeartbeats 8000000 in
set_option maxRecDepth 100000 in
theorem wire7_any (a : Bytes) (w : World) : Calls Tryz.prog 20 #[.string (bs a)] w fun e w' => ∃ z, e = .returned (.agg #[.int .i64 2, .string (bs a), .string ⟨#[]⟩, .slice (some ⟨z, 0, none⟩) 1 1, .slice none 0 0, .slice none 0 0, .slice none 0 0, .slice none 0 0, .slice none 0 0]) ∧ w.heap.size ≤ z ∧ w'.heap[z]? = some (.cells #[.int .i64 1, .string ⟨#[]⟩, .int .i64 0, .int .i64 0, .int .u64 1, .slice none 0 0] 54 (0, 0)) ∧ Below w.heap.size w w' := by
 obtain ⟨g, hg⟩ : ∃ g, w.heap.size = g := ⟨_, rfl⟩
 obtain ⟨w0, hw0⟩ : ∃ w0, w.alloc (.cells #[.int .i64 0, .string ⟨#[]⟩, .string ⟨#[]⟩, .slice none 0 0, .slice none 0 0, .slice none 0 0, .slice none 0 0, .slice none 0 0, .slice none 0 0] 48) = w0 := ⟨_, rfl⟩
 have hz0 : w0.heap.size = g + 1 := by rw [← hw0]; simp [hg]
 have hB0 : Below g w w0 := by rw [← hw0]; exact (Below.refl _ _).alloc (by omega) _
 have BZ0 : w0.heap[g]? = some (.cells #[.int .i64 0, .string ⟨#[]⟩, .string ⟨#[]⟩, .slice none 0 0, .slice none 0 0, .slice none 0 0, .slice none 0 0, .slice none 0 0, .slice none 0 0] 48 (0, 0)) := by rw [← hw0, ← hg]; exact World.alloc_heap_new w _
 have q := one7_any w0
 have HH := Lib.hid (And.intro hB0 BZ0)
 clear hB0 BZ0
 rw [hg]
 go_enter Tryz.func20, Tryz.ntmps20
 go_wp2_with fail
 refine q.mono ?_
 clear q hw0
 rintro e w1 ⟨rfl, hb1⟩
 obtain ⟨z, hz⟩ : ∃ z, w1.heap.size = z := ⟨_, rfl⟩
 have hzg : g + 1 ≤ z := by have := hb1.size; omega
 obtain ⟨w2, hw2⟩ : ∃ w2, w1.alloc (.cells #[.int .i64 1, .string ⟨#[]⟩, .int .i64 0, .int .i64 0, .int .u64 1, .slice none 0 0] 54) = w2 := ⟨_, rfl⟩
 have hb2 : Below z w1 w2 := by rw [← hw2]; exact (Below.refl _ _).alloc (by omega) _
 have BX2 : w2.heap[z]? = some (.cells #[.int .i64 1, .string ⟨#[]⟩, .int .i64 0, .int .i64 0, .int .u64 1, .slice none 0 0] 54 (0, 0)) := by rw [← hw2, ← hz]; exact World.alloc_heap_new w1 _
 have BZ2 : w2.heap[g]? = some (.cells #[.int .i64 0, .string ⟨#[]⟩, .string ⟨#[]⟩, .slice none 0 0, .slice none 0 0, .slice none 0 0, .slice none 0 0, .slice none 0 0, .slice none 0 0] 48 (0, 0)) := (hb2.block g (by omega)).trans ((hb1.block g (by omega)).trans HH.out.2)
 have c0 : w2.cell? ⟨g, 0, none⟩ = some (.int .i64 0) := by simp [World.cell?, BZ2]
 have f0 : w2.frozen? ⟨g, 0, none⟩ = false := by simp [World.frozen?, BZ2]
 have c1 : w2.cell? ⟨g, 1, none⟩ = some (.string ⟨#[]⟩) := by simp [World.cell?, BZ2]
 have f1 : w2.frozen? ⟨g, 1, none⟩ = false := by simp [World.frozen?, BZ2]
 have c2 : w2.cell? ⟨g, 2, none⟩ = some (.string ⟨#[]⟩) := by simp [World.cell?, BZ2]
 have f2 : w2.frozen? ⟨g, 2, none⟩ = false := by simp [World.frozen?, BZ2]
 have c3 : w2.cell? ⟨g, 3, none⟩ = some (.slice none 0 0) := by simp [World.cell?, BZ2]
 have f3 : w2.frozen? ⟨g, 3, none⟩ = false := by simp [World.frozen?, BZ2]
 have c4 : w2.cell? ⟨g, 4, none⟩ = some (.slice none 0 0) := by simp [World.cell?, BZ2]
 have f4 : w2.frozen? ⟨g, 4, none⟩ = false := by simp [World.frozen?, BZ2]
 have c5 : w2.cell? ⟨g, 5, none⟩ = some (.slice none 0 0) := by simp [World.cell?, BZ2]
 have f5 : w2.frozen? ⟨g, 5, none⟩ = false := by simp [World.frozen?, BZ2]
 have c6 : w2.cell? ⟨g, 6, none⟩ = some (.slice none 0 0) := by simp [World.cell?, BZ2]
 have f6 : w2.frozen? ⟨g, 6, none⟩ = false := by simp [World.frozen?, BZ2]
 have c7 : w2.cell? ⟨g, 7, none⟩ = some (.slice none 0 0) := by simp [World.cell?, BZ2]
 have f7 : w2.frozen? ⟨g, 7, none⟩ = false := by simp [World.frozen?, BZ2]
 have c8 : w2.cell? ⟨g, 8, none⟩ = some (.slice none 0 0) := by simp [World.cell?, BZ2]
 have f8 : w2.frozen? ⟨g, 8, none⟩ = false := by simp [World.frozen?, BZ2]
 have ZB := set9_block BZ2 (.int .i64 2) (.string (bs a)) (.string ⟨#[]⟩) (.slice (some ⟨z, 0, none⟩) 1 1) (.slice none 0 0) (.slice none 0 0) (.slice none 0 0) (.slice none 0 0) (.slice none 0 0)
 obtain ⟨w3, hw3⟩ : ∃ w3, (((((((((w2.setCell ⟨g, 0, none⟩ (.int .i64 2)).setCell ⟨g, 1, none⟩ (.string (bs a))).setCell ⟨g, 2, none⟩ (.string ⟨#[]⟩)).setCell ⟨g, 3, none⟩ (.slice (some ⟨z, 0, none⟩) 1 1)).setCell ⟨g, 4, none⟩ (.slice none 0 0)).setCell ⟨g, 5, none⟩ (.slice none 0 0)).setCell ⟨g, 6, none⟩ (.slice none 0 0)).setCell ⟨g, 7, none⟩ (.slice none 0 0)).setCell ⟨g, 8, none⟩ (.slice none 0 0)) = w3 := ⟨_, rfl⟩
 rw [hw3] at ZB
 have z0 : w3.cell? ⟨g, 0, none⟩ = some (.int .i64 2) := by simp [World.cell?, ZB]
 have z1 : w3.cell? ⟨g, 1, none⟩ = some (.string (bs a)) := by simp [World.cell?, ZB]
 have z2 : w3.cell? ⟨g, 2, none⟩ = some (.string ⟨#[]⟩) := by simp [World.cell?, ZB]
 have z3 : w3.cell? ⟨g, 3, none⟩ = some (.slice (some ⟨z, 0, none⟩) 1 1) := by simp [World.cell?, ZB]
 have z4 : w3.cell? ⟨g, 4, none⟩ = some (.slice none 0 0) := by simp [World.cell?, ZB]
 have z5 : w3.cell? ⟨g, 5, none⟩ = some (.slice none 0 0) := by simp [World.cell?, ZB]
 have z6 : w3.cell? ⟨g, 6, none⟩ = some (.slice none 0 0) := by simp [World.cell?, ZB]
 have z7 : w3.cell? ⟨g, 7, none⟩ = some (.slice none 0 0) := by simp [World.cell?, ZB]
 have z8 : w3.cell? ⟨g, 8, none⟩ = some (.slice none 0 0) := by simp [World.cell?, ZB]
 have hk3 : KeptBut (fun i => i = g) w2 w3 := by
  rw [← hw3]
  exact ((((((((KeptBut.setCell w2 ⟨g, 0, none⟩ _ (p := fun i => i = g) rfl).trans (KeptBut.setCell _ ⟨g, 1, none⟩ _ (p := fun i => i = g) rfl) (fun _ _ e => e)).trans (KeptBut.setCell _ ⟨g, 2, none⟩ _ (p := fun i => i = g) rfl) (fun _ _ e => e)).trans (KeptBut.setCell _ ⟨g, 3, none⟩ _ (p := fun i => i = g) rfl) (fun _ _ e => e)).trans (KeptBut.setCell _ ⟨g, 4, none⟩ _ (p := fun i => i = g) rfl) (fun _ _ e => e)).trans (KeptBut.setCell _ ⟨g, 5, none⟩ _ (p := fun i => i = g) rfl) (fun _ _ e => e)).trans (KeptBut.setCell _ ⟨g, 6, none⟩ _ (p := fun i => i = g) rfl) (fun _ _ e => e)).trans (KeptBut.setCell _ ⟨g, 7, none⟩ _ (p := fun i => i = g) rfl) (fun _ _ e => e)).trans (KeptBut.setCell _ ⟨g, 8, none⟩ _ (p := fun i => i = g) rfl) (fun _ _ e => e)
 have HF : Hid (g ≤ z ∧ w3.heap[z]? = some (.cells #[.int .i64 1, .string ⟨#[]⟩, .int .i64 0, .int .i64 0, .int .u64 1, .slice none 0 0] 54 (0, 0)) ∧ Below g w w3) := Lib.hid ⟨by omega, (hk3.block z (Array.getElem?_eq_some_iff.1 BX2).1 (by (try simp only); omega)).trans BX2, HH.out.1.trans ((hb1.mono (by omega)).trans ((hb2.mono (by omega)).trans (hk3.below (by have := hb2.size; omega) (fun i hi e => by (try simp only at e); omega))))⟩
 have HZ := Lib.hid (And.intro hw3 (And.intro z0 (And.intro z1 (And.intro z2 (And.intro z3 (And.intro z4 (And.intro z5 (And.intro z6 (And.intro z7 z8)))))))))
 clear hb1 hb2 BX2 BZ2 ZB hk3 hw3 z0 z1 z2 z3 z4 z5 z6 z7 z8
 go_wp2_with fail
 obtain ⟨hw3, z0, z1, z2, z3, z4, z5, z6, z7, z8⟩ := HZ.out
 refine bodyPost_ret (v := .agg #[.int .i64 2, .string (bs a), .string ⟨#[]⟩, .slice (some ⟨z, 0, none⟩) 1 1, .slice none 0 0, .slice none 0 0, .slice none 0 0, .slice none 0 0, .slice none 0 0]) (by simp [results, Tryz.results20, go_sem, hw3, z0, z1, z2, z3, z4, z5, z6, z7, z8]) rfl ?_
 rw [hw3]
 exact ⟨z, rfl, HF.out⟩
end Go.Proofs.YtiipjbafdhijlaaGreatDoor
namespace Go.Proofs.YtiipjbafdhijlaaGreatDoor
open Go Go.RowKit
set_option linter.unusedVariables false
set_option linter.unusedSimpArgs false
open Go.Sort
def instT (a b : Bytes) : IT := .mk 7 a b none 0 [] none 0 [] none 0 [] none 0 [] none 0 [] none 0 []
def numT : XT := .mk 1 [] 0 0 1 none 0 []
def wireT (a : Bytes) (z : Nat) : IT := .mk 2 a [] (some ⟨z, 0, none⟩) 1 [numT] none 0 [] none 0 [] none 0 [] none 0 [] none 0 []
def m7 (a : Bytes) (ia : Option Addr) (ic : Nat) (il : List IT) : MT := ⟨a, none, 0, [], none, 0, [], ia, ic, il⟩
def f7 (gi gm : Nat) : FT := ⟨some ⟨gm, 0, none⟩, 2, [m7 [97] (some ⟨gi, 0, none⟩) 1 [instT [117] [98]], m7 [98] none 0 []]⟩
def g7 (za zb gi gm : Nat) : FT := ⟨some ⟨gm, 0, none⟩, 1, [m7 [97] (some ⟨gi, 0, none⟩) 2 [wireT [119] za, wireT [119] zb]]⟩
def h7 (gi gm : Nat) : FT := ⟨some ⟨gm, 0, none⟩, 1, [m7 [97] (some ⟨gi, 0, none⟩) 1 [instT [117] [97]]]⟩
theorem rowc7 {W : World} {b o : Nat} {t : TypeId} {all cs : List Value} (h : W.heap[b]? = some (.cells all.toArray t (0, 0))) (hs : (all.drop o).take cs.length = cs) : RowC W b o cs := by
 intro j v hv
 have hj : j < cs.length := by
  by_cases h1 : j < cs.length
  ·exact h1
  ·rw [List.getElem?_eq_none (by omega)] at hv; cases hv
 rw [← hs, List.getElem?_take_of_lt hj, List.getElem?_drop] at hv
 simp only [World.cell?, h]
 simpa using hv
theorem instT_in (a b : Bytes) (n : Nat) (W : World) : (instT a b).In n W := by rw [instT, IT.In_mk]; exact ⟨trivial, trivial, trivial, trivial, trivial, trivial⟩
theorem numT_in (n : Nat) (W : World) : numT.In n W := by rw [numT, XT.In_mk]; trivial
theorem wireT_in {a : Bytes} {z n : Nat} {W : World} (hz : z < n) (h : W.heap[z]? = some (.cells #[.int .i64 1, .string ⟨#[]⟩, .int .i64 0, .int .i64 0, .int .u64 1, .slice none 0 0] 54 (0, 0))) : (wireT a z).In n W := by
 rw [wireT, IT.In_mk]
 exact ⟨⟨⟨z, 0, rfl, hz, rowc7 (o := 0) h rfl⟩, numT_in _ _, trivial⟩, trivial, trivial, trivial, trivial, trivial⟩
theorem f7_in {W : World} {n gi gm : Nat} (h1 : gi < n) (h2 : gm < n) (b1 : W.heap[gi]? = some (.cells #[.int .i64 7, .string (bs [117]), .string (bs [98]), .slice none 0 0, .slice none 0 0, .slice none 0 0, .slice none 0 0, .slice none 0 0, .slice none 0 0] 48 (0, 0)))
  (b2 : W.heap[gm]? = some (.cells #[.string (bs [97]), .slice none 0 0, .slice none 0 0, .slice (some ⟨gi, 0, none⟩) 1 1, .string (bs [98]), .slice none 0 0, .slice none 0 0, .slice none 0 0] 39 (0, 0))) : FT.In n W (f7 gi gm) :=
 ⟨⟨gm, 0, rfl, h2, rowc7 (o := 0) b2 rfl⟩, ⟨trivial, trivial, ⟨gi, 0, rfl, h1, rowc7 (o := 0) b1 rfl⟩, instT_in _ _ _ _, trivial⟩, ⟨gm, 4, rfl, h2, rowc7 (o := 4) b2 rfl⟩, ⟨trivial, trivial, trivial⟩, trivial⟩
theorem g7_in {W : World} {n za zb gi gm : Nat} (h1 : gi < n) (h2 : gm < n) (wa : (wireT [119] za).In n W) (wb : (wireT [119] zb).In n W) (b1 : W.heap[gi]? = some (.cells #[.int .i64 2, .string (bs [119]), .string ⟨#[]⟩, .slice (some ⟨za, 0, none⟩) 1 1, .slice none 0 0, .slice none 0 0, .slice none 0 0, .slice none 0 0, .slice none 0 0, .int .i64 2, .string (bs [119]), .string ⟨#[]⟩, .slice (some ⟨zb, 0, none⟩) 1 1, .slice none 0 0, .slice none 0 0, .slice none 0 0, .slice none 0 0, .slice none 0 0] 48 (0, 0)))
  (b2 : W.heap[gm]? = some (.cells #[.string (bs [97]), .slice none 0 0, .slice none 0 0, .slice (some ⟨gi, 0, none⟩) 2 2] 39 (0, 0))) : FT.In n W (g7 za zb gi gm) :=
 ⟨⟨gm, 0, rfl, h2, rowc7 (o := 0) b2 rfl⟩, ⟨trivial, trivial, ⟨gi, 0, rfl, h1, rowc7 (o := 0) b1 rfl⟩, wa, ⟨gi, 9, rfl, h1, rowc7 (o := 9) b1 rfl⟩, wb, trivial⟩, trivial⟩
theorem h7_in {W : World} {n gi gm : Nat} (h1 : gi < n) (h2 : gm < n) (b1 : W.heap[gi]? = some (.cells #[.int .i64 7, .string (bs [117]), .string (bs [97]), .slice none 0 0, .slice none 0 0, .slice none 0 0, .slice none 0 0, .slice none 0 0, .slice none 0 0] 48 (0, 0)))
  (b2 : W.heap[gm]? = some (.cells #[.string (bs [97]), .slice none 0 0, .slice none 0 0, .slice (some ⟨gi, 0, none⟩) 1 1] 39 (0, 0))) : FT.In n W (h7 gi gm) :=
 ⟨⟨gm, 0, rfl, h2, rowc7 (o := 0) b2 rfl⟩, ⟨trivial, trivial, ⟨gi, 0, rfl, h1, rowc7 (o := 0) b1 rfl⟩, instT_in _ _ _ _, trivial⟩, trivial⟩
theorem f7_wf (gi gm : Nat) : (f7 gi gm).Wf := by simp [f7, m7, instT, FT.Wf, MT.WfL, MT.Wf, BT.WfL, PT.WfL, IT.WfL, IT.Wf, XT.WfL, ST.WfL]
theorem g7_wf (za zb gi gm : Nat) : (g7 za zb gi gm).Wf := by simp [g7, m7, wireT, numT, FT.Wf, MT.WfL, MT.Wf, BT.WfL, PT.WfL, IT.WfL, IT.Wf, XT.WfL, ST.WfL, XT.wf_mk]
theorem h7_wf (gi gm : Nat) : (h7 gi gm).Wf := by simp [h7, m7, instT, FT.Wf, MT.WfL, MT.Wf, BT.WfL, PT.WfL, IT.WfL, IT.Wf, XT.WfL, ST.WfL]
theorem f7_bk (gi gm : Nat) : (f7 gi gm).bk ≤ 100 := Nat.le_of_ble_eq_true rfl
theorem g7_bk (za zb gi gm : Nat) : (g7 za zb gi gm).bk ≤ 100 := Nat.le_of_ble_eq_true rfl
theorem h7_bk (gi gm : Nat) : (h7 gi gm).bk ≤ 100 := Nat.le_of_ble_eq_true rfl
theorem f7_check (gi gm : Nat) : checkP (f7 gi gm) = 0 := by kernel_rfl
theorem g7_check (za zb gi gm : Nat) : checkP (g7 za zb gi gm) = 70 := by kernel_rfl
theorem h7_check (gi gm : Nat) : checkP (h7 gi gm) = 72 := by kernel_rfl
theorem f7_ord (gi gm : Nat) : ordF (f7 gi gm) = [[98], [97]] := by kernel_rfl
theorem f7_belE (gi gm : Nat) : belE (f7 gi gm) [98] = 0 := by kernel_rfl
theorem f7_belL (gi gm : Nat) : belL (f7 gi gm) [98] = [[98]] := by kernel_rfl
theorem f7_uses (gi : Nat) : usesM (m7 [97] (some ⟨gi, 0, none⟩) 1 [instT [117] [98]]) = [[98]] := by kernel_rfl
theorem f7_findB (gi gm : Nat) : (f7 gi gm).ml.find? (fun m => m.nm == [98]) = some (m7 [98] none 0 []) := by kernel_rfl
theorem f7_findC (gi gm : Nat) : (f7 gi gm).ml.find? (fun m => m.nm == [99]) = none := by kernel_rfl
theorem SRow.less {lo lo' : Nat} {W : World} {v : Value} {l : List Bytes} (h : SRow lo W v l) (hl : lo' ≤ lo) : SRow lo' W v l := by
 obtain ⟨a, c, e1, e2⟩ := h
 exact ⟨a, c, e1, e2.imp id (fun ⟨b, o, x1, x2, x3⟩ => ⟨b, o, x1, by omega, x3⟩)⟩
theorem lv7_order {gi gm n : Nat} {V : World} (hn : n ≤ V.heap.size) (he : EnvA V) (hf : FT.In n V (f7 gi gm)) : Calls Tryz.prog 12 #[.agg #[.slice (some ⟨gm, 0, none⟩) 2 2]] V fun e V' => Below V.heap.size V V' ∧ ∃ a c, e = .returned (.tuple #[.slice a 2 c, .int .i64 0]) ∧ SRow 0 V' (.slice a 2 c) [[98], [97]] := by
 have h := namesOrder_any V n (f7 gi gm) hn he (f7_wf _ _) hf (by have := f7_bk gi gm; omega)
 refine Calls.mono h ?_
 rintro e V' ⟨hb, ov, rfl, ho⟩
 have hr := ho.row.less (Nat.zero_le _)
 rw [f7_ord] at hr
 obtain ⟨a, c, rfl, _⟩ := id hr
 exact ⟨hb, a, c, by rw [f7_check]; rfl, hr⟩
theorem lv7_below {gi gm n : Nat} {V : World} (hn : n ≤ V.heap.size) (he : EnvA V) (hf : FT.In n V (f7 gi gm)) : Calls Tryz.prog 14 #[.agg #[.slice (some ⟨gm, 0, none⟩) 2 2], .string (bs [98])] V fun e V' => Below V.heap.size V V' ∧ ∃ a c, e = .returned (.tuple #[.slice a 1 c, .int .i64 0]) ∧ SRow 0 V' (.slice a 1 c) [[98]] := by
 have h := namesBelow_any V n (f7 gi gm) [98] (by decide) hn he (f7_wf _ _) hf (by have := f7_bk gi gm; omega)
 refine Calls.mono h ?_
 rintro e V' ⟨hb, ov, rfl, ho⟩
 have hr := ho.less (Nat.zero_le _)
 rw [f7_belL] at hr
 obtain ⟨a, c, rfl, _⟩ := id hr
 exact ⟨hb, a, c, by rw [f7_belE]; rfl, hr⟩
theorem lv7_findB {gi gm n : Nat} {V : World} (hn : n ≤ V.heap.size) (hf : FT.In n V (f7 gi gm)) : Calls Tryz.prog 26 #[.agg #[.slice (some ⟨gm, 0, none⟩) 2 2], .string (bs [98])] V fun e V' => Below V.heap.size V V' ∧ ∃ pa pn pc ta tn tc ia jn ic, e = .returned (.tuple #[.agg #[.string (bs [98]), .slice pa pn pc, .slice ta tn tc, .slice ia jn ic], .bool true]) := by
 have h := namesFind_any (fun _ _ _ _ => True) (fun _ _ _ _ _ _ _ _ _ _ => trivial) V n (f7 gi gm) [98] (by decide) hn hf (Nat.le_of_ble_eq_true rfl) (fun m hm e V2 _ _ => by
  have : m = m7 [98] none 0 [] := by
   simp only [f7, List.mem_cons, List.not_mem_nil, or_false] at hm
   rcases hm with rfl | rfl
   ·exact absurd (show ([97] : Bytes) = [98] from e) (by decide)
   ·rfl
  subst this
  refine Calls.mono (copiedModule_nil [98] V2) ?_
  rintro e V3 ⟨rfl, hb⟩
  exact ⟨_, rfl, ⟨_, _, _, _, _, _, _, _, _, rfl⟩, trivial, hb⟩)
 refine Calls.mono h ?_
 rintro e V' ⟨hb, ⟨h1, _⟩ | ⟨m, v, h1, rfl, ⟨pa, pn, pc, ta, tn, tc, ia, jn, ic, rfl⟩, _⟩⟩
 ·rw [f7_findB] at h1; cases h1
 ·rw [f7_findB] at h1
  cases h1
  exact ⟨hb, pa, pn, pc, ta, tn, tc, ia, jn, ic, rfl⟩
theorem lv7_findC {gi gm n : Nat} {V : World} (hn : n ≤ V.heap.size) (hf : FT.In n V (f7 gi gm)) : Calls Tryz.prog 26 #[.agg #[.slice (some ⟨gm, 0, none⟩) 2 2], .string (bs [99])] V fun e V' => Below V.heap.size V V' ∧ e = .returned (.tuple #[.agg #[.string ⟨#[]⟩, .slice none 0 0, .slice none 0 0, .slice none 0 0], .bool false]) := by
 have h := namesFind_any (fun _ _ _ _ => True) (fun _ _ _ _ _ _ _ _ _ _ => trivial) V n (f7 gi gm) [99] (by decide) hn hf (Nat.le_of_ble_eq_true rfl) (fun m hm e V2 _ _ => by
  simp only [f7, List.mem_cons, List.not_mem_nil, or_false] at hm
  rcases hm with rfl | rfl
  ·exact absurd (show ([97] : Bytes) = [99] from e) (by decide)
  ·exact absurd (show ([98] : Bytes) = [99] from e) (by decide))
 refine Calls.mono h ?_
 rintro e V' ⟨hb, ⟨_, rfl⟩ | ⟨m, v, h1, _⟩⟩
 ·exact ⟨hb, rfl⟩
 ·rw [f7_findC] at h1; cases h1
theorem lv7_uses {gi gm n : Nat} {V : World} (hn : n ≤ V.heap.size) (hf : FT.In n V (f7 gi gm)) : Calls Tryz.prog 27 #[.agg #[.string (bs [97]), .slice none 0 0, .slice none 0 0, .slice (some ⟨gi, 0, none⟩) 1 1]] V fun e V' => Below V.heap.size V V' ∧ ∃ a c, e = .returned (.slice a 1 c) ∧ SRow 0 V' (.slice a 1 c) [[98]] := by
 have hm : (m7 [97] (some ⟨gi, 0, none⟩) 1 [instT [117] [98]]).In n V := hf.2.1
 have h := uses_any V n (m7 [97] (some ⟨gi, 0, none⟩) 1 [instT [117] [98]]) hn hm (Nat.le_of_ble_eq_true rfl)
 refine Calls.mono h ?_
 rintro e V' ⟨v, rfl, ho, hb, _⟩
 rw [f7_uses] at ho
 have hr := (srow_of ho).less (Nat.zero_le _)
 obtain ⟨a, c, rfl, _⟩ := id hr
 exact ⟨hb, a, c, rfl, hr⟩
theorem lv7_checkF {gi gm n : Nat} {V : World} (hn : n ≤ V.heap.size) (he : EnvA V) (hf : FT.In n V (f7 gi gm)) : Calls Tryz.prog 10 #[.agg #[.slice (some ⟨gm, 0, none⟩) 2 2]] V fun e V' => e = .returned (.int .i64 0) ∧ Below V.heap.size V V' := by
 have h := namesCheck_any V n (f7 gi gm) hn he (f7_wf _ _) hf (by have := f7_bk gi gm; omega)
 rw [f7_check] at h
 exact h
theorem lv7_checkG {za zb gi gm n : Nat} {V : World} (hn : n ≤ V.heap.size) (he : EnvA V) (hf : FT.In n V (g7 za zb gi gm)) : Calls Tryz.prog 10 #[.agg #[.slice (some ⟨gm, 0, none⟩) 1 1]] V fun e V' => e = .returned (.int .i64 70) ∧ Below V.heap.size V V' := by
 have h := namesCheck_any V n (g7 za zb gi gm) hn he (g7_wf _ _ _ _) hf (by have := g7_bk za zb gi gm; omega)
 rw [g7_check] at h
 exact h
theorem lv7_checkH {gi gm n : Nat} {V : World} (hn : n ≤ V.heap.size) (he : EnvA V) (hf : FT.In n V (h7 gi gm)) : Calls Tryz.prog 10 #[.agg #[.slice (some ⟨gm, 0, none⟩) 1 1]] V fun e V' => e = .returned (.int .i64 72) ∧ Below V.heap.size V V' := by
 have h := namesCheck_any V n (h7 gi gm) hn he (h7_wf _ _) hf (by have := h7_bk gi gm; omega)
 rw [h7_check] at h
 exact h
end Go.Proofs.YtiipjbafdhijlaaGreatDoor
namespace Go.Proofs.YtiipjbafdhijlaaGreatDoor
open Go Go.RowKit
set_option linter.unusedVariables false
set_option linter.unusedSimpArgs false
open Go.Sort
/-- live's three files, as they lie. -/
structure Lv7 (V : World) (nf ng nh gi gm gf za zb ji jm gg ki km gh : Nat) : Prop where
 env : EnvA V
 f : FT.In nf V (f7 gi gm)
 g : FT.In ng V (g7 za zb ji jm)
 h : FT.In nh V (h7 ki km)
 hf : nf ≤ V.heap.size
 hg : ng ≤ V.heap.size
 hh : nh ≤ V.heap.size
 bf : V.heap[gf]? = some (.cells #[.slice (some ⟨gm, 0, none⟩) 2 2] 24 (0, 0))
 bg : V.heap[gg]? = some (.cells #[.slice (some ⟨jm, 0, none⟩) 1 1] 24 (0, 0))
 bh : V.heap[gh]? = some (.cells #[.slice (some ⟨km, 0, none⟩) 1 1] 24 (0, 0))
 bm : V.heap[gm]? = some (.cells #[.string (bs [97]), .slice none 0 0, .slice none 0 0, .slice (some ⟨gi, 0, none⟩) 1 1, .string (bs [98]), .slice none 0 0, .slice none 0 0, .slice none 0 0] 39 (0, 0))
theorem Lv7.keep {V V' : World} {nf ng nh gi gm gf za zb ji jm gg ki km gh : Nat} (h : Lv7 V nf ng nh gi gm gf za zb ji jm gg ki km gh) (hb : Below V.heap.size V V') : Lv7 V' nf ng nh gi gm gf za zb ji jm gg ki km gh :=
 ⟨h.env.keep hb, FT.In.keep (Below.keptTo hb h.hf) _ h.f, FT.In.keep (Below.keptTo hb h.hg) _ h.g, FT.In.keep (Below.keptTo hb h.hh) _ h.h, Nat.le_trans h.hf hb.size, Nat.le_trans h.hg hb.size, Nat.le_trans h.hh hb.size, block_kept h.bf hb, block_kept h.bg hb, block_kept h.bh hb, block_kept h.bm hb⟩
theorem SRow.below {lo : Nat} {W W' : World} {v : Value} {l : List Bytes} (h : SRow lo W v l) (hb : Below W.heap.size W W') : SRow lo W' v l := h.keep hb.size (fun i _ hi => hb.block i hi)
theorem texts_new {V W : World} {a b : Option Addr} {c d : Nat} {l m : List Bytes} (h : SRow 0 W (.slice a l.length c) l) (h2 : LiesS W b m) (hl : l.length ≤ 1000) (hm : m.length ≤ 1000) (hb : Below V.heap.size V W) (he : l = m) : Calls Tryz.prog 16 #[.slice a l.length c, .slice b m.length d] W fun e V' => e = .returned (.bool true) ∧ Below V.heap.size V V' := by
 have h1 : LiesS W a l := by
  obtain ⟨a', c', e1, e2⟩ := h
  injection e1 with e1
  subst e1
  exact e2.imp id (fun ⟨b, o, x1, x2, x3, x4⟩ => ⟨b, o, x1, x4⟩)
 refine (textsS_any a b c d l m (by omega) (by omega) W h1 h2).mono ?_
 rintro e V' ⟨rfl, n, rfl⟩
 exact ⟨by simp [he], below_drewN hb n⟩
theorem lies_two (V : World) : LiesS (V.alloc (.cells #[.string ⟨#[98]⟩, .string ⟨#[97]⟩] 9)) (some ⟨V.heap.size, 0, none⟩) [[98], [97]] := by
 have hb := World.alloc_heap_new V (.cells #[.string ⟨#[98]⟩, .string ⟨#[97]⟩] 9)
 refine .inr ⟨V.heap.size, 0, rfl, fun i hi => ?_⟩
 match i, hi with
 | 0, _ => simp only [World.cell?, hb]; rfl
 | 1, _ => simp only [World.cell?, hb]; rfl
theorem lies_one (V : World) : LiesS (V.alloc (.cells #[.string ⟨#[98]⟩] 9)) (some ⟨V.heap.size, 0, none⟩) [[98]] := by
 have hb := World.alloc_heap_new V (.cells #[.string ⟨#[98]⟩] 9)
 refine .inr ⟨V.heap.size, 0, rfl, fun i hi => ?_⟩
 match i, hi with
 | 0, _ => simp only [World.cell?, hb]; rfl
theorem lv7_text2 {V : World} {a : Option Addr} {c : Nat} (h : SRow 0 V (.slice a 2 c) [[98], [97]]) : Calls Tryz.prog 16 #[.slice a 2 c, .slice (some ⟨V.heap.size, 0, none⟩) 2 2] (V.alloc (.cells #[.string ⟨#[98]⟩, .string ⟨#[97]⟩] 9)) fun e V' => e = .returned (.bool true) ∧ Below V.heap.size V V' :=
 texts_new (V := V) (l := [[98], [97]]) (m := [[98], [97]]) (h.below ((Below.refl _ _).alloc (Nat.le_refl _) _)) (lies_two V) (by decide) (by decide) ((Below.refl _ _).alloc (Nat.le_refl _) _) rfl
theorem lv7_text1 {V : World} {a : Option Addr} {c : Nat} (h : SRow 0 V (.slice a 1 c) [[98]]) : Calls Tryz.prog 16 #[.slice a 1 c, .slice (some ⟨V.heap.size, 0, none⟩) 1 1] (V.alloc (.cells #[.string ⟨#[98]⟩] 9)) fun e V' => e = .returned (.bool true) ∧ Below V.heap.size V V' :=
 texts_new (V := V) (l := [[98]]) (m := [[98]]) (h.below ((Below.refl _ _).alloc (Nat.le_refl _) _)) (lies_one V) (by decide) (by decide) ((Below.refl _ _).alloc (Nat.le_refl _) _) rfl
set_option maxHeartbeats 8000000 in
set_option maxRecDepth 100000 in
theorem live7_any (w : World) (he : EnvA w) : Calls Tryz.prog 8 #[] w fun e w' => e = .returned (.bool true) ∧ Below w.heap.size w w' := by
 have HE := Lib.hid he
 clear he
 go_enter Tryz.func8, Tryz.ntmps8
 go_wp2_with fail
 refine (inst7_any [117] [98] _).mono ?_
 rintro e w1 ⟨rfl, b1⟩
 go_wp2_with fail
 refine (module7_any [97] (some ⟨w1.heap.size, 0, none⟩) 1 1 _).mono ?_
 rintro e w2 ⟨rfl, b2⟩
 go_wp2_with fail
 refine (module7_any [98] none 0 0 _).mono ?_
 rintro e w3 ⟨rfl, b3⟩
 go_upto_region 2 with (fail)
 have i1 := block_alloc (block_alloc (block_kept (block_kept (World.alloc_heap_new w1 (.cells #[.int .i64 7, .string (bs [117]), .string (bs [98]), .slice none 0 0, .slice none 0 0, .slice none 0 0, .slice none 0 0, .slice none 0 0, .slice none 0 0] 48)) b2) b3) (.cells #[.string (bs [97]), .slice none 0 0, .slice none 0 0, .slice (some ⟨w1.heap.size, 0, none⟩) 1 1, .string (bs [98]), .slice none 0 0, .slice none 0 0, .slice none 0 0] 39)) (.cells #[.slice (some ⟨w3.heap.size, 0, none⟩) 2 2] 24)
 have m1 := block_alloc (World.alloc_heap_new w3 (.cells #[.string (bs [97]), .slice none 0 0, .slice none 0 0, .slice (some ⟨w1.heap.size, 0, none⟩) 1 1, .string (bs [98]), .slice none 0 0, .slice none 0 0, .slice none 0 0] 39)) (.cells #[.slice (some ⟨w3.heap.size, 0, none⟩) 2 2] 24)
 have f1 := World.alloc_heap_new (w3.alloc (.cells #[.string (bs [97]), .slice none 0 0, .slice none 0 0, .slice (some ⟨w1.heap.size, 0, none⟩) 1 1, .string (bs [98]), .slice none 0 0, .slice none 0 0, .slice none 0 0] 39)) (.cells #[.slice (some ⟨w3.heap.size, 0, none⟩) 2 2] 24)
 rw [World.size_alloc] at f1
 have k1 := b1.alloc b1.size (.cells #[.int .i64 7, .string (bs [117]), .string (bs [98]), .slice none 0 0, .slice none 0 0, .slice none 0 0, .slice none 0 0, .slice none 0 0, .slice none 0 0] 48)
 have k2 := k1.trans (b2.mono k1.size)
 have k3 := k2.trans (b3.mono k2.size)
 have k4 := (k3.alloc k3.size (.cells #[.string (bs [97]), .slice none 0 0, .slice none 0 0, .slice (some ⟨w1.heap.size, 0, none⟩) 1 1, .string (bs [98]), .slice none 0 0, .slice none 0 0, .slice none 0 0] 39)).alloc (k3.alloc k3.size (.cells #[.string (bs [97]), .slice none 0 0, .slice none 0 0, .slice (some ⟨w1.heap.size, 0, none⟩) 1 1, .string (bs [98]), .slice none 0 0, .slice none 0 0, .slice none 0 0] 39)).size (.cells #[.slice (some ⟨w3.heap.size, 0, none⟩) 2 2] 24)
 have s1 : w1.heap.size < w3.heap.size := by
  have h1 := b2.size
  have h2 := b3.size
  rw [World.size_alloc] at h1
  omega
 have sV : ((w3.alloc (.cells #[.string (bs [97]), .slice none 0 0, .slice none 0 0, .slice (some ⟨w1.heap.size, 0, none⟩) 1 1, .string (bs [98]), .slice none 0 0, .slice none 0 0, .slice none 0 0] 39)).alloc (.cells #[.slice (some ⟨w3.heap.size, 0, none⟩) 2 2] 24)).heap.size = w3.heap.size + 2 := by simp
 clear k1 k2 k3 b1 b2 b3
 obtain ⟨V1, hV1⟩ : ∃ V1, (w3.alloc (.cells #[.string (bs [97]), .slice none 0 0, .slice none 0 0, .slice (some ⟨w1.heap.size, 0, none⟩) 1 1, .string (bs [98]), .slice none 0 0, .slice none 0 0, .slice none 0 0] 39)).alloc (.cells #[.slice (some ⟨w3.heap.size, 0, none⟩) 2 2] 24) = V1 := ⟨_, rfl⟩
 rw [hV1] at i1 m1 f1 k4 sV ⊢
 clear hV1
 generalize w1.heap.size = gi at *
 generalize w3.heap.size = gm at *
 have hfI : FT.In V1.heap.size V1 (f7 gi gm) := f7_in (by omega) (by omega) i1 m1
 have HA := Lib.hid (And.intro hfI (And.intro f1 (And.intro m1 k4)))
 clear i1 m1 f1 k4 s1 sV hfI
 go_wp2_with fail
 refine (wire7_any [119] _).mono ?_
 rintro e w4 ⟨za, rfl, hza, ba, b4⟩
 go_wp2_with fail
 refine (wire7_any [119] _).mono ?_
 rintro e w5 ⟨zb, rfl, hzb, bb, b5⟩
 go_wp2_with fail
 refine (module7_any [97] (some ⟨w5.heap.size, 0, none⟩) 2 2 _).mono ?_
 rintro e w6 ⟨rfl, b6⟩
 go_upto_region 3 with (fail)
 have i1 := block_alloc (block_alloc (block_kept (World.alloc_heap_new w5 (.cells #[.int .i64 2, .string (bs [119]), .string ⟨#[]⟩, .slice (some ⟨za, 0, none⟩) 1 1, .slice none 0 0, .slice none 0 0, .slice none 0 0, .slice none 0 0, .slice none 0 0, .int .i64 2, .string (bs [119]), .string ⟨#[]⟩, .slice (some ⟨zb, 0, none⟩) 1 1, .slice none 0 0, .slice none 0 0, .slice none 0 0, .slice none 0 0, .slice none 0 0] 48)) b6) (.cells #[.string (bs [97]), .slice none 0 0, .slice none 0 0, .slice (some ⟨w5.heap.size, 0, none⟩) 2 2] 39)) (.cells #[.slice (some ⟨w6.heap.size, 0, none⟩) 1 1] 24)
 have m1 := block_alloc (World.alloc_heap_new w6 (.cells #[.string (bs [97]), .slice none 0 0, .slice none 0 0, .slice (some ⟨w5.heap.size, 0, none⟩) 2 2] 39)) (.cells #[.slice (some ⟨w6.heap.size, 0, none⟩) 1 1] 24)
 have f1 := World.alloc_heap_new (w6.alloc (.cells #[.string (bs [97]), .slice none 0 0, .slice none 0 0, .slice (some ⟨w5.heap.size, 0, none⟩) 2 2] 39)) (.cells #[.slice (some ⟨w6.heap.size, 0, none⟩) 1 1] 24)
 rw [World.size_alloc] at f1
 have ba2 := block_alloc (block_alloc (block_kept (block_alloc (block_kept ba b5) (.cells #[.int .i64 2, .string (bs [119]), .string ⟨#[]⟩, .slice (some ⟨za, 0, none⟩) 1 1, .slice none 0 0, .slice none 0 0, .slice none 0 0, .slice none 0 0, .slice none 0 0, .int .i64 2, .string (bs [119]), .string ⟨#[]⟩, .slice (some ⟨zb, 0, none⟩) 1 1, .slice none 0 0, .slice none 0 0, .slice none 0 0, .slice none 0 0, .slice none 0 0] 48)) b6) (.cells #[.string (bs [97]), .slice none 0 0, .slice none 0 0, .slice (some ⟨w5.heap.size, 0, none⟩) 2 2] 39)) (.cells #[.slice (some ⟨w6.heap.size, 0, none⟩) 1 1] 24)
 have bb2 := block_alloc (block_alloc (block_kept (block_alloc bb (.cells #[.int .i64 2, .string (bs [119]), .string ⟨#[]⟩, .slice (some ⟨za, 0, none⟩) 1 1, .slice none 0 0, .slice none 0 0, .slice none 0 0, .slice none 0 0, .slice none 0 0, .int .i64 2, .string (bs [119]), .string ⟨#[]⟩, .slice (some ⟨zb, 0, none⟩) 1 1, .slice none 0 0, .slice none 0 0, .slice none 0 0, .slice none 0 0, .slice none 0 0] 48)) b6) (.cells #[.string (bs [97]), .slice none 0 0, .slice none 0 0, .slice (some ⟨w5.heap.size, 0, none⟩) 2 2] 39)) (.cells #[.slice (some ⟨w6.heap.size, 0, none⟩) 1 1] 24)
 have k0 := b4.trans (b5.mono b4.size)
 have k1 := k0.alloc k0.size (.cells #[.int .i64 2, .string (bs [119]), .string ⟨#[]⟩, .slice (some ⟨za, 0, none⟩) 1 1, .slice none 0 0, .slice none 0 0, .slice none 0 0, .slice none 0 0, .slice none 0 0, .int .i64 2, .string (bs [119]), .string ⟨#[]⟩, .slice (some ⟨zb, 0, none⟩) 1 1, .slice none 0 0, .slice none 0 0, .slice none 0 0, .slice none 0 0, .slice none 0 0] 48)
 have k2 := k1.trans (b6.mono k1.size)
 have k4 := (k2.alloc k2.size (.cells #[.string (bs [97]), .slice none 0 0, .slice none 0 0, .slice (some ⟨w5.heap.size, 0, none⟩) 2 2] 39)).alloc (k2.alloc k2.size (.cells #[.string (bs [97]), .slice none 0 0, .slice none 0 0, .slice (some ⟨w5.heap.size, 0, none⟩) 2 2] 39)).size (.cells #[.slice (some ⟨w6.heap.size, 0, none⟩) 1 1] 24)
 have s1 : w5.heap.size < w6.heap.size := by
  have h1 := b6.size
  rw [World.size_alloc] at h1
  omega
 have sV : ((w6.alloc (.cells #[.string (bs [97]), .slice none 0 0, .slice none 0 0, .slice (some ⟨w5.heap.size, 0, none⟩) 2 2] 39)).alloc (.cells #[.slice (some ⟨w6.heap.size, 0, none⟩) 1 1] 24)).heap.size = w6.heap.size + 2 := by simp
 clear k0 k1 k2 b4 b5 b6 ba bb hza hzb
 obtain ⟨V2, hV2⟩ : ∃ V2, (w6.alloc (.cells #[.string (bs [97]), .slice none 0 0, .slice none 0 0, .slice (some ⟨w5.heap.size, 0, none⟩) 2 2] 39)).alloc (.cells #[.slice (some ⟨w6.heap.size, 0, none⟩) 1 1] 24) = V2 := ⟨_, rfl⟩
 rw [hV2] at i1 m1 f1 k4 sV ba2 bb2 ⊢
 clear hV2
 generalize w5.heap.size = ji at *
 generalize w6.heap.size = jm at *
 have hgI : FT.In V2.heap.size V2 (g7 za zb ji jm) := g7_in (by omega) (by omega) (wireT_in (Array.getElem?_eq_some_iff.1 ba2).1 ba2) (wireT_in (Array.getElem?_eq_some_iff.1 bb2).1 bb2) i1 m1
 have HB := Lib.hid (And.intro hgI (And.intro f1 k4))
 clear i1 m1 f1 k4 s1 sV hgI ba2 bb2
 go_wp2_with fail
 refine (inst7_any [117] [97] _).mono ?_
 rintro e w7 ⟨rfl, b7⟩
 go_wp2_with fail
 refine (module7_any [97] (some ⟨w7.heap.size, 0, none⟩) 1 1 _).mono ?_
 rintro e w8 ⟨rfl, b8⟩
 go_upto_region 4 with (fail)
 have i1 := block_alloc (block_alloc (block_kept (World.alloc_heap_new w7 (.cells #[.int .i64 7, .string (bs [117]), .string (bs [97]), .slice none 0 0, .slice none 0 0, .slice none 0 0, .slice none 0 0, .slice none 0 0, .slice none 0 0] 48)) b8) (.cells #[.string (bs [97]), .slice none 0 0, .slice none 0 0, .slice (some ⟨w7.heap.size, 0, none⟩) 1 1] 39)) (.cells #[.slice (some ⟨w8.heap.size, 0, none⟩) 1 1] 24)
 have m1 := block_alloc (World.alloc_heap_new w8 (.cells #[.string (bs [97]), .slice none 0 0, .slice none 0 0, .slice (some ⟨w7.heap.size, 0, none⟩) 1 1] 39)) (.cells #[.slice (some ⟨w8.heap.size, 0, none⟩) 1 1] 24)
 have f1 := World.alloc_heap_new (w8.alloc (.cells #[.string (bs [97]), .slice none 0 0, .slice none 0 0, .slice (some ⟨w7.heap.size, 0, none⟩) 1 1] 39)) (.cells #[.slice (some ⟨w8.heap.size, 0, none⟩) 1 1] 24)
 rw [World.size_alloc] at f1
 have k1 := b7.alloc b7.size (.cells #[.int .i64 7, .string (bs [117]), .string (bs [97]), .slice none 0 0, .slice none 0 0, .slice none 0 0, .slice none 0 0, .slice none 0 0, .slice none 0 0] 48)
 have k2 := k1.trans (b8.mono k1.size)
 have k4 := (k2.alloc k2.size (.cells #[.string (bs [97]), .slice none 0 0, .slice none 0 0, .slice (some ⟨w7.heap.size, 0, none⟩) 1 1] 39)).alloc (k2.alloc k2.size (.cells #[.string (bs [97]), .slice none 0 0, .slice none 0 0, .slice (some ⟨w7.heap.size, 0, none⟩) 1 1] 39)).size (.cells #[.slice (some ⟨w8.heap.size, 0, none⟩) 1 1] 24)
 have s1 : w7.heap.size < w8.heap.size := by
  have h1 := b8.size
  rw [World.size_alloc] at h1
  omega
 have sV : ((w8.alloc (.cells #[.string (bs [97]), .slice none 0 0, .slice none 0 0, .slice (some ⟨w7.heap.size, 0, none⟩) 1 1] 39)).alloc (.cells #[.slice (some ⟨w8.heap.size, 0, none⟩) 1 1] 24)).heap.size = w8.heap.size + 2 := by simp
 clear k1 k2 b7 b8
 obtain ⟨V3, hV3⟩ : ∃ V3, (w8.alloc (.cells #[.string (bs [97]), .slice none 0 0, .slice none 0 0, .slice (some ⟨w7.heap.size, 0, none⟩) 1 1] 39)).alloc (.cells #[.slice (some ⟨w8.heap.size, 0, none⟩) 1 1] 24) = V3 := ⟨_, rfl⟩
 rw [hV3] at i1 m1 f1 k4 sV ⊢
 clear hV3
 generalize w7.heap.size = ki at *
 generalize w8.heap.size = km at *
 have hhI : FT.In V3.heap.size V3 (h7 ki km) := h7_in (by omega) (by omega) i1 m1
 obtain ⟨hfI, f2, m2, q1⟩ := HA.out
 obtain ⟨hgI, f3, q2⟩ := HB.out
 have q12 := q2.trans (k4.mono q2.size)
 have HL : Hid (Lv7 V3 V1.heap.size V2.heap.size V3.heap.size gi gm (gm + 1) za zb ji jm (jm + 1) ki km (km + 1) ∧ Below w.heap.size w V3) := Lib.hid ⟨⟨HE.out.keep (q1.trans (q12.mono q1.size)), FT.In.keep (Below.keptTo q12 (Nat.le_refl _)) _ hfI, FT.In.keep (Below.keptTo k4 (Nat.le_refl _)) _ hgI, hhI, q12.size, k4.size, Nat.le_refl _, block_kept f2 q12, block_kept f3 k4, f1, block_kept m2 q12⟩, q1.trans (q12.mono q1.size)⟩
 clear hfI f2 m2 q1 hgI f3 q2 q12 hhI i1 m1 f1 k4 s1 sV HA HB HE
 generalize V1.heap.size = nf at *
 generalize V2.heap.size = ng at *
 generalize hnh : V3.heap.size = nh at HL
 clear hnh
 generalize gm + 1 = gf at *
 generalize jm + 1 = gg at *
 generalize km + 1 = gh at *
 have y0 := (cell_of_box_1 HL.out.1.bf).1
 go_wp2_with fail
 refine (lv7_order HL.out.1.hf HL.out.1.env HL.out.1.f).mono ?_
 rintro e V4 ⟨hb, a1, c1, rfl, hr1⟩
 replace HL := Lib.hid (And.intro (HL.out.1.keep hb) (HL.out.2.trans (hb.mono HL.out.2.size)))
 have HR1 := Lib.hid hr1
 clear hb hr1 y0
 have y0 := (cell_of_box_1 HL.out.1.bf).1
 go_wp2_with fail
 refine (lv7_below HL.out.1.hf HL.out.1.env HL.out.1.f).mono ?_
 rintro e V5 ⟨hb, a2, c2, rfl, hr2⟩
 replace HL := Lib.hid (And.intro (HL.out.1.keep hb) (HL.out.2.trans (hb.mono HL.out.2.size)))
 replace HR1 := Lib.hid (HR1.out.below hb)
 have HR2 := Lib.hid hr2
 clear hb hr2 y0
 have y0 := (cell_of_box_1 HL.out.1.bf).1
 go_wp2_with fail
 refine (lv7_findB HL.out.1.hf HL.out.1.f).mono ?_
 rintro e V6 ⟨hb, pa, pn, pc, ta, tn, tc, ia, jn, ic, rfl⟩
 replace HL := Lib.hid (And.intro (HL.out.1.keep hb) (HL.out.2.trans (hb.mono HL.out.2.size)))
 replace HR1 := Lib.hid (HR1.out.below hb)
 replace HR2 := Lib.hid (HR2.out.below hb)
 clear hb y0
 go_upto_region 7 with (fail)
 have bx := World.alloc_heap_new V6 (.cells #[.string (bs [98]), .slice pa pn pc, .slice ta tn tc, .slice ia jn ic] 39)
 have hb : Below V6.heap.size V6 (V6.alloc (.cells #[.string (bs [98]), .slice pa pn pc, .slice ta tn tc, .slice ia jn ic] 39)) := (Below.refl _ _).alloc (Nat.le_refl _) _
 obtain ⟨V7, hV7⟩ : ∃ V7, V6.alloc (.cells #[.string (bs [98]), .slice pa pn pc, .slice ta tn tc, .slice ia jn ic] 39) = V7 := ⟨_, rfl⟩
 rw [hV7] at bx hb ⊢
 clear hV7
 generalize V6.heap.size = gx at bx ⊢
 replace HL := Lib.hid (And.intro (HL.out.1.keep hb) (HL.out.2.trans (hb.mono HL.out.2.size)))
 replace HR1 := Lib.hid (HR1.out.below hb)
 replace HR2 := Lib.hid (HR2.out.below hb)
 have HX := Lib.hid bx
 clear hb bx
 have y0 := (cell_of_box_1 HL.out.1.bf).1
 go_wp2_with fail
 refine (lv7_findC HL.out.1.hf HL.out.1.f).mono ?_
 rintro e V8 ⟨hb, rfl⟩
 replace HL := Lib.hid (And.intro (HL.out.1.keep hb) (HL.out.2.trans (hb.mono HL.out.2.size)))
 replace HR1 := Lib.hid (HR1.out.below hb)
 replace HR2 := Lib.hid (HR2.out.below hb)
 replace HX := Lib.hid (block_kept HX.out hb)
 clear hb y0
 go_upto_region 8 with (fail)
 have hb : Below V8.heap.size V8 (V8.alloc (.cells #[.string ⟨#[]⟩, .slice none 0 0, .slice none 0 0, .slice none 0 0] 39)) := (Below.refl _ _).alloc (Nat.le_refl _) _
 obtain ⟨V9, hV9⟩ : ∃ V9, V8.alloc (.cells #[.string ⟨#[]⟩, .slice none 0 0, .slice none 0 0, .slice none 0 0] 39) = V9 := ⟨_, rfl⟩
 rw [hV9] at hb ⊢
 clear hV9
 replace HL := Lib.hid (And.intro (HL.out.1.keep hb) (HL.out.2.trans (hb.mono HL.out.2.size)))
 replace HR1 := Lib.hid (HR1.out.below hb)
 replace HR2 := Lib.hid (HR2.out.below hb)
 replace HX := Lib.hid (block_kept HX.out hb)
 clear hb
 go_wp2_with fail
 refine (lv7_text2 HR1.out).mono ?_
 rintro e VA ⟨rfl, hb⟩
 replace HL := Lib.hid (And.intro (HL.out.1.keep hb) (HL.out.2.trans (hb.mono HL.out.2.size)))
 replace HR1 := Lib.hid (HR1.out.below hb)
 replace HR2 := Lib.hid (HR2.out.below hb)
 replace HX := Lib.hid (block_kept HX.out hb)
 clear hb
 go_wp2_with fail
 refine (lv7_text1 HR2.out).mono ?_
 rintro e VB ⟨rfl, hb⟩
 replace HL := Lib.hid (And.intro (HL.out.1.keep hb) (HL.out.2.trans (hb.mono HL.out.2.size)))
 replace HR1 := Lib.hid (HR1.out.below hb)
 replace HR2 := Lib.hid (HR2.out.below hb)
 replace HX := Lib.hid (block_kept HX.out hb)
 clear hb HR1 HR2
 have y0 := (cell_of_box_1 HL.out.1.bf).1
 have y1 : VB.cell? ⟨gm, 0, none⟩ = some (.string (bs [97])) := by simp [World.cell?, HL.out.1.bm]
 have y2 : VB.cell? ⟨gm, 1, none⟩ = some (.slice none 0 0) := by simp [World.cell?, HL.out.1.bm]
 have y3 : VB.cell? ⟨gm, 2, none⟩ = some (.slice none 0 0) := by simp [World.cell?, HL.out.1.bm]
 have y4 : VB.cell? ⟨gm, 3, none⟩ = some (.slice (some ⟨gi, 0, none⟩) 1 1) := by simp [World.cell?, HL.out.1.bm]
 go_wp2_with fail
 refine (lv7_uses HL.out.1.hf HL.out.1.f).mono ?_
 rintro e VC ⟨hb, a3, c3, rfl, hr3⟩
 replace HL := Lib.hid (And.intro (HL.out.1.keep hb) (HL.out.2.trans (hb.mono HL.out.2.size)))
 replace HX := Lib.hid (block_kept HX.out hb)
 have HR3 := Lib.hid hr3
 clear hb hr3 y0 y1 y2 y3 y4
 go_wp2_with fail
 refine (lv7_text1 HR3.out).mono ?_
 rintro e VD ⟨rfl, hb⟩
 replace HL := Lib.hid (And.intro (HL.out.1.keep hb) (HL.out.2.trans (hb.mono HL.out.2.size)))
 replace HX := Lib.hid (block_kept HX.out hb)
 clear hb HR3
 have y0 := (cell_of_box_1 HL.out.1.bg).1
 have y1 : VD.cell? ⟨gx, 0, none⟩ = some (.string (bs [98])) := by simp [World.cell?, HX.out]
 go_wp2_with fail
 refine (lv7_checkG HL.out.1.hg HL.out.1.env HL.out.1.g).mono ?_
 rintro e VE ⟨rfl, hb⟩
 replace HL := Lib.hid (And.intro (HL.out.1.keep hb) (HL.out.2.trans (hb.mono HL.out.2.size)))
 clear hb y0 y1 HX
 have y0 := (cell_of_box_1 HL.out.1.bh).1
 go_wp2_with fail
 refine (lv7_checkH HL.out.1.hh HL.out.1.env HL.out.1.h).mono ?_
 rintro e VF ⟨rfl, hb⟩
 replace HL := Lib.hid (And.intro (HL.out.1.keep hb) (HL.out.2.trans (hb.mono HL.out.2.size)))
 clear hb y0
 have y0 := (cell_of_box_1 HL.out.1.bf).1
 go_wp2_with fail
 refine (lv7_checkF HL.out.1.hf HL.out.1.env HL.out.1.f).mono ?_
 rintro e VG ⟨rfl, hb⟩
 replace HL := Lib.hid (And.intro (HL.out.1.keep hb) (HL.out.2.trans (hb.mono HL.out.2.size)))
 clear hb y0
 go_wp2
 go_ret
 exact ⟨rfl, HL.out.2⟩
end Go.Proofs.YtiipjbafdhijlaaGreatDoor
namespace Go.Proofs.YtiipjbafdhijlaaGreatDoor
open Go Go.RowKit
set_option linter.unusedVariables false
set_option linter.unusedSimpArgs false
open Go.Sort
end Go.Proofs.YtiipjbafdhijlaaGreatDoor
namespace Go.Proofs.YtiipjbafdhijlaaGreatDoor
open Go Go.RowKit
set_option linter.unusedVariables false
set_option linter.unusedSimpArgs false
open Go.Sort
end Go.Proofs.YtiipjbafdhijlaaGreatDoor
