/-
  AsZ, in one text.
-/
import Derived.Test.YtiipjbafdhijlaaGreatDoorZAY
import Derived.Test.YtiipjbafdhijlaaGreatDoorZAF
namespace Go.Proofs.YtiipjbafdhijlaaGreatDoor
open Go Go.RowKit Go.Shelf
set_option linter.unusedVariables false
set_option linter.unusedSimpArgs false
attribute [local go_sem] Oper.semAt_some
theorem cell_of_box_1 {W : World} {B : Nat} {v : Value} {t : TypeId} (h : W.heap[B]? = some (.cells #[v] t (0, 0))) : W.cell? ⟨B, 0, none⟩ = some v ∧ W.frozen? ⟨B, 0, none⟩ = false := by
 constructor <;> simp [World.cell?, World.frozen?, h]
theorem cell_new_1 (W : World) (v : Value) (t : TypeId) : (W.alloc (.cells #[v] t)).cell? ⟨W.heap.size, 0, none⟩ = some v ∧ (W.alloc (.cells #[v] t)).frozen? ⟨W.heap.size, 0, none⟩ = false := cell_of_box_1 (World.alloc_heap_new W _)
theorem cell_other {W : World} {a b : Addr} {v u : Value} (hb : b.block ≠ a.block) (h : W.cell? b = some u) : (W.setCell a v).cell? b = some u := by
 rw [← h]; exact World.cell?_of_block (Below.heap_setCell W a v b.block hb)
theorem cell_alloc_1 {W : World} {a : Addr} {v : Value} (o : Obj) (h : W.cell? a = some v) : (W.alloc o).cell? a = some v := cell_kept h (World.grownBy_alloc W o none) (fun r e => by cases e)
theorem frozen_alloc_1 {W : World} {a : Addr} {v : Value} (o : Obj) (h : W.cell? a = some v) (hf : W.frozen? a = false) : (W.alloc o).frozen? a = false := (frozen_kept h (World.grownBy_alloc W o none) (fun r e => by cases e)).trans hf
theorem great_pre {p ds : List Nat} (h : p <+: ds) (hg : greatB p = true) : greatB ds = true := by
 obtain ⟨r, rfl⟩ := h
 unfold greatB at *
 rw [Bool.or_eq_true, decide_eq_true_eq, List.any_eq_true] at *
 rcases hg with h | ⟨d, hd, h⟩
 ·exact .inl (by rw [List.length_append]; omega)
 ·exact .inr ⟨d, List.mem_append.2 (.inl hd), h⟩
theorem great_no {ds : List Nat} (h1 : ds.length ≤ 65536) (h2 : ∀ d ∈ ds, d ≤ 64) : greatB ds = false := by
 unfold greatB
 rw [Bool.or_eq_false_iff, decide_eq_false_iff_not, List.any_eq_false]
 exact ⟨by omega, fun d hd => by have := h2 d hd; simpa using this⟩
set_option maxHeartbeats 4000000 in
set_option maxRecDepth 9000000 in
theorem tooGreat_in (F : Fence) (hd : F.depth = none) (hW : ∀ g, F.fn g) (hro : F.round = none) (n : Nat) (hn : 6 ≤ n) (gf : Nat) (lb : Array Value) (eg : ∀ args w, (callFunc gf args).run Tryz.prog w = .ok (.enter gf args) w) (ds : List Nat) (w : World)
  (hseq : ∀ B W0, Below w.heap.size w W0 → w.heap.size ≤ B → B < W0.heap.size → SeqStopsK F (n - 1) Tryz.prog gf lb (fun x : Nat => #[Value.int .i64 (x : Int)]) (KeepC B) (fun ys => ys = ds) (fun pre => pre <+: ds) ds.length W0) :
  CallsIn F n Tryz.prog 78 #[.func (.func gf) #[] lb] w fun e W' => e = .returned (.bool (greatB ds)) ∧ Below w.heap.size w W' := by
 have h1 : 1 ≤ n := by omega
 refine callsIn_of_wp_marks Tryz.func78 rfl (hW _) ?_ hro
 simp only [Tryz.ntmps78, List.size_toArray, List.length_cons, List.length_nil, Nat.reduceAdd, Nat.reduceSub, Array.replicate_succ, Array.replicate_zero, List.push_toArray, List.append_toArray, List.nil_append, List.cons_append]
 gi_wp2
 have c0 := cell_new_1 w (.bool false) 4
 have c1 := cell_new_1 (w.alloc (.cells #[.bool false] 4)) (.int .i64 0) 3
 simp only [World.size_alloc] at c1
 have hB0 : Below w.heap.size w ((w.alloc (.cells #[.bool false] 4)).alloc (.cells #[.int .i64 0] 3)) := ((Below.refl _ w).alloc (Nat.le_refl _) _).alloc (by simp) _
 refine wpIn_rangeFunc_ownF hro h1 (gf := gf) (lb := lb) rfl (hW _) eg
  (hseq (w.heap.size + 1) _ hB0 (by omega) (by simp)) (fun h k => KeepC.trans h k) (fun W l o o' _ h hc _ => KeepC.putObj _ W l o o' h hc) (Below.refl _ _) (fun _ => rfl)
  (fun pre W => ((pre.length ≤ 65536 ∧ ∀ d ∈ pre, d ≤ 64) ∧ (W.cell? ⟨w.heap.size, 0, none⟩ = some (.bool false) ∧ W.frozen? ⟨w.heap.size, 0, none⟩ = false) ∧ (W.cell? ⟨w.heap.size + 1, 0, none⟩ = some (.int .i64 (pre.length : Int)) ∧ W.frozen? ⟨w.heap.size + 1, 0, none⟩ = false)) ∧ Below w.heap.size w W)
  (fun c pre W => (c = .ret ∧ greatB pre = true ∧ W.cell? ⟨w.heap.size, 0, none⟩ = some (.bool true)) ∧ Below w.heap.size w W)
  (OwnFrom.and (Own.from (fun s A B row hs hg hr => ⟨hs.1, ⟨cell_kept hs.2.1.1 hg hr, (frozen_kept hs.2.1.1 hg hr).trans hs.2.1.2⟩, ⟨cell_kept hs.2.2.1 hg hr, (frozen_kept hs.2.2.1 hg hr).trans hs.2.2.2⟩⟩) _) (ownFrom_below (Nat.le_refl _) (by simp; omega)))
  (fun c => OwnFrom.and (Own.from (fun s A B row hs hg hr => ⟨hs.1, hs.2.1, cell_kept hs.2.2 hg hr⟩) _) (ownFrom_below (Nat.le_refl _) (by simp; omega)))
  ⟨⟨⟨by simp, by simp⟩, ⟨cell_alloc_1 _ c0.1, frozen_alloc_1 _ c0.1 c0.2⟩, c1⟩, hB0⟩
  (fun x => { tmps := #[.func (.func gf) #[] lb, undef, .pointer (some ⟨w.heap.size, 0, none⟩), .pointer (some ⟨w.heap.size + 1, 0, none⟩), .int .i64 (x : Int), .func (.func gf) #[] lb, .int .i64 (x : Int), undef, undef, undef, undef, undef, undef, undef, undef], defers := [] }) ?assign ?body ?done ?stop
 case assign =>
  intro l x W K hK
  gi_wp2
  exact hK
 case body =>
  rintro l pre x W ⟨⟨⟨hp1, hp2⟩, ⟨hr0, hr1⟩, ⟨hs0, hs1⟩⟩, hB⟩ _
  have HP2 := Lib.hid hp2
  obtain ⟨k, hk⟩ : ∃ k, pre.length = k := ⟨_, rfl⟩
  rw [hk] at hs0 hp1
  have HK := Lib.hid hk
  clear hp2 hk
  by_cases h1 : 65536 < k + 1
  ·have d1 : decide ((65536 : Int) < (k : Int) + 1) = true := by rw [decide_eq_true_eq]; omega
   gi_wp2
   exact ⟨(KeepsOthers.setCell _ _ _).trans (KeepsOthers.setCell _ _ _), ⟨rfl, by unfold greatB; rw [List.length_append, HK.out]; simp; omega, World.cell?_setCell_same' _ _ _ (by rw [cell_other (by simp) hr0]; rfl)⟩, (hB.setCell (p := ⟨w.heap.size + 1, 0, none⟩) (by simp) _).setCell (p := ⟨w.heap.size, 0, none⟩) (Nat.le_refl _) _⟩
  ·have d1 : decide ((65536 : Int) < (k : Int) + 1) = false := by rw [decide_eq_false_iff_not]; omega
   by_cases h2 : 64 < x
   ·have d2 : decide ((64 : Int) < (x : Int)) = true := by rw [decide_eq_true_eq]; omega
    have d3 : decide (64 < x) = true := by simpa using h2
    gi_wp2
    exact ⟨(KeepsOthers.setCell _ _ _).trans (KeepsOthers.setCell _ _ _), ⟨rfl, by unfold greatB; simp; right; right; exact h2, World.cell?_setCell_same' _ _ _ (by rw [cell_other (by simp) hr0]; rfl)⟩, (hB.setCell (p := ⟨w.heap.size + 1, 0, none⟩) (by simp) _).setCell (p := ⟨w.heap.size, 0, none⟩) (Nat.le_refl _) _⟩
   ·have d2 : decide ((64 : Int) < (x : Int)) = false := by rw [decide_eq_false_iff_not]; omega
    have d3 : decide (64 < x) = false := by rw [decide_eq_false_iff_not]; exact h2
    gi_wp2
    exact ⟨KeepsOthers.setCell _ _ _, KeepC.setCell _ _ _ _, ⟨⟨by rw [List.length_append, HK.out]; simp; omega, fun d hd => (List.mem_append.1 hd).elim (HP2.out d) (fun e => by simp at e; omega)⟩, ⟨cell_other (by simp) hr0, by rw [World.frozen?_setCell]; exact hr1⟩, ⟨by rw [List.length_append, HK.out]; exact World.cell?_setCell_same' _ _ _ (by rw [hs0]; rfl), by rw [World.frozen?_setCell]; exact hs1⟩⟩, hB.setCell (p := ⟨w.heap.size + 1, 0, none⟩) (by simp) _⟩
 case done =>
  rintro D ys W hD rfl ⟨⟨⟨hp1, hp2⟩, ⟨hr0, hr1⟩, _⟩, hB⟩ hK
  gi_wp2
  have hK' := (KeepsOthers.setCell W ⟨w.heap.size, 0, none⟩ (.bool false)).same D _ hK rfl
  refine ⟨by simp, .inl ⟨_, _, rfl, run_takeDeferred hK', ?_⟩⟩
  have hc5 := cell_kept (World.cell?_setCell_same' W ⟨w.heap.size, 0, none⟩ (.bool false) (by rw [hr0]; rfl)) (grownBy_putObj' _ D (.deferred none)) (fun r e => by cases e; exact ⟨_, hK', rfl⟩)
  refine ⟨.bool false, ?_, by rw [great_no hp1 hp2], (hB.setCell (p := ⟨w.heap.size, 0, none⟩) (Nat.le_refl _) _).trans (belowK_b (w := w) (Nat.le_refl _) _ D _ _ (by simp at hD; omega) hK' rfl rfl)⟩
  simp [results, Tryz.results78, go_sem, hc5]
 case stop =>
  rintro D c pre W hD hpre ⟨⟨rfl, hin, hcr⟩, hB⟩ hK
  gi_wp2
  refine ⟨by simp, .inl ⟨_, _, rfl, run_takeDeferred hK, ?_⟩⟩
  have hc5 := cell_kept hcr (grownBy_putObj' _ D (.deferred none)) (fun r e => by cases e; exact ⟨_, hK, rfl⟩)
  refine ⟨.bool true, ?_, by rw [great_pre hpre hin], hB.trans (belowK_b (w := w) (Nat.le_refl _) W D _ _ (by simp at hD; omega) hK rfl rfl)⟩
  simp [results, Tryz.results78, go_sem, hc5]
set_option maxHeartbeats 4000000 in
set_option maxRecDepth 9000000 in
theorem file_in (F : Fence) (hd : F.depth = none) (hW : ∀ g, F.fn g) (hro : F.round = none) (l B n0 H0 : Nat) (hnB : n0 ≤ B) (N : Nat) (J Jx : List Nat → World → Prop) (hJ : AbidesFrom H0 J)
  (hY : ∀ m pre (d : Nat) W, J pre W → pre.length < N → YieldAt F m Tryz.prog l #[.int .i64 (d : Int)] W fun e W' => (e = .returned (.bool true) ∧ J (pre ++ [d]) W' ∧ KeepC B W W') ∨ (e = .returned (.bool false) ∧ Jx (pre ++ [d]) W')) :
  ∀ x : FT, x.sz ≤ 6000000 → ∀ (d n : Nat) (pre : List Nat) (W : World), d + x.sz ≤ 12000000 → B < W.heap.size → x.In n0 W → J pre W → pre.length + (x.ds d).length ≤ N → CallsIn F n Tryz.prog 80 #[.func (.yield l) #[] #[], x.val, .int .i64 (d : Int)] W (TravPost J Jx B pre (x.ds d) W) := by
 rintro ⟨ma, mc, ml⟩ hsz d n pre W hd2 hB hin hj hN
 simp only [FT.ds, MT.dsL_flat] at hN ⊢
 simp only [FT.sz] at hsz hd2
 have i0 : InRow 4 MT.cells (MT.In n0 W) n0 W ml ma := hin
 simp only [FT.val, FT.cells]
 have m0 := fun y (hy : y ∈ ml) => MT.szL_mem hy
 have e0 := MT.szL_len ml
 have hdd : ∀ k : Nat, (F.depth.isSome = true → 1 ≤ k) := fun k h => by rw [hd] at h; cases h
 have zz : B < (W.alloc (.cells #[.slice ma ml.length mc] 24)).heap.size := by simp; omega
 have hk0 : KeepC B W (W.alloc (.cells #[.slice ma ml.length mc] 24)) := (KeepC.refl _ _).alloc _
 have t0 := eachModule_in F hd (hW _) (hW _) hro B n0 H0 hnB N J Jx hJ (.func (.yield l) #[] #[]) d ml (by omega) (fun y hy m pre2 W2 hB2 hin2 hj2 hN2 => module_in F hd hW hro l B n0 H0 hnB N J Jx hJ hY y (by have := m0 y hy; omega) d m pre2 W2 (by have := m0 y hy; omega) hB2 hin2 hj2 hN2) (n - 1) ma mc pre _ zz (i0.keep (hk0.keptTo hnB) (fun x _ => MT.In.keep (hk0.keptTo hnB) x)) (AbidesFrom.alloc hJ _ hj) hN
 refine callsIn_of_wp Tryz.func80 rfl (hW _) ?_ hro
 simp only [Tryz.ntmps80, List.size_toArray, List.length_cons, List.length_nil, Nat.reduceAdd, Nat.reduceSub, Array.replicate_succ, Array.replicate_zero, List.push_toArray, List.append_toArray, List.nil_append, List.cons_append]
 gi_wp2_with fail
 (try refine ⟨hdd _, ?_⟩)
 refine t0.mono ?_
 clear t0
 rintro e W2 (⟨rfl, hj2, hk2⟩ | ⟨rfl, q, hq, hx2⟩)
 ·gi_wp2
  go_ret
  exact .inl ⟨rfl, hj2, hk0.trans hk2⟩
 ·gi_wp2
  go_ret
  exact .inr ⟨rfl, q, hq, hx2⟩
theorem depthsFile_any (x : FT) (w : World) : Calls Tryz.prog 79 #[x.val, .func (.func 80) #[] #[]] w fun e w' => e = .returned (.func (.func 108) #[] #[.pointer (some ⟨w.heap.size + 1, 0, none⟩), .pointer (some ⟨w.heap.size, 0, none⟩)]) ∧ w' = (w.alloc (.cells x.cells.toArray 24)).alloc (.cells #[.func (.func 80) #[] #[]] 115) := by
 obtain ⟨ma, mc, ml⟩ := x
 simp only [FT.val, FT.cells]
 go_enter Tryz.func79, Tryz.ntmps79
 go_wp2
 go_ret
 exact ⟨rfl, rfl⟩
set_option maxHeartbeats 4000000 in
set_option maxRecDepth 9000000 in
theorem depthsFile1_stops (F : Fence) (hd : F.depth = none) (hW : ∀ g, F.fn g) (hro : F.round = none) (n : Nat) (x : FT) (hsz : x.sz ≤ 6000000) (b1 b2 n0 : Nat) (w : World) (hb1 : b1 < w.heap.size) (hb2 : b2 < w.heap.size) (hn0 : n0 ≤ w.heap.size) (c1 : w.cell? ⟨b1, 0, none⟩ = some (.func (.func 80) #[] #[])) (c2 : RowC w b2 0 x.cells) (hx : x.In n0 w) :
  ∀ B W0, Below w.heap.size w W0 → n0 ≤ B → B < W0.heap.size → SeqStopsK F n Tryz.prog 108 #[.pointer (some ⟨b1, 0, none⟩), .pointer (some ⟨b2, 0, none⟩)] (fun x : Nat => #[Value.int .i64 (x : Int)]) (KeepC B) (fun ys => ys = x.ds 1) (fun pre => pre <+: x.ds 1) (x.ds 1).length W0 := by
 intro B W0 hb hB1 hB2 l J Jx W hW2 hJ hJx hY h0
 have hbW : Below w.heap.size w W := hb.trans (hW2.mono hb.size)
 have hp := file_in F hd hW hro l B n0 W.heap.size (by omega) (x.ds 1).length J Jx hJ (fun m pre d W hj hl => YieldAt.anyDepth hd m (hY pre d W hj hl)) x hsz 1 (n - 1) [] W (by omega) (by have := hW2.size; omega) (hx.keep (Below.keptTo hbW hn0)) h0 (by simp)
 have e1 : ((1 : Nat) : Int) = 1 := rfl
 rw [e1] at hp
 have hdd : ∀ k : Nat, (F.depth.isSome = true → 1 ≤ k) := fun k h => by rw [hd] at h; cases h
 have r0 : W.cell? ⟨b1, 0, none⟩ = some (.func (.func 80) #[] #[]) := (hbW.cell (p := ⟨b1, 0, none⟩) hb1).trans c1
 obtain ⟨D, hD⟩ : ∃ D, x.ds 1 = D := ⟨_, rfl⟩
 rw [hD] at hp ⊢
 clear hY hD
 obtain ⟨ma, mc, ml⟩ := x
 simp only [FT.val, FT.cells] at hp c2
 have q0 : W.cell? ⟨b2, 0, none⟩ = some (.slice ma ml.length mc) := (hbW.cell (p := ⟨b2, 0, none⟩) hb2).trans (by have := c2 0 _ rfl; simpa using this)
 clear c1 c2 hx
 refine callsIn_of_wp Tryz.func108 rfl (hW _) ?_ hro
 simp only [Tryz.ntmps108, List.size_toArray, List.length_cons, List.length_nil, Nat.reduceAdd, Nat.reduceSub, Array.replicate_succ, Array.replicate_zero, List.push_toArray, List.append_toArray, List.nil_append, List.cons_append]
 gi_wp2_with fail
 (try refine ⟨hdd _, ?_⟩)
 refine hp.mono ?_
 clear hp
 rintro e W1 (⟨rfl, hJ1, _⟩ | ⟨rfl, q, hq, hx1⟩)
 ·gi_wp2
  go_end0
  exact ⟨⟨_, rfl⟩, .inl ⟨_, rfl, by simpa using hJ1⟩⟩
 ·gi_wp2
  go_end0
  exact ⟨⟨_, rfl⟩, .inr ⟨q, hq, by simpa using hx1⟩⟩
theorem entersFile (args : Array Value) (w : World) : (callFunc 108 args).run Tryz.prog w = .ok (.enter 108 args) w := enters_of Tryz.func108 (by kernel_rfl) rfl args w
/-- Whether a tree is too great. -/
theorem greatFile_any (x : FT) (hsz : x.sz ≤ 6000000) (n0 : Nat) (w : World) (hn0 : n0 ≤ w.heap.size) (hx : x.In n0 w) : Calls Tryz.prog 78 #[.func (.func 108) #[] #[.pointer (some ⟨w.heap.size + 1, 0, none⟩), .pointer (some ⟨w.heap.size, 0, none⟩)]] ((w.alloc (.cells x.cells.toArray 24)).alloc (.cells #[.func (.func 80) #[] #[]] 115))
  fun e w' => e = .returned (.bool (greatB (x.ds 1))) ∧ Below w.heap.size w w' := by
 have hB0 : Below w.heap.size w ((w.alloc (.cells x.cells.toArray 24)).alloc (.cells #[.func (.func 80) #[] #[]] 115)) := ((Below.refl _ w).alloc (Nat.le_refl _) _).alloc (by simp) _
 refine (callsIn_wide (n := 6)).1 ((tooGreat_in Fence.wide rfl (fun _ => trivial) rfl 6 (by omega) _ _ entersFile (x.ds 1) _ ?_).mono ?_)
 ·refine fun B W0 g1 g2 g3 => depthsFile1_stops Fence.wide rfl (fun _ => trivial) rfl 5 x hsz (w.heap.size + 1) w.heap.size n0 _ (by simp) (by simp; omega) (by simp; omega) ?_ ?_ (hx.keep (Below.keptTo hB0 hn0)) B W0 g1 (by simp at g2; omega) g3
  ·have := (cell_new_1 (w.alloc (.cells x.cells.toArray 24)) (.func (.func 80) #[] #[]) 115).1
   rwa [World.size_alloc] at this
  ·intro j v hv
   rw [Nat.zero_add]
   refine cell_alloc_1 _ ?_
   have h := World.alloc_heap_new w (.cells x.cells.toArray 24)
   have h2 : x.cells.toArray[j]? = some v := by rw [List.getElem?_toArray]; exact hv
   simp only [World.cell?, h, h2]
   simp
 ·rintro e w' ⟨he, hb⟩
  exact ⟨he, hB0.trans (hb.mono (by simp; omega))⟩
end Go.Proofs.YtiipjbafdhijlaaGreatDoor
