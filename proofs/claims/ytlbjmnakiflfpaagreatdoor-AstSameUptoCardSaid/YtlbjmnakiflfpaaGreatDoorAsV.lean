/-
  Size and Deep: how many nodes a file has, and how deep it is.
-/
import Derived.Test.YtlbjmnakiflfpaaGreatDoorAsZ
namespace Go.Proofs.YtlbjmnakiflfpaaGreatDoor
open Go Go.RowKit Go.Shelf
set_option linter.unusedVariables false
set_option linter.unusedSimpArgs false
attribute [local go_sem] Oper.semAt_some
theorem mxD_snoc (p : List Nat) (x : Nat) : mxD (p ++ [x]) = max (mxD p) x := by rw [mxD_app]; simp [mxD]

set_option maxHeartbeats 4000000 in
set_option maxRecDepth 3000000 in
theorem size_any (x : FT) (hsz : x.sz ≤ 2000000) (n0 : Nat) (w : World) (hn0 : n0 ≤ w.heap.size) (hx : x.In n0 w) : Calls Tryz.prog 33 #[x.val] w fun e w' => e = .returned (.int .i64 (x.sz : Int)) ∧ Below w.heap.size w w' := by
  refine (callsIn_wide (n := 6)).1 ?_
  obtain ⟨F, hF⟩ : ∃ F, F = Fence.wide := ⟨_, rfl⟩
  have hd : F.depth = none := by rw [hF]; rfl
  have hW : ∀ g, F.fn g := fun g => by rw [hF]; trivial
  have hro : F.round = none := by rw [hF]; rfl
  have hcw : ∀ f args w R, Calls Tryz.prog f args w R → CallsIn F 5 Tryz.prog f args w R := fun f args w R h => by rw [hF]; exact callsIn_wide.2 h
  rw [← hF]
  clear hF
  obtain ⟨D, hD⟩ : ∃ D, x.ds 1 = D := ⟨_, rfl⟩
  have hDl : D.length = x.sz := by rw [← hD]; exact x.ds_sz 1
  have hDm : mxD D = x.dp := by rw [← hD]; exact x.mx_ds
  have hdp := fun w => depthsFile_any x w
  have hst := fun (w1 : World) b1 b2 h1 h2 h3 h4 h5 h6 => depthsFile1_stops F hd hW hro 5 x hsz b1 b2 n0 w1 h1 h2 h3 h4 h5 h6
  rw [hD] at hst
  have HX := Lib.hid hx
  have HV : Hid (x.sz = D.length) := Lib.hid (by exact hDl.symm)
  rw [HV.out]
  obtain ⟨ma, mc, ml⟩ := x
  have hin := HX.out
  simp only [FT.val, FT.cells] at hdp hst ⊢
  have HDL := Lib.hid hDl
  clear hx hDm hDl hD HX
  refine callsIn_of_wp_marks Tryz.func33 rfl (hW _) ?_ hro
  simp only [Tryz.ntmps33, List.size_toArray, List.length_cons, List.length_nil, Nat.reduceAdd, Nat.reduceSub, Array.replicate_succ, Array.replicate_zero, List.push_toArray, List.append_toArray, List.nil_append, List.cons_append]
  gi_wp2_with (gi_at_call 70; refine (hcw _ _ _ _ (hdp _)).mono ?_; clear hdp hcw; rintro e w' ⟨rfl, rfl⟩)
  obtain ⟨W0, hW0⟩ : ∃ W0, (((w.alloc (.cells #[.slice ma ml.length mc] 41)).alloc (.cells #[.int .i64 0] 3)).alloc (.cells #[.slice ma ml.length mc] 41)).alloc (.cells #[.func (.func 71) #[] #[]] 107) = W0 := ⟨_, rfl⟩
  have e1 := World.alloc_heap_new (w.alloc (.cells #[.slice ma ml.length mc] 41)) (.cells #[.int .i64 0] 3)
  have e2 := World.alloc_heap_new ((w.alloc (.cells #[.slice ma ml.length mc] 41)).alloc (.cells #[.int .i64 0] 3)) (.cells #[.slice ma ml.length mc] 41)
  have e3 := World.alloc_heap_new (((w.alloc (.cells #[.slice ma ml.length mc] 41)).alloc (.cells #[.int .i64 0] 3)).alloc (.cells #[.slice ma ml.length mc] 41)) (.cells #[.func (.func 71) #[] #[]] 107)
  simp only [World.size_alloc] at e1 e2 e3
  have c1 := cell_alloc_1 (.cells #[.func (.func 71) #[] #[]] 107) (cell_alloc_1 (.cells #[.slice ma ml.length mc] 41) (cell_of_box_1 e1).1)
  have f1 := frozen_alloc_1 (.cells #[.func (.func 71) #[] #[]] 107) (cell_alloc_1 (.cells #[.slice ma ml.length mc] 41) (cell_of_box_1 e1).1) (frozen_alloc_1 (.cells #[.slice ma ml.length mc] 41) (cell_of_box_1 e1).1 (cell_of_box_1 e1).2)
  have c2 := cell_alloc_1 (.cells #[.func (.func 71) #[] #[]] 107) (cell_of_box_1 e2).1
  have c3 := (cell_of_box_1 e3).1
  have hB0 : Below w.heap.size w W0 := by rw [← hW0]; exact ((((Below.refl _ w).alloc (Nat.le_refl _) _).alloc (by simp) _).alloc (by simp; omega) _).alloc (by simp; omega) _
  have hz : W0.heap.size = w.heap.size + 4 := by rw [← hW0]; simp
  rw [hW0] at c1 f1 c2 c3
  try rw [hW0]
  clear e1 e2 e3 hW0
  refine wpIn_rangeFunc_ownF hro (by omega) (gf := 115) (lb := #[.pointer (some ⟨w.heap.size + 1 + 1 + 1, 0, none⟩), .pointer (some ⟨w.heap.size + 1 + 1, 0, none⟩)]) rfl (hW _) entersFile
    (hst W0 _ _ (by omega) (by omega) (by omega) c3 (fun j v hv => by match j, hv with | 0, hv => simp only [List.getElem?_cons_zero, Option.some.injEq] at hv; subst hv; exact c2) (FT.In.keep (Below.keptTo hB0 hn0) _ hin) (w.heap.size + 1) W0 (Below.refl _ _) (by omega) (by omega)) (fun h k => KeepC.trans h k) (fun W l o o' _ h hc _ => KeepC.putObj _ W l o o' h hc) (Below.refl _ _) (fun _ => rfl)
    (fun pre W => (W.cell? ⟨w.heap.size + 1, 0, none⟩ = some (.int .i64 (pre.length : Int)) ∧ W.frozen? ⟨w.heap.size + 1, 0, none⟩ = false) ∧ Below w.heap.size w W)
    (fun _ _ _ => False)
    (OwnFrom.and (Own.from (fun s A B row hs hg hr => ⟨cell_kept hs.1 hg hr, (frozen_kept hs.1 hg hr).trans hs.2⟩) _) (ownFrom_below (Nat.le_refl _) (by omega)))
    (fun _ _ _ _ _ hs _ _ => hs)
    ⟨⟨c1, f1⟩, hB0⟩
    (fun x => { tmps := #[.agg #[.slice ma ml.length mc], .pointer (some ⟨w.heap.size, 0, none⟩), .int .i64 0, .pointer (some ⟨w.heap.size + 1, 0, none⟩), .agg #[.slice ma ml.length mc], .func (.func 115) #[] #[.pointer (some ⟨w.heap.size + 1 + 1 + 1, 0, none⟩), .pointer (some ⟨w.heap.size + 1 + 1, 0, none⟩)], .int .i64 (x : Int), undef, undef, undef], defers := [] }) ?assign ?body ?done ?stop
  case assign =>
    intro l x W K hK
    gi_wp2
    first | exact hK | simpa using hK
  case body =>
    rintro l pre x W ⟨⟨hc, hf⟩, hB⟩ hlen
    rw [HDL.out] at hlen
    have hk : pre.length < 2000000 := by omega
    gi_wp2
    exact ⟨KeepsOthers.setCell _ _ _, KeepC.setCell _ _ _ _, ⟨by rw [List.length_append]; exact World.cell?_setCell_same' _ _ _ (by rw [hc]; rfl), by rw [World.frozen?_setCell]; exact hf⟩, hB.setCell (p := ⟨w.heap.size + 1, 0, none⟩) (by simp) _⟩
  case done =>
    rintro D ys W hD rfl ⟨⟨hc, _⟩, hB⟩ hK
    gi_wp2
    refine ⟨by simp, .inl ⟨_, _, rfl, run_takeDeferred hK, ?_⟩⟩
    exact ⟨_, results_tmp rfl _ _ _, rfl, hB.trans (belowK_b (w := w) (Nat.le_refl _) W D _ _ (by omega) hK rfl rfl)⟩
  case stop =>
    rintro D c pre W _ _ h _
    exact h.elim

set_option maxHeartbeats 4000000 in
set_option maxRecDepth 3000000 in
theorem deep_any (x : FT) (hsz : x.sz ≤ 2000000) (n0 : Nat) (w : World) (hn0 : n0 ≤ w.heap.size) (hx : x.In n0 w) : Calls Tryz.prog 34 #[x.val] w fun e w' => e = .returned (.int .i64 (x.dp : Int)) ∧ Below w.heap.size w w' := by
  refine (callsIn_wide (n := 6)).1 ?_
  obtain ⟨F, hF⟩ : ∃ F, F = Fence.wide := ⟨_, rfl⟩
  have hd : F.depth = none := by rw [hF]; rfl
  have hW : ∀ g, F.fn g := fun g => by rw [hF]; trivial
  have hro : F.round = none := by rw [hF]; rfl
  have hcw : ∀ f args w R, Calls Tryz.prog f args w R → CallsIn F 5 Tryz.prog f args w R := fun f args w R h => by rw [hF]; exact callsIn_wide.2 h
  rw [← hF]
  clear hF
  obtain ⟨D, hD⟩ : ∃ D, x.ds 1 = D := ⟨_, rfl⟩
  have hDl : D.length = x.sz := by rw [← hD]; exact x.ds_sz 1
  have hDm : mxD D = x.dp := by rw [← hD]; exact x.mx_ds
  have hdp := fun w => depthsFile_any x w
  have hst := fun (w1 : World) b1 b2 h1 h2 h3 h4 h5 h6 => depthsFile1_stops F hd hW hro 5 x hsz b1 b2 n0 w1 h1 h2 h3 h4 h5 h6
  rw [hD] at hst
  have HX := Lib.hid hx
  have HV : Hid (x.dp = mxD D) := Lib.hid (by exact hDm.symm)
  rw [HV.out]
  obtain ⟨ma, mc, ml⟩ := x
  have hin := HX.out
  simp only [FT.val, FT.cells] at hdp hst ⊢
  have HDL := Lib.hid hDl
  clear hx hDm hDl hD HX
  refine callsIn_of_wp_marks Tryz.func34 rfl (hW _) ?_ hro
  simp only [Tryz.ntmps34, List.size_toArray, List.length_cons, List.length_nil, Nat.reduceAdd, Nat.reduceSub, Array.replicate_succ, Array.replicate_zero, List.push_toArray, List.append_toArray, List.nil_append, List.cons_append]
  gi_wp2_with (gi_at_call 70; refine (hcw _ _ _ _ (hdp _)).mono ?_; clear hdp hcw; rintro e w' ⟨rfl, rfl⟩)
  obtain ⟨W0, hW0⟩ : ∃ W0, (((w.alloc (.cells #[.slice ma ml.length mc] 41)).alloc (.cells #[.int .i64 0] 3)).alloc (.cells #[.slice ma ml.length mc] 41)).alloc (.cells #[.func (.func 71) #[] #[]] 107) = W0 := ⟨_, rfl⟩
  have e1 := World.alloc_heap_new (w.alloc (.cells #[.slice ma ml.length mc] 41)) (.cells #[.int .i64 0] 3)
  have e2 := World.alloc_heap_new ((w.alloc (.cells #[.slice ma ml.length mc] 41)).alloc (.cells #[.int .i64 0] 3)) (.cells #[.slice ma ml.length mc] 41)
  have e3 := World.alloc_heap_new (((w.alloc (.cells #[.slice ma ml.length mc] 41)).alloc (.cells #[.int .i64 0] 3)).alloc (.cells #[.slice ma ml.length mc] 41)) (.cells #[.func (.func 71) #[] #[]] 107)
  simp only [World.size_alloc] at e1 e2 e3
  have c1 := cell_alloc_1 (.cells #[.func (.func 71) #[] #[]] 107) (cell_alloc_1 (.cells #[.slice ma ml.length mc] 41) (cell_of_box_1 e1).1)
  have f1 := frozen_alloc_1 (.cells #[.func (.func 71) #[] #[]] 107) (cell_alloc_1 (.cells #[.slice ma ml.length mc] 41) (cell_of_box_1 e1).1) (frozen_alloc_1 (.cells #[.slice ma ml.length mc] 41) (cell_of_box_1 e1).1 (cell_of_box_1 e1).2)
  have c2 := cell_alloc_1 (.cells #[.func (.func 71) #[] #[]] 107) (cell_of_box_1 e2).1
  have c3 := (cell_of_box_1 e3).1
  have hB0 : Below w.heap.size w W0 := by rw [← hW0]; exact ((((Below.refl _ w).alloc (Nat.le_refl _) _).alloc (by simp) _).alloc (by simp; omega) _).alloc (by simp; omega) _
  have hz : W0.heap.size = w.heap.size + 4 := by rw [← hW0]; simp
  rw [hW0] at c1 f1 c2 c3
  try rw [hW0]
  clear e1 e2 e3 hW0
  refine wpIn_rangeFunc_ownF hro (by omega) (gf := 115) (lb := #[.pointer (some ⟨w.heap.size + 1 + 1 + 1, 0, none⟩), .pointer (some ⟨w.heap.size + 1 + 1, 0, none⟩)]) rfl (hW _) entersFile
    (hst W0 _ _ (by omega) (by omega) (by omega) c3 (fun j v hv => by match j, hv with | 0, hv => simp only [List.getElem?_cons_zero, Option.some.injEq] at hv; subst hv; exact c2) (FT.In.keep (Below.keptTo hB0 hn0) _ hin) (w.heap.size + 1) W0 (Below.refl _ _) (by omega) (by omega)) (fun h k => KeepC.trans h k) (fun W l o o' _ h hc _ => KeepC.putObj _ W l o o' h hc) (Below.refl _ _) (fun _ => rfl)
    (fun pre W => (W.cell? ⟨w.heap.size + 1, 0, none⟩ = some (.int .i64 (mxD pre : Int)) ∧ W.frozen? ⟨w.heap.size + 1, 0, none⟩ = false) ∧ Below w.heap.size w W)
    (fun _ _ _ => False)
    (OwnFrom.and (Own.from (fun s A B row hs hg hr => ⟨cell_kept hs.1 hg hr, (frozen_kept hs.1 hg hr).trans hs.2⟩) _) (ownFrom_below (Nat.le_refl _) (by omega)))
    (fun _ _ _ _ _ hs _ _ => hs)
    ⟨⟨c1, f1⟩, hB0⟩
    (fun x => { tmps := #[.agg #[.slice ma ml.length mc], .pointer (some ⟨w.heap.size, 0, none⟩), .int .i64 0, .pointer (some ⟨w.heap.size + 1, 0, none⟩), .int .i64 (x : Int), .agg #[.slice ma ml.length mc], .func (.func 115) #[] #[.pointer (some ⟨w.heap.size + 1 + 1 + 1, 0, none⟩), .pointer (some ⟨w.heap.size + 1 + 1, 0, none⟩)], .int .i64 (x : Int), undef, undef, undef, undef], defers := [] }) ?assign ?body ?done ?stop
  case assign =>
    intro l x W K hK
    gi_wp2
    first | exact hK | simpa using hK
  case body =>
    rintro l pre x W ⟨⟨hc, hf⟩, hB⟩ hlen
    have hs := mxD_snoc pre x
    obtain ⟨m, hm⟩ : ∃ m, mxD pre = m := ⟨_, rfl⟩
    rw [hm] at hs hc
    have HS := Lib.hid hs
    clear hs hm
    gi_wp2
    all_goals exact ⟨KeepsOthers.setCell _ _ _, KeepC.setCell _ _ _ _, ⟨by rw [HS.out, World.cell?_setCell_same' _ _ _ (by rw [hc]; rfl)]; first | done | rfl | (congr 2; omega) | simp, by rw [World.frozen?_setCell]; exact hf⟩, hB.setCell (p := ⟨w.heap.size + 1, 0, none⟩) (by simp) _⟩
  case done =>
    rintro D ys W hD rfl ⟨⟨hc, _⟩, hB⟩ hK
    gi_wp2
    refine ⟨by simp, .inl ⟨_, _, rfl, run_takeDeferred hK, ?_⟩⟩
    exact ⟨_, results_tmp rfl _ _ _, rfl, hB.trans (belowK_b (w := w) (Nat.le_refl _) W D _ _ (by omega) hK rfl rfl)⟩
  case stop =>
    rintro D c pre W _ _ h _
    exact h.elim
end Go.Proofs.YtlbjmnakiflfpaaGreatDoor
