/-
  AsX, in one text.
-/
import Derived.Test.YtiipjbafdhijlaaGreatDoorZAW
namespace Go.Proofs.YtiipjbafdhijlaaGreatDoor
open Go Go.RowKit Go.Shelf
set_option linter.unusedVariables false
set_option linter.unusedSimpArgs false
attribute [local go_sem] Oper.semAt_some
set_option maxHeartbeats 8000000 in
set_option maxRecDepth 9000000 in
theorem expr_in (F : Fence) (hd : F.depth = none) (hW : ∀ g, F.fn g) (hro : F.round = none) (l B n0 H0 : Nat) (hnB : n0 ≤ B) (N : Nat) (J Jx : List Nat → World → Prop) (hJ : AbidesFrom H0 J)
  (hY : ∀ m pre (d : Nat) W, J pre W → pre.length < N → YieldAt F m Tryz.prog l #[.int .i64 (d : Int)] W fun e W' => (e = .returned (.bool true) ∧ J (pre ++ [d]) W' ∧ KeepC B W W') ∨ (e = .returned (.bool false) ∧ Jx (pre ++ [d]) W')) :
  ∀ x : XT, x.sz ≤ 6000000 → ∀ (d n : Nat) (pre : List Nat) (W : World), d + x.sz ≤ 12000000 → B < W.heap.size → x.In n0 W → J pre W → pre.length + (x.ds d).length ≤ N → CallsIn F n Tryz.prog 151 #[.func (.yield l) #[] #[], x.val, .int .i64 (d : Int)] W (TravPost J Jx B pre (x.ds d) W) := by
 refine XT.ind ?_
 intro op nm xn wd v xa xc xl ih0 hsz d n pre W hd2 hB hin hj hN
 rw [XT.In_mk] at hin
 rw [XT.ds_mk] at hN ⊢
 simp only [XT.sz] at hsz hd2
 simp only [XT.val, XT.cells]
 have hdd : ∀ k : Nat, (F.depth.isSome = true → 1 ≤ k) := fun k h => by rw [hd] at h; cases h
 have i0 := hin
 have m0 := fun y (hy : y ∈ xl) => XT.szL_mem hy
 have e0 := XT.szL_len xl
 obtain ⟨d1, hd1⟩ : ∃ d1, d + 1 = d1 := ⟨_, rfl⟩
 have hadd : (d : Int) + 1 = (d1 : Int) := by omega
 have hadd2 : IntKind.i64.wrap ((d : Int) + 1) = (d1 : Int) := by rw [hadd]; exact IntWalk.i64_in _ (by omega)
 rw [hd1] at hN ⊢
 simp only [List.length_cons, List.length_append] at hN
 have c0 := fun pre' (W' : World) (h1 : B < W'.heap.size) h2 h3 (h4 : pre'.length + (xl.flatMap (XT.ds d1)).length ≤ N) => eachX_in F hd (hW _) (hW _) hro B n0 H0 hnB N J Jx hJ (.func (.yield l) #[] #[]) d1 xl (by omega) (fun y hy m pre2 W2 hB2 hin2 hj2 hN2 => ih0 y hy (by have := m0 y hy; omega) d1 m pre2 W2 (by have := m0 y hy; omega) hB2 hin2 hj2 hN2) (n - 1) xa xc pre' W' h1 h2 h3 h4
 have hk0 : KeepC B W (W.alloc (.cells #[.int .i64 op, .string (bs nm), .int .i64 xn, .int .i64 wd, .int .u64 (v : Int), .slice xa xl.length xc] 54)) := (KeepC.refl _ _).alloc _
 have hj0 : J pre (W.alloc (.cells #[.int .i64 op, .string (bs nm), .int .i64 xn, .int .i64 wd, .int .u64 (v : Int), .slice xa xl.length xc] 54)) := AbidesFrom.alloc hJ _ hj
 have b5 : (W.alloc (.cells #[.int .i64 op, .string (bs nm), .int .i64 xn, .int .i64 wd, .int .u64 (v : Int), .slice xa xl.length xc] 54)).cell? ⟨W.heap.size, 5, none⟩ = some (.slice xa xl.length xc) := by simp
 obtain ⟨fn, tmps, assign, body, hy, hR⟩ := hY (n - 1) pre d _ hj0 (by omega)
 have HH := Lib.hid (And.intro hd1 hN)
 clear hd1
 refine callsIn_of_wp Tryz.func151 rfl (hW _) ?_ hro
 simp only [Tryz.ntmps151, List.size_toArray, List.length_cons, List.length_nil, Nat.reduceAdd, Nat.reduceSub, Array.replicate_succ, Array.replicate_zero, List.push_toArray, List.append_toArray, List.nil_append, List.cons_append]
 gi_wp2
 refine hR.mono ?_
 clear hR hy hj0
 rintro e W1 (⟨rfl, hj1, hk1⟩ | ⟨rfl, hx1⟩)
 ·have K1 := hk0.trans hk1
  have z1 := K1.size
  replace b5 := hk1.cell (by omega) b5
  have t0 := c0 (pre ++ [d]) W1 (by omega) (i0.keep (K1.keptTo hnB) (fun x _ => XT.In.keep (K1.keptTo hnB) x)) hj1 (by simp only [List.length_append, List.length_cons, List.length_nil]; omega)
  gi_wp2_with fail
  (try refine ⟨hdd _, ?_⟩)
  refine t0.mono ?_
  clear t0
  rintro e W2 (⟨rfl, hj2, hk2⟩ | ⟨rfl, q, hq, hx2⟩)
  ·gi_wp2
   go_ret
   exact .inl ⟨rfl, by simpa [List.append_assoc] using hj2, K1.trans hk2⟩
  ·gi_wp2
   go_ret
   obtain ⟨r, hr⟩ := hq
   exact .inr ⟨rfl, d :: (q), ⟨r, by simp [← hr]⟩, by simpa [List.append_assoc] using hx2⟩
 ·gi_wp2
  go_ret
  exact .inr ⟨rfl, [d], ⟨xl.flatMap (XT.ds d1), by simp⟩, by simpa using hx1⟩
set_option maxHeartbeats 8000000 in
set_option maxRecDepth 9000000 in
theorem stmt_in (F : Fence) (hd : F.depth = none) (hW : ∀ g, F.fn g) (hro : F.round = none) (l B n0 H0 : Nat) (hnB : n0 ≤ B) (N : Nat) (J Jx : List Nat → World → Prop) (hJ : AbidesFrom H0 J)
  (hY : ∀ m pre (d : Nat) W, J pre W → pre.length < N → YieldAt F m Tryz.prog l #[.int .i64 (d : Int)] W fun e W' => (e = .returned (.bool true) ∧ J (pre ++ [d]) W' ∧ KeepC B W W') ∨ (e = .returned (.bool false) ∧ Jx (pre ++ [d]) W')) :
  ∀ x : ST, x.sz ≤ 6000000 → ∀ (d n : Nat) (pre : List Nat) (W : World), d + x.sz ≤ 12000000 → B < W.heap.size → x.In n0 W → J pre W → pre.length + (x.ds d).length ≤ N → CallsIn F n Tryz.prog 154 #[.func (.yield l) #[] #[], x.val, .int .i64 (d : Int)] W (TravPost J Jx B pre (x.ds d) W) := by
 refine ST.ind ?_
 intro op nm xa xc xl sa sc sl ih0 hsz d n pre W hd2 hB hin hj hN
 rw [ST.In_mk] at hin
 rw [ST.ds_mk] at hN ⊢
 simp only [ST.sz] at hsz hd2
 simp only [ST.val, ST.cells]
 have hdd : ∀ k : Nat, (F.depth.isSome = true → 1 ≤ k) := fun k h => by rw [hd] at h; cases h
 obtain ⟨i0, i1⟩ := hin
 have m0 := fun y (hy : y ∈ xl) => XT.szL_mem hy
 have e0 := XT.szL_len xl
 have m1 := fun y (hy : y ∈ sl) => ST.szL_mem hy
 have e1 := ST.szL_len sl
 obtain ⟨d1, hd1⟩ : ∃ d1, d + 1 = d1 := ⟨_, rfl⟩
 have hadd : (d : Int) + 1 = (d1 : Int) := by omega
 have hadd2 : IntKind.i64.wrap ((d : Int) + 1) = (d1 : Int) := by rw [hadd]; exact IntWalk.i64_in _ (by omega)
 rw [hd1] at hN ⊢
 simp only [List.length_cons, List.length_append] at hN
 have c0 := fun pre' (W' : World) (h1 : B < W'.heap.size) h2 h3 (h4 : pre'.length + (xl.flatMap (XT.ds d1)).length ≤ N) => eachX_in F hd (hW _) (hW _) hro B n0 H0 hnB N J Jx hJ (.func (.yield l) #[] #[]) d1 xl (by omega) (fun y hy m pre2 W2 hB2 hin2 hj2 hN2 => expr_in F hd hW hro l B n0 H0 hnB N J Jx hJ hY y (by have := m0 y hy; omega) d1 m pre2 W2 (by have := m0 y hy; omega) hB2 hin2 hj2 hN2) (n - 1) xa xc pre' W' h1 h2 h3 h4
 have c1 := fun pre' (W' : World) (h1 : B < W'.heap.size) h2 h3 (h4 : pre'.length + (sl.flatMap (ST.ds d1)).length ≤ N) => eachS_in F hd (hW _) (hW _) hro B n0 H0 hnB N J Jx hJ (.func (.yield l) #[] #[]) d1 sl (by omega) (fun y hy m pre2 W2 hB2 hin2 hj2 hN2 => ih0 y hy (by have := m1 y hy; omega) d1 m pre2 W2 (by have := m1 y hy; omega) hB2 hin2 hj2 hN2) (n - 1) sa sc pre' W' h1 h2 h3 h4
 have hk0 : KeepC B W (W.alloc (.cells #[.int .i64 op, .string (bs nm), .slice xa xl.length xc, .slice sa sl.length sc] 134)) := (KeepC.refl _ _).alloc _
 have hj0 : J pre (W.alloc (.cells #[.int .i64 op, .string (bs nm), .slice xa xl.length xc, .slice sa sl.length sc] 134)) := AbidesFrom.alloc hJ _ hj
 have b2 : (W.alloc (.cells #[.int .i64 op, .string (bs nm), .slice xa xl.length xc, .slice sa sl.length sc] 134)).cell? ⟨W.heap.size, 2, none⟩ = some (.slice xa xl.length xc) := by simp
 have b3 : (W.alloc (.cells #[.int .i64 op, .string (bs nm), .slice xa xl.length xc, .slice sa sl.length sc] 134)).cell? ⟨W.heap.size, 3, none⟩ = some (.slice sa sl.length sc) := by simp
 obtain ⟨fn, tmps, assign, body, hy, hR⟩ := hY (n - 1) pre d _ hj0 (by omega)
 have HH := Lib.hid (And.intro hd1 hN)
 clear hd1
 refine callsIn_of_wp Tryz.func154 rfl (hW _) ?_ hro
 simp only [Tryz.ntmps154, List.size_toArray, List.length_cons, List.length_nil, Nat.reduceAdd, Nat.reduceSub, Array.replicate_succ, Array.replicate_zero, List.push_toArray, List.append_toArray, List.nil_append, List.cons_append]
 gi_wp2
 refine hR.mono ?_
 clear hR hy hj0
 rintro e W1 (⟨rfl, hj1, hk1⟩ | ⟨rfl, hx1⟩)
 ·have K1 := hk0.trans hk1
  have z1 := K1.size
  replace b2 := hk1.cell (by omega) b2
  replace b3 := hk1.cell (by omega) b3
  have t0 := c0 (pre ++ [d]) W1 (by omega) (i0.keep (K1.keptTo hnB) (fun x _ => XT.In.keep (K1.keptTo hnB) x)) hj1 (by simp only [List.length_append, List.length_cons, List.length_nil]; omega)
  gi_wp2_with fail
  (try refine ⟨hdd _, ?_⟩)
  refine t0.mono ?_
  clear t0
  rintro e W2 (⟨rfl, hj2, hk2⟩ | ⟨rfl, q, hq, hx2⟩)
  ·have K2 := K1.trans hk2
   have z2 := K2.size
   replace b2 := hk2.cell (by omega) b2
   replace b3 := hk2.cell (by omega) b3
   have t1 := c1 (pre ++ [d] ++ xl.flatMap (XT.ds d1)) W2 (by omega) (i1.keep (K2.keptTo hnB) (fun x _ => ST.In.keep (K2.keptTo hnB) x)) hj2 (by simp only [List.length_append, List.length_cons, List.length_nil]; omega)
   gi_wp2_with fail
   (try refine ⟨hdd _, ?_⟩)
   refine t1.mono ?_
   clear t1
   rintro e W3 (⟨rfl, hj3, hk3⟩ | ⟨rfl, q, hq, hx3⟩)
   ·gi_wp2
    go_ret
    exact .inl ⟨rfl, by simpa [List.append_assoc] using hj3, K2.trans hk3⟩
   ·gi_wp2
    go_ret
    obtain ⟨r, hr⟩ := hq
    exact .inr ⟨rfl, d :: (xl.flatMap (XT.ds d1) ++ q), ⟨r, by simp [← hr]⟩, by simpa [List.append_assoc] using hx3⟩
  ·gi_wp2
   go_ret
   obtain ⟨r, hr⟩ := hq
   exact .inr ⟨rfl, d :: (q), ⟨r ++ (sl.flatMap (ST.ds d1)), by simp [← hr]⟩, by simpa [List.append_assoc] using hx2⟩
 ·gi_wp2
  go_ret
  exact .inr ⟨rfl, [d], ⟨xl.flatMap (XT.ds d1) ++ (sl.flatMap (ST.ds d1)), by simp⟩, by simpa using hx1⟩
set_option maxHeartbeats 8000000 in
set_option maxRecDepth 9000000 in
theorem bind_in (F : Fence) (hd : F.depth = none) (hW : ∀ g, F.fn g) (hro : F.round = none) (l B n0 H0 : Nat) (hnB : n0 ≤ B) (N : Nat) (J Jx : List Nat → World → Prop) (hJ : AbidesFrom H0 J)
  (hY : ∀ m pre (d : Nat) W, J pre W → pre.length < N → YieldAt F m Tryz.prog l #[.int .i64 (d : Int)] W fun e W' => (e = .returned (.bool true) ∧ J (pre ++ [d]) W' ∧ KeepC B W W') ∨ (e = .returned (.bool false) ∧ Jx (pre ++ [d]) W')) :
  ∀ x : BT, x.sz ≤ 6000000 → ∀ (d n : Nat) (pre : List Nat) (W : World), d + x.sz ≤ 12000000 → B < W.heap.size → x.In n0 W → J pre W → pre.length + (x.ds d).length ≤ N → CallsIn F n Tryz.prog 130 #[.func (.yield l) #[] #[], x.val, .int .i64 (d : Int)] W (TravPost J Jx B pre (x.ds d) W) := by
 rintro ⟨bn, ⟨op, nm, xn, wd, v, xa, xc, xl⟩⟩ hsz d n pre W hd2 hB hin hj hN
 rw [BT.ds_x] at hN ⊢
 simp only [BT.sz] at hsz hd2
 have i0 : XT.In n0 W (.mk op nm xn wd v xa xc xl) := hin
 simp only [BT.val, BT.cells, XT.cells]
 obtain ⟨X, hX⟩ : ∃ X, XT.mk op nm xn wd v xa xc xl = X := ⟨_, rfl⟩
 have HXV : (Value.agg #[.int .i64 op, .string (bs nm), .int .i64 xn, .int .i64 wd, .int .u64 (v : Int), .slice xa xl.length xc]) = X.val := by rw [← hX]; rfl
 simp only at hsz hd2 hN i0 ⊢
 rw [hX] at hsz hd2 hN i0 ⊢
 have HXH := Lib.hid HXV
 clear HXV hX
 have hdd : ∀ k : Nat, (F.depth.isSome = true → 1 ≤ k) := fun k h => by rw [hd] at h; cases h
 obtain ⟨d1, hd1⟩ : ∃ d1, d + 1 = d1 := ⟨_, rfl⟩
 have hadd : (d : Int) + 1 = (d1 : Int) := by omega
 have hadd2 : IntKind.i64.wrap ((d : Int) + 1) = (d1 : Int) := by rw [hadd]; exact IntWalk.i64_in _ (by omega)
 rw [hd1] at hN ⊢
 simp only [List.length_cons, List.length_append] at hN
 have c0 := fun pre' (W' : World) (h1 : B < W'.heap.size) h2 h3 (h4 : pre'.length + (X.ds d1).length ≤ N) => expr_in F hd hW hro l B n0 H0 hnB N J Jx hJ hY X (by omega) d1 (n - 1) pre' W' (by omega) h1 h2 h3 h4
 have hk0 : KeepC B W (W.alloc (.cells #[.string (bs bn), .int .i64 op, .string (bs nm), .int .i64 xn, .int .i64 wd, .int .u64 (v : Int), .slice xa xl.length xc] 78)) := (KeepC.refl _ _).alloc _
 have hj0 : J pre (W.alloc (.cells #[.string (bs bn), .int .i64 op, .string (bs nm), .int .i64 xn, .int .i64 wd, .int .u64 (v : Int), .slice xa xl.length xc] 78)) := AbidesFrom.alloc hJ _ hj
 have b1 : (W.alloc (.cells #[.string (bs bn), .int .i64 op, .string (bs nm), .int .i64 xn, .int .i64 wd, .int .u64 (v : Int), .slice xa xl.length xc] 78)).cell? ⟨W.heap.size, 1, none⟩ = some (.int .i64 op) := by simp
 have b2 : (W.alloc (.cells #[.string (bs bn), .int .i64 op, .string (bs nm), .int .i64 xn, .int .i64 wd, .int .u64 (v : Int), .slice xa xl.length xc] 78)).cell? ⟨W.heap.size, 2, none⟩ = some (.string (bs nm)) := by simp
 have b3 : (W.alloc (.cells #[.string (bs bn), .int .i64 op, .string (bs nm), .int .i64 xn, .int .i64 wd, .int .u64 (v : Int), .slice xa xl.length xc] 78)).cell? ⟨W.heap.size, 3, none⟩ = some (.int .i64 xn) := by simp
 have b4 : (W.alloc (.cells #[.string (bs bn), .int .i64 op, .string (bs nm), .int .i64 xn, .int .i64 wd, .int .u64 (v : Int), .slice xa xl.length xc] 78)).cell? ⟨W.heap.size, 4, none⟩ = some (.int .i64 wd) := by simp
 have b5 : (W.alloc (.cells #[.string (bs bn), .int .i64 op, .string (bs nm), .int .i64 xn, .int .i64 wd, .int .u64 (v : Int), .slice xa xl.length xc] 78)).cell? ⟨W.heap.size, 5, none⟩ = some (.int .u64 (v : Int)) := by simp
 have b6 : (W.alloc (.cells #[.string (bs bn), .int .i64 op, .string (bs nm), .int .i64 xn, .int .i64 wd, .int .u64 (v : Int), .slice xa xl.length xc] 78)).cell? ⟨W.heap.size, 6, none⟩ = some (.slice xa xl.length xc) := by simp
 obtain ⟨fn, tmps, assign, body, hy, hR⟩ := hY (n - 1) pre d _ hj0 (by omega)
 have HH := Lib.hid (And.intro hd1 hN)
 clear hd1
 refine callsIn_of_wp Tryz.func130 rfl (hW _) ?_ hro
 simp only [Tryz.ntmps130, List.size_toArray, List.length_cons, List.length_nil, Nat.reduceAdd, Nat.reduceSub, Array.replicate_succ, Array.replicate_zero, List.push_toArray, List.append_toArray, List.nil_append, List.cons_append]
 gi_wp2
 refine hR.mono ?_
 clear hR hy hj0
 rintro e W1 (⟨rfl, hj1, hk1⟩ | ⟨rfl, hx1⟩)
 ·have K1 := hk0.trans hk1
  have z1 := K1.size
  replace b1 := hk1.cell (by omega) b1
  replace b2 := hk1.cell (by omega) b2
  replace b3 := hk1.cell (by omega) b3
  replace b4 := hk1.cell (by omega) b4
  replace b5 := hk1.cell (by omega) b5
  replace b6 := hk1.cell (by omega) b6
  have t0 := c0 (pre ++ [d]) W1 (by omega) (i0.keep (K1.keptTo hnB)) hj1 (by simp only [List.length_append, List.length_cons, List.length_nil]; omega)
  rw [← HXH.out] at t0
  gi_wp2_with fail
  (try refine ⟨hdd _, ?_⟩)
  refine t0.mono ?_
  clear t0
  rintro e W2 (⟨rfl, hj2, hk2⟩ | ⟨rfl, q, hq, hx2⟩)
  ·gi_wp2
   go_ret
   exact .inl ⟨rfl, by simpa [List.append_assoc] using hj2, K1.trans hk2⟩
  ·gi_wp2
   go_ret
   obtain ⟨r, hr⟩ := hq
   exact .inr ⟨rfl, d :: (q), ⟨r, by simp [← hr]⟩, by simpa [List.append_assoc] using hx2⟩
 ·gi_wp2
  go_ret
  exact .inr ⟨rfl, [d], ⟨X.ds d1, by simp⟩, by simpa using hx1⟩
set_option maxHeartbeats 8000000 in
set_option maxRecDepth 9000000 in
theorem port_in (F : Fence) (hd : F.depth = none) (hW : ∀ g, F.fn g) (hro : F.round = none) (l B n0 H0 : Nat) (hnB : n0 ≤ B) (N : Nat) (J Jx : List Nat → World → Prop) (hJ : AbidesFrom H0 J)
  (hY : ∀ m pre (d : Nat) W, J pre W → pre.length < N → YieldAt F m Tryz.prog l #[.int .i64 (d : Int)] W fun e W' => (e = .returned (.bool true) ∧ J (pre ++ [d]) W' ∧ KeepC B W W') ∨ (e = .returned (.bool false) ∧ Jx (pre ++ [d]) W')) :
  ∀ x : PT, x.sz ≤ 6000000 → ∀ (d n : Nat) (pre : List Nat) (W : World), d + x.sz ≤ 12000000 → B < W.heap.size → x.In n0 W → J pre W → pre.length + (x.ds d).length ≤ N → CallsIn F n Tryz.prog 132 #[.func (.yield l) #[] #[], x.val, .int .i64 (d : Int)] W (TravPost J Jx B pre (x.ds d) W) := by
 rintro ⟨bn, po, ⟨op, nm, xn, wd, v, xa, xc, xl⟩⟩ hsz d n pre W hd2 hB hin hj hN
 rw [PT.ds_x] at hN ⊢
 simp only [PT.sz] at hsz hd2
 have i0 : XT.In n0 W (.mk op nm xn wd v xa xc xl) := hin
 simp only [PT.val, PT.cells, XT.cells]
 obtain ⟨X, hX⟩ : ∃ X, XT.mk op nm xn wd v xa xc xl = X := ⟨_, rfl⟩
 have HXV : (Value.agg #[.int .i64 op, .string (bs nm), .int .i64 xn, .int .i64 wd, .int .u64 (v : Int), .slice xa xl.length xc]) = X.val := by rw [← hX]; rfl
 simp only at hsz hd2 hN i0 ⊢
 rw [hX] at hsz hd2 hN i0 ⊢
 have HXH := Lib.hid HXV
 clear HXV hX
 have hdd : ∀ k : Nat, (F.depth.isSome = true → 1 ≤ k) := fun k h => by rw [hd] at h; cases h
 obtain ⟨d1, hd1⟩ : ∃ d1, d + 1 = d1 := ⟨_, rfl⟩
 have hadd : (d : Int) + 1 = (d1 : Int) := by omega
 have hadd2 : IntKind.i64.wrap ((d : Int) + 1) = (d1 : Int) := by rw [hadd]; exact IntWalk.i64_in _ (by omega)
 rw [hd1] at hN ⊢
 simp only [List.length_cons, List.length_append] at hN
 have c0 := fun pre' (W' : World) (h1 : B < W'.heap.size) h2 h3 (h4 : pre'.length + (X.ds d1).length ≤ N) => expr_in F hd hW hro l B n0 H0 hnB N J Jx hJ hY X (by omega) d1 (n - 1) pre' W' (by omega) h1 h2 h3 h4
 have hk0 : KeepC B W (W.alloc (.cells #[.string (bs bn), .bool po, .int .i64 op, .string (bs nm), .int .i64 xn, .int .i64 wd, .int .u64 (v : Int), .slice xa xl.length xc] 76)) := (KeepC.refl _ _).alloc _
 have hj0 : J pre (W.alloc (.cells #[.string (bs bn), .bool po, .int .i64 op, .string (bs nm), .int .i64 xn, .int .i64 wd, .int .u64 (v : Int), .slice xa xl.length xc] 76)) := AbidesFrom.alloc hJ _ hj
 have b2 : (W.alloc (.cells #[.string (bs bn), .bool po, .int .i64 op, .string (bs nm), .int .i64 xn, .int .i64 wd, .int .u64 (v : Int), .slice xa xl.length xc] 76)).cell? ⟨W.heap.size, 2, none⟩ = some (.int .i64 op) := by simp
 have b3 : (W.alloc (.cells #[.string (bs bn), .bool po, .int .i64 op, .string (bs nm), .int .i64 xn, .int .i64 wd, .int .u64 (v : Int), .slice xa xl.length xc] 76)).cell? ⟨W.heap.size, 3, none⟩ = some (.string (bs nm)) := by simp
 have b4 : (W.alloc (.cells #[.string (bs bn), .bool po, .int .i64 op, .string (bs nm), .int .i64 xn, .int .i64 wd, .int .u64 (v : Int), .slice xa xl.length xc] 76)).cell? ⟨W.heap.size, 4, none⟩ = some (.int .i64 xn) := by simp
 have b5 : (W.alloc (.cells #[.string (bs bn), .bool po, .int .i64 op, .string (bs nm), .int .i64 xn, .int .i64 wd, .int .u64 (v : Int), .slice xa xl.length xc] 76)).cell? ⟨W.heap.size, 5, none⟩ = some (.int .i64 wd) := by simp
 have b6 : (W.alloc (.cells #[.string (bs bn), .bool po, .int .i64 op, .string (bs nm), .int .i64 xn, .int .i64 wd, .int .u64 (v : Int), .slice xa xl.length xc] 76)).cell? ⟨W.heap.size, 6, none⟩ = some (.int .u64 (v : Int)) := by simp
 have b7 : (W.alloc (.cells #[.string (bs bn), .bool po, .int .i64 op, .string (bs nm), .int .i64 xn, .int .i64 wd, .int .u64 (v : Int), .slice xa xl.length xc] 76)).cell? ⟨W.heap.size, 7, none⟩ = some (.slice xa xl.length xc) := by simp
 obtain ⟨fn, tmps, assign, body, hy, hR⟩ := hY (n - 1) pre d _ hj0 (by omega)
 have HH := Lib.hid (And.intro hd1 hN)
 clear hd1
 refine callsIn_of_wp Tryz.func132 rfl (hW _) ?_ hro
 simp only [Tryz.ntmps132, List.size_toArray, List.length_cons, List.length_nil, Nat.reduceAdd, Nat.reduceSub, Array.replicate_succ, Array.replicate_zero, List.push_toArray, List.append_toArray, List.nil_append, List.cons_append]
 gi_wp2
 refine hR.mono ?_
 clear hR hy hj0
 rintro e W1 (⟨rfl, hj1, hk1⟩ | ⟨rfl, hx1⟩)
 ·have K1 := hk0.trans hk1
  have z1 := K1.size
  replace b2 := hk1.cell (by omega) b2
  replace b3 := hk1.cell (by omega) b3
  replace b4 := hk1.cell (by omega) b4
  replace b5 := hk1.cell (by omega) b5
  replace b6 := hk1.cell (by omega) b6
  replace b7 := hk1.cell (by omega) b7
  have t0 := c0 (pre ++ [d]) W1 (by omega) (i0.keep (K1.keptTo hnB)) hj1 (by simp only [List.length_append, List.length_cons, List.length_nil]; omega)
  rw [← HXH.out] at t0
  gi_wp2_with fail
  (try refine ⟨hdd _, ?_⟩)
  refine t0.mono ?_
  clear t0
  rintro e W2 (⟨rfl, hj2, hk2⟩ | ⟨rfl, q, hq, hx2⟩)
  ·gi_wp2
   go_ret
   exact .inl ⟨rfl, by simpa [List.append_assoc] using hj2, K1.trans hk2⟩
  ·gi_wp2
   go_ret
   obtain ⟨r, hr⟩ := hq
   exact .inr ⟨rfl, d :: (q), ⟨r, by simp [← hr]⟩, by simpa [List.append_assoc] using hx2⟩
 ·gi_wp2
  go_ret
  exact .inr ⟨rfl, [d], ⟨X.ds d1, by simp⟩, by simpa using hx1⟩
end Go.Proofs.YtiipjbafdhijlaaGreatDoor
