/-
  AsY, in one text.
-/
import Derived.Test.YtiipjbafdhijlaaGreatDoorZAX
namespace Go.Proofs.YtiipjbafdhijlaaGreatDoor
open Go Go.RowKit Go.Shelf
set_option linter.unusedVariables false
set_option linter.unusedSimpArgs false
attribute [local go_sem] Oper.semAt_some
set_option maxHeartbeats 8000000 in
set_option maxRecDepth 9000000 in
theorem item_in (F : Fence) (hd : F.depth = none) (hW : ∀ g, F.fn g) (hro : F.round = none) (l B n0 H0 : Nat) (hnB : n0 ≤ B) (N : Nat) (J Jx : List Nat → World → Prop) (hJ : AbidesFrom H0 J)
  (hY : ∀ m pre (d : Nat) W, J pre W → pre.length < N → YieldAt F m Tryz.prog l #[.int .i64 (d : Int)] W fun e W' => (e = .returned (.bool true) ∧ J (pre ++ [d]) W' ∧ KeepC B W W') ∨ (e = .returned (.bool false) ∧ Jx (pre ++ [d]) W')) :
  ∀ x : IT, x.sz ≤ 6000000 → ∀ (d n : Nat) (pre : List Nat) (W : World), d + x.sz ≤ 12000000 → B < W.heap.size → x.In n0 W → J pre W → pre.length + (x.ds d).length ≤ N → CallsIn F n Tryz.prog 134 #[.func (.yield l) #[] #[], x.val, .int .i64 (d : Int)] W (TravPost J Jx B pre (x.ds d) W) := by
 refine IT.ind ?_
 intro op nm nf xa xc xl sa sc sl la lc ll ea ec el pa pc pl ba bc bl ih0 ih1 hsz d n pre W hd2 hB hin hj hN
 rw [IT.In_mk] at hin
 rw [IT.ds_mk] at hN ⊢
 simp only [IT.sz] at hsz hd2
 simp only [IT.val, IT.cells]
 have hdd : ∀ k : Nat, (F.depth.isSome = true → 1 ≤ k) := fun k h => by rw [hd] at h; cases h
 obtain ⟨i0, i1, i2, i3, i4, i5⟩ := hin
 have m0 := fun y (hy : y ∈ xl) => XT.szL_mem hy
 have e0 := XT.szL_len xl
 have m1 := fun y (hy : y ∈ sl) => ST.szL_mem hy
 have e1 := ST.szL_len sl
 have m2 := fun y (hy : y ∈ ll) => IT.szL_mem hy
 have e2 := IT.szL_len ll
 have m3 := fun y (hy : y ∈ el) => IT.szL_mem hy
 have e3 := IT.szL_len el
 have m4 := fun y (hy : y ∈ pl) => BT.szL_mem hy
 have e4 := BT.szL_len pl
 have m5 := fun y (hy : y ∈ bl) => BT.szL_mem hy
 have e5 := BT.szL_len bl
 obtain ⟨d1, hd1⟩ : ∃ d1, d + 1 = d1 := ⟨_, rfl⟩
 have hadd : (d : Int) + 1 = (d1 : Int) := by omega
 have hadd2 : IntKind.i64.wrap ((d : Int) + 1) = (d1 : Int) := by rw [hadd]; exact IntWalk.i64_in _ (by omega)
 rw [hd1] at hN ⊢
 simp only [List.length_cons, List.length_append] at hN
 have c0 := fun pre' (W' : World) (h1 : B < W'.heap.size) h2 h3 (h4 : pre'.length + (xl.flatMap (XT.ds d1)).length ≤ N) => eachX_in F hd (hW _) (hW _) hro B n0 H0 hnB N J Jx hJ (.func (.yield l) #[] #[]) d1 xl (by omega) (fun y hy m pre2 W2 hB2 hin2 hj2 hN2 => expr_in F hd hW hro l B n0 H0 hnB N J Jx hJ hY y (by have := m0 y hy; omega) d1 m pre2 W2 (by have := m0 y hy; omega) hB2 hin2 hj2 hN2) (n - 1) xa xc pre' W' h1 h2 h3 h4
 have c1 := fun pre' (W' : World) (h1 : B < W'.heap.size) h2 h3 (h4 : pre'.length + (sl.flatMap (ST.ds d1)).length ≤ N) => eachS_in F hd (hW _) (hW _) hro B n0 H0 hnB N J Jx hJ (.func (.yield l) #[] #[]) d1 sl (by omega) (fun y hy m pre2 W2 hB2 hin2 hj2 hN2 => stmt_in F hd hW hro l B n0 H0 hnB N J Jx hJ hY y (by have := m1 y hy; omega) d1 m pre2 W2 (by have := m1 y hy; omega) hB2 hin2 hj2 hN2) (n - 1) sa sc pre' W' h1 h2 h3 h4
 have c2 := fun pre' (W' : World) (h1 : B < W'.heap.size) h2 h3 (h4 : pre'.length + (ll.flatMap (IT.ds d1)).length ≤ N) => eachItem_in F hd (hW _) (hW _) hro B n0 H0 hnB N J Jx hJ (.func (.yield l) #[] #[]) d1 ll (by omega) (fun y hy m pre2 W2 hB2 hin2 hj2 hN2 => ih0 y hy (by have := m2 y hy; omega) d1 m pre2 W2 (by have := m2 y hy; omega) hB2 hin2 hj2 hN2) (n - 1) la lc pre' W' h1 h2 h3 h4
 have c3 := fun pre' (W' : World) (h1 : B < W'.heap.size) h2 h3 (h4 : pre'.length + (el.flatMap (IT.ds d1)).length ≤ N) => eachItem_in F hd (hW _) (hW _) hro B n0 H0 hnB N J Jx hJ (.func (.yield l) #[] #[]) d1 el (by omega) (fun y hy m pre2 W2 hB2 hin2 hj2 hN2 => ih1 y hy (by have := m3 y hy; omega) d1 m pre2 W2 (by have := m3 y hy; omega) hB2 hin2 hj2 hN2) (n - 1) ea ec pre' W' h1 h2 h3 h4
 have c4 := fun pre' (W' : World) (h1 : B < W'.heap.size) h2 h3 (h4 : pre'.length + (pl.flatMap (BT.ds d1)).length ≤ N) => eachBind_in F hd (hW _) (hW _) hro B n0 H0 hnB N J Jx hJ (.func (.yield l) #[] #[]) d1 pl (by omega) (fun y hy m pre2 W2 hB2 hin2 hj2 hN2 => bind_in F hd hW hro l B n0 H0 hnB N J Jx hJ hY y (by have := m4 y hy; omega) d1 m pre2 W2 (by have := m4 y hy; omega) hB2 hin2 hj2 hN2) (n - 1) pa pc pre' W' h1 h2 h3 h4
 have c5 := fun pre' (W' : World) (h1 : B < W'.heap.size) h2 h3 (h4 : pre'.length + (bl.flatMap (BT.ds d1)).length ≤ N) => eachBind_in F hd (hW _) (hW _) hro B n0 H0 hnB N J Jx hJ (.func (.yield l) #[] #[]) d1 bl (by omega) (fun y hy m pre2 W2 hB2 hin2 hj2 hN2 => bind_in F hd hW hro l B n0 H0 hnB N J Jx hJ hY y (by have := m5 y hy; omega) d1 m pre2 W2 (by have := m5 y hy; omega) hB2 hin2 hj2 hN2) (n - 1) ba bc pre' W' h1 h2 h3 h4
 have hk0 : KeepC B W (W.alloc (.cells #[.int .i64 op, .string (bs nm), .string (bs nf), .slice xa xl.length xc, .slice sa sl.length sc, .slice la ll.length lc, .slice ea el.length ec, .slice pa pl.length pc, .slice ba bl.length bc] 48)) := (KeepC.refl _ _).alloc _
 have hj0 : J pre (W.alloc (.cells #[.int .i64 op, .string (bs nm), .string (bs nf), .slice xa xl.length xc, .slice sa sl.length sc, .slice la ll.length lc, .slice ea el.length ec, .slice pa pl.length pc, .slice ba bl.length bc] 48)) := AbidesFrom.alloc hJ _ hj
 have b3 : (W.alloc (.cells #[.int .i64 op, .string (bs nm), .string (bs nf), .slice xa xl.length xc, .slice sa sl.length sc, .slice la ll.length lc, .slice ea el.length ec, .slice pa pl.length pc, .slice ba bl.length bc] 48)).cell? ⟨W.heap.size, 3, none⟩ = some (.slice xa xl.length xc) := by simp
 have b4 : (W.alloc (.cells #[.int .i64 op, .string (bs nm), .string (bs nf), .slice xa xl.length xc, .slice sa sl.length sc, .slice la ll.length lc, .slice ea el.length ec, .slice pa pl.length pc, .slice ba bl.length bc] 48)).cell? ⟨W.heap.size, 4, none⟩ = some (.slice sa sl.length sc) := by simp
 have b5 : (W.alloc (.cells #[.int .i64 op, .string (bs nm), .string (bs nf), .slice xa xl.length xc, .slice sa sl.length sc, .slice la ll.length lc, .slice ea el.length ec, .slice pa pl.length pc, .slice ba bl.length bc] 48)).cell? ⟨W.heap.size, 5, none⟩ = some (.slice la ll.length lc) := by simp
 have b6 : (W.alloc (.cells #[.int .i64 op, .string (bs nm), .string (bs nf), .slice xa xl.length xc, .slice sa sl.length sc, .slice la ll.length lc, .slice ea el.length ec, .slice pa pl.length pc, .slice ba bl.length bc] 48)).cell? ⟨W.heap.size, 6, none⟩ = some (.slice ea el.length ec) := by simp
 have b7 : (W.alloc (.cells #[.int .i64 op, .string (bs nm), .string (bs nf), .slice xa xl.length xc, .slice sa sl.length sc, .slice la ll.length lc, .slice ea el.length ec, .slice pa pl.length pc, .slice ba bl.length bc] 48)).cell? ⟨W.heap.size, 7, none⟩ = some (.slice pa pl.length pc) := by simp
 have b8 : (W.alloc (.cells #[.int .i64 op, .string (bs nm), .string (bs nf), .slice xa xl.length xc, .slice sa sl.length sc, .slice la ll.length lc, .slice ea el.length ec, .slice pa pl.length pc, .slice ba bl.length bc] 48)).cell? ⟨W.heap.size, 8, none⟩ = some (.slice ba bl.length bc) := by simp
 obtain ⟨fn, tmps, assign, body, hy, hR⟩ := hY (n - 1) pre d _ hj0 (by omega)
 have HH := Lib.hid (And.intro hd1 hN)
 clear hd1
 refine callsIn_of_wp Tryz.func134 rfl (hW _) ?_ hro
 simp only [Tryz.ntmps134, List.size_toArray, List.length_cons, List.length_nil, Nat.reduceAdd, Nat.reduceSub, Array.replicate_succ, Array.replicate_zero, List.push_toArray, List.append_toArray, List.nil_append, List.cons_append]
 gi_wp2
 refine hR.mono ?_
 clear hR hy hj0
 rintro e W1 (⟨rfl, hj1, hk1⟩ | ⟨rfl, hx1⟩)
 ·have K1 := hk0.trans hk1
  have z1 := K1.size
  replace b3 := hk1.cell (by omega) b3
  replace b4 := hk1.cell (by omega) b4
  replace b5 := hk1.cell (by omega) b5
  replace b6 := hk1.cell (by omega) b6
  replace b7 := hk1.cell (by omega) b7
  replace b8 := hk1.cell (by omega) b8
  have t0 := c0 (pre ++ [d]) W1 (by omega) (i0.keep (K1.keptTo hnB) (fun x _ => XT.In.keep (K1.keptTo hnB) x)) hj1 (by simp only [List.length_append, List.length_cons, List.length_nil]; omega)
  gi_wp2_with fail
  (try refine ⟨hdd _, ?_⟩)
  refine t0.mono ?_
  clear t0
  rintro e W2 (⟨rfl, hj2, hk2⟩ | ⟨rfl, q, hq, hx2⟩)
  ·have K2 := K1.trans hk2
   have z2 := K2.size
   replace b3 := hk2.cell (by omega) b3
   replace b4 := hk2.cell (by omega) b4
   replace b5 := hk2.cell (by omega) b5
   replace b6 := hk2.cell (by omega) b6
   replace b7 := hk2.cell (by omega) b7
   replace b8 := hk2.cell (by omega) b8
   have t1 := c1 (pre ++ [d] ++ xl.flatMap (XT.ds d1)) W2 (by omega) (i1.keep (K2.keptTo hnB) (fun x _ => ST.In.keep (K2.keptTo hnB) x)) hj2 (by simp only [List.length_append, List.length_cons, List.length_nil]; omega)
   gi_wp2_with fail
   (try refine ⟨hdd _, ?_⟩)
   refine t1.mono ?_
   clear t1
   rintro e W3 (⟨rfl, hj3, hk3⟩ | ⟨rfl, q, hq, hx3⟩)
   ·have K3 := K2.trans hk3
    have z3 := K3.size
    replace b3 := hk3.cell (by omega) b3
    replace b4 := hk3.cell (by omega) b4
    replace b5 := hk3.cell (by omega) b5
    replace b6 := hk3.cell (by omega) b6
    replace b7 := hk3.cell (by omega) b7
    replace b8 := hk3.cell (by omega) b8
    have t2 := c2 (pre ++ [d] ++ xl.flatMap (XT.ds d1) ++ sl.flatMap (ST.ds d1)) W3 (by omega) (i2.keep (K3.keptTo hnB) (fun x _ => IT.In.keep (K3.keptTo hnB) x)) hj3 (by simp only [List.length_append, List.length_cons, List.length_nil]; omega)
    gi_wp2_with fail
    (try refine ⟨hdd _, ?_⟩)
    refine t2.mono ?_
    clear t2
    rintro e W4 (⟨rfl, hj4, hk4⟩ | ⟨rfl, q, hq, hx4⟩)
    ·have K4 := K3.trans hk4
     have z4 := K4.size
     replace b3 := hk4.cell (by omega) b3
     replace b4 := hk4.cell (by omega) b4
     replace b5 := hk4.cell (by omega) b5
     replace b6 := hk4.cell (by omega) b6
     replace b7 := hk4.cell (by omega) b7
     replace b8 := hk4.cell (by omega) b8
     have t3 := c3 (pre ++ [d] ++ xl.flatMap (XT.ds d1) ++ sl.flatMap (ST.ds d1) ++ ll.flatMap (IT.ds d1)) W4 (by omega) (i3.keep (K4.keptTo hnB) (fun x _ => IT.In.keep (K4.keptTo hnB) x)) hj4 (by simp only [List.length_append, List.length_cons, List.length_nil]; omega)
     gi_wp2_with fail
     (try refine ⟨hdd _, ?_⟩)
     refine t3.mono ?_
     clear t3
     rintro e W5 (⟨rfl, hj5, hk5⟩ | ⟨rfl, q, hq, hx5⟩)
     ·have K5 := K4.trans hk5
      have z5 := K5.size
      replace b3 := hk5.cell (by omega) b3
      replace b4 := hk5.cell (by omega) b4
      replace b5 := hk5.cell (by omega) b5
      replace b6 := hk5.cell (by omega) b6
      replace b7 := hk5.cell (by omega) b7
      replace b8 := hk5.cell (by omega) b8
      have t4 := c4 (pre ++ [d] ++ xl.flatMap (XT.ds d1) ++ sl.flatMap (ST.ds d1) ++ ll.flatMap (IT.ds d1) ++ el.flatMap (IT.ds d1)) W5 (by omega) (i4.keep (K5.keptTo hnB) (fun x _ => BT.In.keep (K5.keptTo hnB) x)) hj5 (by simp only [List.length_append, List.length_cons, List.length_nil]; omega)
      gi_wp2_with fail
      (try refine ⟨hdd _, ?_⟩)
      refine t4.mono ?_
      clear t4
      rintro e W6 (⟨rfl, hj6, hk6⟩ | ⟨rfl, q, hq, hx6⟩)
      ·have K6 := K5.trans hk6
       have z6 := K6.size
       replace b3 := hk6.cell (by omega) b3
       replace b4 := hk6.cell (by omega) b4
       replace b5 := hk6.cell (by omega) b5
       replace b6 := hk6.cell (by omega) b6
       replace b7 := hk6.cell (by omega) b7
       replace b8 := hk6.cell (by omega) b8
       have t5 := c5 (pre ++ [d] ++ xl.flatMap (XT.ds d1) ++ sl.flatMap (ST.ds d1) ++ ll.flatMap (IT.ds d1) ++ el.flatMap (IT.ds d1) ++ pl.flatMap (BT.ds d1)) W6 (by omega) (i5.keep (K6.keptTo hnB) (fun x _ => BT.In.keep (K6.keptTo hnB) x)) hj6 (by simp only [List.length_append, List.length_cons, List.length_nil]; omega)
       gi_wp2_with fail
       (try refine ⟨hdd _, ?_⟩)
       refine t5.mono ?_
       clear t5
       rintro e W7 (⟨rfl, hj7, hk7⟩ | ⟨rfl, q, hq, hx7⟩)
       ·gi_wp2
        go_ret
        exact .inl ⟨rfl, by simpa [List.append_assoc] using hj7, K6.trans hk7⟩
       ·gi_wp2
        go_ret
        obtain ⟨r, hr⟩ := hq
        exact .inr ⟨rfl, d :: (xl.flatMap (XT.ds d1) ++ sl.flatMap (ST.ds d1) ++ ll.flatMap (IT.ds d1) ++ el.flatMap (IT.ds d1) ++ pl.flatMap (BT.ds d1) ++ q), ⟨r, by simp [← hr]⟩, by simpa [List.append_assoc] using hx7⟩
      ·gi_wp2
       go_ret
       obtain ⟨r, hr⟩ := hq
       exact .inr ⟨rfl, d :: (xl.flatMap (XT.ds d1) ++ sl.flatMap (ST.ds d1) ++ ll.flatMap (IT.ds d1) ++ el.flatMap (IT.ds d1) ++ q), ⟨r ++ (bl.flatMap (BT.ds d1)), by simp [← hr]⟩, by simpa [List.append_assoc] using hx6⟩
     ·gi_wp2
      go_ret
      obtain ⟨r, hr⟩ := hq
      exact .inr ⟨rfl, d :: (xl.flatMap (XT.ds d1) ++ sl.flatMap (ST.ds d1) ++ ll.flatMap (IT.ds d1) ++ q), ⟨r ++ (pl.flatMap (BT.ds d1) ++ bl.flatMap (BT.ds d1)), by simp [← hr]⟩, by simpa [List.append_assoc] using hx5⟩
    ·gi_wp2
     go_ret
     obtain ⟨r, hr⟩ := hq
     exact .inr ⟨rfl, d :: (xl.flatMap (XT.ds d1) ++ sl.flatMap (ST.ds d1) ++ q), ⟨r ++ (el.flatMap (IT.ds d1) ++ pl.flatMap (BT.ds d1) ++ bl.flatMap (BT.ds d1)), by simp [← hr]⟩, by simpa [List.append_assoc] using hx4⟩
   ·gi_wp2
    go_ret
    obtain ⟨r, hr⟩ := hq
    exact .inr ⟨rfl, d :: (xl.flatMap (XT.ds d1) ++ q), ⟨r ++ (ll.flatMap (IT.ds d1) ++ el.flatMap (IT.ds d1) ++ pl.flatMap (BT.ds d1) ++ bl.flatMap (BT.ds d1)), by simp [← hr]⟩, by simpa [List.append_assoc] using hx3⟩
  ·gi_wp2
   go_ret
   obtain ⟨r, hr⟩ := hq
   exact .inr ⟨rfl, d :: (q), ⟨r ++ (sl.flatMap (ST.ds d1) ++ ll.flatMap (IT.ds d1) ++ el.flatMap (IT.ds d1) ++ pl.flatMap (BT.ds d1) ++ bl.flatMap (BT.ds d1)), by simp [← hr]⟩, by simpa [List.append_assoc] using hx2⟩
 ·gi_wp2
  go_ret
  exact .inr ⟨rfl, [d], ⟨xl.flatMap (XT.ds d1) ++ (sl.flatMap (ST.ds d1) ++ (ll.flatMap (IT.ds d1) ++ (el.flatMap (IT.ds d1) ++ (pl.flatMap (BT.ds d1) ++ (bl.flatMap (BT.ds d1)))))), by simp⟩, by simpa using hx1⟩
set_option maxHeartbeats 8000000 in
set_option maxRecDepth 9000000 in
theorem module_in (F : Fence) (hd : F.depth = none) (hW : ∀ g, F.fn g) (hro : F.round = none) (l B n0 H0 : Nat) (hnB : n0 ≤ B) (N : Nat) (J Jx : List Nat → World → Prop) (hJ : AbidesFrom H0 J)
  (hY : ∀ m pre (d : Nat) W, J pre W → pre.length < N → YieldAt F m Tryz.prog l #[.int .i64 (d : Int)] W fun e W' => (e = .returned (.bool true) ∧ J (pre ++ [d]) W' ∧ KeepC B W W') ∨ (e = .returned (.bool false) ∧ Jx (pre ++ [d]) W')) :
  ∀ x : MT, x.sz ≤ 6000000 → ∀ (d n : Nat) (pre : List Nat) (W : World), d + x.sz ≤ 12000000 → B < W.heap.size → x.In n0 W → J pre W → pre.length + (x.ds d).length ≤ N → CallsIn F n Tryz.prog 110 #[.func (.yield l) #[] #[], x.val, .int .i64 (d : Int)] W (TravPost J Jx B pre (x.ds d) W) := by
 rintro ⟨nm, pa, pc, pl, ta, tc, tl, ia, ic, il⟩ hsz d n pre W hd2 hB hin hj hN
 rw [MT.ds_x] at hN ⊢
 simp only [MT.sz] at hsz hd2
 simp only [MT.In] at hin
 simp only at hN ⊢
 simp only [MT.val, MT.cells]
 have hdd : ∀ k : Nat, (F.depth.isSome = true → 1 ≤ k) := fun k h => by rw [hd] at h; cases h
 obtain ⟨i0, i1, i2⟩ := hin
 have m0 := fun y (hy : y ∈ pl) => BT.szL_mem hy
 have e0 := BT.szL_len pl
 have m1 := fun y (hy : y ∈ tl) => PT.szL_mem hy
 have e1 := PT.szL_len tl
 have m2 := fun y (hy : y ∈ il) => IT.szL_mem hy
 have e2 := IT.szL_len il
 obtain ⟨d1, hd1⟩ : ∃ d1, d + 1 = d1 := ⟨_, rfl⟩
 have hadd : (d : Int) + 1 = (d1 : Int) := by omega
 have hadd2 : IntKind.i64.wrap ((d : Int) + 1) = (d1 : Int) := by rw [hadd]; exact IntWalk.i64_in _ (by omega)
 rw [hd1] at hN ⊢
 simp only [List.length_cons, List.length_append] at hN
 have c0 := fun pre' (W' : World) (h1 : B < W'.heap.size) h2 h3 (h4 : pre'.length + (pl.flatMap (BT.ds d1)).length ≤ N) => eachBind_in F hd (hW _) (hW _) hro B n0 H0 hnB N J Jx hJ (.func (.yield l) #[] #[]) d1 pl (by omega) (fun y hy m pre2 W2 hB2 hin2 hj2 hN2 => bind_in F hd hW hro l B n0 H0 hnB N J Jx hJ hY y (by have := m0 y hy; omega) d1 m pre2 W2 (by have := m0 y hy; omega) hB2 hin2 hj2 hN2) (n - 1) pa pc pre' W' h1 h2 h3 h4
 have c1 := fun pre' (W' : World) (h1 : B < W'.heap.size) h2 h3 (h4 : pre'.length + (tl.flatMap (PT.ds d1)).length ≤ N) => eachPort_in F hd (hW _) (hW _) hro B n0 H0 hnB N J Jx hJ (.func (.yield l) #[] #[]) d1 tl (by omega) (fun y hy m pre2 W2 hB2 hin2 hj2 hN2 => port_in F hd hW hro l B n0 H0 hnB N J Jx hJ hY y (by have := m1 y hy; omega) d1 m pre2 W2 (by have := m1 y hy; omega) hB2 hin2 hj2 hN2) (n - 1) ta tc pre' W' h1 h2 h3 h4
 have c2 := fun pre' (W' : World) (h1 : B < W'.heap.size) h2 h3 (h4 : pre'.length + (il.flatMap (IT.ds d1)).length ≤ N) => eachItem_in F hd (hW _) (hW _) hro B n0 H0 hnB N J Jx hJ (.func (.yield l) #[] #[]) d1 il (by omega) (fun y hy m pre2 W2 hB2 hin2 hj2 hN2 => item_in F hd hW hro l B n0 H0 hnB N J Jx hJ hY y (by have := m2 y hy; omega) d1 m pre2 W2 (by have := m2 y hy; omega) hB2 hin2 hj2 hN2) (n - 1) ia ic pre' W' h1 h2 h3 h4
 have hk0 : KeepC B W (W.alloc (.cells #[.string (bs nm), .slice pa pl.length pc, .slice ta tl.length tc, .slice ia il.length ic] 39)) := (KeepC.refl _ _).alloc _
 have hj0 : J pre (W.alloc (.cells #[.string (bs nm), .slice pa pl.length pc, .slice ta tl.length tc, .slice ia il.length ic] 39)) := AbidesFrom.alloc hJ _ hj
 have b1 : (W.alloc (.cells #[.string (bs nm), .slice pa pl.length pc, .slice ta tl.length tc, .slice ia il.length ic] 39)).cell? ⟨W.heap.size, 1, none⟩ = some (.slice pa pl.length pc) := by simp
 have b2 : (W.alloc (.cells #[.string (bs nm), .slice pa pl.length pc, .slice ta tl.length tc, .slice ia il.length ic] 39)).cell? ⟨W.heap.size, 2, none⟩ = some (.slice ta tl.length tc) := by simp
 have b3 : (W.alloc (.cells #[.string (bs nm), .slice pa pl.length pc, .slice ta tl.length tc, .slice ia il.length ic] 39)).cell? ⟨W.heap.size, 3, none⟩ = some (.slice ia il.length ic) := by simp
 obtain ⟨fn, tmps, assign, body, hy, hR⟩ := hY (n - 1) pre d _ hj0 (by omega)
 have HH := Lib.hid (And.intro hd1 hN)
 clear hd1
 refine callsIn_of_wp Tryz.func110 rfl (hW _) ?_ hro
 simp only [Tryz.ntmps110, List.size_toArray, List.length_cons, List.length_nil, Nat.reduceAdd, Nat.reduceSub, Array.replicate_succ, Array.replicate_zero, List.push_toArray, List.append_toArray, List.nil_append, List.cons_append]
 gi_wp2
 refine hR.mono ?_
 clear hR hy hj0
 rintro e W1 (⟨rfl, hj1, hk1⟩ | ⟨rfl, hx1⟩)
 ·have K1 := hk0.trans hk1
  have z1 := K1.size
  replace b1 := hk1.cell (by omega) b1
  replace b2 := hk1.cell (by omega) b2
  replace b3 := hk1.cell (by omega) b3
  have t0 := c0 (pre ++ [d]) W1 (by omega) (i0.keep (K1.keptTo hnB) (fun x _ => BT.In.keep (K1.keptTo hnB) x)) hj1 (by simp only [List.length_append, List.length_cons, List.length_nil]; omega)
  gi_wp2_with fail
  (try refine ⟨hdd _, ?_⟩)
  refine t0.mono ?_
  clear t0
  rintro e W2 (⟨rfl, hj2, hk2⟩ | ⟨rfl, q, hq, hx2⟩)
  ·have K2 := K1.trans hk2
   have z2 := K2.size
   replace b1 := hk2.cell (by omega) b1
   replace b2 := hk2.cell (by omega) b2
   replace b3 := hk2.cell (by omega) b3
   have t1 := c1 (pre ++ [d] ++ pl.flatMap (BT.ds d1)) W2 (by omega) (i1.keep (K2.keptTo hnB) (fun x _ => PT.In.keep (K2.keptTo hnB) x)) hj2 (by simp only [List.length_append, List.length_cons, List.length_nil]; omega)
   gi_wp2_with fail
   (try refine ⟨hdd _, ?_⟩)
   refine t1.mono ?_
   clear t1
   rintro e W3 (⟨rfl, hj3, hk3⟩ | ⟨rfl, q, hq, hx3⟩)
   ·have K3 := K2.trans hk3
    have z3 := K3.size
    replace b1 := hk3.cell (by omega) b1
    replace b2 := hk3.cell (by omega) b2
    replace b3 := hk3.cell (by omega) b3
    have t2 := c2 (pre ++ [d] ++ pl.flatMap (BT.ds d1) ++ tl.flatMap (PT.ds d1)) W3 (by omega) (i2.keep (K3.keptTo hnB) (fun x _ => IT.In.keep (K3.keptTo hnB) x)) hj3 (by simp only [List.length_append, List.length_cons, List.length_nil]; omega)
    gi_wp2_with fail
    (try refine ⟨hdd _, ?_⟩)
    refine t2.mono ?_
    clear t2
    rintro e W4 (⟨rfl, hj4, hk4⟩ | ⟨rfl, q, hq, hx4⟩)
    ·gi_wp2
     go_ret
     exact .inl ⟨rfl, by simpa [List.append_assoc] using hj4, K3.trans hk4⟩
    ·gi_wp2
     go_ret
     obtain ⟨r, hr⟩ := hq
     exact .inr ⟨rfl, d :: (pl.flatMap (BT.ds d1) ++ tl.flatMap (PT.ds d1) ++ q), ⟨r, by simp [← hr]⟩, by simpa [List.append_assoc] using hx4⟩
   ·gi_wp2
    go_ret
    obtain ⟨r, hr⟩ := hq
    exact .inr ⟨rfl, d :: (pl.flatMap (BT.ds d1) ++ q), ⟨r ++ (il.flatMap (IT.ds d1)), by simp [← hr]⟩, by simpa [List.append_assoc] using hx3⟩
  ·gi_wp2
   go_ret
   obtain ⟨r, hr⟩ := hq
   exact .inr ⟨rfl, d :: (q), ⟨r ++ (tl.flatMap (PT.ds d1) ++ il.flatMap (IT.ds d1)), by simp [← hr]⟩, by simpa [List.append_assoc] using hx2⟩
 ·gi_wp2
  go_ret
  exact .inr ⟨rfl, [d], ⟨pl.flatMap (BT.ds d1) ++ (tl.flatMap (PT.ds d1) ++ (il.flatMap (IT.ds d1))), by simp⟩, by simpa using hx1⟩
end Go.Proofs.YtiipjbafdhijlaaGreatDoor
