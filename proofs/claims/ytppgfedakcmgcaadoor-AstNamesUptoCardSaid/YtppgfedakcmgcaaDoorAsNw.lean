/-
  The walk of AstNames.
-/
import Derived.Test.YtppgfedakcmgcaaDoorAsLv
import Derived.Test.YtppgfedakcmgcaaDoorAsNm
import Derived.Laws.AppendOwn
import Derived.Laws.AppendOwnNone
import Derived.OwnWalk
import Derived.Maps.AppendAt
namespace Go.Proofs.YtppgfedakcmgcaaDoor
open Go Go.RowKit Go.Sort
set_option linter.unusedVariables false
set_option linter.unusedSimpArgs false
theorem lies_drewN {w : World} {a : Option Addr} {l : List Bytes} (n : Nat) (h : LiesS w a l) : LiesS (w.drewN n) a l := by unfold LiesS at h ⊢; exact h
theorem own_cap {w : World} {B e c n : Nat} {a : Option Addr} {xs : List Value} (h : w.ownsRow B e 1 (.slice a n c) n xs) : n ≤ c := by
  rcases h.2 with ⟨h1, h2⟩ | ⟨g, cap, cur, h1, hg, hh, h3, h4, h5, h6⟩
  · simp only [Value.slice.injEq] at h1; omega
  · simp only [Value.slice.injEq] at h1; omega
theorem lies_take {w : World} {a : Option Addr} {l : List Bytes} (h : LiesS w a l) (k : Nat) : LiesS w a (l.take k) := by
  rcases h with h | ⟨b, o, h1, h2⟩
  · exact .inl (by rw [h]; simp)
  · refine .inr ⟨b, o, h1, fun i hi => ?_⟩
    rw [List.length_take] at hi
    rw [List.getElem_take]
    exact h2 i (by omega)
theorem lies_one (w : World) (s : Bytes) (t : TypeId) : LiesS (w.alloc (.cells #[.string (bs s)] t)) (some ⟨w.heap.size, 0, none⟩) [s] := by
  refine .inr ⟨_, _, rfl, fun i hi => ?_⟩
  have h0 : i = 0 := by simp at hi; omega
  subst h0
  have h9 := news_one w (.string (bs s)) t 0 _ rfl
  rw [Addr.add_mid] at h9
  exact h9
theorem LiesS.grown {W W' : World} {E : Obj} {b o : Nat} {l : List Bytes} {r : Option Nat} (h : LiesS W (some ⟨b, o, none⟩) l) (hg : (W.alloc E).grownBy W' r) (hb : b < W.heap.size) (hne : some b ≠ r) : LiesS W' (some ⟨b, o, none⟩) l := by
  rcases h with h | ⟨b2, o2, h1, h2⟩
  · exact .inl h
  · cases h1
    refine .inr ⟨b, o, rfl, fun i hi => ?_⟩
    have h3 := h2 i hi
    simp only [World.cell?] at h3 ⊢
    rw [hg.block b (by rw [World.size_alloc]; omega) hne, Below.heap_alloc W E b (by omega)]
    exact h3
theorem addN_len : ∀ (m out : List Bytes), (addN out m).length ≤ out.length + m.length
  | [], out => by simp [addN]
  | s :: r, out => by
    have h := addN_len r (if out.contains s = true then out else out ++ [s])
    rw [addN]
    have h2 : (if out.contains s = true then out else out ++ [s]).length ≤ out.length + 1 := by split <;> simp
    simp only [List.length_cons]
    omega
theorem info_strS : (Tryd.prog.info? 9).map (fun i => (i.zero, i.size, i.bytes)) = some (some (.string ⟨#[]⟩), 1, 16) := by kernel_rfl
theorem strs_one : ∀ (l : List Bytes), ∀ u ∈ strs l, u.oneCell' = true := by
  intro l u hu
  obtain ⟨s, _, rfl⟩ := List.mem_map.1 hu
  rfl
theorem own_shape' {w : World} {B e size n : Nat} {v : Value} {xs : List Value} (h : w.ownsRow B e size v n xs) : ∃ a c, v = .slice a n c ∧ (a = none → c = 0) := by
  rcases h.2 with ⟨rfl, rfl⟩ | ⟨g, cap, cur, rfl, _⟩
  · exact ⟨none, 0, rfl, fun _ => rfl⟩
  · exact ⟨_, _, rfl, fun h => by cases h⟩
theorem lies_own {w : World} {B e c : Nat} {a : Option Addr} {l : List Bytes} (h : w.ownsRow B e 1 (.slice a l.length c) l.length (strs l)) : LiesS w a l := by
  rcases h.2 with ⟨h1, h2⟩ | ⟨g, cap, cur, h1, hg, hh, h3, h4, h5, h6⟩
  · exact .inl (List.length_eq_zero_iff.1 h2)
  · simp only [Value.slice.injEq] at h1
    obtain ⟨rfl, _, rfl⟩ := h1
    refine .inr ⟨g, 0, rfl, fun i hi => ?_⟩
    have hc : (strs l)[i]? = some (.string (bs l[i])) := by simp [strs, hi]
    have h9 := h.cells (g := g) rfl i _ hc
    rw [Addr.add_mid] at h9
    exact h9
theorem LiesS.keep {H : Nat} {W W' : World} {a : Option Addr} {l : List Bytes} (h : LiesS W a l) (hb : Below W.heap.size W W') : LiesS W' a l := by
  rcases h with h | ⟨b, o, h1, h2⟩
  · exact .inl h
  · refine .inr ⟨b, o, h1, fun i hi => ?_⟩
    have h3 := h2 i hi
    obtain ⟨hlt, hbc⟩ : b < W.heap.size ∧ True := ⟨by
      by_cases hb2 : b < W.heap.size
      · exact hb2
      · simp [World.cell?, Array.getElem?_eq_none (show W.heap.size ≤ b by omega)] at h3, trivial⟩
    simp only [World.cell?] at h3 ⊢
    rw [hb.block b hlt]
    exact h3
theorem wpList_append_strs {w : World} {ops : Array Oper} {rest : List Oper} {op : Oper} {a : Act} {Q : Exit → Act → World → Prop} (hgd : op.guard = none) (s x : Operand)
    (ho : op.op = .call { callee := .builtin .append, args := #[s, x], argTypes := #[46, 46] })
    (base : Nat) (v : Value) (n : Nat) (xs : List Value) (hs : a.eval s = v) (hown : w.ownsRow base 9 1 v n xs)
    (ad : Option Addr) (l : List Bytes) (c : Nat) (hx : a.eval x = .slice ad l.length c) (hc : ad = none → c = 0) (hl : LiesS w ad l) (hn : n + l.length ≤ 4000000) (hbase : base ≤ w.heap.size)
    (h : ∀ v' w', w'.ownsRow base 9 1 v' (n + l.length) (xs ++ strs l) → w.grownBy w' v.ownBlock → (v'.ownBlock = v.ownBlock ∨ v'.ownBlock = some w.heap.size) → wpList Tryd.prog ops Q rest (a.put op.dst v') w') : wpList Tryd.prog ops Q (op :: rest) a w := by
  obtain ⟨i0, hi0, hz0, hz1, hz2⟩ := info_parts info_strS
  cases ad with
  | none =>
    have hl0 : l = [] := by
      rcases hl with hl | ⟨b, o, h, _⟩
      · exact hl
      · cases h
    subst hl0
    rw [hc rfl] at hx
    refine wpList_append_own_none hgd s x 46 ho base 9 i0 1 Tryd.underlying46 hi0 v n xs hs hown hx ?_
    refine h v w ?_ ⟨rfl, rfl, rfl, Nat.le_refl _, fun _ _ _ => rfl⟩ (.inl rfl)
    simpa [strs] using hown
  | some ad =>
    have hnews : ∀ j u, (strs l)[j]? = some u → w.cell? (ad.add j) = some u := by
      rcases hl with hl | ⟨b, o, h, h2⟩
      · subst hl; intro j u hu; simp [strs] at hu
      · have h3 := Option.some.inj h
        subst h3
        intro j u hu
        rw [strs, List.getElem?_map] at hu
        by_cases hj : j < l.length
        · rw [List.getElem?_eq_getElem hj] at hu
          rw [Addr.add_mid, ← Option.some.inj hu]
          exact h2 j hj
        · rw [List.getElem?_eq_none (by omega)] at hu; cases hu
    exact wpList_append_own_at w hgd s x 46 ho base 9 i0 _ 1 16 Tryd.underlying46 hi0 hz0 hz1 hz2 rfl (by decide) v n xs hs hown ad l.length c (strs l) hx (by simp [strs]) hnews (strs_one l) (by simp only [maxLen]; omega) (by omega) hbase (fun v' w' h1 h2 _ h4 => h v' w' h1 h2 h4)
set_option maxHeartbeats 8000000 in
set_option maxRecDepth 100000 in
theorem names_walk (op : Int) (nm : Bytes) (xn wd : Int) (v : Nat) (xa : Option Addr) (xc : Nat) (xl : List XT) (yop : Int) (ynm : Bytes) (yn ywd : Int) (yv : Nat) (ya : Option Addr) (yc : Nat) (yl : List XT) (hb0 : (XT.mk op nm xn wd v xa xc xl).bk ≤ 1048576) (hb1 : (XT.mk yop ynm yn ywd yv ya yc yl).bk ≤ 1048576) (hbb : (XT.mk op nm xn wd v xa xc xl).bk + (XT.mk yop ynm yn ywd yv ya yc yl).bk ≤ 1048576) (W : World) (he : EnvA W) (hx : (XT.mk op nm xn wd v xa xc xl).In W.heap.size W) (hy : (XT.mk yop ynm yn ywd yv ya yc yl).In W.heap.size W) : Calls Tryd.prog 6 #[(XT.mk op nm xn wd v xa xc xl).val, (XT.mk yop ynm yn ywd yv ya yc yl).val] W fun e w' => e = .returned (.bool true) ∧ Below W.heap.size W w' := by
  have HE5 := Lib.hid he.size
  have e0 : (XT.mk op nm xn wd v xa xc xl).sz ≤ 1048576 := Nat.le_trans (XT.sz_bk _) hb0
  have few0 := fun (w' : World) h1 h2 => fewX_any (XT.mk op nm xn wd v xa xc xl) (by omega) W.heap.size w' h1 h2
  obtain ⟨q0, hq0⟩ : ∃ b, (decide ((XT.mk op nm xn wd v xa xc xl).sz ≤ 2000) && decide ((XT.mk op nm xn wd v xa xc xl).dp ≤ 100)) = b := ⟨_, rfl⟩
  rw [hq0] at few0
  have fr0 := fun (w' : World) h1 h2 h3 => free_any (XT.mk op nm xn wd v xa xc xl) (by omega) W.heap.size w' h1 h2 h3
  obtain ⟨N0, hN0⟩ : ∃ N, freeX [] (XT.mk op nm xn wd v xa xc xl) = N := ⟨_, rfl⟩
  rw [hN0] at fr0
  have e1 : (XT.mk yop ynm yn ywd yv ya yc yl).sz ≤ 1048576 := Nat.le_trans (XT.sz_bk _) hb1
  have few1 := fun (w' : World) h1 h2 => fewX_any (XT.mk yop ynm yn ywd yv ya yc yl) (by omega) W.heap.size w' h1 h2
  obtain ⟨q1, hq1⟩ : ∃ b, (decide ((XT.mk yop ynm yn ywd yv ya yc yl).sz ≤ 2000) && decide ((XT.mk yop ynm yn ywd yv ya yc yl).dp ≤ 100)) = b := ⟨_, rfl⟩
  rw [hq1] at few1
  have fr1 := fun (w' : World) h1 h2 h3 => free_any (XT.mk yop ynm yn ywd yv ya yc yl) (by omega) W.heap.size w' h1 h2 h3
  obtain ⟨N1, hN1⟩ : ∃ N, freeX [] (XT.mk yop ynm yn ywd yv ya yc yl) = N := ⟨_, rfl⟩
  rw [hN1] at fr1
  have hlx : N0.length ≤ 1048576 := by rw [← hN0]; have := freeX_len (XT.mk op nm xn wd v xa xc xl) []; simp at this; omega
  have hly : N1.length ≤ 1048576 := by rw [← hN1]; have := freeX_len (XT.mk yop ynm yn ywd yv ya yc yl) []; simp at this; omega
  have i0 := hx
  have i1 := hy
  simp only [XT.val, XT.cells] at few0 few1 fr0 fr1 ⊢
  have Hfew0 := Lib.hid few0
  have Hfew1 := Lib.hid few1
  have Hfr0 := Lib.hid fr0
  have Hfr1 := Lib.hid fr1
  have HT := Lib.hid (And.intro hb0 (And.intro hb1 (And.intro hN0 (And.intro hN1 (And.intro hlx hly)))))
  clear few0 few1 fr0 fr1 hb0 hb1 hN0 hN1 hlx hly hq0 hq1 e0 e1 hx hy
  go_enter Tryd.func6, Tryd.ntmps6
  go_upto_region 2 with (fail)
  have B0 := block_alloc (World.alloc_heap_new W (.cells #[.int .i64 op, .string (bs nm), .int .i64 xn, .int .i64 wd, .int .u64 (v : Int), .slice xa xl.length xc] 25)) (.cells #[.int .i64 yop, .string (bs ynm), .int .i64 yn, .int .i64 ywd, .int .u64 (yv : Int), .slice ya yl.length yc] 25)
  have B1 := World.alloc_heap_new (W.alloc (.cells #[.int .i64 op, .string (bs nm), .int .i64 xn, .int .i64 wd, .int .u64 (v : Int), .slice xa xl.length xc] 25)) (.cells #[.int .i64 yop, .string (bs ynm), .int .i64 yn, .int .i64 ywd, .int .u64 (yv : Int), .slice ya yl.length yc] 25)
  rw [show (W.alloc (.cells #[.int .i64 op, .string (bs nm), .int .i64 xn, .int .i64 wd, .int .u64 (v : Int), .slice xa xl.length xc] 25)).heap.size = W.heap.size + 1 by simp] at B1
  have hB : Below W.heap.size W ((W.alloc (.cells #[.int .i64 op, .string (bs nm), .int .i64 xn, .int .i64 wd, .int .u64 (v : Int), .slice xa xl.length xc] 25)).alloc (.cells #[.int .i64 yop, .string (bs ynm), .int .i64 yn, .int .i64 ywd, .int .u64 (yv : Int), .slice ya yl.length yc] 25)) := ((Below.refl _ _).alloc (Nat.le_refl _) _).alloc (by simp) _
  have he1 := (he.alloc (.cells #[.int .i64 op, .string (bs nm), .int .i64 xn, .int .i64 wd, .int .u64 (v : Int), .slice xa xl.length xc] 25)).alloc (.cells #[.int .i64 yop, .string (bs ynm), .int .i64 yn, .int .i64 ywd, .int .u64 (yv : Int), .slice ya yl.length yc] 25)
  have hn := hB.size
  replace i0 := XT.In.keep (Below.keptTo hB (Nat.le_refl _)) _ i0
  replace i1 := XT.In.keep (Below.keptTo hB (Nat.le_refl _)) _ i1
  have hlt0 : W.heap.size + 2 ≤ ((W.alloc (.cells #[.int .i64 op, .string (bs nm), .int .i64 xn, .int .i64 wd, .int .u64 (v : Int), .slice xa xl.length xc] 25)).alloc (.cells #[.int .i64 yop, .string (bs ynm), .int .i64 yn, .int .i64 ywd, .int .u64 (yv : Int), .slice ya yl.length yc] 25)).heap.size := by simp
  clear he
  generalize ((W.alloc (.cells #[.int .i64 op, .string (bs nm), .int .i64 xn, .int .i64 wd, .int .u64 (v : Int), .slice xa xl.length xc] 25)).alloc (.cells #[.int .i64 yop, .string (bs ynm), .int .i64 yn, .int .i64 ywd, .int .u64 (yv : Int), .slice ya yl.length yc] 25)) = w1 at *
  have HA := Lib.hid (And.intro i0 (And.intro i1 (And.intro he1 (And.intro hn hlt0))))
  clear i0 i1 he1 hn hlt0
  go_wp2_with fail
  obtain ⟨i0, i1, he1, hn, hlt0⟩ := HA.out
  clear HA
  refine (live_any _ he1).mono ?_
  rintro e w9 ⟨rfl, hb⟩
  replace B0 := block_kept B0 hb
  replace B1 := block_kept B1 hb
  replace i0 := XT.In.keep (Below.keptTo hb hn) _ i0
  replace i1 := XT.In.keep (Below.keptTo hb hn) _ i1
  replace he1 := he1.keep hb
  replace hB := hB.trans (hb.mono hB.size)
  replace hn := Nat.le_trans hn hb.size
  replace hlt0 := Nat.le_trans hlt0 hb.size
  clear hb
  have HA := Lib.hid (And.intro i0 (And.intro i1 (And.intro he1 (And.intro hn hlt0))))
  clear i0 i1 he1 hn hlt0
  obtain ⟨x0, x1, x2, x3, x4, x5⟩ := open6 B0
  go_wp2_with fail
  obtain ⟨i0, i1, he1, hn, hlt0⟩ := HA.out
  clear HA
  refine (Hfew0.out _ hn i0).mono ?_
  rintro e w9 ⟨rfl, hb⟩
  clear x0 x1 x2 x3 x4 x5
  replace B0 := block_kept B0 hb
  replace B1 := block_kept B1 hb
  replace i0 := XT.In.keep (Below.keptTo hb hn) _ i0
  replace i1 := XT.In.keep (Below.keptTo hb hn) _ i1
  replace he1 := he1.keep hb
  replace hB := hB.trans (hb.mono hB.size)
  replace hn := Nat.le_trans hn hb.size
  replace hlt0 := Nat.le_trans hlt0 hb.size
  clear hb
  have HA := Lib.hid (And.intro i0 (And.intro i1 (And.intro he1 (And.intro hn hlt0))))
  clear i0 i1 he1 hn hlt0
  cases q0 with
  | false =>
    obtain ⟨x0, x1, x2, x3, x4, x5⟩ := open6 B0
    obtain ⟨z0, z1, z2, z3, z4, z5⟩ := open6 B1
    go_wp2
    go_ret
    exact ⟨rfl, hB⟩
  | true =>
    obtain ⟨z0, z1, z2, z3, z4, z5⟩ := open6 B1
    go_wp2_with fail
    obtain ⟨i0, i1, he1, hn, hlt0⟩ := HA.out
    clear HA
    refine (Hfew1.out _ hn i1).mono ?_
    rintro e w9 ⟨rfl, hb⟩
    clear z0 z1 z2 z3 z4 z5
    replace B0 := block_kept B0 hb
    replace B1 := block_kept B1 hb
    replace i0 := XT.In.keep (Below.keptTo hb hn) _ i0
    replace i1 := XT.In.keep (Below.keptTo hb hn) _ i1
    replace he1 := he1.keep hb
    replace hB := hB.trans (hb.mono hB.size)
    replace hn := Nat.le_trans hn hb.size
    replace hlt0 := Nat.le_trans hlt0 hb.size
    clear hb
    have HA := Lib.hid (And.intro i0 (And.intro i1 (And.intro he1 (And.intro hn hlt0))))
    clear i0 i1 he1 hn hlt0
    cases q1 with
    | false =>
      obtain ⟨x0, x1, x2, x3, x4, x5⟩ := open6 B0
      obtain ⟨z0, z1, z2, z3, z4, z5⟩ := open6 B1
      go_wp2
      go_ret
      exact ⟨rfl, hB⟩
    | true =>
      obtain ⟨x0, x1, x2, x3, x4, x5⟩ := open6 B0
      obtain ⟨z0, z1, z2, z3, z4, z5⟩ := open6 B1
      go_upto_region 5 with (fail)
      clear x0 x1 x2 x3 x4 x5 z0 z1 z2 z3 z4 z5
      obtain ⟨i0, i1, he1, hn, hlt0⟩ := HA.out
      clear HA
      obtain ⟨gb, hgb⟩ : ∃ g, w9.heap.size = g := ⟨_, rfl⟩
      rw [hgb] at hn hlt0 ⊢
      have kb : Below gb w9 ((w9.alloc (.cells #[.int .i64 op, .string (bs nm), .int .i64 xn, .int .i64 wd, .int .u64 (v : Int), .slice xa xl.length xc, .int .i64 yop, .string (bs ynm), .int .i64 yn, .int .i64 ywd, .int .u64 (yv : Int), .slice ya yl.length yc] 25)).alloc (.cells #[.int .i64 6, .string ⟨#[]⟩, .int .i64 14, .int .i64 0, .int .u64 0, .slice (some ⟨gb, 0, none⟩) 2 2] 25)) := ((Below.refl _ _).alloc (by omega) _).alloc (by simp; omega) _
      have BR : ((w9.alloc (.cells #[.int .i64 op, .string (bs nm), .int .i64 xn, .int .i64 wd, .int .u64 (v : Int), .slice xa xl.length xc, .int .i64 yop, .string (bs ynm), .int .i64 yn, .int .i64 ywd, .int .u64 (yv : Int), .slice ya yl.length yc] 25)).alloc (.cells #[.int .i64 6, .string ⟨#[]⟩, .int .i64 14, .int .i64 0, .int .u64 0, .slice (some ⟨gb, 0, none⟩) 2 2] 25)).heap[gb]? = some (.cells #[.int .i64 op, .string (bs nm), .int .i64 xn, .int .i64 wd, .int .u64 (v : Int), .slice xa xl.length xc, .int .i64 yop, .string (bs ynm), .int .i64 yn, .int .i64 ywd, .int .u64 (yv : Int), .slice ya yl.length yc] 25 (0, 0)) := by rw [← hgb]; exact block_alloc (World.alloc_heap_new w9 (.cells #[.int .i64 op, .string (bs nm), .int .i64 xn, .int .i64 wd, .int .u64 (v : Int), .slice xa xl.length xc, .int .i64 yop, .string (bs ynm), .int .i64 yn, .int .i64 ywd, .int .u64 (yv : Int), .slice ya yl.length yc] 25)) _
      have BB : ((w9.alloc (.cells #[.int .i64 op, .string (bs nm), .int .i64 xn, .int .i64 wd, .int .u64 (v : Int), .slice xa xl.length xc, .int .i64 yop, .string (bs ynm), .int .i64 yn, .int .i64 ywd, .int .u64 (yv : Int), .slice ya yl.length yc] 25)).alloc (.cells #[.int .i64 6, .string ⟨#[]⟩, .int .i64 14, .int .i64 0, .int .u64 0, .slice (some ⟨gb, 0, none⟩) 2 2] 25)).heap[gb + 1]? = some (.cells #[.int .i64 6, .string ⟨#[]⟩, .int .i64 14, .int .i64 0, .int .u64 0, .slice (some ⟨gb, 0, none⟩) 2 2] 25 (0, 0)) := by have h9 := World.alloc_heap_new (w9.alloc (.cells #[.int .i64 op, .string (bs nm), .int .i64 xn, .int .i64 wd, .int .u64 (v : Int), .slice xa xl.length xc, .int .i64 yop, .string (bs ynm), .int .i64 yn, .int .i64 ywd, .int .u64 (yv : Int), .slice ya yl.length yc] 25)) (.cells #[.int .i64 6, .string ⟨#[]⟩, .int .i64 14, .int .i64 0, .int .u64 0, .slice (some ⟨gb, 0, none⟩) 2 2] 25); rw [World.size_alloc, hgb] at h9; exact h9
      have hzu : ((w9.alloc (.cells #[.int .i64 op, .string (bs nm), .int .i64 xn, .int .i64 wd, .int .u64 (v : Int), .slice xa xl.length xc, .int .i64 yop, .string (bs ynm), .int .i64 yn, .int .i64 ywd, .int .u64 (yv : Int), .slice ya yl.length yc] 25)).alloc (.cells #[.int .i64 6, .string ⟨#[]⟩, .int .i64 14, .int .i64 0, .int .u64 0, .slice (some ⟨gb, 0, none⟩) 2 2] 25)).heap.size = gb + 2 := by simp [hgb]
      replace B0 := (kb.block _ (by omega)).trans B0
      replace B1 := (kb.block _ (by omega)).trans B1
      replace i0 := XT.In.keep (Below.keptTo kb (by omega)) _ i0
      replace i1 := XT.In.keep (Below.keptTo kb (by omega)) _ i1
      replace he1 := EnvA.low he1 (fun b h5 => by have := HE5.out; omega) kb
      replace hB := hB.trans (kb.mono (by omega))
      clear kb
      generalize ((w9.alloc (.cells #[.int .i64 op, .string (bs nm), .int .i64 xn, .int .i64 wd, .int .u64 (v : Int), .slice xa xl.length xc, .int .i64 yop, .string (bs ynm), .int .i64 yn, .int .i64 ywd, .int .u64 (yv : Int), .slice ya yl.length yc] 25)).alloc (.cells #[.int .i64 6, .string ⟨#[]⟩, .int .i64 14, .int .i64 0, .int .u64 0, .slice (some ⟨gb, 0, none⟩) 2 2] 25)) = u at *
      have jT : (XT.mk 6 [] 14 0 0 (some ⟨gb, 0, none⟩) 2 [(XT.mk op nm xn wd v xa xc xl), (XT.mk yop ynm yn ywd yv ya yc yl)]).In (gb + 2) u := by rw [XT.In_mk]; exact ⟨⟨gb, 0, rfl, by omega, rowc_of (o := 0) BR rfl⟩, XT.In.less (by omega) _ i0, ⟨gb, 6, rfl, by omega, rowc_of (o := 6) BR rfl⟩, XT.In.less (by omega) _ i1, trivial⟩
      have hz : gb + 2 ≤ u.heap.size := Nat.le_of_eq hzu.symm
      clear BR
      obtain ⟨hb0, hb1, hN0, hN1, hlx, hly⟩ := HT.out
      have hNT : freeX [] (XT.mk 6 [] 14 0 0 (some ⟨gb, 0, none⟩) 2 [(XT.mk op nm xn wd v xa xc xl), (XT.mk yop ynm yn ywd yv ya yc yl)]) = addN N0 N1 := by rw [freeX, if_neg (by decide), freeL, freeL, freeL, freeX_behind, hN0, hN1]
      have frT := fun (w' : World) h1 h2 h3 => free_any (XT.mk 6 [] 14 0 0 (some ⟨gb, 0, none⟩) 2 [(XT.mk op nm xn wd v xa xc xl), (XT.mk yop ynm yn ywd yv ya yc yl)]) (by simp only [XT.bk, XT.bkL, List.length_nil] at hbb ⊢; omega) (gb + 2) w' h1 h2 h3
      rw [hNT] at frT
      have HND := Lib.hid (show N0.Nodup by rw [← hN0]; exact freeX_nodup _)
      simp only [XT.val, XT.cells] at frT
      have HfrT := Lib.hid frT
      clear frT hNT hb0 hb1 hN0 hN1 HT
      have own0 : (u.alloc (.cells #[] 9)).ownsRow (gb + 2) 9 1 (.slice (some ⟨gb + 2, 0, none⟩) 0 0) 0 [] := by rw [← hzu]; exact ⟨rfl, .inr ⟨u.heap.size, 0, #[], rfl, Nat.le_refl _, World.alloc_heap_new u _, Nat.le_refl _, by decide, rfl, rfl⟩⟩
      have hb : Below (gb + 2) u (u.alloc (.cells #[] 9)) := (Below.refl _ _).alloc hz _
      skip
      replace B0 := (hb.block _ (by omega)).trans B0
      replace B1 := (hb.block _ (by omega)).trans B1
      replace BB := (hb.block _ (by omega)).trans BB
      replace i0 := XT.In.keep (Below.keptTo hb (by omega)) _ i0
      replace i1 := XT.In.keep (Below.keptTo hb (by omega)) _ i1
      replace jT := XT.In.keep (Below.keptTo hb (Nat.le_refl _)) _ jT
      replace he1 := EnvA.low he1 (fun b h5 => by have := HE5.out; omega) hb
      replace hB := hB.trans (hb.mono (by omega))
      replace hz := Nat.le_trans hz hb.size
      clear hb
      have HA := Lib.hid (And.intro i0 (And.intro i1 (And.intro jT (And.intro he1 (And.intro hn hz)))))
      clear i0 i1 jT he1 hn hz
      have hzu2 : (u.alloc (.cells #[] 9)).heap.size = gb + 3 := by simp [hzu]
      obtain ⟨x0, x1, x2, x3, x4, x5⟩ := open6 B0
      go_wp2_with fail
      obtain ⟨i0, i1, jT, he1, hn, hz⟩ := HA.out
      clear HA
      clear x0 x1 x2 x3 x4 x5
      refine (Hfr0.out _ (by omega) he1 i0).mono ?_
      rintro e w2 ⟨v2, rfl, own2, _, hb⟩
      obtain ⟨a2, c2, rfl, hc2⟩ := own_shape' own2
      replace own0 := below_own_row own0 hb
      have lies2 := lies_own own2
      replace hb := hb.mono (show gb + 2 ≤ _ by omega)
      replace B0 := (hb.block _ (by omega)).trans B0
      replace B1 := (hb.block _ (by omega)).trans B1
      replace BB := (hb.block _ (by omega)).trans BB
      replace i0 := XT.In.keep (Below.keptTo hb (by omega)) _ i0
      replace i1 := XT.In.keep (Below.keptTo hb (by omega)) _ i1
      replace jT := XT.In.keep (Below.keptTo hb (Nat.le_refl _)) _ jT
      replace he1 := EnvA.low he1 (fun b h5 => by have := HE5.out; omega) hb
      replace hB := hB.trans (hb.mono (by omega))
      replace hz := Nat.le_trans hz hb.size
      clear hb
      have hz2 := hz
      have HA := Lib.hid (And.intro i0 (And.intro i1 (And.intro jT (And.intro he1 (And.intro hn hz)))))
      clear i0 i1 jT he1 hn hz
      have hc3 := hc2
      clear hc3
      go_upto_region 6 with (at_builtin; refine wpList_append_strs rfl (.tmp 26) (.tmp 28) rfl (gb + 2) (.slice (some ⟨gb + 2, 0, none⟩) 0 0) 0 [] rfl own0 a2 N0 c2 rfl hc2 lies2 (by omega) hz2 ?_; intro v3 w3 own3 hg3 _; rw [Nat.zero_add, List.nil_append] at own3)
      have hb : Below (gb + 2) w2 w3 := (Below.refl _ _).grown hg3 hz2 (fun k e => by { have h9 : gb + 2 = k := Option.some.inj e; omega })
      clear hg3 hz2 lies2 own0 own2 hc2
      obtain ⟨i0, i1, jT, he1, hn, hz⟩ := HA.out
      clear HA
      replace B0 := (hb.block _ (by omega)).trans B0
      replace B1 := (hb.block _ (by omega)).trans B1
      replace BB := (hb.block _ (by omega)).trans BB
      replace i0 := XT.In.keep (Below.keptTo hb (by omega)) _ i0
      replace i1 := XT.In.keep (Below.keptTo hb (by omega)) _ i1
      replace jT := XT.In.keep (Below.keptTo hb (Nat.le_refl _)) _ jT
      replace he1 := EnvA.low he1 (fun b h5 => by have := HE5.out; omega) hb
      replace hB := hB.trans (hb.mono (by omega))
      replace hz := Nat.le_trans hz hb.size
      clear hb
      have hz3 := hz
      obtain ⟨z0, z1, z2, z3, z4, z5⟩ := open6 B1
      go_wp2_with fail
      clear z0 z1 z2 z3 z4 z5
      refine (Hfr1.out _ (by omega) he1 i1).mono ?_
      rintro e w4 ⟨v4, rfl, own4, _, hb⟩
      obtain ⟨a4, c4, rfl, hc4⟩ := own_shape' own4
      have ne : ∀ g4 p, a4 = some ⟨g4, p, none⟩ → v3.ownBlock ≠ some g4 ∧ g4 < w4.heap.size := by { rintro g4 p rfl; have h1 := own4.lt g4 rfl; exact ⟨fun h2 => by have h3 := own3.lt g4 h2; omega, h1.2⟩ }
      replace own3 := below_own_row own3 hb
      have lies4 := lies_own own4
      replace hb := hb.mono (show gb + 2 ≤ _ by omega)
      replace B0 := (hb.block _ (by omega)).trans B0
      replace B1 := (hb.block _ (by omega)).trans B1
      replace BB := (hb.block _ (by omega)).trans BB
      replace i0 := XT.In.keep (Below.keptTo hb (by omega)) _ i0
      replace i1 := XT.In.keep (Below.keptTo hb (by omega)) _ i1
      replace jT := XT.In.keep (Below.keptTo hb (Nat.le_refl _)) _ jT
      replace he1 := EnvA.low he1 (fun b h5 => by have := HE5.out; omega) hb
      replace hB := hB.trans (hb.mono (by omega))
      replace hz := Nat.le_trans hz hb.size
      clear hb
      clear hz3 own4
      have hz4 := hz
      have HA := Lib.hid (And.intro i0 (And.intro i1 (And.intro jT (And.intro he1 (And.intro hn hz)))))
      clear i0 i1 jT he1 hn hz
      have HL3 := Lib.hid own3
      have HL4 := Lib.hid lies4
      have HNE := Lib.hid ne
      clear own3 lies4 ne
      go_wp2
      go_loopg [7, 9] N1.length (fun g v u wr => ∃ k : Nat, u = .int .i64 k ∧ k + g = N1.length ∧ ∃ M, M = addN N0 (N1.take k) ∧ wr.ownsRow (gb + 2) 9 1 v M.length (strs M) ∧ (∀ g4 p, a4 = some ⟨g4, p, none⟩ → v.ownBlock ≠ some g4 ∧ g4 < wr.heap.size) ∧ LiesS wr a4 N1 ∧ Below (gb + 2) w4 wr)
      case atStart => exact ⟨0, rfl, by omega, N0, rfl, HL3.out, HNE.out, HL4.out, Below.refl _ _⟩
      case round =>
        obtain ⟨k, rfl, hk, M, hM, ownM, ne, li, hb5⟩ := hrel
        obtain ⟨aM, cM, rfl, _⟩ := own_shape' ownM
        by_cases hlt : k < N1.length
        · have d1 : decide (k < N1.length) = true := by simpa using hlt
          have d2 : decide ((k : Int) < (N1.length : Int)) = true := by rw [decide_eq_true_eq]; omega
          obtain ⟨b4, o4, ha4, hL⟩ := li.resolve_left (by intro h; rw [h] at hlt; simp at hlt)
          replace hL := hL k hlt
          have h9 := addN_take N0 N1 k hlt
          rw [← hM] at h9
          have HST := Lib.hid h9
          clear h9
          have HLI := Lib.hid li
          have HNM := Lib.hid ne
          have hMl : M.length ≤ N0.length + k := by { rw [hM]; have h9 := addN_len (N1.take k) N0; rw [List.length_take] at h9; omega }
          have HM := Lib.hid hM
          subst ha4
          obtain ⟨s, hs⟩ : ∃ s, N1[k] = s := ⟨_, rfl⟩
          rw [hs] at hL HST
          clear hs li ne hM
          have liM := lies_own ownM
          go_wp2_with fail
          refine (amongS_any aM cM M s (by omega) _ liM).mono ?_
          rintro e w6 ⟨rfl, nq, hw6⟩
          have own6 : w6.ownsRow (gb + 2) 9 1 (.slice aM M.length cM) M.length (strs M) := by { have h9 := ownM; unfold World.ownsRow at h9 ⊢; rw [hw6]; exact h9 }
          have hz6 : w6.heap.size = wr.heap.size := by rw [hw6]; rfl
          have li6 : LiesS w6 (some ⟨b4, o4, none⟩) N1 := by { have h9 := HLI.out; unfold LiesS at h9 ⊢; rw [hw6]; exact h9 }
          have hb6 : Below (gb + 2) w4 w6 := by { rw [hw6]; exact ⟨hb5.os, hb5.tape, hb5.output, hb5.size, hb5.block⟩ }
          have hL6 : w6.cell? ⟨b4, o4 + k, none⟩ = some (.string (bs s)) := by { rw [hw6]; exact hL }
          have h45 := hb6.size
          clear ownM liM HLI hL hb5 hw6
          obtain ⟨q, hq⟩ : ∃ q, M.contains s = q := ⟨_, rfl⟩
          rw [hq] at HST ⊢
          cases q with
          | true =>
            go_wp2
            cases gk with
            | zero => omega
            | succ gg =>
              go_roundg gg
              case rel => exact ⟨k + 1, rfl, by omega, M, by rw [HST.out]; rfl, own6, fun g4 p e => by { have h9 := HNM.out g4 p e; rw [hz6]; exact h9 }, li6, hb6⟩
              case measure => omega
          | false =>
            have HZ6 := Lib.hid hz6
            clear hz6
            go_upto_region 10 with (at_builtin; refine wpList_append_strs rfl (.tmp 45) (.tmp 50) rfl (gb + 2) (.slice aM M.length cM) M.length (strs M) rfl (own6.alloc _) (some ⟨w6.heap.size, 0, none⟩) [s] 1 rfl (by intro h; cases h) (lies_one _ _ _) (by simp; omega) (by rw [World.size_alloc]; omega) ?_; intro v7 w7 own7 hg7 hat7)
            have hz6 := HZ6.out
            have hn4 := HNM.out b4 o4 rfl
            have hb7 : Below (gb + 2) w4 w7 := hb6.trans (((Below.refl _ _).alloc (by omega) _).grown hg7 (by rw [World.size_alloc]; omega) (fun k e => (own6.lt k e).1))
            have li7 := li6.grown hg7 (by omega) (fun e => hn4.1 e.symm)
            have ne7 : ∀ g4 p, some (⟨b4, o4, none⟩ : Addr) = some ⟨g4, p, none⟩ → v7.ownBlock ≠ some g4 ∧ g4 < w7.heap.size := by { intro g4 p e; cases e; have hsz := hg7.size; rw [World.size_alloc] at hsz; refine ⟨?_, by omega⟩; rcases hat7 with h | h <;> rw [h]; { exact hn4.1 }; { rw [World.size_alloc]; intro h9; have := Option.some.inj h9; omega } }
            have own8 : w7.ownsRow (gb + 2) 9 1 v7 (M ++ [s]).length (strs (M ++ [s])) := by { have e1 : (M ++ [s]).length = M.length + [s].length := (by simp); have e2 : strs (M ++ [s]) = strs M ++ strs [s] := (by simp [strs]); rw [e1, e2]; exact own7 }
            clear own7 hg7 hat7 li6 hb6 own6
            cases gk with
            | zero => omega
            | succ gg =>
              go_roundg gg
              case rel => exact ⟨k + 1, rfl, by omega, M ++ [s], by rw [HST.out]; rfl, own8, ne7, li7, hb7⟩
              case measure => omega
        · have d1 : decide (k < N1.length) = false := by simpa using hlt
          have d2 : decide ((k : Int) < (N1.length : Int)) = false := by rw [decide_eq_false_iff_not]; omega
          have hkl : k = N1.length := by omega
          rw [hkl, List.take_length] at hM
          have hMl : M.length ≤ N0.length + N1.length := by { rw [hM]; exact addN_len N1 N0 }
          rw [← hM] at HfrT
          have HMn : Hid (M = addN N0 N1) := Lib.hid hM
          clear hM ne li HL3 HL4 HNE
          obtain ⟨i0, i1, jT, he1, hn, hz⟩ := HA.out
          clear HA
          have hb := hb5
          clear hb5
          replace B0 := (hb.block _ (by omega)).trans B0
          replace B1 := (hb.block _ (by omega)).trans B1
          replace BB := (hb.block _ (by omega)).trans BB
          replace i0 := XT.In.keep (Below.keptTo hb (by omega)) _ i0
          replace i1 := XT.In.keep (Below.keptTo hb (by omega)) _ i1
          replace jT := XT.In.keep (Below.keptTo hb (Nat.le_refl _)) _ jT
          replace he1 := EnvA.low he1 (fun b h5 => by have := HE5.out; omega) hb
          replace hB := hB.trans (hb.mono (by omega))
          replace hz := Nat.le_trans hz hb.size
          clear hb
          obtain ⟨y0, y1, y2, y3, y4, y5⟩ := open6 BB
          go_wp2_with fail
          clear y0 y1 y2 y3 y4 y5
          refine (HfrT.out _ (by omega) he1 jT).mono ?_
          rintro e w8 ⟨v8, rfl, own8, _, hb⟩
          obtain ⟨a8, c8, rfl, _⟩ := own_shape' own8
          replace ownM := below_own_row ownM hb
          have liM := lies_own ownM
          have li8 := lies_own own8
          replace hb := hb.mono (show gb + 2 ≤ _ by omega)
          replace B0 := (hb.block _ (by omega)).trans B0
          replace B1 := (hb.block _ (by omega)).trans B1
          replace BB := (hb.block _ (by omega)).trans BB
          replace i0 := XT.In.keep (Below.keptTo hb (by omega)) _ i0
          replace i1 := XT.In.keep (Below.keptTo hb (by omega)) _ i1
          replace jT := XT.In.keep (Below.keptTo hb (Nat.le_refl _)) _ jT
          replace he1 := EnvA.low he1 (fun b h5 => by have := HE5.out; omega) hb
          replace hB := hB.trans (hb.mono (by omega))
          replace hz := Nat.le_trans hz hb.size
          clear hb
          have hcap := own_cap own8
          have hnd := addN_nodup N1 N0 HND.out
          rw [← HMn.out] at hnd
          have HNDM := Lib.hid hnd
          clear hnd HND ownM own8 i0 i1 jT he1 hz BB B0 B1 HfrT Hfr0 Hfr1
          have HLM := Lib.hid liM
          have HL8 := Lib.hid li8
          clear liM li8
          go_wp2
          go_loopg [11] M.length (fun g u wx => ∃ i : Nat, u = .int .i64 i ∧ i + g = M.length ∧ wx.heap = w8.heap ∧ Below w8.heap.size w8 wx)
          case atStart => exact ⟨0, rfl, by omega, rfl, Below.refl _ _⟩
          case round =>
            obtain ⟨i, rfl, hi, hle, hbx⟩ := hrel
            have hx8 : ∀ a l, LiesS w8 a l → LiesS wr a l := fun a l h => by { unfold LiesS at h ⊢; unfold World.cell? at h ⊢; rw [hle]; exact h }
            have HX8 := Lib.hid (hx8 _ _ HL8.out)
            have HXM := Lib.hid (hx8 _ _ HLM.out)
            have HLE := Lib.hid hle
            clear hle hx8 HL8 HLM
            by_cases hlt2 : i < M.length
            · have d3 : decide (i < M.length) = true := by simpa using hlt2
              have d4 : decide ((i : Int) < (M.length : Int)) = true := by rw [decide_eq_true_eq]; omega
              obtain ⟨b8, o8, rfl, hL8⟩ := HX8.out.resolve_left (by intro h; rw [h] at hlt2; simp at hlt2)
              have hTn := nodup_take M i hlt2 HNDM.out
              have hliT : LiesS wr (some ⟨b8, o8, none⟩) (M.take i) := lies_take HX8.out i
              have hTl : (M.take i).length = i := by rw [List.length_take]; omega
              replace hL8 := hL8 i hlt2
              generalize M[i] = s at *
              generalize M.take i = T at *
              subst hTl
              have dc : ¬ c8 < T.length := by omega
              have hA := fun n => Calls.quiet_of (n := n) (amongS_any (some ⟨b8, o8, none⟩) c8 T s (by omega) (wr.drewN n) (lies_drewN n hliT))
              simp only [hTn] at hA
              have HA2 := Lib.hid hA
              clear hA hTn hliT HX8
              go_wp2
              go_quiet ((go_at_call 21; exact HA2.out _))
              go_wp2
              cases gk with
              | zero => omega
              | succ gg =>
                go_roundg gg
                case rel => exact ⟨T.length + 1, rfl, by omega, HLE.out, ⟨hbx.os, hbx.tape, hbx.output, hbx.size, hbx.block⟩⟩
                case measure => omega
            · have d3 : decide (i < M.length) = false := by simpa using hlt2
              have d4 : decide ((i : Int) < (M.length : Int)) = false := by rw [decide_eq_false_iff_not]; omega
              go_wp2_with fail
              refine (textsS_any a8 aM c8 cM M M (by omega) (by omega) _ HX8.out HXM.out).mono ?_
              rintro e wz ⟨rfl, nz, rfl⟩
              go_wp2
              go_ret
              exact ⟨by simp, (fun (h : Below W.heap.size W wr) => ⟨h.os, h.tape, h.output, h.size, h.block⟩) (hB.trans (hbx.mono hB.size))⟩
theorem names_law (x y : XT) (hbb : x.bk + y.bk ≤ 1048576) (W : World) (he : EnvA W) (hx : x.In W.heap.size W) (hy : y.In W.heap.size W) : Calls Tryd.prog 6 #[x.val, y.val] W fun e w' => e = .returned (.bool true) ∧ Below W.heap.size W w' := by
  obtain ⟨op, nm, xn, wd, v, xa, xc, xl⟩ := x
  obtain ⟨yop, ynm, yn, ywd, yv, ya, yc, yl⟩ := y
  exact names_walk op nm xn wd v xa xc xl yop ynm yn ywd yv ya yc yl (by omega) (by omega) hbb W he hx hy
end Go.Proofs.YtppgfedakcmgcaaDoor
