/-
  The walk of AstSpoilt.
-/
import Derived.Test.YtppgfedakcmgcaaDoorAsLv
import Derived.Test.YtppgfedakcmgcaaDoorAsSd
import Derived.Test.YtppgfedakcmgcaaDoorAsMe
import Derived.Laws.AppendOwn
import Derived.Laws.AppendOwnNone
import Derived.OwnWalk
namespace Go.Proofs.YtppgfedakcmgcaaDoor
open Go Go.RowKit Go.Sort
set_option linter.unusedVariables false
set_option linter.unusedSimpArgs false

theorem bkL_app : ∀ l m : List XT, XT.bkL (l ++ m) = XT.bkL l + XT.bkL m
  | [], m => by simp [XT.bkL]
  | x :: r, m => by simp [XT.bkL, bkL_app r m]; omega

theorem grown_kept {W w5 : World} {E o : Obj} {gy gn : Nat} (h : W.heap[gy]? = some o) (hg : (W.alloc E).grownBy w5 (some gn)) (hn : W.heap.size = gn) : w5.heap[gy]? = some o := by
  have hlt := (Array.getElem?_eq_some_iff.1 h).1
  rw [hg.block gy (by rw [World.size_alloc]; omega) (fun e => by cases e; omega)]
  exact block_alloc h E
theorem grown_kept2 {W w5 : World} {E o : Obj} {b gn : Nat} {v : Value} {n : Nat} {xs : List Value} (h : W.heap[b]? = some o) (hg : (W.alloc E).grownBy w5 v.ownBlock) (hb : b < gn) (ho : W.ownsRow gn 25 6 v n xs) : w5.heap[b]? = some o := by
  have hlt := (Array.getElem?_eq_some_iff.1 h).1
  rw [hg.block b (by rw [World.size_alloc]; omega) (fun e => by have := (ho.lt b e.symm).1; omega)]
  exact block_alloc h E
theorem own_shape {w : World} {B e size n : Nat} {v : Value} {xs : List Value} (h : w.ownsRow B e size v n xs) : ∃ a c, v = .slice a n c := by
  rcases h.2 with ⟨rfl, rfl⟩ | ⟨g, cap, cur, rfl, _⟩
  · exact ⟨none, 0, rfl⟩
  · exact ⟨_, _, rfl⟩

theorem inrow_flat {inn : XT → Prop} {n : Nat} {W : World} : ∀ {l : List XT} {b o : Nat}, InRow 6 XT.cells inn n W l (some ⟨b, o, none⟩) → ∀ j u, (l.flatMap XT.cells)[j]? = some u → W.cell? ⟨b, o + j, none⟩ = some u
  | [], _, _, _, j, u, h => by simp at h
  | x :: r, b, o, h, j, u, hu => by
    obtain ⟨⟨b', o', ha, _, hr⟩, _, ht⟩ := h
    have ha2 := Option.some.inj ha
    injection ha2 with e1 e2
    subst e1
    subst e2
    have hl : x.cells.length = 6 := by cases x; rfl
    rw [List.flatMap_cons] at hu
    by_cases hj : j < 6
    · rw [List.getElem?_append_left (by omega)] at hu
      exact hr j u hu
    · rw [List.getElem?_append_right (by omega), hl] at hu
      rw [Option.map_some, show (⟨b, o, none⟩ : Addr).add 6 = ⟨b, o + 6, none⟩ by simp [Addr.add]] at ht
      have := inrow_flat ht (j - 6) u hu
      rw [show o + 6 + (j - 6) = o + j by omega] at this
      exact this
theorem inrow_of_flat {inn : XT → Prop} {n : Nat} {W : World} : ∀ {l : List XT} {b o : Nat}, b < n → (∀ j u, (l.flatMap XT.cells)[j]? = some u → W.cell? ⟨b, o + j, none⟩ = some u) → (∀ x ∈ l, inn x) → InRow 6 XT.cells inn n W l (some ⟨b, o, none⟩)
  | [], _, _, _, _, _ => trivial
  | x :: r, b, o, hb, h, hi => by
    have hl : x.cells.length = 6 := by cases x; rfl
    refine ⟨⟨b, o, rfl, hb, fun j v hv => h j v (by rw [List.flatMap_cons, List.getElem?_append_left (by have := (List.getElem?_eq_some_iff.1 hv).1; omega)]; exact hv)⟩, hi x (by simp), ?_⟩
    rw [Option.map_some, show (⟨b, o, none⟩ : Addr).add 6 = ⟨b, o + 6, none⟩ by simp [Addr.add]]
    refine inrow_of_flat hb (fun j u hu => ?_) (fun y hy => hi y (by simp [hy]))
    have := h (6 + j) u (by rw [List.flatMap_cons, List.getElem?_append_right (by omega), hl, show 6 + j - 6 = j by omega]; exact hu)
    rw [show o + 6 + j = o + (6 + j) by omega]
    exact this
theorem flat_len6 : ∀ l : List XT, (l.flatMap XT.cells).length = l.length * 6
  | [] => rfl
  | x :: r => by
    have hl : x.cells.length = 6 := by cases x; rfl
    rw [List.flatMap_cons, List.length_append, hl, flat_len6 r, List.length_cons]; omega
theorem flat_ones : ∀ (l : List XT), ∀ u ∈ l.flatMap XT.cells, u.oneCell' = true := by
  intro l u hu
  obtain ⟨x, _, hx⟩ := List.mem_flatMap.1 hu
  obtain ⟨op, nm, n, wd, v, a, c, l2⟩ := x
  simp only [XT.cells, List.mem_cons, List.not_mem_nil, or_false] at hx
  rcases hx with rfl | rfl | rfl | rfl | rfl | rfl <;> rfl
theorem info_x : (Tryd.prog.info? 25).map (fun i => (i.zero, i.size, i.bytes)) = some (some (.agg #[.int .i64 0, .string ⟨#[]⟩, .int .i64 0, .int .i64 0, .int .u64 0, .slice none 0 0]), 6, 72) := by kernel_rfl
theorem wpList_append_row {w : World} {ops : Array Oper} {rest : List Oper} {op : Oper} {a : Act} {Q : Exit → Act → World → Prop} (hgd : op.guard = none) (s x : Operand)
    (ho : op.op = .call { callee := .builtin .append, args := #[s, x], argTypes := #[23, 23] })
    (base : Nat) (v : Value) (n : Nat) (xs : List Value) (hs : a.eval s = v) (hown : w.ownsRow base 25 6 v n xs)
    (ad : Option Addr) (l : List XT) (c : Nat) (hx : a.eval x = .slice ad l.length c) (hc : ad = none → c = 0) (inn : XT → Prop) (n0 : Nat) (hl : InRow 6 XT.cells inn n0 w l ad) (hn : n + l.length ≤ 1500000) (hbase : base ≤ w.heap.size)
    (h : ∀ v' w', w'.ownsRow base 25 6 v' (n + l.length) (xs ++ l.flatMap XT.cells) → w.grownBy w' v.ownBlock → wpList Tryd.prog ops Q rest (a.put op.dst v') w') : wpList Tryd.prog ops Q (op :: rest) a w := by
  obtain ⟨i0, hi0, hz0, hz1, hz2⟩ := info_parts info_x
  cases ad with
  | none =>
    have hl0 : l = [] := by
      cases l with
      | nil => rfl
      | cons y r => obtain ⟨⟨b, o, h, _⟩, _⟩ := hl; cases h
    subst hl0
    rw [hc rfl] at hx
    refine wpList_append_own_none hgd s x 23 ho base 25 i0 6 Tryd.underlying23 hi0 v n xs hs hown hx ?_
    refine h v w ?_ ⟨rfl, rfl, rfl, Nat.le_refl _, fun _ _ _ => rfl⟩
    simpa using hown
  | some ad =>
    have hnews : ∀ j u, (l.flatMap XT.cells)[j]? = some u → w.cell? (ad.add j) = some u := by
      cases l with
      | nil => intro j u hu; simp at hu
      | cons y r =>
        have hl2 := hl
        obtain ⟨⟨b, o, h, _⟩, _⟩ := hl
        have h2 := Option.some.inj h
        subst h2
        intro j u hu
        rw [Addr.add_mid]
        exact inrow_flat hl2 j u hu
    exact wpList_append_own w hgd s x 23 ho base 25 i0 _ 6 72 Tryd.underlying23 hi0 hz0 hz1 hz2 rfl (by decide) v n xs hs hown ad l.length c (l.flatMap XT.cells) hx (by rw [flat_len6]) hnews (flat_ones l) (by simp only [maxLen]; omega) (by omega) hbase (fun v' w' h1 h2 _ => h v' w' h1 h2)

theorem frozen_of6s {W : World} {g : Nat} {cs : Array Value} {t : TypeId} (h : W.heap[g]? = some (.cells cs t (0, 0))) (j : Nat) : W.frozen? ⟨g, j, none⟩ = false := by simp [World.frozen?, h]
theorem i64_and3 (n : Int) : bits .and .i64 n 3 = n % 4 := by
  have h127 : (BitVec.ofInt 64 3).toNat = 2 ^ 2 - 1 := by decide
  have key : (BitVec.ofInt 64 n &&& BitVec.ofInt 64 3).toNat = (n % ((2 ^ 64 : Nat) : Int)).toNat % 2 ^ 2 := by
    rw [BitVec.toNat_and, BitVec.toNat_ofInt, h127, Nat.and_two_pow_sub_one_eq_mod]
  show IntKind.i64.wrap ((BitVec.ofInt 64 n &&& BitVec.ofInt 64 3).toNat : Nat) = n % 4
  rw [key, IntKind.wrap_i64]
  omega
set_option maxHeartbeats 8000000 in
set_option maxRecDepth 100000 in
theorem spoilt_walk (op : Int) (nm : Bytes) (xn wd : Int) (v : Nat) (xa : Option Addr) (xc : Nat) (xl : List XT) (m : Int) (hb0 : (XT.mk op nm xn wd v xa xc xl).bk ≤ 1048576) (hw0 : (XT.mk op nm xn wd v xa xc xl).Wf) (W : World) (he : EnvA W) (hx : (XT.mk op nm xn wd v xa xc xl).In W.heap.size W) (hnil : xa = none → xc = 0) : Calls Tryd.prog 4 #[(XT.mk op nm xn wd v xa xc xl).val, .int .i64 m] W fun e w' => e = .returned (.bool true) ∧ Below W.heap.size W w' := by
  have HE5 := Lib.hid he.size
  have e0 : (XT.mk op nm xn wd v xa xc xl).sz ≤ 1048576 := Nat.le_trans (XT.sz_bk _) hb0
  have few0 := fun (w' : World) h1 h2 => fewX_any (XT.mk op nm xn wd v xa xc xl) (by omega) W.heap.size w' h1 h2
  obtain ⟨q0, hq0⟩ : ∃ b, (decide ((XT.mk op nm xn wd v xa xc xl).sz ≤ 2000) && decide ((XT.mk op nm xn wd v xa xc xl).dp ≤ 100)) = b := ⟨_, rfl⟩
  rw [hq0] at few0
  have cx := fun (w' : World) h1 h2 h3 => checkX_any (XT.mk op nm xn wd v xa xc xl) (by omega) hw0 W.heap.size w' h1 h2 h3
  have sxx := fun (w' : World) h1 h2 => sameX_any (XT.mk op nm xn wd v xa xc xl) (by omega) (XT.mk op nm xn wd v xa xc xl) (by omega) W.heap.size w' h1 h2 h2
  rw [(sameX_iff (XT.mk op nm xn wd v xa xc xl) (XT.mk op nm xn wd v xa xc xl)).2 rfl] at sxx
  obtain ⟨c0, hc0⟩ : ∃ c, checkX (XT.mk op nm xn wd v xa xc xl) = c := ⟨_, rfl⟩
  rw [hc0] at cx
  have hx0 := hx
  have hbk := hb0
  simp only [XT.val, XT.cells] at few0 cx sxx ⊢
  have HT := Lib.hid (And.intro hc0 (And.intro hw0 (And.intro hbk (And.intro hnil hq0))))
  have Hfew0 := Lib.hid few0
  have Hcx := Lib.hid cx
  have Hsxx := Lib.hid sxx
  clear few0 cx sxx hc0 hw0 hbk hb0 hnil hq0 e0
  have j0 := hx0
  clear hx0 hx
  go_enter Tryd.func4, Tryd.ntmps4
  go_upto_region 1 with (fail)
  have B0 := World.alloc_heap_new W (.cells #[.int .i64 op, .string (bs nm), .int .i64 xn, .int .i64 wd, .int .u64 (v : Int), .slice xa xl.length xc] 25)
  have hB : Below W.heap.size W (W.alloc (.cells #[.int .i64 op, .string (bs nm), .int .i64 xn, .int .i64 wd, .int .u64 (v : Int), .slice xa xl.length xc] 25)) := (Below.refl _ _).alloc (Nat.le_refl _) _
  have he1 := he.alloc (.cells #[.int .i64 op, .string (bs nm), .int .i64 xn, .int .i64 wd, .int .u64 (v : Int), .slice xa xl.length xc] 25)
  have hn := hB.size
  replace j0 := XT.In.keep (Below.keptTo hB (Nat.le_refl _)) _ j0
  have hlt0 : W.heap.size < (W.alloc (.cells #[.int .i64 op, .string (bs nm), .int .i64 xn, .int .i64 wd, .int .u64 (v : Int), .slice xa xl.length xc] 25)).heap.size := by simp
  clear he
  generalize W.alloc (.cells #[.int .i64 op, .string (bs nm), .int .i64 xn, .int .i64 wd, .int .u64 (v : Int), .slice xa xl.length xc] 25) = w1 at *
  have HA := Lib.hid (And.intro j0 (And.intro he1 (And.intro hn hlt0)))
  clear j0 he1 hn hlt0
  go_wp2_with fail
  obtain ⟨j0, he1, hn, hlt0⟩ := HA.out
  clear HA
  refine (live_any _ he1).mono ?_
  rintro e w9 ⟨rfl, hb⟩
  replace B0 := block_kept B0 hb
  replace j0 := XT.In.keep (Below.keptTo hb hn) _ j0
  replace he1 := he1.keep hb
  replace hB := hB.trans (hb.mono hB.size)
  replace hn := Nat.le_trans hn hb.size
  replace hlt0 := Nat.lt_of_lt_of_le hlt0 hb.size
  clear hb
  have HA := Lib.hid (And.intro j0 (And.intro he1 (And.intro hn hlt0)))
  clear j0 he1 hn hlt0
  obtain ⟨x0, x1, x2, x3, x4, x5⟩ := open6 B0
  go_wp2_with fail
  obtain ⟨j0, he1, hn, hlt0⟩ := HA.out
  clear HA
  refine (Hfew0.out _ hn j0).mono ?_
  rintro e w9 ⟨rfl, hb⟩
  clear x0 x1 x2 x3 x4 x5
  replace B0 := block_kept B0 hb
  replace j0 := XT.In.keep (Below.keptTo hb hn) _ j0
  replace he1 := he1.keep hb
  replace hB := hB.trans (hb.mono hB.size)
  replace hn := Nat.le_trans hn hb.size
  replace hlt0 := Nat.lt_of_lt_of_le hlt0 hb.size
  clear hb
  have HA := Lib.hid (And.intro j0 (And.intro he1 (And.intro hn hlt0)))
  clear j0 he1 hn hlt0
  cases q0 with
  | false =>
    obtain ⟨x0, x1, x2, x3, x4, x5⟩ := open6 B0
    go_wp2
    go_ret
    exact ⟨rfl, hB⟩
  | true =>
    obtain ⟨x0, x1, x2, x3, x4, x5⟩ := open6 B0
    go_wp2_with fail
    obtain ⟨j0, he1, hn, hlt0⟩ := HA.out
    clear HA
    refine (Hcx.out _ hn he1 j0).mono ?_
    rintro e w9 ⟨rfl, hb⟩
    clear x0 x1 x2 x3 x4 x5
    replace B0 := block_kept B0 hb
    replace j0 := XT.In.keep (Below.keptTo hb hn) _ j0
    replace he1 := he1.keep hb
    replace hB := hB.trans (hb.mono hB.size)
    replace hn := Nat.le_trans hn hb.size
    replace hlt0 := Nat.lt_of_lt_of_le hlt0 hb.size
    clear hb
    have HA := Lib.hid (And.intro j0 (And.intro he1 (And.intro hn hlt0)))
    clear j0 he1 hn hlt0
    by_cases hc0 : c0 = 0
    · subst hc0
      obtain ⟨x0, x1, x2, x3, x4, x5⟩ := open6 B0
      go_upto_region 5 with (fail)
      clear x0 x1 x2 x3 x4 x5
      obtain ⟨j0, he1, hn, hlt0⟩ := HA.out
      clear HA
      have BY := World.alloc_heap_new w9 (.cells #[.int .i64 op, .string (bs nm), .int .i64 xn, .int .i64 wd, .int .u64 (v : Int), .slice xa xl.length xc] 25)
      replace B0 := block_alloc B0 (.cells #[.int .i64 op, .string (bs nm), .int .i64 xn, .int .i64 wd, .int .u64 (v : Int), .slice xa xl.length xc] 25)
      have kk : Below w9.heap.size w9 (w9.alloc (.cells #[.int .i64 op, .string (bs nm), .int .i64 xn, .int .i64 wd, .int .u64 (v : Int), .slice xa xl.length xc] 25)) := (Below.refl _ _).alloc (Nat.le_refl _) _
      replace j0 := XT.In.keep (Below.keptTo kk hn) _ j0
      replace he1 := he1.keep kk
      replace hB := hB.trans (kk.mono hB.size)
      have hgy : W.heap.size < w9.heap.size := hlt0
      have hzy : (w9.alloc (.cells #[.int .i64 op, .string (bs nm), .int .i64 xn, .int .i64 wd, .int .u64 (v : Int), .slice xa xl.length xc] 25)).heap.size = w9.heap.size + 1 := by simp
      replace hn := Nat.le_trans hn kk.size
      replace hlt0 := Nat.lt_of_lt_of_le hlt0 kk.size
      clear kk
      generalize hv9 : w9.alloc (.cells #[.int .i64 op, .string (bs nm), .int .i64 xn, .int .i64 wd, .int .u64 (v : Int), .slice xa xl.length xc] 25) = v9 at *
      generalize w9.heap.size = gy at *
      clear hv9
      have h4 : m % 4 = 0 ∨ m % 4 = 1 ∨ m % 4 = 2 ∨ m % 4 = 3 := by omega
      obtain ⟨hc0, hw0, hbk, hnil, hq0⟩ := HT.out
      have hs2 : (XT.mk op nm xn wd v xa xc xl).sz ≤ 2000 := by rw [Bool.and_eq_true, decide_eq_true_eq] at hq0; exact hq0.1
      clear hq0
      rcases h4 with h4 | h4 | h4 | h4
      · have e1 : bits BinOp.and IntKind.i64 m 3 = 0 := by rw [i64_and3]; exact h4
        have hsp := sp0 hc0
        obtain ⟨N0, hN0⟩ : ∃ N, N = W.heap.size := ⟨_, rfl⟩
        have cy := fun (w' : World) h1 h2 h3 => checkX_any (XT.mk op nm (xn + 40) wd v xa xc xl) (by simp only [XT.bk] at hbk ⊢; omega) (by rw [XT.wf_mk] at hw0 ⊢; exact hw0) N0 w' h1 h2 h3
        rw [(hsp.2).1] at cy
        have sy := fun (w' : World) h1 h2 h3 => sameX_any (XT.mk op nm xn wd v xa xc xl) (by omega) (XT.mk op nm (xn + 40) wd v xa xc xl) (by simp only [XT.bk] at hbk ⊢; omega) N0 w' h1 h2 h3
        rw [(hsp.2).2] at sy
        simp only [XT.val, XT.cells] at cy sy
        have Hcy := Lib.hid cy
        have Hsy := Lib.hid sy
        clear cy sy
        have HK := Lib.hid (And.intro hc0 (And.intro hw0 (And.intro hbk (And.intro hnil (And.intro hs2 (And.intro hgy (And.intro hzy (And.intro hN0 h4))))))))
        clear hc0 hw0 hbk hnil hs2 hgy hzy hN0 h4
        have hn1 := hsp.1.1
        have hn2 := hsp.1.2
        clear hsp
        obtain ⟨x0, x1, x2, x3, x4, x5⟩ := open6 B0
        obtain ⟨z0, z1, z2, z3, z4, z5⟩ := open6 BY
        have f0 := frozen_of6s BY 0
        have f1 := frozen_of6s BY 1
        have f2 := frozen_of6s BY 2
        have f3 := frozen_of6s BY 3
        have f4 := frozen_of6s BY 4
        have f5 := frozen_of6s BY 5
        have HA := Lib.hid (And.intro j0 (And.intro he1 (And.intro hn hlt0)))
        clear j0 he1 hn hlt0
        go_upto_region 15 with (fail)
        obtain ⟨j0, he1, hn, hlt0⟩ := HA.out
        clear HA
        obtain ⟨hc0, hw0, hbk, hnil, hs2, hgy, hzy, hN0, h4⟩ := HK.out
        clear HK x0 x1 x2 x3 x4 x5 z0 z1 z2 z3 z4 z5 f0 f1 f2 f3 f4 f5
        have BYn : (v9.setCell ⟨gy, 2, none⟩ (.int .i64 (xn + 40))).heap[gy]? = some (.cells #[.int .i64 op, .string (bs nm), .int .i64 (xn + 40), .int .i64 wd, .int .u64 (v : Int), .slice xa xl.length xc] 25 (0, 0)) := by simp only [World.setCell, Array.getElem?_modify, ↓reduceIte]; rw [BY]; rfl
        have B0n : (v9.setCell ⟨gy, 2, none⟩ (.int .i64 (xn + 40))).heap[W.heap.size]? = some (.cells #[.int .i64 op, .string (bs nm), .int .i64 xn, .int .i64 wd, .int .u64 (v : Int), .slice xa xl.length xc] 25 (0, 0)) := (Below.heap_setCell v9 ⟨gy, 2, none⟩ _ W.heap.size (by show W.heap.size ≠ gy; omega)).trans B0
        have hbs : Below gy v9 (v9.setCell ⟨gy, 2, none⟩ (.int .i64 (xn + 40))) := (Below.refl _ _).setCell (p := ⟨gy, 2, none⟩) (Nat.le_refl _) _
        have hkt : KeptTo W.heap.size v9 (v9.setCell ⟨gy, 2, none⟩ (.int .i64 (xn + 40))) := Below.keptTo hbs (by omega)
        replace j0 := XT.In.keep hkt _ j0
        replace he1 : EnvA (v9.setCell ⟨gy, 2, none⟩ (.int .i64 (xn + 40))) := EnvA.low he1 (fun b h5 => by have := HE5.out; omega) hbs
        replace hB : Below W.heap.size W (v9.setCell ⟨gy, 2, none⟩ (.int .i64 (xn + 40))) := hB.trans (hbs.mono (by omega))
        replace hn : W.heap.size ≤ (v9.setCell ⟨gy, 2, none⟩ (.int .i64 (xn + 40))).heap.size := by rw [World.size_setCell]; exact hn
        replace hlt0 : W.heap.size < (v9.setCell ⟨gy, 2, none⟩ (.int .i64 (xn + 40))).heap.size := by rw [World.size_setCell]; exact hlt0
        clear BY B0 hbs hkt
        have BY := BYn
        have B0 := B0n
        clear BYn B0n
        generalize (v9.setCell ⟨gy, 2, none⟩ (.int .i64 (xn + 40))) = u9 at *
        have jy : (XT.mk op nm (xn + 40) wd v xa xc xl).In N0 u9 := by rw [hN0]; rw [XT.In_mk] at j0 ⊢; exact j0
        have jx : (XT.mk op nm xn wd v xa xc xl).In N0 u9 := by rw [hN0]; exact j0
        have hN : N0 ≤ u9.heap.size := by rw [hN0]; exact hn
        clear hc0 hw0 hbk hnil hs2 hgy hzy hN0 h4
        have HA := Lib.hid (And.intro j0 (And.intro he1 (And.intro hn (And.intro hlt0 (And.intro jy (And.intro jx hN))))))
        clear j0 he1 hn hlt0 jy jx hN
        obtain ⟨x0, x1, x2, x3, x4, x5⟩ := open6 B0
        obtain ⟨z0, z1, z2, z3, z4, z5⟩ := open6 BY
        go_wp2_with fail
        obtain ⟨j0, he1, hn, hlt0, jy, jx, hN⟩ := HA.out
        clear HA
        refine (Hcy.out _ hN he1 jy).mono ?_
        rintro e w9 ⟨rfl, hb⟩
        clear x0 x1 x2 x3 x4 x5 z0 z1 z2 z3 z4 z5
        replace BY := block_kept BY hb
        replace jy := XT.In.keep (Below.keptTo hb hN) _ jy
        replace jx := XT.In.keep (Below.keptTo hb hN) _ jx
        replace hN := Nat.le_trans hN hb.size
        replace B0 := block_kept B0 hb
        replace j0 := XT.In.keep (Below.keptTo hb hn) _ j0
        replace he1 := he1.keep hb
        replace hB := hB.trans (hb.mono hB.size)
        replace hn := Nat.le_trans hn hb.size
        replace hlt0 := Nat.lt_of_lt_of_le hlt0 hb.size
        clear hb
        have HA := Lib.hid (And.intro j0 (And.intro he1 (And.intro hn (And.intro hlt0 (And.intro jy (And.intro jx hN))))))
        clear j0 he1 hn hlt0 jy jx hN
        obtain ⟨x0, x1, x2, x3, x4, x5⟩ := open6 B0
        obtain ⟨z0, z1, z2, z3, z4, z5⟩ := open6 BY
        go_wp2_with fail
        obtain ⟨j0, he1, hn, hlt0, jy, jx, hN⟩ := HA.out
        clear HA
        refine (Hsy.out _ hN jx jy).mono ?_
        rintro e w9 ⟨rfl, hb⟩
        clear x0 x1 x2 x3 x4 x5 z0 z1 z2 z3 z4 z5
        replace BY := block_kept BY hb
        replace jy := XT.In.keep (Below.keptTo hb hN) _ jy
        replace jx := XT.In.keep (Below.keptTo hb hN) _ jx
        replace hN := Nat.le_trans hN hb.size
        replace B0 := block_kept B0 hb
        replace j0 := XT.In.keep (Below.keptTo hb hn) _ j0
        replace he1 := he1.keep hb
        replace hB := hB.trans (hb.mono hB.size)
        replace hn := Nat.le_trans hn hb.size
        replace hlt0 := Nat.lt_of_lt_of_le hlt0 hb.size
        clear hb
        have HA := Lib.hid (And.intro j0 (And.intro he1 (And.intro hn (And.intro hlt0 (And.intro jy (And.intro jx hN))))))
        clear j0 he1 hn hlt0 jy jx hN
        obtain ⟨x0, x1, x2, x3, x4, x5⟩ := open6 B0
        obtain ⟨z0, z1, z2, z3, z4, z5⟩ := open6 BY
        go_wp2_with fail
        obtain ⟨j0, he1, hn, hlt0, jy, jx, hN⟩ := HA.out
        clear HA
        refine (Hsxx.out _ hn j0).mono ?_
        rintro e w9 ⟨rfl, hb⟩
        clear x0 x1 x2 x3 x4 x5 z0 z1 z2 z3 z4 z5
        replace BY := block_kept BY hb
        replace jy := XT.In.keep (Below.keptTo hb hN) _ jy
        replace jx := XT.In.keep (Below.keptTo hb hN) _ jx
        replace hN := Nat.le_trans hN hb.size
        replace B0 := block_kept B0 hb
        replace j0 := XT.In.keep (Below.keptTo hb hn) _ j0
        replace he1 := he1.keep hb
        replace hB := hB.trans (hb.mono hB.size)
        replace hn := Nat.le_trans hn hb.size
        replace hlt0 := Nat.lt_of_lt_of_le hlt0 hb.size
        clear hb
        have HA := Lib.hid (And.intro j0 (And.intro he1 (And.intro hn (And.intro hlt0 (And.intro jy (And.intro jx hN))))))
        clear j0 he1 hn hlt0 jy jx hN
        obtain ⟨x0, x1, x2, x3, x4, x5⟩ := open6 B0
        obtain ⟨z0, z1, z2, z3, z4, z5⟩ := open6 BY
        go_wp2
        go_ret
        exact ⟨rfl, hB⟩
      · have e1 : bits BinOp.and IntKind.i64 m 3 = 1 := by rw [i64_and3]; exact h4
        have hsp := sp1 hc0
        obtain ⟨N0, hN0⟩ : ∃ N, N = W.heap.size := ⟨_, rfl⟩
        have cy := fun (w' : World) h1 h2 h3 => checkX_any (XT.mk op nm xn 65 v xa xc xl) (by simp only [XT.bk] at hbk ⊢; omega) (by rw [XT.wf_mk] at hw0 ⊢; exact hw0) N0 w' h1 h2 h3
        rw [(hsp).1] at cy
        have sy := fun (w' : World) h1 h2 h3 => sameX_any (XT.mk op nm xn wd v xa xc xl) (by omega) (XT.mk op nm xn 65 v xa xc xl) (by simp only [XT.bk] at hbk ⊢; omega) N0 w' h1 h2 h3
        rw [(hsp).2] at sy
        simp only [XT.val, XT.cells] at cy sy
        have Hcy := Lib.hid cy
        have Hsy := Lib.hid sy
        clear cy sy
        have HK := Lib.hid (And.intro hc0 (And.intro hw0 (And.intro hbk (And.intro hnil (And.intro hs2 (And.intro hgy (And.intro hzy (And.intro hN0 h4))))))))
        clear hc0 hw0 hbk hnil hs2 hgy hzy hN0 h4 hsp
        obtain ⟨x0, x1, x2, x3, x4, x5⟩ := open6 B0
        obtain ⟨z0, z1, z2, z3, z4, z5⟩ := open6 BY
        have f0 := frozen_of6s BY 0
        have f1 := frozen_of6s BY 1
        have f2 := frozen_of6s BY 2
        have f3 := frozen_of6s BY 3
        have f4 := frozen_of6s BY 4
        have f5 := frozen_of6s BY 5
        have HA := Lib.hid (And.intro j0 (And.intro he1 (And.intro hn hlt0)))
        clear j0 he1 hn hlt0
        go_upto_region 15 with (fail)
        obtain ⟨j0, he1, hn, hlt0⟩ := HA.out
        clear HA
        obtain ⟨hc0, hw0, hbk, hnil, hs2, hgy, hzy, hN0, h4⟩ := HK.out
        clear HK x0 x1 x2 x3 x4 x5 z0 z1 z2 z3 z4 z5 f0 f1 f2 f3 f4 f5
        have BYn : (v9.setCell ⟨gy, 3, none⟩ (.int .i64 65)).heap[gy]? = some (.cells #[.int .i64 op, .string (bs nm), .int .i64 xn, .int .i64 65, .int .u64 (v : Int), .slice xa xl.length xc] 25 (0, 0)) := by simp only [World.setCell, Array.getElem?_modify, ↓reduceIte]; rw [BY]; rfl
        have B0n : (v9.setCell ⟨gy, 3, none⟩ (.int .i64 65)).heap[W.heap.size]? = some (.cells #[.int .i64 op, .string (bs nm), .int .i64 xn, .int .i64 wd, .int .u64 (v : Int), .slice xa xl.length xc] 25 (0, 0)) := (Below.heap_setCell v9 ⟨gy, 3, none⟩ _ W.heap.size (by show W.heap.size ≠ gy; omega)).trans B0
        have hbs : Below gy v9 (v9.setCell ⟨gy, 3, none⟩ (.int .i64 65)) := (Below.refl _ _).setCell (p := ⟨gy, 3, none⟩) (Nat.le_refl _) _
        have hkt : KeptTo W.heap.size v9 (v9.setCell ⟨gy, 3, none⟩ (.int .i64 65)) := Below.keptTo hbs (by omega)
        replace j0 := XT.In.keep hkt _ j0
        replace he1 : EnvA (v9.setCell ⟨gy, 3, none⟩ (.int .i64 65)) := EnvA.low he1 (fun b h5 => by have := HE5.out; omega) hbs
        replace hB : Below W.heap.size W (v9.setCell ⟨gy, 3, none⟩ (.int .i64 65)) := hB.trans (hbs.mono (by omega))
        replace hn : W.heap.size ≤ (v9.setCell ⟨gy, 3, none⟩ (.int .i64 65)).heap.size := by rw [World.size_setCell]; exact hn
        replace hlt0 : W.heap.size < (v9.setCell ⟨gy, 3, none⟩ (.int .i64 65)).heap.size := by rw [World.size_setCell]; exact hlt0
        clear BY B0 hbs hkt
        have BY := BYn
        have B0 := B0n
        clear BYn B0n
        generalize (v9.setCell ⟨gy, 3, none⟩ (.int .i64 65)) = u9 at *
        have jy : (XT.mk op nm xn 65 v xa xc xl).In N0 u9 := by rw [hN0]; rw [XT.In_mk] at j0 ⊢; exact j0
        have jx : (XT.mk op nm xn wd v xa xc xl).In N0 u9 := by rw [hN0]; exact j0
        have hN : N0 ≤ u9.heap.size := by rw [hN0]; exact hn
        clear hc0 hw0 hbk hnil hs2 hgy hzy hN0 h4
        have HA := Lib.hid (And.intro j0 (And.intro he1 (And.intro hn (And.intro hlt0 (And.intro jy (And.intro jx hN))))))
        clear j0 he1 hn hlt0 jy jx hN
        obtain ⟨x0, x1, x2, x3, x4, x5⟩ := open6 B0
        obtain ⟨z0, z1, z2, z3, z4, z5⟩ := open6 BY
        go_wp2_with fail
        obtain ⟨j0, he1, hn, hlt0, jy, jx, hN⟩ := HA.out
        clear HA
        refine (Hcy.out _ hN he1 jy).mono ?_
        rintro e w9 ⟨rfl, hb⟩
        clear x0 x1 x2 x3 x4 x5 z0 z1 z2 z3 z4 z5
        replace BY := block_kept BY hb
        replace jy := XT.In.keep (Below.keptTo hb hN) _ jy
        replace jx := XT.In.keep (Below.keptTo hb hN) _ jx
        replace hN := Nat.le_trans hN hb.size
        replace B0 := block_kept B0 hb
        replace j0 := XT.In.keep (Below.keptTo hb hn) _ j0
        replace he1 := he1.keep hb
        replace hB := hB.trans (hb.mono hB.size)
        replace hn := Nat.le_trans hn hb.size
        replace hlt0 := Nat.lt_of_lt_of_le hlt0 hb.size
        clear hb
        have HA := Lib.hid (And.intro j0 (And.intro he1 (And.intro hn (And.intro hlt0 (And.intro jy (And.intro jx hN))))))
        clear j0 he1 hn hlt0 jy jx hN
        obtain ⟨x0, x1, x2, x3, x4, x5⟩ := open6 B0
        obtain ⟨z0, z1, z2, z3, z4, z5⟩ := open6 BY
        go_wp2_with fail
        obtain ⟨j0, he1, hn, hlt0, jy, jx, hN⟩ := HA.out
        clear HA
        refine (Hsy.out _ hN jx jy).mono ?_
        rintro e w9 ⟨rfl, hb⟩
        clear x0 x1 x2 x3 x4 x5 z0 z1 z2 z3 z4 z5
        replace BY := block_kept BY hb
        replace jy := XT.In.keep (Below.keptTo hb hN) _ jy
        replace jx := XT.In.keep (Below.keptTo hb hN) _ jx
        replace hN := Nat.le_trans hN hb.size
        replace B0 := block_kept B0 hb
        replace j0 := XT.In.keep (Below.keptTo hb hn) _ j0
        replace he1 := he1.keep hb
        replace hB := hB.trans (hb.mono hB.size)
        replace hn := Nat.le_trans hn hb.size
        replace hlt0 := Nat.lt_of_lt_of_le hlt0 hb.size
        clear hb
        have HA := Lib.hid (And.intro j0 (And.intro he1 (And.intro hn (And.intro hlt0 (And.intro jy (And.intro jx hN))))))
        clear j0 he1 hn hlt0 jy jx hN
        obtain ⟨x0, x1, x2, x3, x4, x5⟩ := open6 B0
        obtain ⟨z0, z1, z2, z3, z4, z5⟩ := open6 BY
        go_wp2_with fail
        obtain ⟨j0, he1, hn, hlt0, jy, jx, hN⟩ := HA.out
        clear HA
        refine (Hsxx.out _ hn j0).mono ?_
        rintro e w9 ⟨rfl, hb⟩
        clear x0 x1 x2 x3 x4 x5 z0 z1 z2 z3 z4 z5
        replace BY := block_kept BY hb
        replace jy := XT.In.keep (Below.keptTo hb hN) _ jy
        replace jx := XT.In.keep (Below.keptTo hb hN) _ jx
        replace hN := Nat.le_trans hN hb.size
        replace B0 := block_kept B0 hb
        replace j0 := XT.In.keep (Below.keptTo hb hn) _ j0
        replace he1 := he1.keep hb
        replace hB := hB.trans (hb.mono hB.size)
        replace hn := Nat.le_trans hn hb.size
        replace hlt0 := Nat.lt_of_lt_of_le hlt0 hb.size
        clear hb
        have HA := Lib.hid (And.intro j0 (And.intro he1 (And.intro hn (And.intro hlt0 (And.intro jy (And.intro jx hN))))))
        clear j0 he1 hn hlt0 jy jx hN
        obtain ⟨x0, x1, x2, x3, x4, x5⟩ := open6 B0
        obtain ⟨z0, z1, z2, z3, z4, z5⟩ := open6 BY
        go_wp2
        go_ret
        exact ⟨rfl, hB⟩
      · have e1 : bits BinOp.and IntKind.i64 m 3 = 2 := by rw [i64_and3]; exact h4
        have hsp := sp2 hc0
        have hcat : (⟨#[49]⟩ : ByteArray) ++ bs nm = bs (49 :: nm) := by apply ByteArray.ext; simp [bs, ByteArray.data_append]
        have hnl : nm.length ≤ 1048576 := by simp only [XT.bk] at hbk; omega
        obtain ⟨N0, hN0⟩ : ∃ N, N = W.heap.size := ⟨_, rfl⟩
        have cy := fun (w' : World) h1 h2 h3 => checkX_any (XT.mk op (49 :: nm) xn wd v xa xc xl) (by simp only [XT.bk, List.length_cons] at hbk ⊢; omega) (by rw [XT.wf_mk] at hw0 ⊢; exact hw0) N0 w' h1 h2 h3
        rw [(hsp).1] at cy
        have sy := fun (w' : World) h1 h2 h3 => sameX_any (XT.mk op nm xn wd v xa xc xl) (by omega) (XT.mk op (49 :: nm) xn wd v xa xc xl) (by simp only [XT.bk, List.length_cons] at hbk ⊢; omega) N0 w' h1 h2 h3
        rw [(hsp).2] at sy
        simp only [XT.val, XT.cells] at cy sy
        have Hcy := Lib.hid cy
        have Hsy := Lib.hid sy
        clear cy sy
        have HK := Lib.hid (And.intro hc0 (And.intro hw0 (And.intro hbk (And.intro hnil (And.intro hs2 (And.intro hgy (And.intro hzy (And.intro hN0 h4))))))))
        clear hc0 hw0 hbk hnil hs2 hgy hzy hN0 h4 hsp
        obtain ⟨x0, x1, x2, x3, x4, x5⟩ := open6 B0
        obtain ⟨z0, z1, z2, z3, z4, z5⟩ := open6 BY
        have f0 := frozen_of6s BY 0
        have f1 := frozen_of6s BY 1
        have f2 := frozen_of6s BY 2
        have f3 := frozen_of6s BY 3
        have f4 := frozen_of6s BY 4
        have f5 := frozen_of6s BY 5
        have HA := Lib.hid (And.intro j0 (And.intro he1 (And.intro hn hlt0)))
        clear j0 he1 hn hlt0
        go_upto_region 15 with (fail)
        obtain ⟨j0, he1, hn, hlt0⟩ := HA.out
        clear HA
        obtain ⟨hc0, hw0, hbk, hnil, hs2, hgy, hzy, hN0, h4⟩ := HK.out
        clear HK x0 x1 x2 x3 x4 x5 z0 z1 z2 z3 z4 z5 f0 f1 f2 f3 f4 f5
        have BYn : (v9.setCell ⟨gy, 1, none⟩ (.string (bs (49 :: nm)))).heap[gy]? = some (.cells #[.int .i64 op, .string (bs (49 :: nm)), .int .i64 xn, .int .i64 wd, .int .u64 (v : Int), .slice xa xl.length xc] 25 (0, 0)) := by simp only [World.setCell, Array.getElem?_modify, ↓reduceIte]; rw [BY]; rfl
        have B0n : (v9.setCell ⟨gy, 1, none⟩ (.string (bs (49 :: nm)))).heap[W.heap.size]? = some (.cells #[.int .i64 op, .string (bs nm), .int .i64 xn, .int .i64 wd, .int .u64 (v : Int), .slice xa xl.length xc] 25 (0, 0)) := (Below.heap_setCell v9 ⟨gy, 1, none⟩ _ W.heap.size (by show W.heap.size ≠ gy; omega)).trans B0
        have hbs : Below gy v9 (v9.setCell ⟨gy, 1, none⟩ (.string (bs (49 :: nm)))) := (Below.refl _ _).setCell (p := ⟨gy, 1, none⟩) (Nat.le_refl _) _
        have hkt : KeptTo W.heap.size v9 (v9.setCell ⟨gy, 1, none⟩ (.string (bs (49 :: nm)))) := Below.keptTo hbs (by omega)
        replace j0 := XT.In.keep hkt _ j0
        replace he1 : EnvA (v9.setCell ⟨gy, 1, none⟩ (.string (bs (49 :: nm)))) := EnvA.low he1 (fun b h5 => by have := HE5.out; omega) hbs
        replace hB : Below W.heap.size W (v9.setCell ⟨gy, 1, none⟩ (.string (bs (49 :: nm)))) := hB.trans (hbs.mono (by omega))
        replace hn : W.heap.size ≤ (v9.setCell ⟨gy, 1, none⟩ (.string (bs (49 :: nm)))).heap.size := by rw [World.size_setCell]; exact hn
        replace hlt0 : W.heap.size < (v9.setCell ⟨gy, 1, none⟩ (.string (bs (49 :: nm)))).heap.size := by rw [World.size_setCell]; exact hlt0
        clear BY B0 hbs hkt
        have BY := BYn
        have B0 := B0n
        clear BYn B0n
        generalize (v9.setCell ⟨gy, 1, none⟩ (.string (bs (49 :: nm)))) = u9 at *
        have jy : (XT.mk op (49 :: nm) xn wd v xa xc xl).In N0 u9 := by rw [hN0]; rw [XT.In_mk] at j0 ⊢; exact j0
        have jx : (XT.mk op nm xn wd v xa xc xl).In N0 u9 := by rw [hN0]; exact j0
        have hN : N0 ≤ u9.heap.size := by rw [hN0]; exact hn
        clear hc0 hw0 hbk hnil hs2 hgy hzy hN0 h4
        have HA := Lib.hid (And.intro j0 (And.intro he1 (And.intro hn (And.intro hlt0 (And.intro jy (And.intro jx hN))))))
        clear j0 he1 hn hlt0 jy jx hN
        obtain ⟨x0, x1, x2, x3, x4, x5⟩ := open6 B0
        obtain ⟨z0, z1, z2, z3, z4, z5⟩ := open6 BY
        go_wp2_with fail
        obtain ⟨j0, he1, hn, hlt0, jy, jx, hN⟩ := HA.out
        clear HA
        refine (Hcy.out _ hN he1 jy).mono ?_
        rintro e w9 ⟨rfl, hb⟩
        clear x0 x1 x2 x3 x4 x5 z0 z1 z2 z3 z4 z5
        replace BY := block_kept BY hb
        replace jy := XT.In.keep (Below.keptTo hb hN) _ jy
        replace jx := XT.In.keep (Below.keptTo hb hN) _ jx
        replace hN := Nat.le_trans hN hb.size
        replace B0 := block_kept B0 hb
        replace j0 := XT.In.keep (Below.keptTo hb hn) _ j0
        replace he1 := he1.keep hb
        replace hB := hB.trans (hb.mono hB.size)
        replace hn := Nat.le_trans hn hb.size
        replace hlt0 := Nat.lt_of_lt_of_le hlt0 hb.size
        clear hb
        have HA := Lib.hid (And.intro j0 (And.intro he1 (And.intro hn (And.intro hlt0 (And.intro jy (And.intro jx hN))))))
        clear j0 he1 hn hlt0 jy jx hN
        obtain ⟨x0, x1, x2, x3, x4, x5⟩ := open6 B0
        obtain ⟨z0, z1, z2, z3, z4, z5⟩ := open6 BY
        go_wp2_with fail
        obtain ⟨j0, he1, hn, hlt0, jy, jx, hN⟩ := HA.out
        clear HA
        refine (Hsy.out _ hN jx jy).mono ?_
        rintro e w9 ⟨rfl, hb⟩
        clear x0 x1 x2 x3 x4 x5 z0 z1 z2 z3 z4 z5
        replace BY := block_kept BY hb
        replace jy := XT.In.keep (Below.keptTo hb hN) _ jy
        replace jx := XT.In.keep (Below.keptTo hb hN) _ jx
        replace hN := Nat.le_trans hN hb.size
        replace B0 := block_kept B0 hb
        replace j0 := XT.In.keep (Below.keptTo hb hn) _ j0
        replace he1 := he1.keep hb
        replace hB := hB.trans (hb.mono hB.size)
        replace hn := Nat.le_trans hn hb.size
        replace hlt0 := Nat.lt_of_lt_of_le hlt0 hb.size
        clear hb
        have HA := Lib.hid (And.intro j0 (And.intro he1 (And.intro hn (And.intro hlt0 (And.intro jy (And.intro jx hN))))))
        clear j0 he1 hn hlt0 jy jx hN
        obtain ⟨x0, x1, x2, x3, x4, x5⟩ := open6 B0
        obtain ⟨z0, z1, z2, z3, z4, z5⟩ := open6 BY
        go_wp2_with fail
        obtain ⟨j0, he1, hn, hlt0, jy, jx, hN⟩ := HA.out
        clear HA
        refine (Hsxx.out _ hn j0).mono ?_
        rintro e w9 ⟨rfl, hb⟩
        clear x0 x1 x2 x3 x4 x5 z0 z1 z2 z3 z4 z5
        replace BY := block_kept BY hb
        replace jy := XT.In.keep (Below.keptTo hb hN) _ jy
        replace jx := XT.In.keep (Below.keptTo hb hN) _ jx
        replace hN := Nat.le_trans hN hb.size
        replace B0 := block_kept B0 hb
        replace j0 := XT.In.keep (Below.keptTo hb hn) _ j0
        replace he1 := he1.keep hb
        replace hB := hB.trans (hb.mono hB.size)
        replace hn := Nat.le_trans hn hb.size
        replace hlt0 := Nat.lt_of_lt_of_le hlt0 hb.size
        clear hb
        have HA := Lib.hid (And.intro j0 (And.intro he1 (And.intro hn (And.intro hlt0 (And.intro jy (And.intro jx hN))))))
        clear j0 he1 hn hlt0 jy jx hN
        obtain ⟨x0, x1, x2, x3, x4, x5⟩ := open6 B0
        obtain ⟨z0, z1, z2, z3, z4, z5⟩ := open6 BY
        go_wp2
        go_ret
        exact ⟨rfl, hB⟩
      · have e1 : bits BinOp.and IntKind.i64 m 3 = 3 := by rw [i64_and3]; exact h4
        have hll : xl.length ≤ 1048576 := by { have h9 := XT.bkL_len xl; simp only [XT.bk] at hbk; omega }
        have HK := Lib.hid (And.intro hc0 (And.intro hw0 (And.intro hbk (And.intro hs2 (And.intro hgy (And.intro hzy (And.intro hll h4)))))))
        have HNIL := Lib.hid hnil
        obtain ⟨gn, hgn⟩ : ∃ g, v9.heap.size = g := ⟨_, rfl⟩
        have hown0 : (v9.alloc (.cells #[] 25)).ownsRow gn 25 6 (.slice (some ⟨gn, 0, none⟩) 0 0) 0 [] := by rw [← hgn]; exact ⟨rfl, .inr ⟨v9.heap.size, 0, #[], rfl, Nat.le_refl _, World.alloc_heap_new v9 _, Nat.le_refl _, by decide, rfl, rfl⟩⟩
        have hrow : InRow 6 XT.cells (XT.In W.heap.size v9) W.heap.size v9 xl xa := by have h9 := j0; rw [XT.In_mk] at h9; exact h9
        have kE : Below v9.heap.size v9 (v9.alloc (.cells #[] 25)) := (Below.refl _ _).alloc (Nat.le_refl _) _
        have hrow1 := hrow.keep (Below.keptTo kE (by omega)) (fun x _ => XT.In.keep (Below.keptTo kE (by omega)) x)
        have HR := Lib.hid (And.intro hown0 hrow1)
        have HGN := Lib.hid hgn
        clear hc0 hw0 hbk hnil hs2 hgy hzy hll h4 hown0 hrow hrow1 kE hgn
        obtain ⟨x0, x1, x2, x3, x4, x5⟩ := open6 B0
        obtain ⟨z0, z1, z2, z3, z4, z5⟩ := open6 BY
        have f0 := frozen_of6s BY 0
        have f1 := frozen_of6s BY 1
        have f2 := frozen_of6s BY 2
        have f3 := frozen_of6s BY 3
        have f4 := frozen_of6s BY 4
        have f5 := frozen_of6s BY 5
        have HA := Lib.hid (And.intro j0 (And.intro he1 (And.intro hn hlt0)))
        clear j0 he1 hn hlt0
        go_upto_region 13 with (fail)
        have x5A := fun O => alloc_cell x5 O
        go_upto_region 14 with (at_builtin; refine wpList_append_row rfl (.tmp 37) (.tmp 39) rfl gn (.slice (some ⟨gn, 0, none⟩) 0 0) 0 [] (by first | rfl | (rw [← HGN.out]; rfl)) HR.out.1 xa xl xc rfl HNIL.out (XT.In W.heap.size _) W.heap.size HR.out.2 (by have := HK.out.2.2.2.2.2.2.1; omega) (by rw [← HGN.out]; simp) ?_; intro v5 w5 own5 hg5; rw [Nat.zero_add, List.nil_append] at own5; obtain ⟨a5, c5, rfl⟩ := own_shape own5; have BY5 := grown_kept BY hg5 HGN.out; have B05 := grown_kept B0 hg5 HGN.out; obtain ⟨y0, y1, y2, y3, y4, y5⟩ := open6 BY5; have f5 := frozen_of6s BY5 5)
        obtain ⟨hc0, hw0, hbk, hs2, hgy, hzy, hll, h4⟩ := HK.out
        clear HK x0 x1 x2 x3 x4 x5 z0 z1 z2 z3 z4 z5 x5A y0 y1 y2 y3 y4 y5 f0 f1 f2 f3 f4 f5
        obtain ⟨j0, he1, hn, hlt0⟩ := HA.out
        clear HA
        have hgn := HGN.out
        have hrx := HR.out.2
        have kE : Below (gy + 1) v9 (v9.alloc (.cells #[] 25)) := (Below.refl _ _).alloc (by omega) _
        have k5 : Below (gy + 1) v9 w5 := kE.trans ((Below.refl (gy + 1) _).grown hg5 (by rw [World.size_alloc]; omega) (fun k e => by { have h9 : gn = k := Option.some.inj e; omega }))
        obtain ⟨V5, hV5⟩ : ∃ V, V = Value.slice a5 xl.length c5 := ⟨_, rfl⟩
        skip
        have BY6 : (w5.setCell ⟨gy, 5, none⟩ (.slice a5 xl.length c5)).heap[gy]? = some (.cells #[.int .i64 op, .string (bs nm), .int .i64 xn, .int .i64 wd, .int .u64 (v : Int), .slice a5 xl.length c5] 25 (0, 0)) := by simp only [World.setCell, Array.getElem?_modify, ↓reduceIte]; rw [BY5]; rfl
        have B06 : (w5.setCell ⟨gy, 5, none⟩ (.slice a5 xl.length c5)).heap[W.heap.size]? = some (.cells #[.int .i64 op, .string (bs nm), .int .i64 xn, .int .i64 wd, .int .u64 (v : Int), .slice xa xl.length xc] 25 (0, 0)) := (Below.heap_setCell w5 ⟨gy, 5, none⟩ _ W.heap.size (by show W.heap.size ≠ gy; omega)).trans B05
        have own6 := ownsRow_setCell_below own5 (a := ⟨gy, 5, none⟩) (by show gy < gn; omega) (.slice a5 xl.length c5)
        have k5b : Below gy v9 w5 := k5.mono (Nat.le_succ gy)
        have k6 : Below gy v9 (w5.setCell ⟨gy, 5, none⟩ (.slice a5 xl.length c5)) := k5b.setCell (p := ⟨gy, 5, none⟩) (Nat.le_refl _) _
        have hz6 : gn ≤ (w5.setCell ⟨gy, 5, none⟩ (.slice a5 xl.length c5)).heap.size := by have := k5.size; rw [World.size_setCell]; omega
        clear BY5 B05 own5 hg5 kE k5 k5b hrx HR
        generalize w5.setCell ⟨gy, 5, none⟩ (.slice a5 xl.length c5) = w6 at *
        have ZB := World.alloc_heap_new w6 (.cells #[.int .i64 0, .string ⟨#[]⟩, .int .i64 0, .int .i64 0, .int .u64 0, .slice none 0 0] 25)
        have hown6 := own6.alloc (.cells #[.int .i64 0, .string ⟨#[]⟩, .int .i64 0, .int .i64 0, .int .u64 0, .slice none 0 0] 25)
        have hr6 : InRow 6 XT.cells (fun _ => True) (w6.heap.size + 1) (w6.alloc (.cells #[.int .i64 0, .string ⟨#[]⟩, .int .i64 0, .int .i64 0, .int .u64 0, .slice none 0 0] 25)) [X0] (some ⟨w6.heap.size, 0, none⟩) := ⟨⟨w6.heap.size, 0, rfl, by omega, rowc_of (o := 0) ZB rfl⟩, trivial, trivial⟩
        have HR6 := Lib.hid (And.intro hown6 (And.intro hr6 hz6))
        obtain ⟨z0, z1, z2, z3, z4, z5⟩ := open6 BY6
        have HK := Lib.hid (And.intro hc0 (And.intro hw0 (And.intro hbk (And.intro hs2 (And.intro hgy (And.intro hzy (And.intro hll (And.intro k6 (And.intro hgn own6)))))))))
        clear hc0 hw0 hbk hs2 hgy hzy hll h4 k6 hgn own6 hown6 hr6 ZB hz6 hV5 V5 HGN
        have HA := Lib.hid (And.intro j0 (And.intro he1 (And.intro hn hlt0)))
        clear j0 he1 hn hlt0
        go_upto_region 15 with (at_builtin; refine wpList_append_row rfl (.tmp 43) (.tmp 45) rfl gn (.slice a5 xl.length c5) xl.length (xl.flatMap XT.cells) rfl HR6.out.1 (some ⟨w6.heap.size, 0, none⟩) [X0] 1 rfl (fun e => by cases e) (fun _ => True) (w6.heap.size + 1) HR6.out.2.1 (by have := HK.out.2.2.2.2.2.2.1; simp; omega) (by have := HR6.out.2.2; simp; omega) ?_; intro v7 w7 own7 hg7; obtain ⟨g7, c7, rfl⟩ := own_some own7 (by simp); have BY7 := grown_kept2 BY6 hg7 (by have := HK.out.2.2.2.2.2.1; have := HK.out.2.2.2.2.2.2.2.2.1; omega) HK.out.2.2.2.2.2.2.2.2.2; have B07 := grown_kept2 B06 hg7 (by have := HK.out.2.2.2.2.1; have := HK.out.2.2.2.2.2.1; have := HK.out.2.2.2.2.2.2.2.2.1; omega) HK.out.2.2.2.2.2.2.2.2.2; obtain ⟨y0, y1, y2, y3, y4, y5⟩ := open6 BY7; have f5 := frozen_of6s BY7 5)
        obtain ⟨hc0, hw0, hbk, hs2, hgy, hzy, hll, k6, hgn, own6⟩ := HK.out
        have hz6 := HR6.out.2.2
        clear HK HR6 z0 z1 z2 z3 z4 z5
        obtain ⟨j0, he1, hn, hlt0⟩ := HA.out
        clear HA
        have kE : Below gn w6 (w6.alloc (.cells #[.int .i64 0, .string ⟨#[]⟩, .int .i64 0, .int .i64 0, .int .u64 0, .slice none 0 0] 25)) := (Below.refl _ _).alloc hz6 _
        have k7 : Below gn w6 w7 := kE.trans ((Below.refl gn _).grown hg7 (by rw [World.size_alloc]; omega) (fun k e => (own6.lt k e).1))
        have k7b : Below gy v9 w7 := k6.trans (k7.mono (show gy ≤ gn by omega))
        have k8 : Below gy v9 (w7.setCell ⟨gy, 5, none⟩ (.slice (some ⟨g7, 0, none⟩) (xl.length + 1) c7)) := k7b.setCell (p := ⟨gy, 5, none⟩) (Nat.le_refl _) _
        have own8 := ownsRow_setCell_below own7 (a := ⟨gy, 5, none⟩) (by show gy < gn; omega) (.slice (some ⟨g7, 0, none⟩) (xl.length + 1) c7)
        have BYn : (w7.setCell ⟨gy, 5, none⟩ (.slice (some ⟨g7, 0, none⟩) (xl.length + 1) c7)).heap[gy]? = some (.cells #[.int .i64 op, .string (bs nm), .int .i64 xn, .int .i64 wd, .int .u64 (v : Int), .slice (some ⟨g7, 0, none⟩) (xl.length + 1) c7] 25 (0, 0)) := by simp only [World.setCell, Array.getElem?_modify, ↓reduceIte]; rw [BY7]; rfl
        have B0n : (w7.setCell ⟨gy, 5, none⟩ (.slice (some ⟨g7, 0, none⟩) (xl.length + 1) c7)).heap[W.heap.size]? = some (.cells #[.int .i64 op, .string (bs nm), .int .i64 xn, .int .i64 wd, .int .u64 (v : Int), .slice xa xl.length xc] 25 (0, 0)) := (Below.heap_setCell w7 ⟨gy, 5, none⟩ _ W.heap.size (by show W.heap.size ≠ gy; omega)).trans B07
        have hkt : KeptTo W.heap.size v9 (w7.setCell ⟨gy, 5, none⟩ (.slice (some ⟨g7, 0, none⟩) (xl.length + 1) c7)) := Below.keptTo k8 (by omega)
        replace j0 := XT.In.keep hkt _ j0
        replace he1 : EnvA (w7.setCell ⟨gy, 5, none⟩ (.slice (some ⟨g7, 0, none⟩) (xl.length + 1) c7)) := EnvA.low he1 (fun b h5 => by have := HE5.out; omega) k8
        replace hB : Below W.heap.size W (w7.setCell ⟨gy, 5, none⟩ (.slice (some ⟨g7, 0, none⟩) (xl.length + 1) c7)) := hB.trans (k8.mono (by omega))
        replace hn : W.heap.size ≤ (w7.setCell ⟨gy, 5, none⟩ (.slice (some ⟨g7, 0, none⟩) (xl.length + 1) c7)).heap.size := Nat.le_trans hn k8.size
        replace hlt0 : W.heap.size < (w7.setCell ⟨gy, 5, none⟩ (.slice (some ⟨g7, 0, none⟩) (xl.length + 1) c7)).heap.size := Nat.lt_of_lt_of_le hlt0 k8.size
        clear BY7 B07 BY6 B06 B0 BY kE k7 k7b k6 own7 hg7
        have BY := BYn
        have B0 := B0n
        clear BYn B0n
        generalize (w7.setCell ⟨gy, 5, none⟩ (.slice (some ⟨g7, 0, none⟩) (xl.length + 1) c7)) = u9 at *
        obtain ⟨N0, hN0⟩ : ∃ N, N = u9.heap.size := ⟨_, rfl⟩
        have hg7l : g7 < u9.heap.size := (own8.lt g7 rfl).2
        have hxl : ∀ x ∈ xl, x.In W.heap.size u9 := by have h9 := j0; rw [XT.In_mk] at h9; exact h9.all
        have jy : (XT.mk op nm xn wd v (some ⟨g7, 0, none⟩) c7 (xl ++ [X0])).In N0 u9 := by rw [hN0, XT.In_mk]; exact inrow_of_flat hg7l (fun j u hu => by { have h9 := own8.cells (g := g7) rfl j u (by rw [← hu, List.flatMap_append]); rw [Addr.add_mid] at h9; exact h9 }) (fun x hx => by { rcases List.mem_append.1 hx with h | h; { exact XT.In.less hn _ (hxl x h) }; { simp at h; rw [h]; exact X0_in _ _ } })
        have jx : (XT.mk op nm xn wd v xa xc xl).In N0 u9 := by rw [hN0]; exact XT.In.less hn _ j0
        have hN : N0 ≤ u9.heap.size := Nat.le_of_eq hN0
        have hsp := sp3 (some ⟨g7, 0, none⟩) c7 hc0 hs2
        have hby : (XT.mk op nm xn wd v (some ⟨g7, 0, none⟩) c7 (xl ++ [X0])).bk ≤ 1500000 := by simp only [XT.bk] at hbk ⊢; rw [bkL_app]; have : XT.bkL [X0] = 1 := rfl; omega
        have hwy : (XT.mk op nm xn wd v (some ⟨g7, 0, none⟩) c7 (xl ++ [X0])).Wf := by rw [XT.wf_mk] at hw0 ⊢; exact ⟨hw0.1, fun x hx => by { rcases List.mem_append.1 hx with h | h; { exact hw0.2 x h }; { simp at h; rw [h]; exact X0_wf } }⟩
        have cy := fun (w' : World) h1 h2 h3 => checkX_any (XT.mk op nm xn wd v (some ⟨g7, 0, none⟩) c7 (xl ++ [X0])) (hby) (hwy) N0 w' h1 h2 h3
        rw [(hsp).1] at cy
        have sy := fun (w' : World) h1 h2 h3 => sameX_any (XT.mk op nm xn wd v xa xc xl) (by omega) (XT.mk op nm xn wd v (some ⟨g7, 0, none⟩) c7 (xl ++ [X0])) (hby) N0 w' h1 h2 h3
        rw [(hsp).2] at sy
        simp only [XT.val, XT.cells, List.length_append, List.length_cons, List.length_nil, Nat.zero_add] at cy sy
        have Hcy := Lib.hid cy
        have Hsy := Lib.hid sy
        clear cy sy
        clear hc0 hw0 hbk hs2 hgy hzy hll hgn own6 own8 hz6 hkt k8 hxl hg7l hN0 hsp hby hwy
        have HA := Lib.hid (And.intro j0 (And.intro he1 (And.intro hn (And.intro hlt0 (And.intro jy (And.intro jx hN))))))
        clear j0 he1 hn hlt0 jy jx hN
        obtain ⟨x0, x1, x2, x3, x4, x5⟩ := open6 B0
        obtain ⟨z0, z1, z2, z3, z4, z5⟩ := open6 BY
        go_wp2_with fail
        obtain ⟨j0, he1, hn, hlt0, jy, jx, hN⟩ := HA.out
        clear HA
        refine (Hcy.out _ hN he1 jy).mono ?_
        rintro e w9 ⟨rfl, hb⟩
        clear x0 x1 x2 x3 x4 x5 z0 z1 z2 z3 z4 z5
        replace BY := block_kept BY hb
        replace jy := XT.In.keep (Below.keptTo hb hN) _ jy
        replace jx := XT.In.keep (Below.keptTo hb hN) _ jx
        replace hN := Nat.le_trans hN hb.size
        replace B0 := block_kept B0 hb
        replace j0 := XT.In.keep (Below.keptTo hb hn) _ j0
        replace he1 := he1.keep hb
        replace hB := hB.trans (hb.mono hB.size)
        replace hn := Nat.le_trans hn hb.size
        replace hlt0 := Nat.lt_of_lt_of_le hlt0 hb.size
        clear hb
        have HA := Lib.hid (And.intro j0 (And.intro he1 (And.intro hn (And.intro hlt0 (And.intro jy (And.intro jx hN))))))
        clear j0 he1 hn hlt0 jy jx hN
        obtain ⟨x0, x1, x2, x3, x4, x5⟩ := open6 B0
        obtain ⟨z0, z1, z2, z3, z4, z5⟩ := open6 BY
        go_wp2_with fail
        obtain ⟨j0, he1, hn, hlt0, jy, jx, hN⟩ := HA.out
        clear HA
        refine (Hsy.out _ hN jx jy).mono ?_
        rintro e w9 ⟨rfl, hb⟩
        clear x0 x1 x2 x3 x4 x5 z0 z1 z2 z3 z4 z5
        replace BY := block_kept BY hb
        replace jy := XT.In.keep (Below.keptTo hb hN) _ jy
        replace jx := XT.In.keep (Below.keptTo hb hN) _ jx
        replace hN := Nat.le_trans hN hb.size
        replace B0 := block_kept B0 hb
        replace j0 := XT.In.keep (Below.keptTo hb hn) _ j0
        replace he1 := he1.keep hb
        replace hB := hB.trans (hb.mono hB.size)
        replace hn := Nat.le_trans hn hb.size
        replace hlt0 := Nat.lt_of_lt_of_le hlt0 hb.size
        clear hb
        have HA := Lib.hid (And.intro j0 (And.intro he1 (And.intro hn (And.intro hlt0 (And.intro jy (And.intro jx hN))))))
        clear j0 he1 hn hlt0 jy jx hN
        obtain ⟨x0, x1, x2, x3, x4, x5⟩ := open6 B0
        obtain ⟨z0, z1, z2, z3, z4, z5⟩ := open6 BY
        go_wp2_with fail
        obtain ⟨j0, he1, hn, hlt0, jy, jx, hN⟩ := HA.out
        clear HA
        refine (Hsxx.out _ hn j0).mono ?_
        rintro e w9 ⟨rfl, hb⟩
        clear x0 x1 x2 x3 x4 x5 z0 z1 z2 z3 z4 z5
        replace BY := block_kept BY hb
        replace jy := XT.In.keep (Below.keptTo hb hN) _ jy
        replace jx := XT.In.keep (Below.keptTo hb hN) _ jx
        replace hN := Nat.le_trans hN hb.size
        replace B0 := block_kept B0 hb
        replace j0 := XT.In.keep (Below.keptTo hb hn) _ j0
        replace he1 := he1.keep hb
        replace hB := hB.trans (hb.mono hB.size)
        replace hn := Nat.le_trans hn hb.size
        replace hlt0 := Nat.lt_of_lt_of_le hlt0 hb.size
        clear hb
        have HA := Lib.hid (And.intro j0 (And.intro he1 (And.intro hn (And.intro hlt0 (And.intro jy (And.intro jx hN))))))
        clear j0 he1 hn hlt0 jy jx hN
        obtain ⟨x0, x1, x2, x3, x4, x5⟩ := open6 B0
        obtain ⟨z0, z1, z2, z3, z4, z5⟩ := open6 BY
        go_wp2
        go_ret
        exact ⟨rfl, hB⟩
    · have hc2 : (c0 == 0) = false := by simpa using hc0
      have hc3 : decide (c0 = 0) = false := by simpa using hc0
      obtain ⟨x0, x1, x2, x3, x4, x5⟩ := open6 B0
      go_wp2
      go_ret
      exact ⟨rfl, hB⟩
/-- A row that lies nowhere has no room. -/
def XT.nilOk : XT → Prop | .mk _ _ _ _ _ a c _ => a = none → c = 0
theorem spoilt_law (x : XT) (m : Int) (hb0 : x.bk ≤ 1048576) (hw0 : x.Wf) (W : World) (he : EnvA W) (hx : x.In W.heap.size W) (hnil : x.nilOk) : Calls Tryd.prog 4 #[x.val, .int .i64 m] W fun e w' => e = .returned (.bool true) ∧ Below W.heap.size W w' := by
  obtain ⟨op, nm, xn, wd, v, xa, xc, xl⟩ := x
  exact spoilt_walk op nm xn wd v xa xc xl m hb0 hw0 W he hx hnil
end Go.Proofs.YtppgfedakcmgcaaDoor
