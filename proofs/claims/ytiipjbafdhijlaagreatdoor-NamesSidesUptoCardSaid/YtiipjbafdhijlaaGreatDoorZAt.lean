/-
  AsQt, in one text.
-/
import Derived.Test.YtiipjbafdhijlaaGreatDoorZAQ
import Derived.Test.YtiipjbafdhijlaaGreatDoorZAJ
namespace Go.Proofs.YtiipjbafdhijlaaGreatDoor
open Go Go.RowKit
set_option linter.unusedVariables false
set_option linter.unusedSimpArgs false
open Go.Sort
set_option maxHeartbeats 32000000 in
set_option maxRecDepth 9000000 in
theorem mayI_true (op : Int) (nm nf : Bytes) (xa : Option Addr) (xc : Nat) (xl : List XT) (sa : Option Addr) (sc : Nat) (sl : List ST) (la : Option Addr) (lc : Nat) (ll : List IT) (ea : Option Addr) (ec : Nat) (el : List IT) (pa : Option Addr) (pc : Nat) (pl : List BT) (ba : Option Addr) (bc : Nat) (bl : List BT) (hkt : (ki op.toNat).2.2.1 = true)
  (ih0 : ∀ x ∈ ll, x.bk ≤ 4500000 → x.Wf → ∀ (n0 : Nat) (w : World), n0 ≤ w.heap.size → EnvA w → x.In n0 w → Calls Tryz.prog 117 #[x.val] w fun e w' => e = .returned (.bool (mayI x)) ∧ Below w.heap.size w w')
  (ih1 : ∀ x ∈ el, x.bk ≤ 4500000 → x.Wf → ∀ (n0 : Nat) (w : World), n0 ≤ w.heap.size → EnvA w → x.In n0 w → Calls Tryz.prog 117 #[x.val] w fun e w' => e = .returned (.bool (mayI x)) ∧ Below w.heap.size w w')
  (hbk : (IT.mk op nm nf xa xc xl sa sc sl la lc ll ea ec el pa pc pl ba bc bl).bk ≤ 4500000) (hwf : (IT.mk op nm nf xa xc xl sa sc sl la lc ll ea ec el pa pc pl ba bc bl).Wf) (n0 : Nat) (w : World) (hn0 : n0 ≤ w.heap.size) (he : EnvA w) (hin : (IT.mk op nm nf xa xc xl sa sc sl la lc ll ea ec el pa pc pl ba bc bl).In n0 w) : Calls Tryz.prog 117 #[(IT.mk op nm nf xa xc xl sa sc sl la lc ll ea ec el pa pc pl ba bc bl).val] w fun e w' => e = .returned (.bool (mayI (IT.mk op nm nf xa xc xl sa sc sl la lc ll ea ec el pa pc pl ba bc bl))) ∧ Below w.heap.size w w' := by
 rw [IT.In_mk] at hin
 obtain ⟨i0, i1, i2, i3, i4, i5⟩ := hin
 rw [IT.Wf, XT.wfL_iff, ST.wfL_iff, IT.wfL_iff, IT.wfL_iff, BT.wfL_iff, BT.wfL_iff] at hwf
 obtain ⟨g0, g1, g2, g3, g4, g5⟩ := hwf
 simp only [IT.bk] at hbk
 have l0 := XT.bkL_len xl
 have l1 := ST.bkL_len sl
 have l2 := IT.bkL_len ll
 have l3 := IT.bkL_len el
 have l4 := BT.bkL_len pl
 have l5 := BT.bkL_len bl
 have hm := fun w => among_any op 11 w
 have c_x := fun (w' : World) h1 h2 h3 => allX_any mayX n0 xl (by omega) (fun y hy w2 e1 e2 e3 => mayX_any y (by have := XT.bkL_mem hy; omega) (g0 y hy) n0 w2 e1 e2 e3) xa xc w' h1 h2 h3
 have c_s := fun (w' : World) h1 h2 h3 => allStand_any standS n0 sl (by omega) (fun y hy w2 e1 e2 e3 => stand_any y (by have := ST.bkL_mem hy; omega) (g1 y hy) n0 w2 e1 e2 e3) sa sc w' h1 h2 h3
 have c_l := fun (w' : World) h1 h2 h3 => allI_any mayI n0 ll (by omega) (fun y hy w2 e1 e2 e3 => ih0 y hy (by have := IT.bkL_mem hy; omega) (g2 y hy) n0 w2 e1 e2 e3) la lc w' h1 h2 h3
 have c_e := fun (w' : World) h1 h2 h3 => allI_any mayI n0 el (by omega) (fun y hy w2 e1 e2 e3 => ih1 y hy (by have := IT.bkL_mem hy; omega) (g3 y hy) n0 w2 e1 e2 e3) ea ec w' h1 h2 h3
 have c_p := fun (w' : World) h1 h2 h3 => allB_any mayB' n0 pl (by omega) (fun y hy w2 e1 e2 e3 => bindMay_any y (by have := BT.bkL_mem hy; omega) (g4 y hy) n0 w2 e1 e2 e3) pa pc w' h1 h2 h3
 have c_b := fun (w' : World) h1 h2 h3 => allB_any mayB' n0 bl (by omega) (fun y hy w2 e1 e2 e3 => bindMay_any y (by have := BT.bkL_mem hy; omega) (g5 y hy) n0 w2 e1 e2 e3) ba bc w' h1 h2 h3
 have HI : Hid (mayI (.mk op nm nf xa xc xl sa sc sl la lc ll ea ec el pa pc pl ba bc bl) = (amongB op 11 && (nameB nm (ki op.toNat).1 && (nameB nf (ki op.toNat).2.1 && (((xl.length : Int) == (ki op.toNat).2.2.2.1) && (xl.all mayX && (headB (ki op.toNat).2.2.1 xl && (countB sl.length 0 (ki op.toNat).2.2.2.2.1 && (sl.all standS && (countB ll.length 0 (ki op.toNat).2.2.2.2.2.1 && (ll.all mayI && (countB el.length 0 (ki op.toNat).2.2.2.2.2.2.1 && (el.all mayI && (countB pl.length 0 (ki op.toNat).2.2.2.2.2.2.2 && (pl.all mayB' && (countB bl.length 0 (ki op.toNat).2.2.2.2.2.2.2 && (bl.all mayB'))))))))))))))))) := Lib.hid (by rw [mayI, mayIL_all, mayIL_all])
 generalize mayI (.mk op nm nf xa xc xl sa sc sl la lc ll ea ec el pa pc pl ba bc bl) = R at *
 clear ih0 ih1 g0 g1 g2 g3 g4 g5
 simp only [IT.val, IT.cells]
 cases hb : amongB op 11 with
 | false =>
  rw [hb] at hm
  replace HI : Hid (R = false) := Lib.hid (by rw [HI.out, hb]; rfl)
  clear hb he c_x c_s c_l c_e c_p c_b i0 i1 i2 i3 i4 i5
  go_enter Tryz.func117, Tryz.ntmps117
  go_wp2_with fail
  refine (hm _).mono ?_
  rintro e w1 ⟨rfl, rfl⟩
  go_wp2
  go_ret
  exact ⟨by rw [HI.out]; rfl, (Below.refl _ _).alloc (Nat.le_refl _) _⟩
 | true =>
  rw [hb] at hm
  have hr : 1 ≤ op ∧ op < 11 := by unfold amongB at hb; simpa using hb
  obtain ⟨k, rfl⟩ : ∃ k : Nat, op = (k : Int) := ⟨op.toNat, by omega⟩
  replace HI : Hid (R = (nameB nm (ki k).1 && (nameB nf (ki k).2.1 && (((xl.length : Int) == (ki k).2.2.2.1) && (xl.all mayX && (headB (ki k).2.2.1 xl && (countB sl.length 0 (ki k).2.2.2.2.1 && (sl.all standS && (countB ll.length 0 (ki k).2.2.2.2.2.1 && (ll.all mayI && (countB el.length 0 (ki k).2.2.2.2.2.2.1 && (el.all mayI && (countB pl.length 0 (ki k).2.2.2.2.2.2.2 && (pl.all mayB' && (countB bl.length 0 (ki k).2.2.2.2.2.2.2 && (bl.all mayB')))))))))))))))) := Lib.hid (by rw [HI.out, hb, Int.toNat_natCast]; rfl)
  have htg := ki_target k (by omega) (by omega)
  have hX := (he.alloc (.cells #[.int .i64 (k : Int), .string (bs nm), .string (bs nf), .slice xa xl.length xc, .slice sa sl.length sc, .slice la ll.length lc, .slice ea el.length ec, .slice pa pl.length pc, .slice ba bl.length bc] 48)).ik k (by omega)
  have c0 := hX 0 _ rfl
  have c1 := hX 1 _ rfl
  have c2 := hX 2 _ rfl
  have c3 := hX 3 _ rfl
  have c4 := hX 4 _ rfl
  have c5 := hX 5 _ rfl
  have c6 := hX 6 _ rfl
  have c7 := hX 7 _ rfl
  simp only [Nat.add_zero] at c0
  obtain ⟨kn, kof, kt, kx0, kS, kL, kE, kB, hk⟩ : ∃ a b c d e g i j, ki k = (a, b, c, d, e, g, i, j) := ⟨_, _, _, _, _, _, _, _, rfl⟩
  rw [Int.toNat_natCast] at hkt
  rw [hk] at c0 c1 c2 c3 c4 c5 c6 c7 HI htg hkt
  simp only at c0 c1 c2 c3 c4 c5 c6 c7 HI htg hkt
  subst hkt
  have q1 : (k : Int) < 11 := hr.2
  have q2 : k < 11 := by omega
  clear hb hr hX hk
  have c_n := fun (w' : World) h1 => nameFits_any nm kn (by omega) w' h1
  have c_f := fun (w' : World) h1 => nameFits_any nf kof (by omega) w' h1
  have n_s := fun w => countFits_any (sl.length : Int) 0 kS w
  have n_l := fun w => countFits_any (ll.length : Int) 0 kL w
  have n_e := fun w => countFits_any (el.length : Int) 0 kE w
  have n_p := fun w => countFits_any (pl.length : Int) 0 kB w
  have n_b := fun w => countFits_any (bl.length : Int) 0 kB w
  obtain ⟨b1, hb1⟩ : ∃ b, nameB nm kn = b := ⟨_, rfl⟩
  obtain ⟨b2, hb2⟩ : ∃ b, nameB nf kof = b := ⟨_, rfl⟩
  obtain ⟨b3, hb3⟩ : ∃ b, ((xl.length : Int) == kx0) = b := ⟨_, rfl⟩
  obtain ⟨b4, hb4⟩ : ∃ b, xl.all mayX = b := ⟨_, rfl⟩
  obtain ⟨b5, hb5⟩ : ∃ b, headB true xl = b := ⟨_, rfl⟩
  obtain ⟨b6, hb6⟩ : ∃ b, countB sl.length 0 kS = b := ⟨_, rfl⟩
  obtain ⟨b7, hb7⟩ : ∃ b, sl.all standS = b := ⟨_, rfl⟩
  obtain ⟨b8, hb8⟩ : ∃ b, countB ll.length 0 kL = b := ⟨_, rfl⟩
  obtain ⟨b9, hb9⟩ : ∃ b, ll.all mayI = b := ⟨_, rfl⟩
  obtain ⟨b10, hb10⟩ : ∃ b, countB el.length 0 kE = b := ⟨_, rfl⟩
  obtain ⟨b11, hb11⟩ : ∃ b, el.all mayI = b := ⟨_, rfl⟩
  obtain ⟨b12, hb12⟩ : ∃ b, countB pl.length 0 kB = b := ⟨_, rfl⟩
  obtain ⟨b13, hb13⟩ : ∃ b, pl.all mayB' = b := ⟨_, rfl⟩
  obtain ⟨b14, hb14⟩ : ∃ b, countB bl.length 0 kB = b := ⟨_, rfl⟩
  obtain ⟨b15, hb15⟩ : ∃ b, bl.all mayB' = b := ⟨_, rfl⟩
  rw [hb1, hb2, hb3, hb4, hb5, hb6, hb7, hb8, hb9, hb10, hb11, hb12, hb13, hb14, hb15] at HI
  rw [hb1] at c_n
  rw [hb2] at c_f
  rw [hb4] at c_x
  rw [hb6] at n_s
  rw [hb7] at c_s
  rw [hb8] at n_l
  rw [hb9] at c_l
  rw [hb10] at n_e
  rw [hb11] at c_e
  rw [hb12] at n_p
  rw [hb13] at c_p
  rw [hb14] at n_b
  rw [hb15] at c_b
  have hgt : true = true → b3 = true → 0 < xl.length := fun h1 h2 => by
   have e1 := htg h1
   rw [h2, e1] at hb3
   simp at hb3
   omega
  have HGT := Lib.hid hgt
  have HB4 := Lib.hid hb5
  have Hc_n := Lib.hid c_n
  have Hc_f := Lib.hid c_f
  have Hc_x := Lib.hid c_x
  have Hn_s := Lib.hid n_s
  have Hc_s := Lib.hid c_s
  have Hn_l := Lib.hid n_l
  have Hc_l := Lib.hid c_l
  have Hn_e := Lib.hid n_e
  have Hc_e := Lib.hid c_e
  have Hn_p := Lib.hid n_p
  have Hc_p := Lib.hid c_p
  have Hn_b := Lib.hid n_b
  have Hc_b := Lib.hid c_b
  clear c_n c_f c_x n_s c_s n_l c_l n_e c_e n_p c_p n_b c_b
  clear hb1 hb2 hb4 hb5 hb6 hb7 hb8 hb9 hb10 hb11 hb12 hb13 hb14 hb15 l0 l1 l2 l3 l4 l5 hbk hgt htg
  go_enter Tryz.func117, Tryz.ntmps117
  go_wp2_with fail
  refine (hm _).mono ?_
  rintro e w1 ⟨rfl, rfl⟩
  have BX : (w.alloc (.cells #[.int .i64 (k : Int), .string (bs nm), .string (bs nf), .slice xa xl.length xc, .slice sa sl.length sc, .slice la ll.length lc, .slice ea el.length ec, .slice pa pl.length pc, .slice ba bl.length bc] 48)).heap[w.heap.size]? = some (.cells #[.int .i64 (k : Int), .string (bs nm), .string (bs nf), .slice xa xl.length xc, .slice sa sl.length sc, .slice la ll.length lc, .slice ea el.length ec, .slice pa pl.length pc, .slice ba bl.length bc] 48) := World.alloc_heap_new w _
  have hB : Below w.heap.size w (w.alloc (.cells #[.int .i64 (k : Int), .string (bs nm), .string (bs nf), .slice xa xl.length xc, .slice sa sl.length sc, .slice la ll.length lc, .slice ea el.length ec, .slice pa pl.length pc, .slice ba bl.length bc] 48)) := (Below.refl _ _).alloc (Nat.le_refl _) _
  have he1 := he.alloc (.cells #[.int .i64 (k : Int), .string (bs nm), .string (bs nf), .slice xa xl.length xc, .slice sa sl.length sc, .slice la ll.length lc, .slice ea el.length ec, .slice pa pl.length pc, .slice ba bl.length bc] 48)
  have hk8 := Below.keptTo hB hn0
  replace i0 := i0.keep hk8 (fun x _ => XT.In.keep hk8 x)
  replace i1 := i1.keep hk8 (fun x _ => ST.In.keep hk8 x)
  replace i2 := i2.keep hk8 (fun x _ => IT.In.keep hk8 x)
  replace i3 := i3.keep hk8 (fun x _ => IT.In.keep hk8 x)
  replace i4 := i4.keep hk8 (fun x _ => BT.In.keep hk8 x)
  replace i5 := i5.keep hk8 (fun x _ => BT.In.keep hk8 x)
  clear he hm hk8
  generalize w.alloc (.cells #[.int .i64 (k : Int), .string (bs nm), .string (bs nf), .slice xa xl.length xc, .slice sa sl.length sc, .slice la ll.length lc, .slice ea el.length ec, .slice pa pl.length pc, .slice ba bl.length bc] 48) = w1 at *
  obtain ⟨x0, x1, x2, x3, x4, x5, x6, x7, x8⟩ := open9 BX
  have x1A := alloc_cell x1 (.cells #[.bool kn, .bool kof, .bool true, .int .i64 kx0, .bool kS, .bool kL, .bool kE, .bool kB] 170)
  go_wp2_with fail
  have BK : (w1.alloc (.cells #[.bool kn, .bool kof, .bool true, .int .i64 kx0, .bool kS, .bool kL, .bool kE, .bool kB] 170)).heap[w1.heap.size]? = some (.cells #[.bool kn, .bool kof, .bool true, .int .i64 kx0, .bool kS, .bool kL, .bool kE, .bool kB] 170) := World.alloc_heap_new w1 _
  have BX2 := block_alloc BX (.cells #[.bool kn, .bool kof, .bool true, .int .i64 kx0, .bool kS, .bool kL, .bool kE, .bool kB] 170)
  have hz1 := hB.size
  have hB2 := hB.alloc hz1 (.cells #[.bool kn, .bool kof, .bool true, .int .i64 kx0, .bool kS, .bool kL, .bool kE, .bool kB] 170)
  have he2 := he1.alloc (.cells #[.bool kn, .bool kof, .bool true, .int .i64 kx0, .bool kS, .bool kL, .bool kE, .bool kB] 170)
  have k1 : Below w1.heap.size w1 (w1.alloc (.cells #[.bool kn, .bool kof, .bool true, .int .i64 kx0, .bool kS, .bool kL, .bool kE, .bool kB] 170)) := (Below.refl _ _).alloc (Nat.le_refl _) _
  have hk8 := Below.keptTo k1 (show n0 ≤ w1.heap.size by omega)
  replace i0 := i0.keep hk8 (fun x _ => XT.In.keep hk8 x)
  replace i1 := i1.keep hk8 (fun x _ => ST.In.keep hk8 x)
  replace i2 := i2.keep hk8 (fun x _ => IT.In.keep hk8 x)
  replace i3 := i3.keep hk8 (fun x _ => IT.In.keep hk8 x)
  replace i4 := i4.keep hk8 (fun x _ => BT.In.keep hk8 x)
  replace i5 := i5.keep hk8 (fun x _ => BT.In.keep hk8 x)
  have hne : w1.heap.size ≠ w.heap.size := by have := (Array.getElem?_eq_some_iff.1 BX).1; omega
  clear x1A x0 x1 x2 x3 x4 x5 x6 x7 x8 c0 c1 c2 c3 c4 c5 c6 c7 he1 BX hB k1 hk8
  generalize w1.alloc (.cells #[.bool kn, .bool kof, .bool true, .int .i64 kx0, .bool kS, .bool kL, .bool kE, .bool kB] 170) = w2 at *
  generalize w1.heap.size = gk at *
  have hn1 : n0 ≤ w2.heap.size := by have := hB2.size; omega
  refine (Hc_n.out _ he2).mono ?_
  rintro e1 w1 ⟨rfl, hb⟩
  replace BX2 := block_kept BX2 hb
  replace BK := block_kept BK hb
  have hk9 := Below.keptTo hb hn1
  replace i0 := i0.keep hk9 (fun x _ => XT.In.keep hk9 x)
  replace i1 := i1.keep hk9 (fun x _ => ST.In.keep hk9 x)
  replace i2 := i2.keep hk9 (fun x _ => IT.In.keep hk9 x)
  replace i3 := i3.keep hk9 (fun x _ => IT.In.keep hk9 x)
  replace i4 := i4.keep hk9 (fun x _ => BT.In.keep hk9 x)
  replace i5 := i5.keep hk9 (fun x _ => BT.In.keep hk9 x)
  replace he2 := he2.keep hb
  replace hn1 := Nat.le_trans hn1 hb.size
  clear hk9
  replace hB2 := hB2.trans (hb.mono hB2.size)
  clear hb
  cases b1 with
  | false =>
   try clear he2
   try clear i0
   try clear i1
   try clear i2
   try clear i3
   try clear i4
   try clear i5
   try clear BX2
   try clear BK
   try clear hhd
   try clear hn1
   try clear hne
   try clear x0
   try clear x1
   try clear x2
   try clear x3
   try clear x4
   try clear x5
   try clear x6
   try clear x7
   try clear x8
   try clear y0
   try clear y1
   try clear y2
   try clear y3
   try clear y4
   try clear y5
   try clear y6
   try clear y7
   try clear g0
   try clear g1
   try clear g2
   try clear g3
   try clear g4
   try clear g5
   simp only []
   ((iterate 3 go_step); (with_reducible refine fk_exit 18 114 17 113 96 ?_ ?_ ?_ ?_ ?_); (case refine_2 => exact rfl))
   ·simp
   ·decide
   ·decide
   intro f9 hf9
   simp only [List.take_succ_cons, List.take_zero, List.drop_succ_cons, List.drop_zero, List.range'_succ, List.range'_zero, List.map_cons, List.map_nil, List.cons_append, List.nil_append, Nat.reduceSub, Nat.reduceAdd, hf9]
   clear hf9
   go_wp2
   go_ret
   exact ⟨by rw [HI.out]; rfl, hB2⟩
  | true =>
   obtain ⟨x0, x1, x2, x3, x4, x5, x6, x7, x8⟩ := open9 BX2
   obtain ⟨y0, y1, y2, y3, y4, y5, y6, y7⟩ := open8 BK
   go_wp2_with fail
   refine (Hc_f.out _ he2).mono ?_
   rintro e1 w1 ⟨rfl, hb⟩
   clear x0 x1 x2 x3 x4 x5 x6 x7 x8 y0 y1 y2 y3 y4 y5 y6 y7
   replace BX2 := block_kept BX2 hb
   replace BK := block_kept BK hb
   have hk9 := Below.keptTo hb hn1
   replace i0 := i0.keep hk9 (fun x _ => XT.In.keep hk9 x)
   replace i1 := i1.keep hk9 (fun x _ => ST.In.keep hk9 x)
   replace i2 := i2.keep hk9 (fun x _ => IT.In.keep hk9 x)
   replace i3 := i3.keep hk9 (fun x _ => IT.In.keep hk9 x)
   replace i4 := i4.keep hk9 (fun x _ => BT.In.keep hk9 x)
   replace i5 := i5.keep hk9 (fun x _ => BT.In.keep hk9 x)
   replace he2 := he2.keep hb
   replace hn1 := Nat.le_trans hn1 hb.size
   clear hk9
   replace hB2 := hB2.trans (hb.mono hB2.size)
   clear hb
   cases b2 with
   | false =>
    try clear he2
    try clear i0
    try clear i1
    try clear i2
    try clear i3
    try clear i4
    try clear i5
    try clear BX2
    try clear BK
    try clear hhd
    try clear hn1
    try clear hne
    try clear x0
    try clear x1
    try clear x2
    try clear x3
    try clear x4
    try clear x5
    try clear x6
    try clear x7
    try clear x8
    try clear y0
    try clear y1
    try clear y2
    try clear y3
    try clear y4
    try clear y5
    try clear y6
    try clear y7
    try clear g0
    try clear g1
    try clear g2
    try clear g3
    try clear g4
    try clear g5
    simp only []
    ((iterate 5 go_step); (with_reducible refine fk_exit 25 114 24 113 89 ?_ ?_ ?_ ?_ ?_); (case refine_2 => exact rfl))
    ·simp
    ·decide
    ·decide
    intro f9 hf9
    simp only [List.take_succ_cons, List.take_zero, List.drop_succ_cons, List.drop_zero, List.range'_succ, List.range'_zero, List.map_cons, List.map_nil, List.cons_append, List.nil_append, Nat.reduceSub, Nat.reduceAdd, hf9]
    clear hf9
    go_wp2
    go_ret
    exact ⟨by rw [HI.out]; rfl, hB2⟩
   | true =>
    cases b3 with
    | false =>
     obtain ⟨x0, x1, x2, x3, x4, x5, x6, x7, x8⟩ := open9 BX2
     obtain ⟨y0, y1, y2, y3, y4, y5, y6, y7⟩ := open8 BK
     first | ((iterate 22 (first | go_values | go_guarded | go_step | go_upon | (simp only [Int.not_lt, Int.not_le] at *; go_simp) | go_simp)); (with_reducible refine fk_exit 33 114 32 113 81 ?_ ?_ ?_ ?_ ?_); (case refine_2 => exact rfl))
     ·simp
     ·decide
     ·decide
     intro f9 hf9
     simp only [List.take_succ_cons, List.take_zero, List.drop_succ_cons, List.drop_zero, List.range'_succ, List.range'_zero, List.map_cons, List.map_nil, List.cons_append, List.nil_append, Nat.reduceSub, Nat.reduceAdd, hf9]
     clear hf9
     go_wp2
     go_ret
     exact ⟨by rw [HI.out]; rfl, hB2⟩
    | true =>
     obtain ⟨x0, x1, x2, x3, x4, x5, x6, x7, x8⟩ := open9 BX2
     obtain ⟨y0, y1, y2, y3, y4, y5, y6, y7⟩ := open8 BK
     go_wp2_with fail
     refine (Hc_x.out _ hn1 he2 i0).mono ?_
     rintro e1 w1 ⟨rfl, hb⟩
     clear x0 x1 x2 x3 x4 x5 x6 x7 x8 y0 y1 y2 y3 y4 y5 y6 y7
     replace BX2 := block_kept BX2 hb
     replace BK := block_kept BK hb
     have hk9 := Below.keptTo hb hn1
     replace i0 := i0.keep hk9 (fun x _ => XT.In.keep hk9 x)
     replace i1 := i1.keep hk9 (fun x _ => ST.In.keep hk9 x)
     replace i2 := i2.keep hk9 (fun x _ => IT.In.keep hk9 x)
     replace i3 := i3.keep hk9 (fun x _ => IT.In.keep hk9 x)
     replace i4 := i4.keep hk9 (fun x _ => BT.In.keep hk9 x)
     replace i5 := i5.keep hk9 (fun x _ => BT.In.keep hk9 x)
     replace he2 := he2.keep hb
     replace hn1 := Nat.le_trans hn1 hb.size
     clear hk9
     replace hB2 := hB2.trans (hb.mono hB2.size)
     clear hb
     cases b4 with
     | false =>
      try clear he2
      try clear i0
      try clear i1
      try clear i2
      try clear i3
      try clear i4
      try clear i5
      try clear BX2
      try clear BK
      try clear hhd
      try clear hn1
      try clear hne
      try clear x0
      try clear x1
      try clear x2
      try clear x3
      try clear x4
      try clear x5
      try clear x6
      try clear x7
      try clear x8
      try clear y0
      try clear y1
      try clear y2
      try clear y3
      try clear y4
      try clear y5
      try clear y6
      try clear y7
      try clear g0
      try clear g1
      try clear g2
      try clear g3
      try clear g4
      try clear g5
      simp only []
      ((iterate 5 go_step); (with_reducible refine fk_exit 38 114 37 113 76 ?_ ?_ ?_ ?_ ?_); (case refine_2 => exact rfl))
      ·simp
      ·decide
      ·decide
      intro f9 hf9
      simp only [List.take_succ_cons, List.take_zero, List.drop_succ_cons, List.drop_zero, List.range'_succ, List.range'_zero, List.map_cons, List.map_nil, List.cons_append, List.nil_append, Nat.reduceSub, Nat.reduceAdd, hf9]
      clear hf9
      go_wp2
      go_ret
      exact ⟨by rw [HI.out]; rfl, hB2⟩
     | true =>
      have h0 := HGT.out (by simp) (by simp)
      obtain ⟨hb0, ho0, hxa, hbl, hr0, _⟩ := i0.at h0
      subst hxa
      have hb4 := HB4.out
      rw [head_true xl h0] at hb4
      have hhd := hasName_call xl[0] b5 hb4
      have HB5 := Lib.hid hb4
      clear hb4
      generalize hgy : xl[0] = y at *
      clear hgy
      obtain ⟨yop, ynm, yn, yw, yv, ya, yc, yl⟩ := y
      simp only [XT.val, XT.cells] at hhd
      have g0 := hr0 0 _ rfl
      have g1 := hr0 1 _ rfl
      have g2 := hr0 2 _ rfl
      have g3 := hr0 3 _ rfl
      have g4 := hr0 4 _ rfl
      have g5 := hr0 5 _ rfl
      simp only [Nat.zero_mul, Nat.add_zero] at g0 g1 g2 g3 g4 g5
      clear hr0
      obtain ⟨x0, x1, x2, x3, x4, x5, x6, x7, x8⟩ := open9 BX2
      obtain ⟨y0, y1, y2, y3, y4, y5, y6, y7⟩ := open8 BK
      go_wp2_with fail
      refine (hhd _ he2).mono ?_
      rintro e1 w1 ⟨rfl, hb⟩
      clear x0 x1 x2 x3 x4 x5 x6 x7 x8 y0 y1 y2 y3 y4 y5 y6 y7
      replace BX2 := block_kept BX2 hb
      replace BK := block_kept BK hb
      have hk9 := Below.keptTo hb hn1
      replace i0 := i0.keep hk9 (fun x _ => XT.In.keep hk9 x)
      replace i1 := i1.keep hk9 (fun x _ => ST.In.keep hk9 x)
      replace i2 := i2.keep hk9 (fun x _ => IT.In.keep hk9 x)
      replace i3 := i3.keep hk9 (fun x _ => IT.In.keep hk9 x)
      replace i4 := i4.keep hk9 (fun x _ => BT.In.keep hk9 x)
      replace i5 := i5.keep hk9 (fun x _ => BT.In.keep hk9 x)
      replace he2 := he2.keep hb
      replace hn1 := Nat.le_trans hn1 hb.size
      clear hk9
      replace hB2 := hB2.trans (hb.mono hB2.size)
      clear hb
      cases b5 with
      | false =>
       try clear he2
       try clear i0
       try clear i1
       try clear i2
       try clear i3
       try clear i4
       try clear i5
       try clear BX2
       try clear BK
       try clear hhd
       try clear hn1
       try clear hne
       try clear x0
       try clear x1
       try clear x2
       try clear x3
       try clear x4
       try clear x5
       try clear x6
       try clear x7
       try clear x8
       try clear y0
       try clear y1
       try clear y2
       try clear y3
       try clear y4
       try clear y5
       try clear y6
       try clear y7
       try clear g0
       try clear g1
       try clear g2
       try clear g3
       try clear g4
       try clear g5
       simp only []
       ((iterate 7 go_step); (with_reducible refine fk_exit 50 114 49 113 64 ?_ ?_ ?_ ?_ ?_); (case refine_2 => exact rfl))
       ·simp
       ·decide
       ·decide
       intro f9 hf9
       simp only [List.take_succ_cons, List.take_zero, List.drop_succ_cons, List.drop_zero, List.range'_succ, List.range'_zero, List.map_cons, List.map_nil, List.cons_append, List.nil_append, Nat.reduceSub, Nat.reduceAdd, hf9]
       clear hf9
       go_wp2
       go_ret
       exact ⟨by rw [HI.out]; rfl, hB2⟩
      | true =>
       clear g0 g1 g2 g3 g4 g5
       obtain ⟨x0, x1, x2, x3, x4, x5, x6, x7, x8⟩ := open9 BX2
       obtain ⟨y0, y1, y2, y3, y4, y5, y6, y7⟩ := open8 BK
       go_wp2_with fail
       refine (Hn_s.out _).mono ?_
       rintro e1 w1 ⟨rfl, rfl⟩
       cases b6 with
       | false =>
        try clear he2
        try clear i0
        try clear i1
        try clear i2
        try clear i3
        try clear i4
        try clear i5
        try clear BX2
        try clear BK
        try clear hhd
        try clear hn1
        try clear hne
        try clear x0
        try clear x1
        try clear x2
        try clear x3
        try clear x4
        try clear x5
        try clear x6
        try clear x7
        try clear x8
        try clear y0
        try clear y1
        try clear y2
        try clear y3
        try clear y4
        try clear y5
        try clear y6
        try clear y7
        try clear g0
        try clear g1
        try clear g2
        try clear g3
        try clear g4
        try clear g5
        simp only []
        ((iterate 5 go_step); (with_reducible refine fk_exit 58 114 57 113 56 ?_ ?_ ?_ ?_ ?_); (case refine_2 => exact rfl))
        ·simp
        ·decide
        ·decide
        intro f9 hf9
        simp only [List.take_succ_cons, List.take_zero, List.drop_succ_cons, List.drop_zero, List.range'_succ, List.range'_zero, List.map_cons, List.map_nil, List.cons_append, List.nil_append, Nat.reduceSub, Nat.reduceAdd, hf9]
        clear hf9
        go_wp2
        go_ret
        exact ⟨by rw [HI.out]; rfl, hB2⟩
       | true =>
        go_wp2_with fail
        refine (Hc_s.out _ hn1 he2 i1).mono ?_
        rintro e1 w1 ⟨rfl, hb⟩
        clear x0 x1 x2 x3 x4 x5 x6 x7 x8 y0 y1 y2 y3 y4 y5 y6 y7
        replace BX2 := block_kept BX2 hb
        replace BK := block_kept BK hb
        have hk9 := Below.keptTo hb hn1
        replace i0 := i0.keep hk9 (fun x _ => XT.In.keep hk9 x)
        replace i1 := i1.keep hk9 (fun x _ => ST.In.keep hk9 x)
        replace i2 := i2.keep hk9 (fun x _ => IT.In.keep hk9 x)
        replace i3 := i3.keep hk9 (fun x _ => IT.In.keep hk9 x)
        replace i4 := i4.keep hk9 (fun x _ => BT.In.keep hk9 x)
        replace i5 := i5.keep hk9 (fun x _ => BT.In.keep hk9 x)
        replace he2 := he2.keep hb
        replace hn1 := Nat.le_trans hn1 hb.size
        clear hk9
        replace hB2 := hB2.trans (hb.mono hB2.size)
        clear hb
        cases b7 with
        | false =>
         try clear he2
         try clear i0
         try clear i1
         try clear i2
         try clear i3
         try clear i4
         try clear i5
         try clear BX2
         try clear BK
         try clear hhd
         try clear hn1
         try clear hne
         try clear x0
         try clear x1
         try clear x2
         try clear x3
         try clear x4
         try clear x5
         try clear x6
         try clear x7
         try clear x8
         try clear y0
         try clear y1
         try clear y2
         try clear y3
         try clear y4
         try clear y5
         try clear y6
         try clear y7
         try clear g0
         try clear g1
         try clear g2
         try clear g3
         try clear g4
         try clear g5
         simp only []
         ((iterate 5 go_step); (with_reducible refine fk_exit 63 114 62 113 51 ?_ ?_ ?_ ?_ ?_); (case refine_2 => exact rfl))
         ·simp
         ·decide
         ·decide
         intro f9 hf9
         simp only [List.take_succ_cons, List.take_zero, List.drop_succ_cons, List.drop_zero, List.range'_succ, List.range'_zero, List.map_cons, List.map_nil, List.cons_append, List.nil_append, Nat.reduceSub, Nat.reduceAdd, hf9]
         clear hf9
         go_wp2
         go_ret
         exact ⟨by rw [HI.out]; rfl, hB2⟩
        | true =>
         obtain ⟨x0, x1, x2, x3, x4, x5, x6, x7, x8⟩ := open9 BX2
         obtain ⟨y0, y1, y2, y3, y4, y5, y6, y7⟩ := open8 BK
         go_wp2_with fail
         refine (Hn_l.out _).mono ?_
         rintro e1 w1 ⟨rfl, rfl⟩
         cases b8 with
         | false =>
          try clear he2
          try clear i0
          try clear i1
          try clear i2
          try clear i3
          try clear i4
          try clear i5
          try clear BX2
          try clear BK
          try clear hhd
          try clear hn1
          try clear hne
          try clear x0
          try clear x1
          try clear x2
          try clear x3
          try clear x4
          try clear x5
          try clear x6
          try clear x7
          try clear x8
          try clear y0
          try clear y1
          try clear y2
          try clear y3
          try clear y4
          try clear y5
          try clear y6
          try clear y7
          try clear g0
          try clear g1
          try clear g2
          try clear g3
          try clear g4
          try clear g5
          simp only []
          ((iterate 7 go_step); (with_reducible refine fk_exit 71 114 70 113 43 ?_ ?_ ?_ ?_ ?_); (case refine_2 => exact rfl))
          ·simp
          ·decide
          ·decide
          intro f9 hf9
          simp only [List.take_succ_cons, List.take_zero, List.drop_succ_cons, List.drop_zero, List.range'_succ, List.range'_zero, List.map_cons, List.map_nil, List.cons_append, List.nil_append, Nat.reduceSub, Nat.reduceAdd, hf9]
          clear hf9
          go_wp2
          go_ret
          exact ⟨by rw [HI.out]; rfl, hB2⟩
         | true =>
          go_wp2_with fail
          refine (Hc_l.out _ hn1 he2 i2).mono ?_
          rintro e1 w1 ⟨rfl, hb⟩
          clear x0 x1 x2 x3 x4 x5 x6 x7 x8 y0 y1 y2 y3 y4 y5 y6 y7
          replace BX2 := block_kept BX2 hb
          replace BK := block_kept BK hb
          have hk9 := Below.keptTo hb hn1
          replace i0 := i0.keep hk9 (fun x _ => XT.In.keep hk9 x)
          replace i1 := i1.keep hk9 (fun x _ => ST.In.keep hk9 x)
          replace i2 := i2.keep hk9 (fun x _ => IT.In.keep hk9 x)
          replace i3 := i3.keep hk9 (fun x _ => IT.In.keep hk9 x)
          replace i4 := i4.keep hk9 (fun x _ => BT.In.keep hk9 x)
          replace i5 := i5.keep hk9 (fun x _ => BT.In.keep hk9 x)
          replace he2 := he2.keep hb
          replace hn1 := Nat.le_trans hn1 hb.size
          clear hk9
          replace hB2 := hB2.trans (hb.mono hB2.size)
          clear hb
          cases b9 with
          | false =>
           try clear he2
           try clear i0
           try clear i1
           try clear i2
           try clear i3
           try clear i4
           try clear i5
           try clear BX2
           try clear BK
           try clear hhd
           try clear hn1
           try clear hne
           try clear x0
           try clear x1
           try clear x2
           try clear x3
           try clear x4
           try clear x5
           try clear x6
           try clear x7
           try clear x8
           try clear y0
           try clear y1
           try clear y2
           try clear y3
           try clear y4
           try clear y5
           try clear y6
           try clear y7
           try clear g0
           try clear g1
           try clear g2
           try clear g3
           try clear g4
           try clear g5
           simp only []
           ((iterate 7 go_step); (with_reducible refine fk_exit 76 114 75 113 38 ?_ ?_ ?_ ?_ ?_); (case refine_2 => exact rfl))
           ·simp
           ·decide
           ·decide
           intro f9 hf9
           simp only [List.take_succ_cons, List.take_zero, List.drop_succ_cons, List.drop_zero, List.range'_succ, List.range'_zero, List.map_cons, List.map_nil, List.cons_append, List.nil_append, Nat.reduceSub, Nat.reduceAdd, hf9]
           clear hf9
           go_wp2
           go_ret
           exact ⟨by rw [HI.out]; rfl, hB2⟩
          | true =>
           obtain ⟨x0, x1, x2, x3, x4, x5, x6, x7, x8⟩ := open9 BX2
           obtain ⟨y0, y1, y2, y3, y4, y5, y6, y7⟩ := open8 BK
           go_wp2_with fail
           refine (Hn_e.out _).mono ?_
           rintro e1 w1 ⟨rfl, rfl⟩
           cases b10 with
           | false =>
            try clear he2
            try clear i0
            try clear i1
            try clear i2
            try clear i3
            try clear i4
            try clear i5
            try clear BX2
            try clear BK
            try clear hhd
            try clear hn1
            try clear hne
            try clear x0
            try clear x1
            try clear x2
            try clear x3
            try clear x4
            try clear x5
            try clear x6
            try clear x7
            try clear x8
            try clear y0
            try clear y1
            try clear y2
            try clear y3
            try clear y4
            try clear y5
            try clear y6
            try clear y7
            try clear g0
            try clear g1
            try clear g2
            try clear g3
            try clear g4
            try clear g5
            simp only []
            ((iterate 7 go_step); (with_reducible refine fk_exit 84 114 83 113 30 ?_ ?_ ?_ ?_ ?_); (case refine_2 => exact rfl))
            ·simp
            ·decide
            ·decide
            intro f9 hf9
            simp only [List.take_succ_cons, List.take_zero, List.drop_succ_cons, List.drop_zero, List.range'_succ, List.range'_zero, List.map_cons, List.map_nil, List.cons_append, List.nil_append, Nat.reduceSub, Nat.reduceAdd, hf9]
            clear hf9
            go_wp2
            go_ret
            exact ⟨by rw [HI.out]; rfl, hB2⟩
           | true =>
            go_wp2_with fail
            refine (Hc_e.out _ hn1 he2 i3).mono ?_
            rintro e1 w1 ⟨rfl, hb⟩
            clear x0 x1 x2 x3 x4 x5 x6 x7 x8 y0 y1 y2 y3 y4 y5 y6 y7
            replace BX2 := block_kept BX2 hb
            replace BK := block_kept BK hb
            have hk9 := Below.keptTo hb hn1
            replace i0 := i0.keep hk9 (fun x _ => XT.In.keep hk9 x)
            replace i1 := i1.keep hk9 (fun x _ => ST.In.keep hk9 x)
            replace i2 := i2.keep hk9 (fun x _ => IT.In.keep hk9 x)
            replace i3 := i3.keep hk9 (fun x _ => IT.In.keep hk9 x)
            replace i4 := i4.keep hk9 (fun x _ => BT.In.keep hk9 x)
            replace i5 := i5.keep hk9 (fun x _ => BT.In.keep hk9 x)
            replace he2 := he2.keep hb
            replace hn1 := Nat.le_trans hn1 hb.size
            clear hk9
            replace hB2 := hB2.trans (hb.mono hB2.size)
            clear hb
            cases b11 with
            | false =>
             try clear he2
             try clear i0
             try clear i1
             try clear i2
             try clear i3
             try clear i4
             try clear i5
             try clear BX2
             try clear BK
             try clear hhd
             try clear hn1
             try clear hne
             try clear x0
             try clear x1
             try clear x2
             try clear x3
             try clear x4
             try clear x5
             try clear x6
             try clear x7
             try clear x8
             try clear y0
             try clear y1
             try clear y2
             try clear y3
             try clear y4
             try clear y5
             try clear y6
             try clear y7
             try clear g0
             try clear g1
             try clear g2
             try clear g3
             try clear g4
             try clear g5
             simp only []
             ((iterate 7 go_step); (with_reducible refine fk_exit 89 114 88 113 25 ?_ ?_ ?_ ?_ ?_); (case refine_2 => exact rfl))
             ·simp
             ·decide
             ·decide
             intro f9 hf9
             simp only [List.take_succ_cons, List.take_zero, List.drop_succ_cons, List.drop_zero, List.range'_succ, List.range'_zero, List.map_cons, List.map_nil, List.cons_append, List.nil_append, Nat.reduceSub, Nat.reduceAdd, hf9]
             clear hf9
             go_wp2
             go_ret
             exact ⟨by rw [HI.out]; rfl, hB2⟩
            | true =>
             obtain ⟨x0, x1, x2, x3, x4, x5, x6, x7, x8⟩ := open9 BX2
             obtain ⟨y0, y1, y2, y3, y4, y5, y6, y7⟩ := open8 BK
             go_wp2_with fail
             refine (Hn_p.out _).mono ?_
             rintro e1 w1 ⟨rfl, rfl⟩
             cases b12 with
             | false =>
              try clear he2
              try clear i0
              try clear i1
              try clear i2
              try clear i3
              try clear i4
              try clear i5
              try clear BX2
              try clear BK
              try clear hhd
              try clear hn1
              try clear hne
              try clear x0
              try clear x1
              try clear x2
              try clear x3
              try clear x4
              try clear x5
              try clear x6
              try clear x7
              try clear x8
              try clear y0
              try clear y1
              try clear y2
              try clear y3
              try clear y4
              try clear y5
              try clear y6
              try clear y7
              try clear g0
              try clear g1
              try clear g2
              try clear g3
              try clear g4
              try clear g5
              simp only []
              ((iterate 7 go_step); (with_reducible refine fk_exit 97 114 96 113 17 ?_ ?_ ?_ ?_ ?_); (case refine_2 => exact rfl))
              ·simp
              ·decide
              ·decide
              intro f9 hf9
              simp only [List.take_succ_cons, List.take_zero, List.drop_succ_cons, List.drop_zero, List.range'_succ, List.range'_zero, List.map_cons, List.map_nil, List.cons_append, List.nil_append, Nat.reduceSub, Nat.reduceAdd, hf9]
              clear hf9
              go_wp2
              go_ret
              exact ⟨by rw [HI.out]; rfl, hB2⟩
             | true =>
              go_wp2_with fail
              refine (Hc_p.out _ hn1 he2 i4).mono ?_
              rintro e1 w1 ⟨rfl, hb⟩
              clear x0 x1 x2 x3 x4 x5 x6 x7 x8 y0 y1 y2 y3 y4 y5 y6 y7
              replace BX2 := block_kept BX2 hb
              replace BK := block_kept BK hb
              have hk9 := Below.keptTo hb hn1
              replace i0 := i0.keep hk9 (fun x _ => XT.In.keep hk9 x)
              replace i1 := i1.keep hk9 (fun x _ => ST.In.keep hk9 x)
              replace i2 := i2.keep hk9 (fun x _ => IT.In.keep hk9 x)
              replace i3 := i3.keep hk9 (fun x _ => IT.In.keep hk9 x)
              replace i4 := i4.keep hk9 (fun x _ => BT.In.keep hk9 x)
              replace i5 := i5.keep hk9 (fun x _ => BT.In.keep hk9 x)
              replace he2 := he2.keep hb
              replace hn1 := Nat.le_trans hn1 hb.size
              clear hk9
              replace hB2 := hB2.trans (hb.mono hB2.size)
              clear hb
              cases b13 with
              | false =>
               try clear he2
               try clear i0
               try clear i1
               try clear i2
               try clear i3
               try clear i4
               try clear i5
               try clear BX2
               try clear BK
               try clear hhd
               try clear hn1
               try clear hne
               try clear x0
               try clear x1
               try clear x2
               try clear x3
               try clear x4
               try clear x5
               try clear x6
               try clear x7
               try clear x8
               try clear y0
               try clear y1
               try clear y2
               try clear y3
               try clear y4
               try clear y5
               try clear y6
               try clear y7
               try clear g0
               try clear g1
               try clear g2
               try clear g3
               try clear g4
               try clear g5
               simp only []
               ((iterate 7 go_step); (with_reducible refine fk_exit 102 114 101 113 12 ?_ ?_ ?_ ?_ ?_); (case refine_2 => exact rfl))
               ·simp
               ·decide
               ·decide
               intro f9 hf9
               simp only [List.take_succ_cons, List.take_zero, List.drop_succ_cons, List.drop_zero, List.range'_succ, List.range'_zero, List.map_cons, List.map_nil, List.cons_append, List.nil_append, Nat.reduceSub, Nat.reduceAdd, hf9]
               clear hf9
               go_wp2
               go_ret
               exact ⟨by rw [HI.out]; rfl, hB2⟩
              | true =>
               obtain ⟨x0, x1, x2, x3, x4, x5, x6, x7, x8⟩ := open9 BX2
               obtain ⟨y0, y1, y2, y3, y4, y5, y6, y7⟩ := open8 BK
               go_wp2_with fail
               refine (Hn_b.out _).mono ?_
               rintro e1 w1 ⟨rfl, rfl⟩
               cases b14 with
               | false =>
                try clear he2
                try clear i0
                try clear i1
                try clear i2
                try clear i3
                try clear i4
                try clear i5
                try clear BX2
                try clear BK
                try clear hhd
                try clear hn1
                try clear hne
                try clear x0
                try clear x1
                try clear x2
                try clear x3
                try clear x4
                try clear x5
                try clear x6
                try clear x7
                try clear x8
                try clear y0
                try clear y1
                try clear y2
                try clear y3
                try clear y4
                try clear y5
                try clear y6
                try clear y7
                try clear g0
                try clear g1
                try clear g2
                try clear g3
                try clear g4
                try clear g5
                simp only []
                ((iterate 7 go_step); (with_reducible refine fk_exit 110 114 109 113 4 ?_ ?_ ?_ ?_ ?_); (case refine_2 => exact rfl))
                ·simp
                ·decide
                ·decide
                intro f9 hf9
                simp only [List.take_succ_cons, List.take_zero, List.drop_succ_cons, List.drop_zero, List.range'_succ, List.range'_zero, List.map_cons, List.map_nil, List.cons_append, List.nil_append, Nat.reduceSub, Nat.reduceAdd, hf9]
                clear hf9
                go_wp2
                go_ret
                exact ⟨by rw [HI.out]; rfl, hB2⟩
               | true =>
                go_wp2_with fail
                refine (Hc_b.out _ hn1 he2 i5).mono ?_
                rintro e1 w1 ⟨rfl, hb⟩
                clear x0 x1 x2 x3 x4 x5 x6 x7 x8 y0 y1 y2 y3 y4 y5 y6 y7
                replace BX2 := block_kept BX2 hb
                replace BK := block_kept BK hb
                have hk9 := Below.keptTo hb hn1
                replace i0 := i0.keep hk9 (fun x _ => XT.In.keep hk9 x)
                replace i1 := i1.keep hk9 (fun x _ => ST.In.keep hk9 x)
                replace i2 := i2.keep hk9 (fun x _ => IT.In.keep hk9 x)
                replace i3 := i3.keep hk9 (fun x _ => IT.In.keep hk9 x)
                replace i4 := i4.keep hk9 (fun x _ => BT.In.keep hk9 x)
                replace i5 := i5.keep hk9 (fun x _ => BT.In.keep hk9 x)
                replace he2 := he2.keep hb
                replace hn1 := Nat.le_trans hn1 hb.size
                clear hk9
                replace hB2 := hB2.trans (hb.mono hB2.size)
                clear hb
                obtain ⟨x0, x1, x2, x3, x4, x5, x6, x7, x8⟩ := open9 BX2
                obtain ⟨y0, y1, y2, y3, y4, y5, y6, y7⟩ := open8 BK
                go_wp2
                go_ret
                exact ⟨by rw [HI.out]; rfl, hB2⟩
end Go.Proofs.YtiipjbafdhijlaaGreatDoor
