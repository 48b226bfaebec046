/-
  Of a choice the side that is taken is told.
-/
import Derived.Test.YtlhcnbgllgodoaaDoorTie
import Derived.Test.YtlhcnbgllgodoaaDoorCards
import Derived.Test.YtlhcnbgllgodoaaDoorAsOp
import Derived.Test.YtlhcnbgllgodoaaDoorKsO
import Derived.Test.YtlhcnbgllgodoaaDoorKsL
import Derived.JoinedCond
import Derived.Deep.DeepHandedRow
namespace Go.Proofs.YtlhcnbgllgodoaaDoor.konstChoice
open Go Go.ChangeShapes Go.WideShapes Go.ChangeAt Go.RowKit Go.Joins Go.Sort Go.Deep
set_option linter.unusedVariables false
set_option linter.unusedSimpArgs false

/-- A choice; its parts lie at block g. -/
def conT (g : Nat) (x y z : XT) : XT := .mk 7 [] 0 0 0 (some ⟨g, 0, none⟩) 3 [x, y, z]
theorem conT_in {g n : Nat} {x y z : XT} {W : World} (hg : g < n) (hb : W.heap[g]? = some (.cells (x.cells ++ y.cells ++ z.cells).toArray 25 (0, 0))) (hx : x.In n W) (hy : y.In n W) (hz : z.In n W) : (conT g x y z).In n W := by
  rw [conT, XT.In_mk]
  obtain ⟨op1, nm1, xn1, wd1, v1, xa1, xc1, xl1⟩ := x
  obtain ⟨op2, nm2, xn2, wd2, v2, xa2, xc2, xl2⟩ := y
  obtain ⟨op3, nm3, xn3, wd3, v3, xa3, xc3, xl3⟩ := z
  exact ⟨⟨g, 0, rfl, hg, rowc_of2 (o := 0) hb rfl⟩, hx, ⟨g, 6, rfl, hg, rowc_of2 (o := 6) hb rfl⟩, hy, ⟨g, 12, rfl, hg, rowc_of2 (o := 12) hb rfl⟩, hz, trivial⟩
theorem conT_wf (g : Nat) {x y z : XT} (hx : x.Wf) (hy : y.Wf) (hz : z.Wf) : (conT g x y z).Wf := by simp [conT, XT.wf_mk, hx, hy, hz]
theorem conT_ev (l : List NT) (g : Nat) (x y z : XT) : evX l (conT g x y z) = kCond (evX l x) (evX l y) (evX l z) := by
  rw [conT, evX_mk]; rfl
theorem cx_iff (x : XT) : checkX x = 0 ↔ x.sz ≤ 65536 ∧ x.dp ≤ 64 ∧ mayX x = true := by
  unfold checkX
  cases h1 : decide (65536 < x.sz) <;> cases h2 : decide (64 < x.dp) <;> cases h3 : mayX x <;> simp at h1 h2 ⊢ <;> omega
theorem part_check {g : Nat} {x y z : XT} (h : checkX (conT g x y z) = 0) : checkX x = 0 ∧ checkX y = 0 ∧ checkX z = 0 := by
  obtain ⟨h1, h2, h3⟩ := (cx_iff _).1 h
  have hm := (mayX_parts h3).1
  simp only [conT, XT.sz, XT.szL] at h1
  simp only [conT, XT.dp, XT.dpL] at h2
  refine ⟨(cx_iff _).2 ⟨by omega, by omega, hm x (by simp)⟩, (cx_iff _).2 ⟨by omega, by omega, hm y (by simp)⟩, (cx_iff _).2 ⟨by omega, by omega, hm z (by simp)⟩⟩
def Cas (n e b1 b2 c1 c2 a f : Int) : Prop := (e ≠ 0 ∧ a = 0 ∧ f = e) ∨ (e = 0 ∧ n ≠ 0 ∧ a = b1 ∧ f = b2) ∨ (e = 0 ∧ n = 0 ∧ a = c1 ∧ f = c2)
/-- What the law asks. -/
theorem cases_of (l : List NT) (g : Nat) (x y z : XT) (h : checkX (conT g x y z) = 0) : Cas (evalK l x).1 (evalK l x).2 (evalK l y).1 (evalK l y).2 (evalK l z).1 (evalK l z).2 (evalK l (conT g x y z)).1 (evalK l (conT g x y z)).2 := by
  obtain ⟨h1, h2, h3⟩ := part_check h
  have e0 : evalK l (conT g x y z) = kCond (evalK l x) (evalK l y) (evalK l z) := by
    unfold evalK
    rw [if_pos h, if_pos h1, if_pos h2, if_pos h3, conT_ev]
  rw [e0]
  unfold kCond
  by_cases he : (evalK l x).2 = 0
  · rw [if_pos he]
    by_cases hn : (evalK l x).1 = 0
    · rw [if_pos hn]; right; right; exact ⟨he, hn, rfl, rfl⟩
    · rw [if_neg hn]; right; left; exact ⟨he, hn, rfl, rfl⟩
  · rw [if_neg he]; left; exact ⟨he, rfl, rfl⟩
theorem oracle (l : List NT) (hlk : NT.bkL l ≤ 1500000) (a : Option Addr) (c : Nat) (x y z : XT) (hbk : x.bk + y.bk + z.bk ≤ 1400000) (hx : x.Wf) (hy : y.Wf) (hz : z.Wf) (g : Nat) : ∃ C A F : Int,
    (∀ (m : Nat) (W : World), m ≤ W.heap.size → EnvA W → (conT g x y z).In m W → Calls Tryd.prog 18 #[.agg #[.int .i64 7, .string ⟨#[]⟩, .int .i64 0, .int .i64 0, .int .u64 0, .slice (some ⟨g, 0, none⟩) 3 3]] W fun e w' => e = .returned (.int .i64 C) ∧ Below W.heap.size W w') ∧
    (∀ (m : Nat) (W : World), m ≤ W.heap.size → EnvA W → (conT g x y z).In m W → NRow m W l a → Calls Tryd.prog 13 #[.agg #[.int .i64 7, .string ⟨#[]⟩, .int .i64 0, .int .i64 0, .int .u64 0, .slice (some ⟨g, 0, none⟩) 3 3], .slice a l.length c] W fun e w' => e = .returned (.tuple #[.int .i64 A, .int .i64 F]) ∧ Below W.heap.size W w') ∧
    (C = 0 → Cas (evalK l x).1 (evalK l x).2 (evalK l y).1 (evalK l y).2 (evalK l z).1 (evalK l z).2 A F) := by
  have hb : (conT g x y z).bk ≤ 1500000 := by simp [conT, XT.bk, XT.bkL]; omega
  exact ⟨_, _, _, fun m W h1 h2 h3 => checkX_any (conT g x y z) hb (conT_wf g hx hy hz) m W h1 h2 h3, fun m W h1 h2 h3 h4 => eval_any (conT g x y z) hb (conT_wf g hx hy hz) l hlk a c m W h1 h2 h3 h4, cases_of l g x y z⟩

theorem open6f {w : World} {g : Nat} {v0 v1 v2 v3 v4 v5 : Value} {t : TypeId} (h : w.heap[g]? = some (.cells #[v0, v1, v2, v3, v4, v5] t (0, 0))) : w.frozen? ⟨g, 0, none⟩ = false ∧ w.frozen? ⟨g, 1, none⟩ = false ∧ w.frozen? ⟨g, 2, none⟩ = false ∧ w.frozen? ⟨g, 3, none⟩ = false ∧ w.frozen? ⟨g, 4, none⟩ = false ∧ w.frozen? ⟨g, 5, none⟩ = false := by
  refine ⟨?_, ?_, ?_, ?_, ?_, ?_⟩ <;> simp [World.frozen?, h]

theorem set6 {w : World} {g : Nat} {v0 v1 v2 v3 v4 v5 : Value} {t : TypeId} (h : w.heap[g]? = some (.cells #[v0, v1, v2, v3, v4, v5] t (0, 0))) (x0 x1 x2 x3 x4 x5 : Value) : ((((((w.setCell ⟨g, 0, none⟩ x0).setCell ⟨g, 1, none⟩ x1).setCell ⟨g, 2, none⟩ x2).setCell ⟨g, 3, none⟩ x3).setCell ⟨g, 4, none⟩ x4).setCell ⟨g, 5, none⟩ x5).heap[g]? = some (.cells #[x0, x1, x2, x3, x4, x5] t (0, 0)) := by
  have hg : g < w.heap.size := (Array.getElem?_eq_some_iff.1 h).1
  simp [World.setCell, Array.getElem?_modify, h]

theorem NRow.less {n m : Nat} {W : World} {l : List NT} {a : Option Addr} (h : n ≤ m) (hr : NRow n W l a) : NRow m W l a := InRow.less h (fun _ _ h => h) hr
set_option maxHeartbeats 16000000 in
set_option maxRecDepth 100000 in
theorem walk_any (x y z : XT) (hbk : x.bk + y.bk + z.bk ≤ 1400000) (hwf1 : x.Wf) (hwf2 : y.Wf) (hwf3 : z.Wf) (l : List NT) (hlk : NT.bkL l ≤ 1500000) (a : Option Addr) (c n0 : Nat) (w : World) (hn0 : n0 ≤ w.heap.size) (he : EnvA w) (hx1 : x.In n0 w) (hx2 : y.In n0 w) (hx3 : z.In n0 w) (hl : NRow n0 w l a) : Calls Tryd.prog 9 #[x.val, y.val, z.val, .slice a l.length c] w fun e w' => e = .returned (.bool true) ∧ Below w.heap.size w w' := by
  have HF1 := Lib.hid (fun (n0 : Nat) (W : World) (h1 : n0 ≤ W.heap.size) (h3 : x.In n0 W) => kfew_any x (Nat.le_trans x.sz_bk (by omega)) l (Nat.le_trans (NT.bkL_len l) hlk) a c n0 W h1 h3)
  have HE1 := Lib.hid (fun (n0 : Nat) (W : World) (h1 : n0 ≤ W.heap.size) (h2 : EnvA W) (h3 : x.In n0 W) (h4 : NRow n0 W l a) => eval_any x (by omega) hwf1 l hlk a c n0 W h1 h2 h3 h4)
  have HF2 := Lib.hid (fun (n0 : Nat) (W : World) (h1 : n0 ≤ W.heap.size) (h3 : y.In n0 W) => kfew_any y (Nat.le_trans y.sz_bk (by omega)) l (Nat.le_trans (NT.bkL_len l) hlk) a c n0 W h1 h3)
  have HE2 := Lib.hid (fun (n0 : Nat) (W : World) (h1 : n0 ≤ W.heap.size) (h2 : EnvA W) (h3 : y.In n0 W) (h4 : NRow n0 W l a) => eval_any y (by omega) hwf2 l hlk a c n0 W h1 h2 h3 h4)
  have HF3 := Lib.hid (fun (n0 : Nat) (W : World) (h1 : n0 ≤ W.heap.size) (h3 : z.In n0 W) => kfew_any z (Nat.le_trans z.sz_bk (by omega)) l (Nat.le_trans (NT.bkL_len l) hlk) a c n0 W h1 h3)
  have HE3 := Lib.hid (fun (n0 : Nat) (W : World) (h1 : n0 ≤ W.heap.size) (h2 : EnvA W) (h3 : z.In n0 W) (h4 : NRow n0 W l a) => eval_any z (by omega) hwf3 l hlk a c n0 W h1 h2 h3 h4)
  have HG := Lib.hid (oracle l hlk a c x y z hbk hwf1 hwf2 hwf3)
  have HIN := Lib.hid (fun (g n : Nat) (W : World) => conT_in (g := g) (n := n) (x := x) (y := y) (z := z) (W := W))
  obtain ⟨⟨n1, e1⟩, hE1⟩ : ∃ p, evalK l x = p := ⟨_, rfl⟩
  obtain ⟨⟨n2, e2⟩, hE2⟩ : ∃ p, evalK l y = p := ⟨_, rfl⟩
  obtain ⟨⟨n3, e3⟩, hE3⟩ : ∃ p, evalK l z = p := ⟨_, rfl⟩
  simp only [hE1, hE2, hE3] at HE1 HE2 HE3 HG
  clear hE1 hE2 hE3 hbk hwf1 hwf2 hwf3 hlk
  generalize fewK x l = f1 at *
  generalize fewK y l = f2 at *
  generalize fewK z l = f3 at *
  obtain ⟨op1, nm1, xn1, wd1, v1, xa1, xc1, xl1⟩ := x
  obtain ⟨op2, nm2, xn2, wd2, v2, xa2, xc2, xl2⟩ := y
  obtain ⟨op3, nm3, xn3, wd3, v3, xa3, xc3, xl3⟩ := z
  simp only [XT.val, XT.cells] at HF1 HF2 HF3 HE1 HE2 HE3 ⊢
  go_enter Tryd.func9, Tryd.ntmps9
  go_upto_region 1 with (fail)
  have BX1 := block_alloc (block_alloc (World.alloc_heap_new w (.cells #[.int .i64 op1, .string (bs nm1), .int .i64 xn1, .int .i64 wd1, .int .u64 (v1 : Int), .slice xa1 xl1.length xc1] 25)) (.cells #[.int .i64 op2, .string (bs nm2), .int .i64 xn2, .int .i64 wd2, .int .u64 (v2 : Int), .slice xa2 xl2.length xc2] 25)) (.cells #[.int .i64 op3, .string (bs nm3), .int .i64 xn3, .int .i64 wd3, .int .u64 (v3 : Int), .slice xa3 xl3.length xc3] 25)
  have BX2 := block_alloc (World.alloc_heap_new (w.alloc (.cells #[.int .i64 op1, .string (bs nm1), .int .i64 xn1, .int .i64 wd1, .int .u64 (v1 : Int), .slice xa1 xl1.length xc1] 25)) (.cells #[.int .i64 op2, .string (bs nm2), .int .i64 xn2, .int .i64 wd2, .int .u64 (v2 : Int), .slice xa2 xl2.length xc2] 25)) (.cells #[.int .i64 op3, .string (bs nm3), .int .i64 xn3, .int .i64 wd3, .int .u64 (v3 : Int), .slice xa3 xl3.length xc3] 25)
  have BX3 := World.alloc_heap_new ((w.alloc (.cells #[.int .i64 op1, .string (bs nm1), .int .i64 xn1, .int .i64 wd1, .int .u64 (v1 : Int), .slice xa1 xl1.length xc1] 25)).alloc (.cells #[.int .i64 op2, .string (bs nm2), .int .i64 xn2, .int .i64 wd2, .int .u64 (v2 : Int), .slice xa2 xl2.length xc2] 25)) (.cells #[.int .i64 op3, .string (bs nm3), .int .i64 xn3, .int .i64 wd3, .int .u64 (v3 : Int), .slice xa3 xl3.length xc3] 25)
  simp only [World.size_alloc] at BX2 BX3
  have hB : Below w.heap.size w (((w.alloc (.cells #[.int .i64 op1, .string (bs nm1), .int .i64 xn1, .int .i64 wd1, .int .u64 (v1 : Int), .slice xa1 xl1.length xc1] 25)).alloc (.cells #[.int .i64 op2, .string (bs nm2), .int .i64 xn2, .int .i64 wd2, .int .u64 (v2 : Int), .slice xa2 xl2.length xc2] 25)).alloc (.cells #[.int .i64 op3, .string (bs nm3), .int .i64 xn3, .int .i64 wd3, .int .u64 (v3 : Int), .slice xa3 xl3.length xc3] 25)) := ((((Below.refl _ _).alloc (by first | exact Nat.le_refl _ | (simp; done) | (simp; omega)) _).alloc (by first | exact Nat.le_refl _ | (simp; done) | (simp; omega)) _).alloc (by first | exact Nat.le_refl _ | (simp; done) | (simp; omega)) _)
  have hk9 := Below.keptTo hB hn0
  replace hx1 := XT.In.keep hk9 _ hx1
  replace hx2 := XT.In.keep hk9 _ hx2
  replace hx3 := XT.In.keep hk9 _ hx3
  replace hl := hl.keep hk9
  replace he := he.keep hB
  replace hn0 := Nat.le_trans hn0 hB.size
  clear hk9
  generalize (((w.alloc (.cells #[.int .i64 op1, .string (bs nm1), .int .i64 xn1, .int .i64 wd1, .int .u64 (v1 : Int), .slice xa1 xl1.length xc1] 25)).alloc (.cells #[.int .i64 op2, .string (bs nm2), .int .i64 xn2, .int .i64 wd2, .int .u64 (v2 : Int), .slice xa2 xl2.length xc2] 25)).alloc (.cells #[.int .i64 op3, .string (bs nm3), .int .i64 xn3, .int .i64 wd3, .int .u64 (v3 : Int), .slice xa3 xl3.length xc3] 25)) = w1 at *
  obtain ⟨q01, q11, q21, q31, q41, q51⟩ := open6 BX1
  obtain ⟨q02, q12, q22, q32, q42, q52⟩ := open6 BX2
  obtain ⟨q03, q13, q23, q33, q43, q53⟩ := open6 BX3
  go_wp2_with fail
  refine (live_any _ he).mono ?_
  rintro e w2 ⟨rfl, hb⟩
  clear q01 q11 q21 q31 q41 q51 q02 q12 q22 q32 q42 q52 q03 q13 q23 q33 q43 q53
  have hk9 := Below.keptTo hb hn0
  replace BX1 := block_kept BX1 hb
  replace hx1 := XT.In.keep hk9 _ hx1
  replace BX2 := block_kept BX2 hb
  replace hx2 := XT.In.keep hk9 _ hx2
  replace BX3 := block_kept BX3 hb
  replace hx3 := XT.In.keep hk9 _ hx3
  replace hl := hl.keep hk9
  replace he := he.keep hb
  replace hn0 := Nat.le_trans hn0 hb.size
  replace hB := hB.trans (hb.mono hB.size)
  clear hb hk9
  obtain ⟨q01, q11, q21, q31, q41, q51⟩ := open6 BX1
  obtain ⟨q02, q12, q22, q32, q42, q52⟩ := open6 BX2
  obtain ⟨q03, q13, q23, q33, q43, q53⟩ := open6 BX3
  go_wp2_with fail
  refine (HF1.out _ _ hn0 hx1).mono ?_
  rintro e w3 ⟨rfl, hb⟩
  clear q01 q11 q21 q31 q41 q51 q02 q12 q22 q32 q42 q52 q03 q13 q23 q33 q43 q53
  have hk9 := Below.keptTo hb hn0
  replace BX1 := block_kept BX1 hb
  replace hx1 := XT.In.keep hk9 _ hx1
  replace BX2 := block_kept BX2 hb
  replace hx2 := XT.In.keep hk9 _ hx2
  replace BX3 := block_kept BX3 hb
  replace hx3 := XT.In.keep hk9 _ hx3
  replace hl := hl.keep hk9
  replace he := he.keep hb
  replace hn0 := Nat.le_trans hn0 hb.size
  replace hB := hB.trans (hb.mono hB.size)
  clear hb hk9
  clear HF1
  cases f1
  case false =>
    go_wp2
    go_ret
    exact ⟨rfl, hB⟩
  obtain ⟨q01, q11, q21, q31, q41, q51⟩ := open6 BX1
  obtain ⟨q02, q12, q22, q32, q42, q52⟩ := open6 BX2
  obtain ⟨q03, q13, q23, q33, q43, q53⟩ := open6 BX3
  go_wp2_with fail
  refine (HF2.out _ _ hn0 hx2).mono ?_
  rintro e w4 ⟨rfl, hb⟩
  clear q01 q11 q21 q31 q41 q51 q02 q12 q22 q32 q42 q52 q03 q13 q23 q33 q43 q53
  have hk9 := Below.keptTo hb hn0
  replace BX1 := block_kept BX1 hb
  replace hx1 := XT.In.keep hk9 _ hx1
  replace BX2 := block_kept BX2 hb
  replace hx2 := XT.In.keep hk9 _ hx2
  replace BX3 := block_kept BX3 hb
  replace hx3 := XT.In.keep hk9 _ hx3
  replace hl := hl.keep hk9
  replace he := he.keep hb
  replace hn0 := Nat.le_trans hn0 hb.size
  replace hB := hB.trans (hb.mono hB.size)
  clear hb hk9
  clear HF2
  cases f2
  case false =>
    go_wp2
    go_ret
    exact ⟨rfl, hB⟩
  obtain ⟨q01, q11, q21, q31, q41, q51⟩ := open6 BX1
  obtain ⟨q02, q12, q22, q32, q42, q52⟩ := open6 BX2
  obtain ⟨q03, q13, q23, q33, q43, q53⟩ := open6 BX3
  go_wp2_with fail
  refine (HF3.out _ _ hn0 hx3).mono ?_
  rintro e w5 ⟨rfl, hb⟩
  clear q01 q11 q21 q31 q41 q51 q02 q12 q22 q32 q42 q52 q03 q13 q23 q33 q43 q53
  have hk9 := Below.keptTo hb hn0
  replace BX1 := block_kept BX1 hb
  replace hx1 := XT.In.keep hk9 _ hx1
  replace BX2 := block_kept BX2 hb
  replace hx2 := XT.In.keep hk9 _ hx2
  replace BX3 := block_kept BX3 hb
  replace hx3 := XT.In.keep hk9 _ hx3
  replace hl := hl.keep hk9
  replace he := he.keep hb
  replace hn0 := Nat.le_trans hn0 hb.size
  replace hB := hB.trans (hb.mono hB.size)
  clear hb hk9
  clear HF3
  cases f3
  case false =>
    go_wp2
    go_ret
    exact ⟨rfl, hB⟩
  obtain ⟨q01, q11, q21, q31, q41, q51⟩ := open6 BX1
  obtain ⟨q02, q12, q22, q32, q42, q52⟩ := open6 BX2
  obtain ⟨q03, q13, q23, q33, q43, q53⟩ := open6 BX3
  go_upto_region 5 with (fail)
  clear q01 q11 q21 q31 q41 q51 q02 q12 q22 q32 q42 q52 q03 q13 q23 q33 q43 q53
  have hb : Below w5.heap.size w5 ((w5.alloc (.cells #[.int .i64 op1, .string (bs nm1), .int .i64 xn1, .int .i64 wd1, .int .u64 (v1 : Int), .slice xa1 xl1.length xc1, .int .i64 op2, .string (bs nm2), .int .i64 xn2, .int .i64 wd2, .int .u64 (v2 : Int), .slice xa2 xl2.length xc2, .int .i64 op3, .string (bs nm3), .int .i64 xn3, .int .i64 wd3, .int .u64 (v3 : Int), .slice xa3 xl3.length xc3] 25)).alloc (.cells #[.int .i64 7, .string ⟨#[]⟩, .int .i64 0, .int .i64 0, .int .u64 0, .slice (some ⟨w5.heap.size, 0, none⟩) 3 3] 25)) := ((Below.refl _ _).alloc (Nat.le_refl _) _).alloc (by simp) _
  have BR := block_alloc (World.alloc_heap_new w5 (.cells #[.int .i64 op1, .string (bs nm1), .int .i64 xn1, .int .i64 wd1, .int .u64 (v1 : Int), .slice xa1 xl1.length xc1, .int .i64 op2, .string (bs nm2), .int .i64 xn2, .int .i64 wd2, .int .u64 (v2 : Int), .slice xa2 xl2.length xc2, .int .i64 op3, .string (bs nm3), .int .i64 xn3, .int .i64 wd3, .int .u64 (v3 : Int), .slice xa3 xl3.length xc3] 25)) (.cells #[.int .i64 7, .string ⟨#[]⟩, .int .i64 0, .int .i64 0, .int .u64 0, .slice (some ⟨w5.heap.size, 0, none⟩) 3 3] 25)
  have BC := World.alloc_heap_new (w5.alloc (.cells #[.int .i64 op1, .string (bs nm1), .int .i64 xn1, .int .i64 wd1, .int .u64 (v1 : Int), .slice xa1 xl1.length xc1, .int .i64 op2, .string (bs nm2), .int .i64 xn2, .int .i64 wd2, .int .u64 (v2 : Int), .slice xa2 xl2.length xc2, .int .i64 op3, .string (bs nm3), .int .i64 xn3, .int .i64 wd3, .int .u64 (v3 : Int), .slice xa3 xl3.length xc3] 25)) (.cells #[.int .i64 7, .string ⟨#[]⟩, .int .i64 0, .int .i64 0, .int .u64 0, .slice (some ⟨w5.heap.size, 0, none⟩) 3 3] 25)
  rw [World.size_alloc] at BC
  have hz9 : w5.heap.size < ((w5.alloc (.cells #[.int .i64 op1, .string (bs nm1), .int .i64 xn1, .int .i64 wd1, .int .u64 (v1 : Int), .slice xa1 xl1.length xc1, .int .i64 op2, .string (bs nm2), .int .i64 xn2, .int .i64 wd2, .int .u64 (v2 : Int), .slice xa2 xl2.length xc2, .int .i64 op3, .string (bs nm3), .int .i64 xn3, .int .i64 wd3, .int .u64 (v3 : Int), .slice xa3 xl3.length xc3] 25)).alloc (.cells #[.int .i64 7, .string ⟨#[]⟩, .int .i64 0, .int .i64 0, .int .u64 0, .slice (some ⟨w5.heap.size, 0, none⟩) 3 3] 25)).heap.size := by simp; omega
  generalize hG : w5.heap.size = G at *
  generalize ((w5.alloc (.cells #[.int .i64 op1, .string (bs nm1), .int .i64 xn1, .int .i64 wd1, .int .u64 (v1 : Int), .slice xa1 xl1.length xc1, .int .i64 op2, .string (bs nm2), .int .i64 xn2, .int .i64 wd2, .int .u64 (v2 : Int), .slice xa2 xl2.length xc2, .int .i64 op3, .string (bs nm3), .int .i64 xn3, .int .i64 wd3, .int .u64 (v3 : Int), .slice xa3 xl3.length xc3] 25)).alloc (.cells #[.int .i64 7, .string ⟨#[]⟩, .int .i64 0, .int .i64 0, .int .u64 0, .slice (some ⟨G, 0, none⟩) 3 3] 25)) = wA at *
  rw [← hG] at hb hn0
  have hk9 := Below.keptTo hb hn0
  replace BX1 := block_kept BX1 hb
  replace hx1 := XT.In.keep hk9 _ hx1
  replace BX2 := block_kept BX2 hb
  replace hx2 := XT.In.keep hk9 _ hx2
  replace BX3 := block_kept BX3 hb
  replace hx3 := XT.In.keep hk9 _ hx3
  replace hl := hl.keep hk9
  replace he := he.keep hb
  replace hn0 := Nat.le_trans hn0 hb.size
  replace hB := hB.trans (hb.mono hB.size)
  clear hb hk9
  have hm := hn0
  replace hx1 := XT.In.less hm _ hx1
  replace hx2 := XT.In.less hm _ hx2
  replace hx3 := XT.In.less hm _ hx3
  have hi := HIN.out G _ wA hz9 BR hx1 hx2 hx3
  replace hl := NRow.less hm hl
  clear HIN BR hm hn0
  have hn0 := Nat.le_refl wA.heap.size
  obtain ⟨C, A, F, HC, HA, HCA⟩ := HG.out G
  replace HC := Lib.hid HC
  replace HA := Lib.hid HA
  replace HCA := Lib.hid HCA
  clear HG
  obtain ⟨n9, hn9⟩ : ∃ m, wA.heap.size = m := ⟨_, rfl⟩
  rw [hn9] at hi hx1 hx2 hx3 hl
  replace hn0 : n9 ≤ wA.heap.size := by omega
  clear hn9 hz9
  obtain ⟨q01, q11, q21, q31, q41, q51⟩ := open6 BX1
  obtain ⟨q02, q12, q22, q32, q42, q52⟩ := open6 BX2
  obtain ⟨q03, q13, q23, q33, q43, q53⟩ := open6 BX3
  obtain ⟨u0, u1, u2, u3, u4, u5⟩ := open6 BC
  go_wp2_with fail
  refine (HC.out _ _ hn0 he hi).mono ?_
  rintro e w6 ⟨rfl, hb⟩
  clear q01 q11 q21 q31 q41 q51 q02 q12 q22 q32 q42 q52 q03 q13 q23 q33 q43 q53
  clear u0 u1 u2 u3 u4 u5
  have hk9 := Below.keptTo hb hn0
  replace hi := XT.In.keep hk9 _ hi
  replace BX1 := block_kept BX1 hb
  replace hx1 := XT.In.keep hk9 _ hx1
  replace BX2 := block_kept BX2 hb
  replace hx2 := XT.In.keep hk9 _ hx2
  replace BX3 := block_kept BX3 hb
  replace hx3 := XT.In.keep hk9 _ hx3
  replace hl := hl.keep hk9
  replace BC := block_kept BC hb
  replace he := he.keep hb
  replace hn0 := Nat.le_trans hn0 hb.size
  replace hB := hB.trans (hb.mono hB.size)
  clear hb hk9
  clear HC
  by_cases hC : C = 0
  case neg =>
    have hC2 : (C != 0) = true := by simpa using hC
    go_wp2
    go_ret
    exact ⟨rfl, hB⟩
  subst hC
  obtain ⟨q01, q11, q21, q31, q41, q51⟩ := open6 BX1
  obtain ⟨q02, q12, q22, q32, q42, q52⟩ := open6 BX2
  obtain ⟨q03, q13, q23, q33, q43, q53⟩ := open6 BX3
  obtain ⟨u0, u1, u2, u3, u4, u5⟩ := open6 BC
  go_wp2_with fail
  refine (HE1.out _ _ hn0 he hx1 hl).mono ?_
  rintro e w7 ⟨rfl, hb⟩
  clear q01 q11 q21 q31 q41 q51 q02 q12 q22 q32 q42 q52 q03 q13 q23 q33 q43 q53
  clear u0 u1 u2 u3 u4 u5
  have hk9 := Below.keptTo hb hn0
  replace hi := XT.In.keep hk9 _ hi
  replace BX1 := block_kept BX1 hb
  replace hx1 := XT.In.keep hk9 _ hx1
  replace BX2 := block_kept BX2 hb
  replace hx2 := XT.In.keep hk9 _ hx2
  replace BX3 := block_kept BX3 hb
  replace hx3 := XT.In.keep hk9 _ hx3
  replace hl := hl.keep hk9
  replace BC := block_kept BC hb
  replace he := he.keep hb
  replace hn0 := Nat.le_trans hn0 hb.size
  replace hB := hB.trans (hb.mono hB.size)
  clear hb hk9
  obtain ⟨q01, q11, q21, q31, q41, q51⟩ := open6 BX1
  obtain ⟨q02, q12, q22, q32, q42, q52⟩ := open6 BX2
  obtain ⟨q03, q13, q23, q33, q43, q53⟩ := open6 BX3
  obtain ⟨u0, u1, u2, u3, u4, u5⟩ := open6 BC
  go_wp2_with fail
  refine (HA.out _ _ hn0 he hi hl).mono ?_
  rintro e w8 ⟨rfl, hb⟩
  clear q01 q11 q21 q31 q41 q51 q02 q12 q22 q32 q42 q52 q03 q13 q23 q33 q43 q53
  clear u0 u1 u2 u3 u4 u5
  have hk9 := Below.keptTo hb hn0
  replace hi := XT.In.keep hk9 _ hi
  replace BX1 := block_kept BX1 hb
  replace hx1 := XT.In.keep hk9 _ hx1
  replace BX2 := block_kept BX2 hb
  replace hx2 := XT.In.keep hk9 _ hx2
  replace BX3 := block_kept BX3 hb
  replace hx3 := XT.In.keep hk9 _ hx3
  replace hl := hl.keep hk9
  replace BC := block_kept BC hb
  replace he := he.keep hb
  replace hn0 := Nat.le_trans hn0 hb.size
  replace hB := hB.trans (hb.mono hB.size)
  clear hb hk9
  clear HE1 HA
  obtain ⟨q01, q11, q21, q31, q41, q51⟩ := open6 BX1
  obtain ⟨q02, q12, q22, q32, q42, q52⟩ := open6 BX2
  obtain ⟨q03, q13, q23, q33, q43, q53⟩ := open6 BX3
  obtain ⟨u0, u1, u2, u3, u4, u5⟩ := open6 BC
  clear hx1 hi BX1
  rcases (show Cas _ _ _ _ _ _ _ _ by first | exact HCA.out rfl | exact HCA.out trivial | exact HCA.out) with ⟨h1, rfl, rfl⟩ | ⟨rfl, h2, rfl, rfl⟩ | ⟨rfl, rfl, rfl, rfl⟩
  · have h4 : (F != 0) = true := by simpa using h1
    clear HE2 HE3
    go_wp2
    go_ret
    exact ⟨rfl, hB⟩
  · have h4 : (n1 != 0) = true := by simpa using h2
    clear HE3 hx3
    clear u0 u1 u2 u3 u4 u5 BC
    go_upto_region 12 with (fail)
    clear q02 q12 q22 q32 q42 q52 q03 q13 q23 q33 q43 q53
    have BN := World.alloc_heap_new w8 (.cells #[.int .i64 op3, .string (bs nm3), .int .i64 xn3, .int .i64 wd3, .int .u64 (v3 : Int), .slice xa3 xl3.length xc3] 25)
    have hbA : Below w8.heap.size w8 (w8.alloc (.cells #[.int .i64 op3, .string (bs nm3), .int .i64 xn3, .int .i64 wd3, .int .u64 (v3 : Int), .slice xa3 xl3.length xc3] 25)) := (Below.refl _ _).alloc (Nat.le_refl _) _
    replace BX2 := block_kept BX2 hbA
    generalize hV : w8.heap.size = V at *
    generalize w8.alloc (.cells #[.int .i64 op3, .string (bs nm3), .int .i64 xn3, .int .i64 wd3, .int .u64 (v3 : Int), .slice xa3 xl3.length xc3] 25) = wN at *
    clear BX3
    obtain ⟨q02, q12, q22, q32, q42, q52⟩ := open6 BX2
    obtain ⟨y0, y1, y2, y3, y4, y5⟩ := open6b BN
    obtain ⟨z0, z1, z2, z3, z4, z5⟩ := open6f BN
    go_upto_region 14 with (fail)
    have BM := set6 BN (.int .i64 op2) (.string (bs nm2)) (.int .i64 xn2) (.int .i64 wd2) (.int .u64 (v2 : Int)) (.slice xa2 xl2.length xc2)
    have BM := set6 BN (.int .i64 op2) (.string (bs nm2)) (.int .i64 xn2) (.int .i64 wd2) (.int .u64 (v2 : Int)) (.slice xa2 xl2.length xc2)
    have hbM : Below V wN ((((((wN.setCell ⟨V, 0, none⟩ (.int .i64 op2)).setCell ⟨V, 1, none⟩ (.string (bs nm2))).setCell ⟨V, 2, none⟩ (.int .i64 xn2)).setCell ⟨V, 3, none⟩ (.int .i64 wd2)).setCell ⟨V, 4, none⟩ (.int .u64 (v2 : Int))).setCell ⟨V, 5, none⟩ (.slice xa2 xl2.length xc2)) := (((((((Below.refl _ _).setCell (p := ⟨_, 0, none⟩) (Nat.le_refl _) _).setCell (p := ⟨_, 1, none⟩) (Nat.le_refl _) _).setCell (p := ⟨_, 2, none⟩) (Nat.le_refl _) _).setCell (p := ⟨_, 3, none⟩) (Nat.le_refl _) _).setCell (p := ⟨_, 4, none⟩) (Nat.le_refl _) _).setCell (p := ⟨_, 5, none⟩) (Nat.le_refl _) _)
    clear y0 y1 y2 y3 y4 y5 z0 z1 z2 z3 z4 z5 q02 q12 q22 q32 q42 q52 BN BX2
    generalize ((((((wN.setCell ⟨V, 0, none⟩ (.int .i64 op2)).setCell ⟨V, 1, none⟩ (.string (bs nm2))).setCell ⟨V, 2, none⟩ (.int .i64 xn2)).setCell ⟨V, 3, none⟩ (.int .i64 wd2)).setCell ⟨V, 4, none⟩ (.int .u64 (v2 : Int))).setCell ⟨V, 5, none⟩ (.slice xa2 xl2.length xc2)) = wM at *
    replace hbM := hbA.trans hbM
    clear hbA
    rw [← hV] at hbM
    obtain ⟨y0, y1, y2, y3, y4, y5⟩ := open6b BM
    have hk9 := Below.keptTo hbM (by omega : n9 ≤ _)
    replace hx2 := XT.In.keep hk9 _ hx2
    replace hl := hl.keep hk9
    replace he := he.keep hbM
    have hn9 := Nat.le_trans (by omega : n9 ≤ w8.heap.size) hbM.size
    go_wp2_with fail
    refine (HE2.out n9 _ hn9 he hx2 hl).mono ?_
    rintro e wZ ⟨rfl, hb⟩
    clear y0 y1 y2 y3 y4 y5 BM
    replace hbM := hbM.trans (hb.mono hbM.size)
    replace hB := hB.trans (hbM.mono (by have := hB.size; omega))
    clear hb hbM hl he
    go_wp2
    go_ret
    exact ⟨rfl, hB⟩
  · clear HE2 hx2
    clear u0 u1 u2 u3 u4 u5 BC
    go_upto_region 12 with (fail)
    clear q02 q12 q22 q32 q42 q52 q03 q13 q23 q33 q43 q53
    have BN := World.alloc_heap_new w8 (.cells #[.int .i64 op3, .string (bs nm3), .int .i64 xn3, .int .i64 wd3, .int .u64 (v3 : Int), .slice xa3 xl3.length xc3] 25)
    have hbA : Below w8.heap.size w8 (w8.alloc (.cells #[.int .i64 op3, .string (bs nm3), .int .i64 xn3, .int .i64 wd3, .int .u64 (v3 : Int), .slice xa3 xl3.length xc3] 25)) := (Below.refl _ _).alloc (Nat.le_refl _) _
    replace BX2 := block_kept BX2 hbA
    generalize hV : w8.heap.size = V at *
    generalize w8.alloc (.cells #[.int .i64 op3, .string (bs nm3), .int .i64 xn3, .int .i64 wd3, .int .u64 (v3 : Int), .slice xa3 xl3.length xc3] 25) = wN at *
    clear BX3
    clear BX2
    have BM := BN
    have hbM := hbA
    clear BN
    clear hbA
    rw [← hV] at hbM
    obtain ⟨y0, y1, y2, y3, y4, y5⟩ := open6b BM
    have hk9 := Below.keptTo hbM (by omega : n9 ≤ _)
    replace hx3 := XT.In.keep hk9 _ hx3
    replace hl := hl.keep hk9
    replace he := he.keep hbM
    have hn9 := Nat.le_trans (by omega : n9 ≤ w8.heap.size) hbM.size
    go_wp2_with fail
    refine (HE3.out n9 _ hn9 he hx3 hl).mono ?_
    rintro e wZ ⟨rfl, hb⟩
    clear y0 y1 y2 y3 y4 y5 BM
    replace hbM := hbM.trans (hb.mono hbM.size)
    replace hB := hB.trans (hbM.mono (by have := hB.size; omega))
    clear hb hbM hl he
    go_wp2
    go_ret
    exact ⟨rfl, hB⟩

/-! ### The row's step -/
set_option maxRecDepth 100000 in
theorem contract (H : Type) (enc : TypeId × Value → H) (W : World) (base : Nat) (args : Array Value) (ds gs : List (DataW H)) (before : List MemPlace)
    (hval0 : ∀ (j : Nat) t v, Tryd.f9.params[j]? = some t → args[j]? = some v → Value.okWide Tryd.prog W .any base t v)
    (hW : DataW.Whole enc Tryd.prog Tryd.f9.params.toList Rows.konstChoiceSpec.vars false W args.toList ds gs before) (hbk : Rows.uptoBulkAll (ds ++ gs) ≤ 1048576) (hL : laidMetH Tryd.prog LD W) (hsh : W.ShapedOpen Tryd.prog) :
    Calls Tryd.prog 9 args W fun e W' => ∃ v, e = .returned v ∧ Rows.konstChoiceSpec.post enc Tryd.prog Tryd.f9 false true false false W args v W' := by
  have hval : ∀ (j : Nat) t v, Tryd.f9.params[j]? = some t → args[j]? = some v → Value.okWide Tryd.prog W .any base t v := hval0
  have hW' := hW
  obtain ⟨p, q, hA0, hV, rfl, hfz, hnd⟩ := hW
  have hA : DataW.TrodAll enc Tryd.prog W 0 (fun _ => true) true Tryd.f9.params.toList args.toList ds p := hA0
  rw [Tryd.params9] at hA hval
  obtain ⟨v0, vs0, d0, ds0, p0, q0, hargs, rfl, rfl, h0, r0⟩ := trodAll_cons hA
  obtain ⟨v1, vs1, d1, ds1, p1, q1, rfl, rfl, rfl, h1, r1⟩ := trodAll_cons r0
  obtain ⟨v2, vs2, d2, ds2, p2, q2, rfl, rfl, rfl, h2, r2⟩ := trodAll_cons r1
  obtain ⟨v3, vs3, d3, ds3, p3, q3, rfl, rfl, rfl, h3, r3⟩ := trodAll_cons r2
  obtain ⟨rfl, rfl, rfl⟩ := trodAll_nil r3
  obtain rfl : args = #[v0, v1, v2, v3] := by cases args; simp_all
  obtain ⟨rfl, rfl⟩ := trodVars_none hV
  have he := env_of hL hsh
  simp only [List.append_nil, Rows.uptoBulkAll] at hbk
  have k0 : ∀ (W' : World), Below W.heap.size W W' → DataW.Trod enc Tryd.prog W' 0 (fun b => decide (b < W.heap.size)) true 25 v0 d0 p0 := fun W' hn => Below.trod laidOut (by kernel_rfl) (of_decide_eq_true (by kernel_rfl)) h0 hn (fun x hx => by simpa using hW'.lt x (by simp [hx]))
  have k1 : ∀ (W' : World), Below W.heap.size W W' → DataW.Trod enc Tryd.prog W' 0 (fun b => decide (b < W.heap.size)) true 25 v1 d1 p1 := fun W' hn => Below.trod laidOut (by kernel_rfl) (of_decide_eq_true (by kernel_rfl)) h1 hn (fun x hx => by simpa using hW'.lt x (by simp [hx]))
  have k2 : ∀ (W' : World), Below W.heap.size W W' → DataW.Trod enc Tryd.prog W' 0 (fun b => decide (b < W.heap.size)) true 25 v2 d2 p2 := fun W' hn => Below.trod laidOut (by kernel_rfl) (of_decide_eq_true (by kernel_rfl)) h2 hn (fun x hx => by simpa using hW'.lt x (by simp [hx]))
  have k3 : ∀ (W' : World), Below W.heap.size W W' → DataW.Trod enc Tryd.prog W' 0 (fun b => decide (b < W.heap.size)) true 26 v3 d3 p3 := fun W' hn => Below.trod laidOut (by kernel_rfl) (of_decide_eq_true (by kernel_rfl)) h3 hn (fun x hx => by simpa using hW'.lt x (by simp [hx]))
  obtain ⟨t0, rfl, i0, w0, b0⟩ := xt_of (hval 0 25 v0 rfl rfl) h0
  obtain ⟨t1, rfl, i1, w1, b1⟩ := xt_of (hval 1 25 v1 rfl rfl) h1
  obtain ⟨t2, rfl, i2, w2, b2⟩ := xt_of (hval 2 25 v2 rfl rfl) h2
  obtain ⟨a3, c3, l3, rfl, r3_, b3, z3⟩ := rowN_of (hval 3 26 v3 rfl rfl) h3
  clear hA0 hval0
  simp only [List.append_nil] at hW'
  refine (walk_any t0 t1 t2 (by omega) w0 w1 w2 l3 (by omega) a3 c3 W.heap.size W (Nat.le_refl _) he i0 i1 i2 r3_).mono fun e W' ⟨hr, bel⟩ => ?_
  subst hr
  exact ⟨_, rfl, _, _, _, [], _, [], hW', trodAll_mk1 (shut_bool Tryd.underlying4 _), (trodAll_cons_mk (k0 _ bel) (trodAll_cons_mk (k1 _ bel) (trodAll_cons_mk (k2 _ bel) (trodAll_cons_mk (k3 _ bel) trodAll_mk0)))), rfl, bel.frame _, fun h => by cases h⟩
theorem reads (os : Os) {H : Type} (enc : TypeId × Value → H) : ∃ places, DataW.whole enc Tryd.prog ((World.doorLaid Tryd.prog 55 os).forCall (fun _ _ => 0) ⟨#[], #[.agg #[.int .i64 0, .string ⟨#[]⟩, .int .i64 0, .int .i64 0, .int .u64 0, .slice none 0 0], .agg #[.int .i64 0, .string ⟨#[]⟩, .int .i64 0, .int .i64 0, .int .u64 0, .slice none 0 0], .agg #[.int .i64 0, .string ⟨#[]⟩, .int .i64 0, .int .i64 0, .int .u64 0, .slice none 0 0], .slice none 0 0], []⟩).memory Tryd.f9.params.toList Rows.konstChoiceSpec.vars false #[.agg #[.int .i64 0, .string ⟨#[]⟩, .int .i64 0, .int .i64 0, .int .u64 0, .slice none 0 0], .agg #[.int .i64 0, .string ⟨#[]⟩, .int .i64 0, .int .i64 0, .int .u64 0, .slice none 0 0], .agg #[.int .i64 0, .string ⟨#[]⟩, .int .i64 0, .int .i64 0, .int .u64 0, .slice none 0 0], .slice none 0 0].toList 8 = some ([.agg [.lit (.int .i64 0), .lit (.string []), .lit (.int .i64 0), .lit (.int .i64 0), .lit (.int .u64 0), .nil], .agg [.lit (.int .i64 0), .lit (.string []), .lit (.int .i64 0), .lit (.int .i64 0), .lit (.int .u64 0), .nil], .agg [.lit (.int .i64 0), .lit (.string []), .lit (.int .i64 0), .lit (.int .i64 0), .lit (.int .u64 0), .nil], .nil], [], places) :=
  ⟨[], by kernel_rfl⟩
set_option maxRecDepth 100000 in
theorem lifted (os : Os) (started : os.Started) (H : Type) (enc : TypeId × Value → H) (F : Stop.Interp) :
    ReturnsInHanded {} Tryd.checked os 9 .any ((Rows.OpenSpec.upto Rows.konstChoiceSpec).preRow enc Tryd.prog Tryd.f9 Rows.konstChoiceUptoRow.domain false Rows.konstChoiceUptoRow.laid) (((Rows.OpenSpec.upto Rows.konstChoiceSpec).at F).post enc Tryd.prog Tryd.f9 false true false false) := by
  obtain ⟨places, hx⟩ := reads os enc
  refine returnsInHanded_of_row (C := Tryd.checked) (s := Rows.OpenSpec.upto Rows.konstChoiceSpec) own started (by kernel_rfl) Tryd.func9
    (witness_row_at (enc := enc) (C := Tryd.checked) false (World.doorLaid Tryd.prog 55 os) #[.agg #[.int .i64 0, .string ⟨#[]⟩, .int .i64 0, .int .i64 0, .int .u64 0, .slice none 0 0], .agg #[.int .i64 0, .string ⟨#[]⟩, .int .i64 0, .int .i64 0, .int .u64 0, .slice none 0 0], .agg #[.int .i64 0, .string ⟨#[]⟩, .int .i64 0, .int .i64 0, .int .u64 0, .slice none 0 0], .slice none 0 0] rfl (by kernel_rfl) (by kernel_rfl) (by kernel_rfl)
      (OpenSpec.preRow_of_cond 8 hx (by kernel_rfl) (fun k hk => by cases hk; kernel_rfl) (by kernel_rfl) (door_met os _))) ?_
  intro W base args ds gs before hval hW _ hcond _ hL hsh _
  have hbk : Rows.uptoBulkAll (ds ++ gs) ≤ 1048576 := of_decide_eq_true (hcond _ rfl)
  exact contract H enc W base args ds gs before hval hW hbk hL hsh
theorem over : Rows.KonstChoiceUptoSaid :=
  OpenClaim.holds_of_cond 9 Tryd.f9 rfl rfl rfl rfl rfl rfl rfl ⟨rfl, rfl, rfl, rfl, rfl⟩ rfl rfl rfl rfl rfl (by kernel_rfl) Tryd.func9 (by kernel_rfl)
    (of_decide_eq_true (by kernel_rfl)) (by unfold Func.isWrapper; first | (rw [if_pos (by decide +kernel)]; kernel_rfl) | (rw [if_neg (by decide +kernel)]; exact ⟨rfl, rfl⟩))
    (fun os started H enc _ F => by rw [OpenClaim.pre_eq_preRow]; exact lifted os started H enc F)
/-- The given statement. -/
theorem proved : Rows.KonstChoiceUptoCardSaid :=
  Claim7.holds_tied_plain_at .later [] _ _ _ _
    over (fun _ h => by cases h) (by kernel_rfl) (fun _ h => by cases h) konstChoiceUpto_row_tie rfl ⟨rfl, rfl⟩ (by kernel_rfl) rfl
    (fun f fn hf hfn => by
      obtain rfl : f = 9 := Option.some.inj ((show Tryd.prog.funcNamed "filigree/filigreelaw06.KonstChoice" = some 9 by kernel_rfl).symm.trans hf) |>.symm
      obtain rfl : fn = Tryd.f9 := (Option.some.inj (Tryd.func9.symm.trans hfn)).symm
      exact ⟨by kernel_rfl, fun j t ht => by
        rw [Tryd.params9] at ht
        have hm : t ∈ [25, 25, 25, 26] := by simpa using Array.mem_of_getElem? ht
        have hall : ([25, 25, 25, 26].all fun u => !Tryd.prog.wantsStandIn u) = true := by kernel_rfl
        exact (show Tryd.prog.wantsStandIn t = false by simpa using List.all_eq_true.1 hall t hm)⟩)
    (by kernel_rfl)
#print axioms proved
end Go.Proofs.YtlhcnbgllgodoaaDoor.konstChoice
