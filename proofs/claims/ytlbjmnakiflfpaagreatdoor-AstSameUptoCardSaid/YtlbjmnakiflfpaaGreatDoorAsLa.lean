/-
  What the laws call: Same, few, fewX, fewS, name.
-/
import Derived.Test.YtlbjmnakiflfpaaGreatDoorAsT
import Derived.Test.YtlbjmnakiflfpaaGreatDoorAsPf
import Derived.Test.YtlbjmnakiflfpaaGreatDoorAsPg
import Derived.Test.YtlbjmnakiflfpaaGreatDoorAsR
import Derived.Test.YtlbjmnakiflfpaaGreatDoorAsV
namespace Go.Proofs.YtlbjmnakiflfpaaGreatDoor
open Go Go.RowKit
set_option linter.unusedVariables false
set_option linter.unusedSimpArgs false
open Go.Sort

def sameF (x y : FT) : Bool := eqList sameM x.ml y.ml
set_option maxHeartbeats 4000000 in
theorem same_any (x y : FT) (hx : x.bk ≤ 1500000) (hy : y.bk ≤ 1500000) (n0 : Nat) (w : World) (hn0 : n0 ≤ w.heap.size) (ix : x.In n0 w) (iy : y.In n0 w) : Calls Tryz.prog 17 #[x.val, y.val] w fun e w' => e = .returned (.bool (sameF x y)) ∧ Below w.heap.size w w' := by
  obtain ⟨ma, mc, ml⟩ := x
  obtain ⟨na, nc, nl⟩ := y
  have bx : 1 + MT.bkL ml ≤ 1500000 := hx
  have bby : 1 + MT.bkL nl ≤ 1500000 := hy
  have l1 := MT.bkL_len ml
  have l2 := MT.bkL_len nl
  have i1 : InRow 4 MT.cells (MT.In n0 w) n0 w ml ma := ix
  have i2 : InRow 4 MT.cells (MT.In n0 w) n0 w nl na := iy
  have hc := fun (w' : World) h1 h2 h3 => eqM_any sameM n0 ml nl (by omega) (by omega) (fun x hx y hy w2 g1 g2 g3 => sameM_any x (by have := MT.bkL_mem hx; omega) y (by have := MT.bkL_mem hy; omega) n0 w2 g1 g2 g3) ma mc na nc w' h1 h2 h3
  have HV : Hid (sameF ⟨ma, mc, ml⟩ ⟨na, nc, nl⟩ = eqList sameM ml nl) := Lib.hid rfl
  rw [HV.out]
  have HC := Lib.hid hc
  simp only [FT.val, FT.cells]
  clear hc bx bby l1 l2 hx hy ix iy
  obtain ⟨w2, hw2⟩ : ∃ w2, (w.alloc (.cells #[.slice ma ml.length mc] 41)).alloc (.cells #[.slice na nl.length nc] 41) = w2 := ⟨_, rfl⟩
  have hB : Below w.heap.size w w2 := by rw [← hw2]; exact ((Below.refl _ _).alloc (Nat.le_refl _) _).alloc (by simp) _
  have hk := Below.keptTo hB hn0
  have hq := HC.out w2 (Nat.le_trans hn0 hB.size) (i1.keep hk (fun x _ => MT.In.keep hk x)) (i2.keep hk (fun x _ => MT.In.keep hk x))
  have hz := hB.size
  rw [← hw2] at hq
  have HW2 := Lib.hid hw2
  clear HC i1 i2 hk hw2
  go_enter Tryz.func17, Tryz.ntmps17
  go_wp2_with fail
  refine hq.mono ?_
  rintro e w3 ⟨rfl, hb⟩
  rw [HW2.out] at hb
  clear hq
  go_wp2
  go_ret
  exact ⟨rfl, hB.trans (hb.mono hz)⟩

set_option maxHeartbeats 4000000 in
theorem fewX_any (x : XT) (hsz : x.sz ≤ 1500000) (n0 : Nat) (w : World) (hn0 : n0 ≤ w.heap.size) (hx : x.In n0 w) : Calls Tryz.prog 7 #[x.val] w fun e w' => e = .returned (.bool (decide (x.sz ≤ 2000) && decide (x.dp ≤ 100))) ∧ Below w.heap.size w w' := by
  have h1 := fun (w' : World) a b => refsizeX_any x (by omega) n0 w' a b
  have h2 := fun (w' : World) a b => refdeepX_any x (by omega) n0 w' a b
  obtain ⟨S, hS⟩ : ∃ S, x.sz = S := ⟨_, rfl⟩
  obtain ⟨D, hD⟩ : ∃ D, x.dp = D := ⟨_, rfl⟩
  rw [hS] at h1 hsz
  rw [hD] at h2
  rw [hS, hD]
  obtain ⟨b1, hb1⟩ : ∃ b, decide (S ≤ 2000) = b := ⟨_, rfl⟩
  obtain ⟨b2, hb2⟩ : ∃ b, decide (D ≤ 100) = b := ⟨_, rfl⟩
  have e1 : decide ((S : Int) ≤ 2000) = b1 := by rw [← hb1]; exact decide_eq_decide.2 (by omega)
  have e2 : decide ((D : Int) ≤ 100) = b2 := by rw [← hb2]; exact decide_eq_decide.2 (by omega)
  rw [hb1, hb2]
  clear hb1 hb2 hS hD
  have hx0 := hx
  obtain ⟨op, nm, xn, wd, v, xa, xc, xl⟩ := x
  simp only [XT.val, XT.cells] at h1 h2 ⊢
  have H1 := Lib.hid h1
  have H2 := Lib.hid h2
  clear h1 h2 hx
  go_enter Tryz.func7, Tryz.ntmps7
  go_upto_region 1 with (fail)
  have BX : (w.alloc (.cells #[.int .i64 op, .string (bs nm), .int .i64 xn, .int .i64 wd, .int .u64 (v : Int), .slice xa xl.length xc] 25)).heap[w.heap.size]? = some (.cells #[.int .i64 op, .string (bs nm), .int .i64 xn, .int .i64 wd, .int .u64 (v : Int), .slice xa xl.length xc] 25) := World.alloc_heap_new w _
  have hB2 : Below w.heap.size w (w.alloc (.cells #[.int .i64 op, .string (bs nm), .int .i64 xn, .int .i64 wd, .int .u64 (v : Int), .slice xa xl.length xc] 25)) := (Below.refl _ _).alloc (Nat.le_refl _) _
  have hi2 := XT.In.keep (Below.keptTo hB2 hn0) _ hx0
  clear hx0
  generalize w.alloc (.cells #[.int .i64 op, .string (bs nm), .int .i64 xn, .int .i64 wd, .int .u64 (v : Int), .slice xa xl.length xc] 25) = w1 at *
  have hn1 : n0 ≤ w1.heap.size := by have := hB2.size; omega
  obtain ⟨x0, x1, x2, x3, x4, x5⟩ := open6 BX
  go_wp2_with fail
  refine (H1.out _ hn1 hi2).mono ?_
  rintro e w2 ⟨rfl, hb⟩
  clear H1 x0 x1 x2 x3 x4 x5
  replace BX := block_kept BX hb
  have hk9 := Below.keptTo hb hn1
  replace hi2 := XT.In.keep hk9 _ hi2
  replace hn1 := Nat.le_trans hn1 hb.size
  replace hB2 := hB2.trans (hb.mono hB2.size)
  clear hb hk9
  obtain ⟨x0, x1, x2, x3, x4, x5⟩ := open6 BX
  cases b1 with
  | false =>
    go_wp2
    go_ret
    exact ⟨rfl, hB2⟩
  | true =>
    go_wp2_with fail
    refine (H2.out _ hn1 hi2).mono ?_
    rintro e w3 ⟨rfl, hb⟩
    have hB3 := hB2.trans (hb.mono hB2.size)
    clear H2
    go_wp2
    go_ret
    exact ⟨rfl, hB3⟩

set_option maxHeartbeats 4000000 in
theorem few_any (x : FT) (hsz : x.sz ≤ 1500000) (n0 : Nat) (w : World) (hn0 : n0 ≤ w.heap.size) (hx : x.In n0 w) : Calls Tryz.prog 16 #[x.val] w fun e w' => e = .returned (.bool (decide (x.sz ≤ 2000) && decide (x.dp ≤ 100))) ∧ Below w.heap.size w w' := by
  have h1 := fun (w' : World) a b => refsize_any x (by omega) n0 w' a b
  have h2 := fun (w' : World) a b => refdeep_any x (by omega) n0 w' a b
  obtain ⟨S, hS⟩ : ∃ S, x.sz = S := ⟨_, rfl⟩
  obtain ⟨D, hD⟩ : ∃ D, x.dp = D := ⟨_, rfl⟩
  rw [hS] at h1 hsz
  rw [hD] at h2
  rw [hS, hD]
  obtain ⟨b1, hb1⟩ : ∃ b, decide (S ≤ 2000) = b := ⟨_, rfl⟩
  obtain ⟨b2, hb2⟩ : ∃ b, decide (D ≤ 100) = b := ⟨_, rfl⟩
  have e1 : decide ((S : Int) ≤ 2000) = b1 := by rw [← hb1]; exact decide_eq_decide.2 (by omega)
  have e2 : decide ((D : Int) ≤ 100) = b2 := by rw [← hb2]; exact decide_eq_decide.2 (by omega)
  rw [hb1, hb2]
  clear hb1 hb2 hS hD
  have hx0 := hx
  obtain ⟨ma, mc, ml⟩ := x
  simp only [FT.val, FT.cells] at h1 h2 ⊢
  have H1 := Lib.hid h1
  have H2 := Lib.hid h2
  clear h1 h2 hx
  go_enter Tryz.func16, Tryz.ntmps16
  go_upto_region 1 with (fail)
  have BX : (w.alloc (.cells #[.slice ma ml.length mc] 41)).heap[w.heap.size]? = some (.cells #[.slice ma ml.length mc] 41) := World.alloc_heap_new w _
  have hB2 : Below w.heap.size w (w.alloc (.cells #[.slice ma ml.length mc] 41)) := (Below.refl _ _).alloc (Nat.le_refl _) _
  have hi2 := FT.In.keep (Below.keptTo hB2 hn0) _ hx0
  clear hx0
  generalize w.alloc (.cells #[.slice ma ml.length mc] 41) = w1 at *
  have hn1 : n0 ≤ w1.heap.size := by have := hB2.size; omega
  have x0 := (cell_of_box_1 BX).1
  go_wp2_with fail
  refine (H1.out _ hn1 hi2).mono ?_
  rintro e w2 ⟨rfl, hb⟩
  clear H1 x0
  replace BX := block_kept BX hb
  have hk9 := Below.keptTo hb hn1
  replace hi2 := FT.In.keep hk9 _ hi2
  replace hn1 := Nat.le_trans hn1 hb.size
  replace hB2 := hB2.trans (hb.mono hB2.size)
  clear hb hk9
  have x0 := (cell_of_box_1 BX).1
  cases b1 with
  | false =>
    go_wp2
    go_ret
    exact ⟨rfl, hB2⟩
  | true =>
    go_wp2_with fail
    refine (H2.out _ hn1 hi2).mono ?_
    rintro e w3 ⟨rfl, hb⟩
    have hB3 := hB2.trans (hb.mono hB2.size)
    clear H2
    go_wp2
    go_ret
    exact ⟨rfl, hB3⟩

theorem one_in (x : ST) (n0 : Nat) (w : World) (hn0 : n0 ≤ w.heap.size) (hx : x.In n0 w) : InRow 4 ST.cells (ST.In (w.alloc (.cells x.cells.toArray 28)).heap.size (w.alloc (.cells x.cells.toArray 28))) (w.alloc (.cells x.cells.toArray 28)).heap.size (w.alloc (.cells x.cells.toArray 28)) [x] (some ⟨w.heap.size, 0, none⟩) := by
  have hB : Below w.heap.size w (w.alloc (.cells x.cells.toArray 28)) := (Below.refl _ _).alloc (Nat.le_refl _) _
  refine ⟨⟨w.heap.size, 0, rfl, by simp, fun j v hv => ?_⟩, ST.In.less (by simp; omega) _ (ST.In.keep (Below.keptTo hB hn0) _ hx), trivial⟩
  have h := World.alloc_heap_new w (.cells x.cells.toArray 28)
  simp only [World.cell?, h]
  simpa using hv
set_option maxHeartbeats 4000000 in
theorem fewS_any (x : ST) (hsz : x.sz ≤ 1500000) (n0 : Nat) (w : World) (hn0 : n0 ≤ w.heap.size) (hx : x.In n0 w) : Calls Tryz.prog 8 #[x.val] w fun e w' => e = .returned (.bool (decide (x.sz ≤ 2000) && decide (x.dp ≤ 100))) ∧ Below w.heap.size w w' := by
  have hdz := x.dp_sz
  have hs1 : ST.szL [x] = x.sz := by simp [ST.szL]
  have hs2 : ST.dpL [x] = x.dp := by simp [ST.dpL]
  have h1 := fun (w' : World) (a : Option Addr) (c n : Nat) i j => refsizeS_any [x] (by omega) a c n w' i j
  have h2 := fun (w' : World) (a : Option Addr) (c n : Nat) i j => refdeepS_any [x] (by omega) a c n w' i j
  rw [hs1] at h1
  rw [hs2] at h2
  obtain ⟨S, hS⟩ : ∃ S, x.sz = S := ⟨_, rfl⟩
  obtain ⟨D, hD⟩ : ∃ D, x.dp = D := ⟨_, rfl⟩
  rw [hS] at h1 hsz
  rw [hD] at h2
  rw [hS, hD]
  obtain ⟨b1, hb1⟩ : ∃ b, decide (S ≤ 2000) = b := ⟨_, rfl⟩
  obtain ⟨b2, hb2⟩ : ∃ b, decide (D ≤ 100) = b := ⟨_, rfl⟩
  have e1 : decide ((S : Int) ≤ 2000) = b1 := by rw [← hb1]; exact decide_eq_decide.2 (by omega)
  have e2 : decide ((D : Int) ≤ 100) = b2 := by rw [← hb2]; exact decide_eq_decide.2 (by omega)
  rw [hb1, hb2]
  clear hb1 hb2 hS hD hs1 hs2 hdz
  have hx0 := hx
  have ho := fun (w' : World) a b => one_in x n0 w' a b
  obtain ⟨op, nm, xa, xc, xl, sa, sc, sl⟩ := x
  simp only [ST.val, ST.cells] at h1 h2 ho ⊢
  have H1 := Lib.hid h1
  have H2 := Lib.hid h2
  have HO := Lib.hid ho
  clear h1 h2 hx ho
  go_enter Tryz.func8, Tryz.ntmps8
  go_upto_region 1 with (fail)
  have BX : (w.alloc (.cells #[.int .i64 op, .string (bs nm), .slice xa xl.length xc, .slice sa sl.length sc] 28)).heap[w.heap.size]? = some (.cells #[.int .i64 op, .string (bs nm), .slice xa xl.length xc, .slice sa sl.length sc] 28) := World.alloc_heap_new w _
  have hB2 : Below w.heap.size w (w.alloc (.cells #[.int .i64 op, .string (bs nm), .slice xa xl.length xc, .slice sa sl.length sc] 28)) := (Below.refl _ _).alloc (Nat.le_refl _) _
  have hi2 := ST.In.keep (Below.keptTo hB2 hn0) _ hx0
  clear hx0
  generalize w.alloc (.cells #[.int .i64 op, .string (bs nm), .slice xa xl.length xc, .slice sa sl.length sc] 28) = w1 at *
  have hn1 : n0 ≤ w1.heap.size := by have := hB2.size; omega
  obtain ⟨x0, x1, x2, x3⟩ := open4 BX
  have hr := HO.out w1 hn1 hi2
  have hB3 : Below w.heap.size w (w1.alloc (.cells #[.int .i64 op, .string (bs nm), .slice xa xl.length xc, .slice sa sl.length sc] 28)) := hB2.alloc hB2.size _
  go_upto_region 2 with (fail)
  generalize hgz : w1.heap.size = g at *
  generalize w1.alloc (.cells #[.int .i64 op, .string (bs nm), .slice xa xl.length xc, .slice sa sl.length sc] 28) = w2 at *
  clear x0 x1 x2 x3 BX hi2 hn1 hn0 hgz hB2 HO
  go_wp2_with fail
  refine (H1.out _ (some ⟨g, 0, none⟩) 1 _ (Nat.le_refl _) hr).mono ?_
  rintro e w3 ⟨rfl, hb⟩
  clear H1
  have hk9 := Below.keptTo hb (Nat.le_refl _)
  have hz := hb.size
  replace hr := hr.keep hk9 (fun x _ => ST.In.keep hk9 x)
  replace hB3 := hB3.trans (hb.mono hB3.size)
  clear hk9 hb
  cases b1 with
  | false =>
    go_wp2
    go_ret
    exact ⟨rfl, hB3⟩
  | true =>
    go_wp2_with fail
    refine (H2.out _ (some ⟨g, 0, none⟩) 1 _ hz hr).mono ?_
    rintro e w4 ⟨rfl, hb⟩
    have hB4 := hB3.trans (hb.mono hB3.size)
    clear H2
    go_wp2
    go_ret
    exact ⟨rfl, hB4⟩
/-- A name, as an expression. -/
def nameT (l : Bytes) : XT := .mk 2 l 0 0 0 none 0 []
theorem nameT_in (l : Bytes) (n : Nat) (W : World) : (nameT l).In n W := by rw [nameT, XT.In_mk]; trivial
set_option maxHeartbeats 4000000 in
theorem name_any (l : Bytes) (w : World) : Calls Tryz.prog 31 #[.string (bs l)] w fun e w' => e = .returned (nameT l).val ∧ Below w.heap.size w w' := by
  go_enter Tryz.func31, Tryz.ntmps31
  go_wp2
  refine bodyPost_ret (v := .agg #[.int .i64 2, .string (bs l), .int .i64 0, .int .i64 0, .int .u64 0, .slice none 0 0]) (by simp [results, Tryz.results31, go_sem, *]) rfl ⟨rfl, ?_⟩
  repeat (first | exact Below.refl _ _ | (refine Below.setCell ?_ (by first | (simp; done) | (simp; omega) | omega) _) | (refine Below.alloc ?_ (by first | (simp; done) | (simp; omega) | omega) _) | (refine below_drewN ?_ _) | (refine Below.drew ?_) | (refine below_via (by assumption) ?_ (by first | (simp; done) | (simp; omega) | omega)))
end Go.Proofs.YtlbjmnakiflfpaaGreatDoor
