/-
  What the laws call: few, num, bin, not, bit.
-/
import Derived.Test.YtlbjmnakiflfpaaGreatDoorKpKsF
namespace Go.Proofs.YtlbjmnakiflfpaaGreatDoor
open Go Go.RowKit
set_option linter.unusedVariables false
set_option linter.unusedSimpArgs false
open Go.Sort

def fewK (x : XT) (l : List NT) : Bool := (decide (x.sz ≤ 1000) && decide (x.dp ≤ 100)) && decide (l.length ≤ 50)
set_option maxHeartbeats 4000000 in
theorem kfew_any (x : XT) (hsz : x.sz ≤ 1500000) (l : List NT) (hll : l.length ≤ 1500000) (a : Option Addr) (c n0 : Nat) (w : World) (hn0 : n0 ≤ w.heap.size) (hx : x.In n0 w) : Calls Tryz.prog 24 #[x.val, .slice a l.length c] w fun e w' => e = .returned (.bool (fewK x l)) ∧ Below w.heap.size w w' := by
  have HI : Hid (fewK x l = ((decide (x.sz ≤ 1000) && decide (x.dp ≤ 100)) && decide (l.length ≤ 50))) := Lib.hid rfl
  generalize fewK x l = R at *
  have h1 := fun (w' : World) a b => refsizeX_any x (by omega) n0 w' a b
  have h2 := fun (w' : World) a b => refdeepX_any x (by omega) n0 w' a b
  obtain ⟨S, hS⟩ : ∃ S, x.sz = S := ⟨_, rfl⟩
  obtain ⟨D, hD⟩ : ∃ D, x.dp = D := ⟨_, rfl⟩
  rw [hS] at h1 hsz
  rw [hD] at h2
  rw [hS, hD] at HI
  obtain ⟨b1, hb1⟩ : ∃ b, decide (S ≤ 1000) = b := ⟨_, rfl⟩
  obtain ⟨b2, hb2⟩ : ∃ b, decide (D ≤ 100) = b := ⟨_, rfl⟩
  obtain ⟨b3, hb3⟩ : ∃ b, decide (l.length ≤ 50) = b := ⟨_, rfl⟩
  have e1 : decide ((S : Int) ≤ 1000) = b1 := by rw [← hb1]; exact decide_eq_decide.2 (by omega)
  have e2 : decide ((D : Int) ≤ 100) = b2 := by rw [← hb2]; exact decide_eq_decide.2 (by omega)
  have e3 : decide ((l.length : Int) ≤ 50) = b3 := by rw [← hb3]; exact decide_eq_decide.2 (by omega)
  rw [hb1, hb2, hb3] at HI
  clear hb1 hb2 hS hD
  have hx0 := hx
  obtain ⟨op, nm, xn, wd, v, xa, xc, xl⟩ := x
  simp only [XT.val, XT.cells] at h1 h2 ⊢
  have H1 := Lib.hid h1
  have H2 := Lib.hid h2
  clear h1 h2 hx
  go_enter Tryz.func24, Tryz.ntmps24
  go_upto_region 1 with (fail)
  have BX : (w.alloc (.cells #[.int .i64 op, .string (bs nm), .int .i64 xn, .int .i64 wd, .int .u64 (v : Int), .slice xa xl.length xc] 25)).heap[w.heap.size]? = some (.cells #[.int .i64 op, .string (bs nm), .int .i64 xn, .int .i64 wd, .int .u64 (v : Int), .slice xa xl.length xc] 25) := World.alloc_heap_new w _
  have hB2 : Below w.heap.size w (w.alloc (.cells #[.int .i64 op, .string (bs nm), .int .i64 xn, .int .i64 wd, .int .u64 (v : Int), .slice xa xl.length xc] 25)) := (Below.refl _ _).alloc (Nat.le_refl _) _
  have hi2 := XT.In.keep (Below.keptTo hB2 hn0) _ hx0
  clear hx0
  generalize w.alloc (.cells #[.int .i64 op, .string (bs nm), .int .i64 xn, .int .i64 wd, .int .u64 (v : Int), .slice xa xl.length xc] 25) = w1 at *
  have hn1 : n0 ≤ w1.heap.size := by have := hB2.size; omega
  obtain ⟨x0, x1, x2, x3, x4, x5⟩ := open6 BX
  go_wp2_with fail
  refine (H1.out _ hn1 hi2).mono ?_
  rintro e w2 ⟨rfl, hb⟩
  clear H1 x0 x1 x2 x3 x4 x5
  replace BX := block_kept BX hb
  have hk9 := Below.keptTo hb hn1
  replace hi2 := XT.In.keep hk9 _ hi2
  replace hn1 := Nat.le_trans hn1 hb.size
  replace hB2 := hB2.trans (hb.mono hB2.size)
  clear hb hk9
  obtain ⟨x0, x1, x2, x3, x4, x5⟩ := open6 BX
  cases b1 with
  | false =>
    have HE : Hid (R = false) := Lib.hid (by rw [HI.out]; rfl)
    go_wp2
    go_ret
    exact ⟨by rw [HE.out]; rfl, hB2⟩
  | true =>
    go_wp2_with fail
    refine (H2.out _ hn1 hi2).mono ?_
    rintro e w3 ⟨rfl, hb⟩
    have hB3 := hB2.trans (hb.mono hB2.size)
    clear H2
    cases b2 with
    | false =>
      have HE : Hid (R = false) := Lib.hid (by rw [HI.out]; rfl)
      go_wp2
      go_ret
      exact ⟨by rw [HE.out]; rfl, hB3⟩
    | true =>
      have HE : Hid (R = b3) := Lib.hid (by rw [HI.out]; rfl)
      go_wp2
      go_ret
      exact ⟨by rw [HE.out]; rfl, hB3⟩
/-- A number as an expression. -/
def numT (k : Nat) : XT := .mk 1 [] 0 0 k none 0 []
theorem numT_in (k n : Nat) (W : World) : (numT k).In n W := by rw [numT, XT.In_mk]; trivial
set_option maxHeartbeats 4000000 in
theorem num_any (k : Nat) (hk : k ≤ 2147483647) (w : World) : Calls Tryz.prog 65 #[.int .i64 (k : Int)] w fun e w' => e = .returned (.agg #[.int .i64 1, .string ⟨#[]⟩, .int .i64 0, .int .i64 0, .int .u64 (k : Int), .slice none 0 0]) ∧ Below w.heap.size w w' := by
  have x1 : (k : Int) ≤ 2147483647 := by omega
  have x2 : (0 : Int) ≤ (k : Int) := by omega
  go_enter Tryz.func65, Tryz.ntmps65
  go_wp2
  refine bodyPost_ret (v := .agg #[.int .i64 1, .string ⟨#[]⟩, .int .i64 0, .int .i64 0, .int .u64 (k : Int), .slice none 0 0]) (by simp [results, Tryz.results65, go_sem, *]) rfl ⟨rfl, ?_⟩
  repeat (first | exact Below.refl _ _ | (refine Below.setCell ?_ (by first | (simp; done) | (simp; omega) | omega) _) | (refine Below.alloc ?_ (by first | (simp; done) | (simp; omega) | omega) _) | (refine below_drewN ?_ _) | (refine Below.drew ?_) | (refine below_via (by assumption) ?_ (by first | (simp; done) | (simp; omega) | omega)))

theorem rowc_of2 {W : World} {b o : Nat} {t : TypeId} {all cs : List Value} (h : W.heap[b]? = some (.cells all.toArray t (0, 0))) (hs : (all.drop o).take cs.length = cs) : RowC W b o cs := by
  intro j v hv
  have hj : j < cs.length := by
    by_cases h1 : j < cs.length
    · exact h1
    · rw [List.getElem?_eq_none (by omega)] at hv; cases hv
  rw [← hs, List.getElem?_take_of_lt hj, List.getElem?_drop] at hv
  simp only [World.cell?, h]
  simpa using hv
/-- An operation of two; its parts lie at block g. -/
def binT (op : Int) (g : Nat) (x y : XT) : XT := .mk 6 [] op 0 0 (some ⟨g, 0, none⟩) 2 [x, y]
theorem binT_in {op : Int} {g n : Nat} {x y : XT} {W : World} (hg : g < n) (hb : W.heap[g]? = some (.cells (x.cells ++ y.cells).toArray 25 (0, 0))) (hx : x.In n W) (hy : y.In n W) : (binT op g x y).In n W := by
  rw [binT, XT.In_mk]
  have hl : x.cells.length = 6 := by cases x; rfl
  refine ⟨⟨g, 0, rfl, hg, rowc_of2 (o := 0) hb ?_⟩, hx, ⟨g, 6, rfl, hg, rowc_of2 (o := 6) hb ?_⟩, hy, trivial⟩
  · rw [List.drop_zero, List.take_left' rfl]
  · rw [List.drop_left' hl]
    exact List.take_length
/-- What bin leaves. -/
def BinPost (bo : Int) (x y : XT) (w : World) (e : Ending) (w' : World) : Prop := ∃ g, e = .returned (.agg #[.int .i64 6, .string ⟨#[]⟩, .int .i64 bo, .int .i64 0, .int .u64 0, .slice (some ⟨g, 0, none⟩) 2 2]) ∧ (binT bo g x y).In w'.heap.size w' ∧ Below w.heap.size w w'
set_option maxHeartbeats 4000000 in
set_option maxRecDepth 3000000 in
theorem bin_any (bo : Int) (x y : XT) (n0 : Nat) (w : World) (hn0 : n0 ≤ w.heap.size) (hx : x.In n0 w) (hy : y.In n0 w) : Calls Tryz.prog 64 #[.int .i64 bo, x.val, y.val] w (BinPost bo x y w) := by
  obtain ⟨op, nm, xn, wd, v, xa, xc, xl⟩ := x
  obtain ⟨op2, nm2, xn2, wd2, v2, xa2, xc2, xl2⟩ := y
  have hB : Below w.heap.size w ((((w.alloc (.cells #[.int .i64 op, .string (bs nm), .int .i64 xn, .int .i64 wd, .int .u64 (v : Int), .slice xa xl.length xc] 25)).alloc (.cells #[.int .i64 op2, .string (bs nm2), .int .i64 xn2, .int .i64 wd2, .int .u64 (v2 : Int), .slice xa2 xl2.length xc2] 25)).alloc (.cells #[.int .i64 6, .string ⟨#[]⟩, .int .i64 bo, .int .i64 0, .int .u64 0, .slice (some ⟨w.heap.size + 1 + 1 + 1, 0, none⟩) 2 2] 25)).alloc (.cells #[.int .i64 op, .string (bs nm), .int .i64 xn, .int .i64 wd, .int .u64 (v : Int), .slice xa xl.length xc, .int .i64 op2, .string (bs nm2), .int .i64 xn2, .int .i64 wd2, .int .u64 (v2 : Int), .slice xa2 xl2.length xc2] 25)) := ((((Below.refl _ _).alloc (Nat.le_refl _) _).alloc (by simp) _).alloc (by simp; omega) _).alloc (by simp; omega) _
  have hh := World.alloc_heap_new ((((w.alloc (.cells #[.int .i64 op, .string (bs nm), .int .i64 xn, .int .i64 wd, .int .u64 (v : Int), .slice xa xl.length xc] 25)).alloc (.cells #[.int .i64 op2, .string (bs nm2), .int .i64 xn2, .int .i64 wd2, .int .u64 (v2 : Int), .slice xa2 xl2.length xc2] 25)).alloc (.cells #[.int .i64 6, .string ⟨#[]⟩, .int .i64 bo, .int .i64 0, .int .u64 0, .slice (some ⟨w.heap.size + 1 + 1 + 1, 0, none⟩) 2 2] 25))) (.cells #[.int .i64 op, .string (bs nm), .int .i64 xn, .int .i64 wd, .int .u64 (v : Int), .slice xa xl.length xc, .int .i64 op2, .string (bs nm2), .int .i64 xn2, .int .i64 wd2, .int .u64 (v2 : Int), .slice xa2 xl2.length xc2] 25)
  simp only [World.size_alloc] at hh
  have hz : ((((w.alloc (.cells #[.int .i64 op, .string (bs nm), .int .i64 xn, .int .i64 wd, .int .u64 (v : Int), .slice xa xl.length xc] 25)).alloc (.cells #[.int .i64 op2, .string (bs nm2), .int .i64 xn2, .int .i64 wd2, .int .u64 (v2 : Int), .slice xa2 xl2.length xc2] 25)).alloc (.cells #[.int .i64 6, .string ⟨#[]⟩, .int .i64 bo, .int .i64 0, .int .u64 0, .slice (some ⟨w.heap.size + 1 + 1 + 1, 0, none⟩) 2 2] 25)).alloc (.cells #[.int .i64 op, .string (bs nm), .int .i64 xn, .int .i64 wd, .int .u64 (v : Int), .slice xa xl.length xc, .int .i64 op2, .string (bs nm2), .int .i64 xn2, .int .i64 wd2, .int .u64 (v2 : Int), .slice xa2 xl2.length xc2] 25)).heap.size = w.heap.size + 4 := by simp
  have hi := binT_in (op := bo) (g := w.heap.size + 1 + 1 + 1) (n := ((((w.alloc (.cells #[.int .i64 op, .string (bs nm), .int .i64 xn, .int .i64 wd, .int .u64 (v : Int), .slice xa xl.length xc] 25)).alloc (.cells #[.int .i64 op2, .string (bs nm2), .int .i64 xn2, .int .i64 wd2, .int .u64 (v2 : Int), .slice xa2 xl2.length xc2] 25)).alloc (.cells #[.int .i64 6, .string ⟨#[]⟩, .int .i64 bo, .int .i64 0, .int .u64 0, .slice (some ⟨w.heap.size + 1 + 1 + 1, 0, none⟩) 2 2] 25)).alloc (.cells #[.int .i64 op, .string (bs nm), .int .i64 xn, .int .i64 wd, .int .u64 (v : Int), .slice xa xl.length xc, .int .i64 op2, .string (bs nm2), .int .i64 xn2, .int .i64 wd2, .int .u64 (v2 : Int), .slice xa2 xl2.length xc2] 25)).heap.size) (x := .mk op nm xn wd v xa xc xl) (y := .mk op2 nm2 xn2 wd2 v2 xa2 xc2 xl2) (W := ((((w.alloc (.cells #[.int .i64 op, .string (bs nm), .int .i64 xn, .int .i64 wd, .int .u64 (v : Int), .slice xa xl.length xc] 25)).alloc (.cells #[.int .i64 op2, .string (bs nm2), .int .i64 xn2, .int .i64 wd2, .int .u64 (v2 : Int), .slice xa2 xl2.length xc2] 25)).alloc (.cells #[.int .i64 6, .string ⟨#[]⟩, .int .i64 bo, .int .i64 0, .int .u64 0, .slice (some ⟨w.heap.size + 1 + 1 + 1, 0, none⟩) 2 2] 25)).alloc (.cells #[.int .i64 op, .string (bs nm), .int .i64 xn, .int .i64 wd, .int .u64 (v : Int), .slice xa xl.length xc, .int .i64 op2, .string (bs nm2), .int .i64 xn2, .int .i64 wd2, .int .u64 (v2 : Int), .slice xa2 xl2.length xc2] 25))) (by rw [hz]; omega) hh (XT.In.less (by rw [hz]; omega) _ (XT.In.keep (Below.keptTo hB hn0) _ hx)) (XT.In.less (by rw [hz]; omega) _ (XT.In.keep (Below.keptTo hB hn0) _ hy))
  have HI := Lib.hid (And.intro hi hB)
  simp only [XT.val, XT.cells]
  clear hx hy hB hh hi hz
  go_enter Tryz.func64, Tryz.ntmps64
  go_wp2
  exact bodyPost_ret (v := .agg #[.int .i64 6, .string ⟨#[]⟩, .int .i64 bo, .int .i64 0, .int .u64 0, .slice (some ⟨w.heap.size + 1 + 1 + 1, 0, none⟩) 2 2]) (by simp [results, Tryz.results64, go_sem]) rfl ⟨_, rfl, HI.out.1, HI.out.2⟩
/-- A sign of one; its part lies at block g. -/
def unT (un : Int) (g : Nat) (x : XT) : XT := .mk 5 [] un 0 0 (some ⟨g, 0, none⟩) 1 [x]
theorem unT_in {un : Int} {g n : Nat} {x : XT} {W : World} (hg : g < n) (hb : W.heap[g]? = some (.cells x.cells.toArray 25 (0, 0))) (hx : x.In n W) : (unT un g x).In n W := by
  rw [unT, XT.In_mk]
  exact ⟨⟨g, 0, rfl, hg, rowc_of2 (o := 0) hb (by rw [List.drop_zero]; exact List.take_length)⟩, hx, trivial⟩
def NotPost (x : XT) (w : World) (e : Ending) (w' : World) : Prop := ∃ g, e = .returned (.agg #[.int .i64 5, .string ⟨#[]⟩, .int .i64 6, .int .i64 0, .int .u64 0, .slice (some ⟨g, 0, none⟩) 1 1]) ∧ (unT 6 g x).In w'.heap.size w' ∧ Below w.heap.size w w'
end Go.Proofs.YtlbjmnakiflfpaaGreatDoor
