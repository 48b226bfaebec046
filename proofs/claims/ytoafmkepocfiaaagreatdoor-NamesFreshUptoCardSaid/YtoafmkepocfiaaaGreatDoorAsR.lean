/-
  May expressions and statements be, their size too: CheckX, CheckS.
-/
import Derived.Test.YtoafmkepocfiaaaGreatDoorAsZ
import Derived.Test.YtoafmkepocfiaaaGreatDoorAsO
namespace Go.Proofs.YtoafmkepocfiaaaGreatDoor
open Go Go.RowKit
set_option linter.unusedVariables false
set_option linter.unusedSimpArgs false
open Go.Sort

def checkX (x : XT) : Int := if (decide (65536 < x.sz) || decide (64 < x.dp)) = true then 2 else if mayX x = true then 0 else 1
set_option maxHeartbeats 4000000 in
set_option maxRecDepth 3000000 in
theorem checkX_any (x : XT) (hbk : x.bk ≤ 1500000) (hwf : x.Wf) (n0 : Nat) (w : World) (hn0 : n0 ≤ w.heap.size) (he : EnvA w) (hx : x.In n0 w) : Calls Tryz.prog 22 #[x.val] w fun e w' => e = .returned (.int .i64 (checkX x)) ∧ Below w.heap.size w w' := by
  have hsz := x.sz_bk
  have hd := fun w => depthsX_any x w
  have hg := fun (w' : World) h1 h2 => greatX_any x (by omega) n0 w' h1 h2
  have hm := fun (w' : World) h1 h2 h3 => mayX_any x hbk hwf n0 w' h1 h2 h3
  rw [great_x x] at hg
  have HI : Hid (checkX x = if (decide (65536 < x.sz) || decide (64 < x.dp)) = true then 2 else if mayX x = true then 0 else 1) := Lib.hid rfl
  generalize checkX x = R at *
  generalize (decide (65536 < x.sz) || decide (64 < x.dp)) = gb at *
  generalize mayX x = mb at *
  clear hsz hbk hwf
  have hx0 := hx
  obtain ⟨op, nm, xn, wd, v, xa, xc, xl⟩ := x
  simp only [XT.val, XT.cells] at hd hg hm ⊢
  go_enter Tryz.func22, Tryz.ntmps22
  go_upto_region 1 with (fail)
  have BX : (w.alloc (.cells #[.int .i64 op, .string (bs nm), .int .i64 xn, .int .i64 wd, .int .u64 (v : Int), .slice xa xl.length xc] 54)).heap[w.heap.size]? = some (.cells #[.int .i64 op, .string (bs nm), .int .i64 xn, .int .i64 wd, .int .u64 (v : Int), .slice xa xl.length xc] 54) := World.alloc_heap_new w _
  have hB2 : Below w.heap.size w (w.alloc (.cells #[.int .i64 op, .string (bs nm), .int .i64 xn, .int .i64 wd, .int .u64 (v : Int), .slice xa xl.length xc] 54)) := (Below.refl _ _).alloc (Nat.le_refl _) _
  have he2 := he.alloc (.cells #[.int .i64 op, .string (bs nm), .int .i64 xn, .int .i64 wd, .int .u64 (v : Int), .slice xa xl.length xc] 54)
  have hi2 := XT.In.keep (Below.keptTo hB2 hn0) _ hx0
  clear he hx hx0
  generalize w.alloc (.cells #[.int .i64 op, .string (bs nm), .int .i64 xn, .int .i64 wd, .int .u64 (v : Int), .slice xa xl.length xc] 54) = w1 at *
  have hn1 : n0 ≤ w1.heap.size := by have := hB2.size; omega
  have hg1 := hg w1 hn1 hi2
  obtain ⟨x0, x1, x2, x3, x4, x5⟩ := open6 BX
  go_wp2_with fail
  refine (hd _).mono ?_
  rintro e1 w2 ⟨rfl, rfl⟩
  clear x0 x1 x2 x3 x4 x5
  go_wp2_with fail
  refine hg1.mono ?_
  rintro e2 w3 ⟨rfl, hb⟩
  clear hg1 hg hd
  replace BX := block_kept BX hb
  have hk9 := Below.keptTo hb hn1
  replace hi2 := XT.In.keep hk9 _ hi2
  replace he2 := he2.keep hb
  replace hn1 := Nat.le_trans hn1 hb.size
  replace hB2 := hB2.trans (hb.mono hB2.size)
  clear hk9 hb
  obtain ⟨x0, x1, x2, x3, x4, x5⟩ := open6 BX
  cases gb with
  | true =>
    have HE : Hid (R = 2) := Lib.hid (by rw [HI.out, if_pos rfl])
    clear hm
    go_wp2
    go_ret
    exact ⟨by rw [HE.out]; rfl, hB2⟩
  | false =>
    have HE : Hid (R = if mb = true then 0 else 1) := Lib.hid (by rw [HI.out, if_neg (by decide)])
    have hal := fun w => allowed_any mb w
    have hm1 := hm w3 hn1 he2 hi2
    clear hm
    go_wp2_with fail
    refine hm1.mono ?_
    rintro e4 w4 ⟨rfl, hb⟩
    have hB3 := hB2.trans (hb.mono hB2.size)
    clear hm1
    obtain ⟨V, hV⟩ : ∃ V, (if mb = true then (0 : Int) else 1) = V := ⟨_, rfl⟩
    rw [hV] at hal HE
    clear hV
    go_wp2_with fail
    refine (hal _).mono ?_
    rintro e5 w5 ⟨rfl, rfl⟩
    go_wp2
    go_ret
    exact ⟨by rw [HE.out]; rfl, hB3⟩

def checkSt (x : ST) : Int := if (decide (65536 < x.sz) || decide (64 < x.dp)) = true then 2 else if standS x = true then 0 else 1
end Go.Proofs.YtoafmkepocfiaaaGreatDoor
