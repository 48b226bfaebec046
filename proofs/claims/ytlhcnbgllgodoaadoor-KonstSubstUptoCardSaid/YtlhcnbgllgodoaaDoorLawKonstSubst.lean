/-
  With its constants put in it is what it was.
-/
import Derived.Test.YtlhcnbgllgodoaaDoorTie
import Derived.Test.YtlhcnbgllgodoaaDoorCards
import Derived.Test.YtlhcnbgllgodoaaDoorAsOp
import Derived.Test.YtlhcnbgllgodoaaDoorKsO
import Derived.Test.YtlhcnbgllgodoaaDoorKsL
import Derived.Test.YtlhcnbgllgodoaaDoorKsQ
import Derived.JoinedCond
import Derived.Deep.DeepHandedRow
namespace Go.Proofs.YtlhcnbgllgodoaaDoor.konstSubst
open Go Go.ChangeShapes Go.WideShapes Go.ChangeAt Go.RowKit Go.Joins Go.Sort Go.Deep
set_option linter.unusedVariables false
set_option linter.unusedSimpArgs false

theorem NRow.less {n m : Nat} {W : World} {l : List NT} {a : Option Addr} (h : n ≤ m) (hr : NRow n W l a) : NRow m W l a := InRow.less h (fun _ _ h => h) hr
/-- Put in, and such that it is y. -/
def SbP (y : XT) (W : World) (e : Ending) (W' : World) : Prop := ∃ t : XT, e = .returned t.val ∧ Hid (∀ W9 : World, t.In W9.heap.size W9 → y.In W9.heap.size W9 → Calls Tryd.prog 20 #[t.val, y.val] W9 fun e w' => e = .returned (.bool true) ∧ Below W9.heap.size W9 w') ∧ t.In W'.heap.size W' ∧ Below W.heap.size W W'
theorem sbP_of {l : List NT} {x y : XT} (h : substX l x = y.nrm) (hy : y.bk ≤ 1500000) {W : World} {e : Ending} {W' : World} (hp : SbPost l x W e W') : SbP y W e W' := by
  obtain ⟨t, he, hn, hi, _, hb⟩ := hp
  have hn2 : t.nrm = y.nrm := hn.trans h
  have b1 := bk_nrm_le t
  have b2 := bk_nrm_le y
  rw [hn2] at b1
  refine ⟨t, he, Lib.hid (fun W9 h1 h2 => ?_), hi, hb⟩
  have q := sameX_any t (by omega) y hy W9.heap.size W9 (Nat.le_refl _) h1 h2
  rw [same_nrm t y hn2] at q
  exact q
structure SubF (l : List NT) (a : Option Addr) (c : Nat) (x y : XT) (A F : Int) : Prop where
  EY : ∀ W : World, EnvA W → y.In W.heap.size W → Calls Tryd.prog 13 #[y.val, .slice none 0 0] W fun e w' => e = .returned (.tuple #[.int .i64 A, .int .i64 F]) ∧ Below W.heap.size W w'
  CY : ∀ W : World, EnvA W → y.In W.heap.size W → Calls Tryd.prog 18 #[y.val] W fun e w' => e = .returned (.int .i64 0) ∧ Below W.heap.size W w'
  SY : ∀ W : World, y.In W.heap.size W → NRow W.heap.size W l a → Calls Tryd.prog 19 #[y.val, .slice a l.length c] W (SbP y W)
theorem subF_of (l : List NT) (hlk : NT.bkL l ≤ 1400000) (a : Option Addr) (c : Nat) (x y : XT) (hbk : x.bk ≤ 1400000) (hwf : x.Wf) (hr : RightL l) (hc : checkX x = 0) (hy : y.nrm = substX l x) : SubF l a c x y (evalK l x).1 (evalK l x).2 := by
  obtain ⟨f1, f2, f3, f4, f5⟩ := sub_facts hr hc hwf hy
  refine ⟨fun W he hi => ?_, fun W he hi => ?_, fun W hi hl => ?_⟩
  · have q := eval_any y (by omega) f3 [] (by decide) none 0 W.heap.size W (Nat.le_refl _) he hi trivial
    rw [f4] at q
    exact q
  · have q := checkX_any y (by omega) f3 W.heap.size W (Nat.le_refl _) he hi
    rw [f1] at q
    exact q
  · exact (subst_any y (by omega) l (by omega) a c W.heap.size W (Nat.le_refl _) hi hl).mono (fun e W' h => sbP_of f5 (by omega) h)
theorem subX_of (x : XT) (hbk : x.bk ≤ 1400000) (W : World) (hi : x.In W.heap.size W) : Calls Tryd.prog 19 #[x.val, .slice none 0 0] W (SbP x W) :=
  (subst_any x hbk [] (by decide) none 0 W.heap.size W (Nat.le_refl _) hi trivial).mono (fun e W' h => sbP_of (subst_none x) (by omega) h)
theorem right_of (l : List NT) (hlk : l.length ≤ 1099511627776) (a : Option Addr) (c n0 : Nat) (w : World) (h1 : NRow n0 w l a) : Calls Tryd.prog 17 #[.slice a l.length c] w fun e w' => (e = .returned (.bool false) ∨ (e = .returned (.bool true) ∧ RightL l)) ∧ Below w.heap.size w w' :=
  (right_any l hlk a c n0 w h1).mono (fun e w' h => ⟨h.1, by obtain ⟨n, rfl⟩ := h.2; exact below_drawn2 (Below.refl _ _) n⟩)

set_option maxHeartbeats 32000000 in
set_option maxRecDepth 100000 in
theorem walk_any (x : XT) (hbk : x.bk ≤ 1400000) (hwf : x.Wf) (l : List NT) (hlk : NT.bkL l ≤ 1400000) (a : Option Addr) (c n0 : Nat) (w : World) (hn0 : n0 ≤ w.heap.size) (he : EnvA w) (hx : x.In n0 w) (hl : NRow n0 w l a) : Calls Tryd.prog 4 #[x.val, .slice a l.length c] w fun e w' => e = .returned (.bool true) ∧ Below w.heap.size w w' := by
  have HF := Lib.hid (fun (W : World) (h1 : n0 ≤ W.heap.size) (h3 : x.In n0 W) => kfew_any x (Nat.le_trans x.sz_bk (by omega)) l (Nat.le_trans (NT.bkL_len l) (by omega)) a c n0 W h1 h3)
  have HR := Lib.hid (fun (W : World) (h4 : NRow n0 W l a) => right_of l (Nat.le_trans (NT.bkL_len l) (by omega)) a c n0 W h4)
  have HC := Lib.hid (fun (W : World) (h1 : n0 ≤ W.heap.size) (h2 : EnvA W) (h3 : x.In n0 W) => checkX_any x (by omega) hwf n0 W h1 h2 h3)
  have HE := Lib.hid (fun (W : World) (h1 : n0 ≤ W.heap.size) (h2 : EnvA W) (h3 : x.In n0 W) (h4 : NRow n0 W l a) => eval_any x (by omega) hwf l (by omega) a c n0 W h1 h2 h3 h4)
  have HS := Lib.hid (fun (W : World) (h1 : n0 ≤ W.heap.size) (h3 : x.In n0 W) (h4 : NRow n0 W l a) => subst_any x hbk l (by omega) a c n0 W h1 h3 h4)
  have HX := Lib.hid (fun (W : World) (h : x.In W.heap.size W) => subX_of x hbk W h)
  have HY := fun (y : XT) (hr : RightL l) (hc : checkX x = 0) (hy : y.nrm = substX l x) => subF_of l hlk a c x y hbk hwf hr hc hy
  obtain ⟨⟨A, F⟩, hE⟩ : ∃ p, evalK l x = p := ⟨_, rfl⟩
  obtain ⟨Cx, hC⟩ : ∃ p, checkX x = p := ⟨_, rfl⟩
  simp only [hE] at HE HY
  simp only [hC] at HC HY
  replace HY := Lib.hid HY
  clear hE hC hbk hwf hlk
  generalize fewK x l = fb at *
  obtain ⟨op, nm, xn, wd, v, xa, xc, xl⟩ := x
  simp only [XT.val, XT.cells] at HF HC HE HS HX ⊢
  go_enter Tryd.func4, Tryd.ntmps4
  go_upto_region 1 with (fail)
  have BX := World.alloc_heap_new w (.cells #[.int .i64 op, .string (bs nm), .int .i64 xn, .int .i64 wd, .int .u64 (v : Int), .slice xa xl.length xc] 25)
  have hB : Below w.heap.size w (w.alloc (.cells #[.int .i64 op, .string (bs nm), .int .i64 xn, .int .i64 wd, .int .u64 (v : Int), .slice xa xl.length xc] 25)) := ((Below.refl _ _).alloc (by first | exact Nat.le_refl _ | (simp; done) | (simp; omega)) _)
  have hk9 := Below.keptTo hB hn0
  replace hx := XT.In.keep hk9 _ hx
  replace hl := hl.keep hk9
  replace he := he.keep hB
  replace hn0 := Nat.le_trans hn0 hB.size
  clear hk9
  generalize (w.alloc (.cells #[.int .i64 op, .string (bs nm), .int .i64 xn, .int .i64 wd, .int .u64 (v : Int), .slice xa xl.length xc] 25)) = w1 at *
  obtain ⟨q0, q1, q2, q3, q4, q5⟩ := open6 BX
  go_wp2_with fail
  refine (live_any _ he).mono ?_
  rintro e w2 ⟨rfl, hb⟩
  clear q0 q1 q2 q3 q4 q5
  have hk9 := Below.keptTo hb hn0
  replace BX := block_kept BX hb
  replace hx := XT.In.keep hk9 _ hx
  replace hl := hl.keep hk9
  replace he := he.keep hb
  replace hn0 := Nat.le_trans hn0 hb.size
  replace hB := hB.trans (hb.mono hB.size)
  clear hb hk9
  obtain ⟨q0, q1, q2, q3, q4, q5⟩ := open6 BX
  go_wp2_with fail
  refine (HF.out _ hn0 hx).mono ?_
  rintro e w3 ⟨rfl, hb⟩
  clear q0 q1 q2 q3 q4 q5
  have hk9 := Below.keptTo hb hn0
  replace BX := block_kept BX hb
  replace hx := XT.In.keep hk9 _ hx
  replace hl := hl.keep hk9
  replace he := he.keep hb
  replace hn0 := Nat.le_trans hn0 hb.size
  replace hB := hB.trans (hb.mono hB.size)
  clear hb hk9
  clear HF
  cases fb
  case false =>
    go_wp2
    go_ret
    exact ⟨rfl, hB⟩
  obtain ⟨q0, q1, q2, q3, q4, q5⟩ := open6 BX
  go_wp2_with fail
  refine (HR.out _ hl).mono ?_
  rintro e w4 ⟨hr, hb⟩
  rcases hr with rfl | ⟨rfl, hr⟩
  case inl =>
    replace hB := hB.trans (hb.mono hB.size)
    clear hb hx hl
    go_wp2
    go_ret
    exact ⟨rfl, hB⟩
  replace hr := Lib.hid hr
  clear q0 q1 q2 q3 q4 q5
  have hk9 := Below.keptTo hb hn0
  replace BX := block_kept BX hb
  replace hx := XT.In.keep hk9 _ hx
  replace hl := hl.keep hk9
  replace he := he.keep hb
  replace hn0 := Nat.le_trans hn0 hb.size
  replace hB := hB.trans (hb.mono hB.size)
  clear hb hk9
  clear HR
  obtain ⟨q0, q1, q2, q3, q4, q5⟩ := open6 BX
  go_wp2_with fail
  refine (HC.out _ hn0 he hx).mono ?_
  rintro e w5 ⟨rfl, hb⟩
  clear q0 q1 q2 q3 q4 q5
  have hk9 := Below.keptTo hb hn0
  replace BX := block_kept BX hb
  replace hx := XT.In.keep hk9 _ hx
  replace hl := hl.keep hk9
  replace he := he.keep hb
  replace hn0 := Nat.le_trans hn0 hb.size
  replace hB := hB.trans (hb.mono hB.size)
  clear hb hk9
  clear HC
  by_cases hC : Cx = 0
  case neg =>
    have hC2 : (Cx != 0) = true := by simpa using hC
    go_wp2
    go_ret
    exact ⟨rfl, hB⟩
  replace hC := Lib.hid hC
  have hC9 : Cx = 0 := hC.out
  subst hC9
  obtain ⟨q0, q1, q2, q3, q4, q5⟩ := open6 BX
  go_wp2_with fail
  refine (HS.out _ hn0 hx hl).mono ?_
  rintro e w6 ⟨y, rfl, hy, hiy, _, hb⟩
  have HYy := HY.out y hr.out (by first | exact hC.out | rfl) hy
  obtain ⟨EY, CY, SY⟩ := HYy
  clear HY hr hC HS hy
  clear q0 q1 q2 q3 q4 q5
  have hk9 := Below.keptTo hb hn0
  replace BX := block_kept BX hb
  replace hx := XT.In.keep hk9 _ hx
  replace hl := hl.keep hk9
  replace he := he.keep hb
  replace hn0 := Nat.le_trans hn0 hb.size
  replace hB := hB.trans (hb.mono hB.size)
  clear hb hk9
  obtain ⟨op2, nm2, xn2, wd2, v2, xa2, xc2, xl2⟩ := y
  replace EY := Lib.hid EY
  replace CY := Lib.hid CY
  replace SY := Lib.hid SY
  simp only [XT.val, XT.cells] at EY CY SY
  obtain ⟨q0, q1, q2, q3, q4, q5⟩ := open6 BX
  simp only [XT.val, XT.cells]
  go_upto_region 5 with (fail)
  clear q0 q1 q2 q3 q4 q5
  have hb : Below w6.heap.size w6 (w6.alloc (.cells #[.int .i64 op2, .string (bs nm2), .int .i64 xn2, .int .i64 wd2, .int .u64 (v2 : Int), .slice xa2 xl2.length xc2] 25)) := (Below.refl _ _).alloc (Nat.le_refl _) _
  have BY := World.alloc_heap_new w6 (.cells #[.int .i64 op2, .string (bs nm2), .int .i64 xn2, .int .i64 wd2, .int .u64 (v2 : Int), .slice xa2 xl2.length xc2] 25)
  replace hiy := XT.In.less hb.size _ (XT.In.keep (Below.keptTo hb (Nat.le_refl _)) _ hiy)
  obtain ⟨G, hG⟩ : ∃ G, w6.heap.size = G := ⟨_, rfl⟩
  have hk9 := Below.keptTo hb hn0
  replace BX := block_kept BX hb
  replace hx := XT.In.keep hk9 _ hx
  replace hl := hl.keep hk9
  replace he := he.keep hb
  replace hn0 := Nat.le_trans hn0 hb.size
  replace hB := hB.trans (hb.mono hB.size)
  clear hb hk9
  simp only [hG] at BY ⊢
  generalize w6.alloc (.cells #[.int .i64 op2, .string (bs nm2), .int .i64 xn2, .int .i64 wd2, .int .u64 (v2 : Int), .slice xa2 xl2.length xc2] 25) = wA at *
  clear hG
  obtain ⟨q0, q1, q2, q3, q4, q5⟩ := open6 BX
  obtain ⟨z0, z1, z2, z3, z4, z5⟩ := open6 BY
  go_wp2_with fail
  refine (HE.out _ hn0 he hx hl).mono ?_
  rintro e w7 ⟨rfl, hb⟩
  clear q0 q1 q2 q3 q4 q5
  clear z0 z1 z2 z3 z4 z5
  replace hiy := XT.In.less hb.size _ (XT.In.keep (Below.keptTo hb (Nat.le_refl _)) _ hiy)
  have hk9 := Below.keptTo hb hn0
  replace BX := block_kept BX hb
  replace hx := XT.In.keep hk9 _ hx
  replace hl := hl.keep hk9
  replace BY := block_kept BY hb
  replace he := he.keep hb
  replace hn0 := Nat.le_trans hn0 hb.size
  replace hB := hB.trans (hb.mono hB.size)
  clear hb hk9
  obtain ⟨q0, q1, q2, q3, q4, q5⟩ := open6 BX
  obtain ⟨z0, z1, z2, z3, z4, z5⟩ := open6 BY
  go_wp2_with fail
  refine (EY.out _ he hiy).mono ?_
  rintro e w8 ⟨rfl, hb⟩
  clear q0 q1 q2 q3 q4 q5
  clear z0 z1 z2 z3 z4 z5
  replace hiy := XT.In.less hb.size _ (XT.In.keep (Below.keptTo hb (Nat.le_refl _)) _ hiy)
  have hk9 := Below.keptTo hb hn0
  replace BX := block_kept BX hb
  replace hx := XT.In.keep hk9 _ hx
  replace hl := hl.keep hk9
  replace BY := block_kept BY hb
  replace he := he.keep hb
  replace hn0 := Nat.le_trans hn0 hb.size
  replace hB := hB.trans (hb.mono hB.size)
  clear hb hk9
  clear HE EY
  have hix := XT.In.less hn0 _ hx
  have hll := NRow.less hn0 hl
  have Yd := Lib.hid (fun (W9 : World) (h9 : Below w8.heap.size w8 W9) => XT.In.less h9.size _ (XT.In.keep (Below.keptTo h9 (Nat.le_refl _)) _ hiy))
  have Xd := Lib.hid (fun (W9 : World) (h9 : Below w8.heap.size w8 W9) => XT.In.less h9.size _ (XT.In.keep (Below.keptTo h9 (Nat.le_refl _)) _ hix))
  have Cd := Lib.hid (fun (W9 : World) (h9 : Below w8.heap.size w8 W9) => CY.out W9 (he.keep h9) (Yd.out W9 h9))
  have Sd := Lib.hid (fun (W9 : World) (h9 : Below w8.heap.size w8 W9) => SY.out W9 (Yd.out W9 h9) (NRow.less h9.size (hll.keep (Below.keptTo h9 (Nat.le_refl _)))))
  have Qd := Lib.hid (fun (W9 : World) (h9 : Below w8.heap.size w8 W9) => HX.out W9 (Xd.out W9 h9))
  clear hix hll CY SY HX hiy hx hl
  obtain ⟨q0, q1, q2, q3, q4, q5⟩ := open6 BX
  obtain ⟨z0, z1, z2, z3, z4, z5⟩ := open6 BY
  go_upto_region 7 with (fail)
  go_region_held3 (fun u1 => u1.cell? ⟨w.heap.size, 0, none⟩ = some (.int .i64 op) ∧ u1.cell? ⟨w.heap.size, 1, none⟩ = some (.string (bs nm)) ∧ u1.cell? ⟨w.heap.size, 2, none⟩ = some (.int .i64 xn) ∧ u1.cell? ⟨w.heap.size, 3, none⟩ = some (.int .i64 wd) ∧ u1.cell? ⟨w.heap.size, 4, none⟩ = some (.int .u64 (v : Int)) ∧ u1.cell? ⟨w.heap.size, 5, none⟩ = some (.slice xa xl.length xc) ∧ u1.cell? ⟨G, 0, none⟩ = some (.int .i64 op2) ∧ u1.cell? ⟨G, 1, none⟩ = some (.string (bs nm2)) ∧ u1.cell? ⟨G, 2, none⟩ = some (.int .i64 xn2) ∧ u1.cell? ⟨G, 3, none⟩ = some (.int .i64 wd2) ∧ u1.cell? ⟨G, 4, none⟩ = some (.int .u64 (v2 : Int)) ∧ u1.cell? ⟨G, 5, none⟩ = some (.slice xa2 xl2.length xc2)) (first | exact ⟨q0, q1, q2, q3, q4, q5, z0, z1, z2, z3, z4, z5⟩ | exact ⟨q0A, q1A, q2A, q3A, q4A, q5A, z0A, z1A, z2A, z3A, z4A, z5A⟩ | exact ⟨q0B, q1B, q2B, q3B, q4B, q5B, z0B, z1B, z2B, z3B, z4B, z5B⟩ | exact ⟨q0C, q1C, q2C, q3C, q4C, q5C, z0C, z1C, z2C, z3C, z4C, z5C⟩ | exact ⟨q0D, q1D, q2D, q3D, q4D, q5D, z0D, z1D, z2D, z3D, z4D, z5D⟩ | exact ⟨q0E, q1E, q2E, q3E, q4E, q5E, z0E, z1E, z2E, z3E, z4E, z5E⟩) (first | (go_at_call 20; refine (hs4.out _ ht4 (Xd.out _ hr4)).mono ?_; rintro e v5 ⟨rfl, hb⟩; have hr5 : Below w8.heap.size w8 v5 := hr4.trans (hb.mono hr4.size); have q0E := keep_cell hr5 q0; have q1E := keep_cell hr5 q1; have q2E := keep_cell hr5 q2; have q3E := keep_cell hr5 q3; have q4E := keep_cell hr5 q4; have q5E := keep_cell hr5 q5; have z0E := keep_cell hr5 z0; have z1E := keep_cell hr5 z1; have z2E := keep_cell hr5 z2; have z3E := keep_cell hr5 z3; have z4E := keep_cell hr5 z4; have z5E := keep_cell hr5 z5; clear hb) | (go_at_call 19; refine (Qd.out _ hr3).mono ?_; rintro e v4 ⟨t4, rfl, hs4, ht4, hb⟩; have hr4 : Below w8.heap.size w8 v4 := hr3.trans (hb.mono hr3.size); have q0D := keep_cell hr4 q0; have q1D := keep_cell hr4 q1; have q2D := keep_cell hr4 q2; have q3D := keep_cell hr4 q3; have q4D := keep_cell hr4 q4; have q5D := keep_cell hr4 q5; have z0D := keep_cell hr4 z0; have z1D := keep_cell hr4 z1; have z2D := keep_cell hr4 z2; have z3D := keep_cell hr4 z3; have z4D := keep_cell hr4 z4; have z5D := keep_cell hr4 z5; clear hb) | (go_at_call 20; refine (hs2.out _ ht2 (Yd.out _ hr2)).mono ?_; rintro e v3 ⟨rfl, hb⟩; have hr3 : Below w8.heap.size w8 v3 := hr2.trans (hb.mono hr2.size); have q0C := keep_cell hr3 q0; have q1C := keep_cell hr3 q1; have q2C := keep_cell hr3 q2; have q3C := keep_cell hr3 q3; have q4C := keep_cell hr3 q4; have q5C := keep_cell hr3 q5; have z0C := keep_cell hr3 z0; have z1C := keep_cell hr3 z1; have z2C := keep_cell hr3 z2; have z3C := keep_cell hr3 z3; have z4C := keep_cell hr3 z4; have z5C := keep_cell hr3 z5; clear hb) | (go_at_call 19; refine (Sd.out _ hr1).mono ?_; rintro e v2 ⟨t2, rfl, hs2, ht2, hb⟩; have hr2 : Below w8.heap.size w8 v2 := hr1.trans (hb.mono hr1.size); have q0B := keep_cell hr2 q0; have q1B := keep_cell hr2 q1; have q2B := keep_cell hr2 q2; have q3B := keep_cell hr2 q3; have q4B := keep_cell hr2 q4; have q5B := keep_cell hr2 q5; have z0B := keep_cell hr2 z0; have z1B := keep_cell hr2 z1; have z2B := keep_cell hr2 z2; have z3B := keep_cell hr2 z3; have z4B := keep_cell hr2 z4; have z5B := keep_cell hr2 z5; clear hb) | (go_at_call 18; refine (Cd.out _ (by first | exact Below.refl _ _ | exact (Below.refl _ _).drew | exact below_drawn2 (Below.refl _ _) _)).mono ?_; rintro e v1 ⟨rfl, hb⟩; have hr1 : Below w8.heap.size w8 v1 := ((by first | exact Below.refl _ _ | exact (Below.refl _ _).drew | exact below_drawn2 (Below.refl _ _) _) : Below w8.heap.size w8 _).trans hb; have q0A := keep_cell hr1 q0; have q1A := keep_cell hr1 q1; have q2A := keep_cell hr1 q2; have q3A := keep_cell hr1 q3; have q4A := keep_cell hr1 q4; have q5A := keep_cell hr1 q5; have z0A := keep_cell hr1 z0; have z1A := keep_cell hr1 z1; have z2A := keep_cell hr1 z2; have z3A := keep_cell hr1 z3; have z4A := keep_cell hr1 z4; have z5A := keep_cell hr1 z5; clear hb))
  go_wp2
  go_ret
  exact ⟨rfl, hB.trans (hr5.mono hB.size)⟩

/-! ### The row's step -/
set_option maxRecDepth 100000 in
theorem contract (H : Type) (enc : TypeId × Value → H) (W : World) (base : Nat) (args : Array Value) (ds gs : List (DataW H)) (before : List MemPlace)
    (hval0 : ∀ (j : Nat) t v, Tryd.f4.params[j]? = some t → args[j]? = some v → Value.okWide Tryd.prog W .any base t v)
    (hW : DataW.Whole enc Tryd.prog Tryd.f4.params.toList Rows.konstSubstSpec.vars false W args.toList ds gs before) (hbk : Rows.uptoBulkAll (ds ++ gs) ≤ 1048576) (hL : laidMetH Tryd.prog LD W) (hsh : W.ShapedOpen Tryd.prog) :
    Calls Tryd.prog 4 args W fun e W' => ∃ v, e = .returned v ∧ Rows.konstSubstSpec.post enc Tryd.prog Tryd.f4 false true false false W args v W' := by
  have hval : ∀ (j : Nat) t v, Tryd.f4.params[j]? = some t → args[j]? = some v → Value.okWide Tryd.prog W .any base t v := hval0
  have hW' := hW
  obtain ⟨p, q, hA0, hV, rfl, hfz, hnd⟩ := hW
  have hA : DataW.TrodAll enc Tryd.prog W 0 (fun _ => true) true Tryd.f4.params.toList args.toList ds p := hA0
  rw [Tryd.params4] at hA hval
  obtain ⟨v0, vs0, d0, ds0, p0, q0, hargs, rfl, rfl, h0, r0⟩ := trodAll_cons hA
  obtain ⟨v1, vs1, d1, ds1, p1, q1, rfl, rfl, rfl, h1, r1⟩ := trodAll_cons r0
  obtain ⟨rfl, rfl, rfl⟩ := trodAll_nil r1
  obtain rfl : args = #[v0, v1] := by cases args; simp_all
  obtain ⟨rfl, rfl⟩ := trodVars_none hV
  have he := env_of hL hsh
  simp only [List.append_nil, Rows.uptoBulkAll] at hbk
  have k0 : ∀ (W' : World), Below W.heap.size W W' → DataW.Trod enc Tryd.prog W' 0 (fun b => decide (b < W.heap.size)) true 25 v0 d0 p0 := fun W' hn => Below.trod laidOut (by kernel_rfl) (of_decide_eq_true (by kernel_rfl)) h0 hn (fun x hx => by simpa using hW'.lt x (by simp [hx]))
  have k1 : ∀ (W' : World), Below W.heap.size W W' → DataW.Trod enc Tryd.prog W' 0 (fun b => decide (b < W.heap.size)) true 26 v1 d1 p1 := fun W' hn => Below.trod laidOut (by kernel_rfl) (of_decide_eq_true (by kernel_rfl)) h1 hn (fun x hx => by simpa using hW'.lt x (by simp [hx]))
  obtain ⟨t0, rfl, i0, w0, b0⟩ := xt_of (hval 0 25 v0 rfl rfl) h0
  obtain ⟨a1, c1, l1, rfl, r1_, b1, z1⟩ := rowN_of (hval 1 26 v1 rfl rfl) h1
  clear hA0 hval0
  simp only [List.append_nil] at hW'
  refine (walk_any t0 (by omega) w0 l1 (by omega) a1 c1 W.heap.size W (Nat.le_refl _) he i0 r1_).mono fun e W' ⟨hr, bel⟩ => ?_
  subst hr
  exact ⟨_, rfl, _, _, _, [], _, [], hW', trodAll_mk1 (shut_bool Tryd.underlying4 _), (trodAll_cons_mk (k0 _ bel) (trodAll_cons_mk (k1 _ bel) trodAll_mk0)), rfl, bel.frame _, fun h => by cases h⟩
theorem reads (os : Os) {H : Type} (enc : TypeId × Value → H) : ∃ places, DataW.whole enc Tryd.prog ((World.doorLaid Tryd.prog 55 os).forCall (fun _ _ => 0) ⟨#[], #[.agg #[.int .i64 0, .string ⟨#[]⟩, .int .i64 0, .int .i64 0, .int .u64 0, .slice none 0 0], .slice none 0 0], []⟩).memory Tryd.f4.params.toList Rows.konstSubstSpec.vars false #[.agg #[.int .i64 0, .string ⟨#[]⟩, .int .i64 0, .int .i64 0, .int .u64 0, .slice none 0 0], .slice none 0 0].toList 8 = some ([.agg [.lit (.int .i64 0), .lit (.string []), .lit (.int .i64 0), .lit (.int .i64 0), .lit (.int .u64 0), .nil], .nil], [], places) :=
  ⟨[], by kernel_rfl⟩
set_option maxRecDepth 100000 in
theorem lifted (os : Os) (started : os.Started) (H : Type) (enc : TypeId × Value → H) (F : Stop.Interp) :
    ReturnsInHanded {} Tryd.checked os 4 .any ((Rows.OpenSpec.upto Rows.konstSubstSpec).preRow enc Tryd.prog Tryd.f4 Rows.konstSubstUptoRow.domain false Rows.konstSubstUptoRow.laid) (((Rows.OpenSpec.upto Rows.konstSubstSpec).at F).post enc Tryd.prog Tryd.f4 false true false false) := by
  obtain ⟨places, hx⟩ := reads os enc
  refine returnsInHanded_of_row (C := Tryd.checked) (s := Rows.OpenSpec.upto Rows.konstSubstSpec) own started (by kernel_rfl) Tryd.func4
    (witness_row_at (enc := enc) (C := Tryd.checked) false (World.doorLaid Tryd.prog 55 os) #[.agg #[.int .i64 0, .string ⟨#[]⟩, .int .i64 0, .int .i64 0, .int .u64 0, .slice none 0 0], .slice none 0 0] rfl (by kernel_rfl) (by kernel_rfl) (by kernel_rfl)
      (OpenSpec.preRow_of_cond 8 hx (by kernel_rfl) (fun k hk => by cases hk; kernel_rfl) (by kernel_rfl) (door_met os _))) ?_
  intro W base args ds gs before hval hW _ hcond _ hL hsh _
  have hbk : Rows.uptoBulkAll (ds ++ gs) ≤ 1048576 := of_decide_eq_true (hcond _ rfl)
  exact contract H enc W base args ds gs before hval hW hbk hL hsh
theorem over : Rows.KonstSubstUptoSaid :=
  OpenClaim.holds_of_cond 4 Tryd.f4 rfl rfl rfl rfl rfl rfl rfl ⟨rfl, rfl, rfl, rfl, rfl⟩ rfl rfl rfl rfl rfl (by kernel_rfl) Tryd.func4 (by kernel_rfl)
    (of_decide_eq_true (by kernel_rfl)) (by unfold Func.isWrapper; first | (rw [if_pos (by decide +kernel)]; kernel_rfl) | (rw [if_neg (by decide +kernel)]; exact ⟨rfl, rfl⟩))
    (fun os started H enc _ F => by rw [OpenClaim.pre_eq_preRow]; exact lifted os started H enc F)
/-- The given statement. -/
theorem proved : Rows.KonstSubstUptoCardSaid :=
  Claim7.holds_tied_plain_at .later [] _ _ _ _
    over (fun _ h => by cases h) (by kernel_rfl) (fun _ h => by cases h) konstSubstUpto_row_tie rfl ⟨rfl, rfl⟩ (by kernel_rfl) rfl
    (fun f fn hf hfn => by
      obtain rfl : f = 4 := Option.some.inj ((show Tryd.prog.funcNamed "filigree/filigreelaw06.KonstSubst" = some 4 by kernel_rfl).symm.trans hf) |>.symm
      obtain rfl : fn = Tryd.f4 := (Option.some.inj (Tryd.func4.symm.trans hfn)).symm
      exact ⟨by kernel_rfl, fun j t ht => by
        rw [Tryd.params4] at ht
        have hm : t ∈ [25, 26] := by simpa using Array.mem_of_getElem? ht
        have hall : ([25, 26].all fun u => !Tryd.prog.wantsStandIn u) = true := by kernel_rfl
        exact (show Tryd.prog.wantsStandIn t = false by simpa using List.all_eq_true.1 hall t hm)⟩)
    (by kernel_rfl)
#print axioms proved
end Go.Proofs.YtlhcnbgllgodoaaDoor.konstSubst
