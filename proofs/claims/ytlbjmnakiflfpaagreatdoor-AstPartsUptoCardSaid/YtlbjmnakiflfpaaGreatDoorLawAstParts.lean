/-
  Whether expressions and statements may be, and which names stand in them, is what the document says. For every input of the bulk that the statement names.
-/
import Derived.Test.YtlbjmnakiflfpaaGreatDoorTie
import Derived.Test.YtlbjmnakiflfpaaGreatDoorCards
import Derived.Test.YtlbjmnakiflfpaaGreatDoorAsOp
import Derived.Test.YtlbjmnakiflfpaaGreatDoorAsLv
import Derived.JoinedCond
import Derived.Deep.DeepHandedRow
import Derived.Test.YtlbjmnakiflfpaaGreatDoorRfZ
import Derived.BigQuiet
import Derived.Deep.QuietTactic
import Derived.Deep.RegionHeld3
namespace Go.Proofs.YtlbjmnakiflfpaaGreatDoor.astParts
open Go Go.ChangeShapes Go.WideShapes Go.ChangeAt Go.RowKit Go.Joins Go.Sort Go.Deep
set_option linter.unusedVariables false
set_option linter.unusedSimpArgs false

theorem below_drawnR {n : Nat} {w w' : World} (h : Below n w w') (k : Nat) : Below n w (w'.drewN k) := ⟨h.os, h.tape, h.output, h.size, h.block⟩
theorem freeP_of (x : XT) (hbk : x.bk ≤ 1500000) (W : World) (he : EnvA W) (hx : x.In W.heap.size W) : Calls Tryz.prog 14 #[x.val] W fun e w' => ∃ a c, e = .returned (.slice a (freeX [] x).length c) ∧ LiesS w' a (freeX [] x) ∧ Below W.heap.size W w' :=
  (free_any x hbk W.heap.size W (Nat.le_refl _) he hx).mono (fun e W' h => by
    obtain ⟨v, rfl, own, _, hb⟩ := h
    obtain ⟨a, c, rfl, _⟩ := own_shape' own
    exact ⟨a, c, rfl, lies_own own, hb⟩)
theorem freeR_of (x : XT) (hbk : x.bk ≤ 1500000) (W : World) (hx : x.In W.heap.size W) : Calls Tryz.prog 15 #[x.val] W fun e w' => ∃ a c, e = .returned (.slice a (freeX [] x).length c) ∧ LiesS w' a (freeX [] x) ∧ Below W.heap.size W w' :=
  (refFree_any x hbk W.heap.size W (Nat.le_refl _) hx).mono (fun e W' h => by
    obtain ⟨v, rfl, own, hb⟩ := h
    obtain ⟨a, c, rfl, _⟩ := own_shape' own
    exact ⟨a, c, rfl, lies_own own, hb⟩)
theorem texts_of (a1 a2 : Option Addr) (p1 p2 : Nat) (N : List Bytes) (hl : N.length ≤ 1099511627776) (W : World) (h1 : LiesS W a1 N) (h2 : LiesS W a2 N) : Calls Tryz.prog 13 #[.slice a1 N.length p1, .slice a2 N.length p2] W fun e w' => e = .returned (.bool true) ∧ Below W.heap.size W w' :=
  (textsS_any a1 a2 p1 p2 N N hl hl W h1 h2).mono (fun e W' h => by
    obtain ⟨rfl, n, rfl⟩ := h
    exact ⟨by simp, below_drawnR (Below.refl _ _) n⟩)

set_option maxHeartbeats 32000000 in
set_option maxRecDepth 100000 in
theorem walk (x : XT) (s : ST) (hb0 : x.bk ≤ 1048576) (hb1 : s.bk ≤ 1048576) (hw0 : x.Wf) (hw1 : s.Wf) (n0 : Nat) (w : World) (hn0 : n0 ≤ w.heap.size) (he : EnvA w) (hx : x.In n0 w) (hs : s.In n0 w) : Calls Tryz.prog 3 #[x.val, s.val] w fun e w' => e = .returned (.bool true) ∧ Below w.heap.size w w' := by
  have hxs := Nat.le_trans x.sz_bk hb0
  have hss := Nat.le_trans s.sz_bk hb1
  have H0 := Lib.hid (fun (W : World) h1 (h3 : x.In n0 W) => fewX_any x (by omega) n0 W h1 h3)
  have H1 := Lib.hid (fun (W : World) h1 (h3 : s.In n0 W) => fewS_any s (by omega) n0 W h1 h3)
  have HA := Lib.hid (fun (W : World) (h2 : EnvA W) (h3 : x.In W.heap.size W) => checkX_any x (by omega) hw0 W.heap.size W (Nat.le_refl _) h2 h3)
  have HB := Lib.hid (fun (W : World) (h3 : x.In W.heap.size W) => refcheckX_any x (by omega) hw0 W.heap.size W (Nat.le_refl _) h3)
  have HC := Lib.hid (fun (W : World) (h2 : EnvA W) (h3 : s.In W.heap.size W) => checkS_any s (by omega) hw1 W.heap.size W (Nat.le_refl _) h2 h3)
  have HD := Lib.hid (fun (W : World) (h3 : s.In W.heap.size W) => refcheckS_any s (by omega) hw1 W.heap.size W (Nat.le_refl _) h3)
  have HF := Lib.hid (fun (W : World) (h2 : EnvA W) (h3 : x.In W.heap.size W) => freeP_of x (by omega) W h2 h3)
  have HG := Lib.hid (fun (W : World) (h3 : x.In W.heap.size W) => freeR_of x (by omega) W h3)
  obtain ⟨C1, hC1⟩ : ∃ c, checkX x = c := ⟨_, rfl⟩
  obtain ⟨C2, hC2⟩ : ∃ c, checkSt s = c := ⟨_, rfl⟩
  obtain ⟨N, hN⟩ : ∃ N, freeX [] x = N := ⟨_, rfl⟩
  have hNl : N.length ≤ 1500000 := by rw [← hN]; have h7 := freeX_len x []; simp only [List.length_nil] at h7; omega
  simp only [hC1] at HA HB
  simp only [hC2] at HC HD
  simp only [hN] at HF HG
  obtain ⟨p0, hp0⟩ : ∃ b, (decide (x.sz ≤ 2000) && decide (x.dp ≤ 100)) = b := ⟨_, rfl⟩
  obtain ⟨p1, hp1⟩ : ∃ b, (decide (s.sz ≤ 2000) && decide (s.dp ≤ 100)) = b := ⟨_, rfl⟩
  rw [hp0] at H0
  rw [hp1] at H1
  have HTX := Lib.hid (fun (W : World) (a1 a2 : Option Addr) (p1 p2 : Nat) (h1 : LiesS W a1 N) (h2 : LiesS W a2 N) => texts_of a1 a2 p1 p2 N (by omega) W h1 h2)
  have hx0 := hx
  have hs0 := hs
  obtain ⟨op, nm, xn, wd, v, xa, xc, xl⟩ := x
  obtain ⟨sop, snm, sxa, sxc, sxl, ssa, ssc, ssl⟩ := s
  simp only [XT.val, XT.cells] at H0 HA HB HF HG ⊢
  simp only [ST.val, ST.cells] at H1 HC HD ⊢
  clear hC1 hC2 hN hp0 hp1 hx hs hb0 hb1 hw0 hw1 hxs hss
  have BX := block_alloc (World.alloc_heap_new w (.cells #[.int .i64 op, .string (bs nm), .int .i64 xn, .int .i64 wd, .int .u64 (v : Int), .slice xa xl.length xc] 25)) (.cells #[.int .i64 sop, .string (bs snm), .slice sxa sxl.length sxc, .slice ssa ssl.length ssc] 28)
  have BY := World.alloc_heap_new (w.alloc (.cells #[.int .i64 op, .string (bs nm), .int .i64 xn, .int .i64 wd, .int .u64 (v : Int), .slice xa xl.length xc] 25)) (.cells #[.int .i64 sop, .string (bs snm), .slice sxa sxl.length sxc, .slice ssa ssl.length ssc] 28)
  rw [World.size_alloc] at BY
  have hB : Below w.heap.size w ((w.alloc (.cells #[.int .i64 op, .string (bs nm), .int .i64 xn, .int .i64 wd, .int .u64 (v : Int), .slice xa xl.length xc] 25)).alloc (.cells #[.int .i64 sop, .string (bs snm), .slice sxa sxl.length sxc, .slice ssa ssl.length ssc] 28)) := ((Below.refl _ _).alloc (Nat.le_refl _) _).alloc (by simp) _
  have hk9 := Below.keptTo hB hn0
  replace hx0 := XT.In.keep hk9 _ hx0
  replace hs0 := ST.In.keep hk9 _ hs0
  replace he := he.keep hB
  replace hn0 := Nat.le_trans hn0 hB.size
  clear hk9
  go_enter Tryz.func3, Tryz.ntmps3
  go_upto_region 1 with (fail)
  generalize ((w.alloc (.cells #[.int .i64 op, .string (bs nm), .int .i64 xn, .int .i64 wd, .int .u64 (v : Int), .slice xa xl.length xc] 25)).alloc (.cells #[.int .i64 sop, .string (bs snm), .slice sxa sxl.length sxc, .slice ssa ssl.length ssc] 28)) = w1 at *
  obtain ⟨q0, q1, q2, q3, q4, q5⟩ := open6 BX
  obtain ⟨z0, z1, z2, z3⟩ := open4 BY
  go_wp2_with fail
  refine (live_any _ he).mono ?_
  rintro e w2 ⟨rfl, hb⟩
  clear q0 q1 q2 q3 q4 q5 z0 z1 z2 z3
  have hk9 := Below.keptTo hb hn0
  replace BX := block_kept BX hb
  replace BY := block_kept BY hb
  replace hx0 := XT.In.keep hk9 _ hx0
  replace hs0 := ST.In.keep hk9 _ hs0
  replace he := he.keep hb
  replace hn0 := Nat.le_trans hn0 hb.size
  replace hB := hB.trans (hb.mono hB.size)
  clear hb hk9
  obtain ⟨q0, q1, q2, q3, q4, q5⟩ := open6 BX
  obtain ⟨z0, z1, z2, z3⟩ := open4 BY
  go_wp2_with fail
  refine (H0.out _ hn0 hx0).mono ?_
  rintro e w3 ⟨rfl, hb⟩
  clear q0 q1 q2 q3 q4 q5 z0 z1 z2 z3
  have hk9 := Below.keptTo hb hn0
  replace BX := block_kept BX hb
  replace BY := block_kept BY hb
  replace hx0 := XT.In.keep hk9 _ hx0
  replace hs0 := ST.In.keep hk9 _ hs0
  replace he := he.keep hb
  replace hn0 := Nat.le_trans hn0 hb.size
  replace hB := hB.trans (hb.mono hB.size)
  clear hb hk9
  clear H0
  cases p0
  case false =>
    obtain ⟨q0, q1, q2, q3, q4, q5⟩ := open6 BX
    obtain ⟨z0, z1, z2, z3⟩ := open4 BY
    go_wp2
    go_ret
    exact ⟨rfl, hB⟩
  obtain ⟨q0, q1, q2, q3, q4, q5⟩ := open6 BX
  obtain ⟨z0, z1, z2, z3⟩ := open4 BY
  go_wp2_with fail
  refine (H1.out _ hn0 hs0).mono ?_
  rintro e w4 ⟨rfl, hb⟩
  clear q0 q1 q2 q3 q4 q5 z0 z1 z2 z3
  have hk9 := Below.keptTo hb hn0
  replace BX := block_kept BX hb
  replace BY := block_kept BY hb
  replace hx0 := XT.In.keep hk9 _ hx0
  replace hs0 := ST.In.keep hk9 _ hs0
  replace he := he.keep hb
  replace hn0 := Nat.le_trans hn0 hb.size
  replace hB := hB.trans (hb.mono hB.size)
  clear hb hk9
  clear H1
  cases p1
  case false =>
    obtain ⟨q0, q1, q2, q3, q4, q5⟩ := open6 BX
    obtain ⟨z0, z1, z2, z3⟩ := open4 BY
    go_wp2
    go_ret
    exact ⟨rfl, hB⟩
  have hix := XT.In.less hn0 _ hx0
  have his := ST.In.less hn0 _ hs0
  have Xd := Lib.hid (fun (W9 : World) (h9 : Below w4.heap.size w4 W9) => XT.In.less h9.size _ (XT.In.keep (Below.keptTo h9 (Nat.le_refl _)) _ hix))
  have Sd := Lib.hid (fun (W9 : World) (h9 : Below w4.heap.size w4 W9) => ST.In.less h9.size _ (ST.In.keep (Below.keptTo h9 (Nat.le_refl _)) _ his))
  have Ad := Lib.hid (fun (W9 : World) (h9 : Below w4.heap.size w4 W9) => HA.out W9 (he.keep h9) (Xd.out W9 h9))
  have Bd := Lib.hid (fun (W9 : World) (h9 : Below w4.heap.size w4 W9) => HB.out W9 (Xd.out W9 h9))
  have Cd := Lib.hid (fun (W9 : World) (h9 : Below w4.heap.size w4 W9) => HC.out W9 (he.keep h9) (Sd.out W9 h9))
  have Dd := Lib.hid (fun (W9 : World) (h9 : Below w4.heap.size w4 W9) => HD.out W9 (Sd.out W9 h9))
  have Fd := Lib.hid (fun (W9 : World) (h9 : Below w4.heap.size w4 W9) => HF.out W9 (he.keep h9) (Xd.out W9 h9))
  have Gd := Lib.hid (fun (W9 : World) (h9 : Below w4.heap.size w4 W9) => HG.out W9 (Xd.out W9 h9))
  clear hix his HA HB HC HD HF HG hx0 hs0 hNl Xd Sd
  obtain ⟨q0, q1, q2, q3, q4, q5⟩ := open6 BX
  obtain ⟨z0, z1, z2, z3⟩ := open4 BY
  go_upto_region 4 with (fail)
  go_region_held3 (fun u1 => u1.cell? ⟨w.heap.size, 0, none⟩ = some (.int .i64 op) ∧ u1.cell? ⟨w.heap.size, 1, none⟩ = some (.string (bs nm)) ∧ u1.cell? ⟨w.heap.size, 2, none⟩ = some (.int .i64 xn) ∧ u1.cell? ⟨w.heap.size, 3, none⟩ = some (.int .i64 wd) ∧ u1.cell? ⟨w.heap.size, 4, none⟩ = some (.int .u64 (v : Int)) ∧ u1.cell? ⟨w.heap.size, 5, none⟩ = some (.slice xa xl.length xc) ∧ u1.cell? ⟨w.heap.size + 1, 0, none⟩ = some (.int .i64 sop) ∧ u1.cell? ⟨w.heap.size + 1, 1, none⟩ = some (.string (bs snm)) ∧ u1.cell? ⟨w.heap.size + 1, 2, none⟩ = some (.slice sxa sxl.length sxc) ∧ u1.cell? ⟨w.heap.size + 1, 3, none⟩ = some (.slice ssa ssl.length ssc)) (first | (with_reducible exact ⟨q0G, q1G, q2G, q3G, q4G, q5G, z0G, z1G, z2G, z3G⟩) | (with_reducible exact ⟨q0F, q1F, q2F, q3F, q4F, q5F, z0F, z1F, z2F, z3F⟩) | (with_reducible exact ⟨q0E, q1E, q2E, q3E, q4E, q5E, z0E, z1E, z2E, z3E⟩) | (with_reducible exact ⟨q0D, q1D, q2D, q3D, q4D, q5D, z0D, z1D, z2D, z3D⟩) | (with_reducible exact ⟨q0C, q1C, q2C, q3C, q4C, q5C, z0C, z1C, z2C, z3C⟩) | (with_reducible exact ⟨q0B, q1B, q2B, q3B, q4B, q5B, z0B, z1B, z2B, z3B⟩) | (with_reducible exact ⟨q0A, q1A, q2A, q3A, q4A, q5A, z0A, z1A, z2A, z3A⟩) | (with_reducible exact ⟨q0, q1, q2, q3, q4, q5, z0, z1, z2, z3⟩) | exact ⟨q0G, q1G, q2G, q3G, q4G, q5G, z0G, z1G, z2G, z3G⟩ | exact ⟨q0F, q1F, q2F, q3F, q4F, q5F, z0F, z1F, z2F, z3F⟩ | exact ⟨q0E, q1E, q2E, q3E, q4E, q5E, z0E, z1E, z2E, z3E⟩ | exact ⟨q0D, q1D, q2D, q3D, q4D, q5D, z0D, z1D, z2D, z3D⟩ | exact ⟨q0C, q1C, q2C, q3C, q4C, q5C, z0C, z1C, z2C, z3C⟩ | exact ⟨q0B, q1B, q2B, q3B, q4B, q5B, z0B, z1B, z2B, z3B⟩ | exact ⟨q0A, q1A, q2A, q3A, q4A, q5A, z0A, z1A, z2A, z3A⟩ | exact ⟨q0, q1, q2, q3, q4, q5, z0, z1, z2, z3⟩) (first | (go_at_call 13; refine (HTX.out _ a5 a6 c5 c6 li5 li6).mono ?_; rintro e v7 ⟨rfl, hb⟩; have hr7 : Below w4.heap.size w4 v7 := hr6.trans (hb.mono hr6.size); have q0G := keep_cell hr7 q0; have q1G := keep_cell hr7 q1; have q2G := keep_cell hr7 q2; have q3G := keep_cell hr7 q3; have q4G := keep_cell hr7 q4; have q5G := keep_cell hr7 q5; have z0G := keep_cell hr7 z0; have z1G := keep_cell hr7 z1; have z2G := keep_cell hr7 z2; have z3G := keep_cell hr7 z3; clear hb) | (go_at_call 15; refine (Gd.out _ hr5).mono ?_; rintro e v6 ⟨a6, c6, rfl, li6, hb⟩; have hr6 : Below w4.heap.size w4 v6 := hr5.trans (hb.mono hr5.size); have q0F := keep_cell hr6 q0; have q1F := keep_cell hr6 q1; have q2F := keep_cell hr6 q2; have q3F := keep_cell hr6 q3; have q4F := keep_cell hr6 q4; have q5F := keep_cell hr6 q5; have z0F := keep_cell hr6 z0; have z1F := keep_cell hr6 z1; have z2F := keep_cell hr6 z2; have z3F := keep_cell hr6 z3; replace li5 := LiesS.keep (H := 0) li5 hb; clear hb) | (go_at_call 14; refine (Fd.out _ hr4).mono ?_; rintro e v5 ⟨a5, c5, rfl, li5, hb⟩; have hr5 : Below w4.heap.size w4 v5 := hr4.trans (hb.mono hr4.size); have q0E := keep_cell hr5 q0; have q1E := keep_cell hr5 q1; have q2E := keep_cell hr5 q2; have q3E := keep_cell hr5 q3; have q4E := keep_cell hr5 q4; have q5E := keep_cell hr5 q5; have z0E := keep_cell hr5 z0; have z1E := keep_cell hr5 z1; have z2E := keep_cell hr5 z2; have z3E := keep_cell hr5 z3; clear hb) | (go_at_call 12; refine (Dd.out _ hr3).mono ?_; rintro e v4 ⟨rfl, hb⟩; have hr4 : Below w4.heap.size w4 v4 := hr3.trans (hb.mono hr3.size); have q0D := keep_cell hr4 q0; have q1D := keep_cell hr4 q1; have q2D := keep_cell hr4 q2; have q3D := keep_cell hr4 q3; have q4D := keep_cell hr4 q4; have q5D := keep_cell hr4 q5; have z0D := keep_cell hr4 z0; have z1D := keep_cell hr4 z1; have z2D := keep_cell hr4 z2; have z3D := keep_cell hr4 z3; clear hb) | (go_at_call 11; refine (Cd.out _ hr2).mono ?_; rintro e v3 ⟨rfl, hb⟩; have hr3 : Below w4.heap.size w4 v3 := hr2.trans (hb.mono hr2.size); have q0C := keep_cell hr3 q0; have q1C := keep_cell hr3 q1; have q2C := keep_cell hr3 q2; have q3C := keep_cell hr3 q3; have q4C := keep_cell hr3 q4; have q5C := keep_cell hr3 q5; have z0C := keep_cell hr3 z0; have z1C := keep_cell hr3 z1; have z2C := keep_cell hr3 z2; have z3C := keep_cell hr3 z3; clear hb) | (go_at_call 10; refine (Bd.out _ hr1).mono ?_; rintro e v2 ⟨rfl, hb⟩; have hr2 : Below w4.heap.size w4 v2 := hr1.trans (hb.mono hr1.size); have q0B := keep_cell hr2 q0; have q1B := keep_cell hr2 q1; have q2B := keep_cell hr2 q2; have q3B := keep_cell hr2 q3; have q4B := keep_cell hr2 q4; have q5B := keep_cell hr2 q5; have z0B := keep_cell hr2 z0; have z1B := keep_cell hr2 z1; have z2B := keep_cell hr2 z2; have z3B := keep_cell hr2 z3; clear hb) | (go_at_call 9; refine (Ad.out _ (by first | exact Below.refl _ _ | exact (Below.refl _ _).drew | exact below_drawnR (Below.refl _ _) _)).mono ?_; rintro e v1 ⟨rfl, hb⟩; have hr1 : Below w4.heap.size w4 v1 := ((by first | exact Below.refl _ _ | exact (Below.refl _ _).drew | exact below_drawnR (Below.refl _ _) _) : Below w4.heap.size w4 _).trans hb; have q0A := keep_cell hr1 q0; have q1A := keep_cell hr1 q1; have q2A := keep_cell hr1 q2; have q3A := keep_cell hr1 q3; have q4A := keep_cell hr1 q4; have q5A := keep_cell hr1 q5; have z0A := keep_cell hr1 z0; have z1A := keep_cell hr1 z1; have z2A := keep_cell hr1 z2; have z3A := keep_cell hr1 z3; clear hb))
  go_wp2
  go_ret
  exact ⟨rfl, hB.trans (hr7.mono hB.size)⟩

/-! ### The row's step -/
set_option maxRecDepth 100000 in
theorem contract (H : Type) (enc : TypeId × Value → H) (W : World) (base : Nat) (args : Array Value) (ds gs : List (DataW H)) (before : List MemPlace)
    (hval0 : ∀ (j : Nat) t v, Tryz.f3.params[j]? = some t → args[j]? = some v → Value.okWide Tryz.prog W .any base t v)
    (hW : DataW.Whole enc Tryz.prog Tryz.f3.params.toList Rows.astPartsSpec.vars false W args.toList ds gs before) (hbk : Rows.uptoBulkAll (ds ++ gs) ≤ 1048576) (hL : laidMetH Tryz.prog LD W) (hsh : W.ShapedOpen Tryz.prog) :
    Calls Tryz.prog 3 args W fun e W' => ∃ v, e = .returned v ∧ Rows.astPartsSpec.post enc Tryz.prog Tryz.f3 false true false false W args v W' := by
  have hval : ∀ (j : Nat) t v, Tryz.f3.params[j]? = some t → args[j]? = some v → Value.okWide Tryz.prog W .any base t v := hval0
  have hW' := hW
  obtain ⟨p, q, hA0, hV, rfl, hfz, hnd⟩ := hW
  have hA : DataW.TrodAll enc Tryz.prog W 0 (fun _ => true) true Tryz.f3.params.toList args.toList ds p := hA0
  rw [Tryz.params3] at hA hval
  obtain ⟨v0, vs0, d0, ds0, p0, q0, hargs, rfl, rfl, h0, r0⟩ := trodAll_cons hA
  obtain ⟨v1, vs1, d1, ds1, p1, q1, rfl, rfl, rfl, h1, r1⟩ := trodAll_cons r0
  obtain ⟨rfl, rfl, rfl⟩ := trodAll_nil r1
  obtain rfl : args = #[v0, v1] := by cases args; simp_all
  obtain ⟨rfl, rfl⟩ := trodVars_none hV
  have he := env_of hL hsh
  simp only [List.append_nil, Rows.uptoBulkAll] at hbk
  have k0 : ∀ (W' : World), Below W.heap.size W W' → DataW.Trod enc Tryz.prog W' 0 (fun b => decide (b < W.heap.size)) true 25 v0 d0 p0 := fun W' hn => Below.trod laidOut (by kernel_rfl) (of_decide_eq_true (by kernel_rfl)) h0 hn (fun x hx => by simpa using hW'.lt x (by simp [hx]))
  have k1 : ∀ (W' : World), Below W.heap.size W W' → DataW.Trod enc Tryz.prog W' 0 (fun b => decide (b < W.heap.size)) true 28 v1 d1 p1 := fun W' hn => Below.trod laidOut (by kernel_rfl) (of_decide_eq_true (by kernel_rfl)) h1 hn (fun x hx => by simpa using hW'.lt x (by simp [hx]))
  obtain ⟨t0, rfl, i0, w0, b0⟩ := xt_of (hval 0 25 v0 rfl rfl) h0
  obtain ⟨t1, rfl, i1, w1, b1⟩ := st_of (hval 1 28 v1 rfl rfl) h1
  clear hA0 hval0
  simp only [List.append_nil] at hW'
  refine (walk t0 t1 (by omega) (by omega) w0 w1 W.heap.size W (Nat.le_refl _) he i0 i1).mono fun e W' ⟨hr, bel⟩ => ?_
  subst hr
  exact ⟨_, rfl, _, _, _, [], _, [], hW', trodAll_mk1 (shut_bool Tryz.underlying4 _), (trodAll_cons_mk (k0 _ bel) (trodAll_cons_mk (k1 _ bel) trodAll_mk0)), rfl, bel.frame _, fun h => by cases h⟩
theorem reads (os : Os) {H : Type} (enc : TypeId × Value → H) : ∃ places, DataW.whole enc Tryz.prog ((World.doorLaid Tryz.prog 55 os).forCall (fun _ _ => 0) ⟨#[], #[.agg #[.int .i64 0, .string ⟨#[]⟩, .int .i64 0, .int .i64 0, .int .u64 0, .slice none 0 0], .agg #[.int .i64 0, .string ⟨#[]⟩, .slice none 0 0, .slice none 0 0]], []⟩).memory Tryz.f3.params.toList Rows.astPartsSpec.vars false #[.agg #[.int .i64 0, .string ⟨#[]⟩, .int .i64 0, .int .i64 0, .int .u64 0, .slice none 0 0], .agg #[.int .i64 0, .string ⟨#[]⟩, .slice none 0 0, .slice none 0 0]].toList 8 = some ([.agg [.lit (.int .i64 0), .lit (.string []), .lit (.int .i64 0), .lit (.int .i64 0), .lit (.int .u64 0), .nil], .agg [.lit (.int .i64 0), .lit (.string []), .nil, .nil]], [], places) :=
  ⟨[], by kernel_rfl⟩
set_option maxRecDepth 100000 in
theorem lifted (os : Os) (started : os.Started) (H : Type) (enc : TypeId × Value → H) (F : Stop.Interp) :
    ReturnsInHanded {} Tryz.checked os 3 .any ((Rows.OpenSpec.upto Rows.astPartsSpec).preRow enc Tryz.prog Tryz.f3 Rows.astPartsUptoRow.domain false Rows.astPartsUptoRow.laid) (((Rows.OpenSpec.upto Rows.astPartsSpec).at F).post enc Tryz.prog Tryz.f3 false true false false) := by
  obtain ⟨places, hx⟩ := reads os enc
  refine returnsInHanded_of_row (C := Tryz.checked) (s := Rows.OpenSpec.upto Rows.astPartsSpec) own started (by kernel_rfl) Tryz.func3
    (witness_row_at (enc := enc) (C := Tryz.checked) false (World.doorLaid Tryz.prog 55 os) #[.agg #[.int .i64 0, .string ⟨#[]⟩, .int .i64 0, .int .i64 0, .int .u64 0, .slice none 0 0], .agg #[.int .i64 0, .string ⟨#[]⟩, .slice none 0 0, .slice none 0 0]] rfl (by kernel_rfl) (by kernel_rfl) (by kernel_rfl)
      (OpenSpec.preRow_of_cond 8 hx (by kernel_rfl) (fun k hk => by cases hk; kernel_rfl) (by kernel_rfl) (door_met os _))) ?_
  intro W base args ds gs before hval hW _ hcond _ hL hsh _
  have hbk : Rows.uptoBulkAll (ds ++ gs) ≤ 1048576 := of_decide_eq_true (hcond _ rfl)
  exact contract H enc W base args ds gs before hval hW hbk hL hsh
theorem over : Rows.AstPartsUptoSaid :=
  OpenClaim.holds_of_cond 3 Tryz.f3 rfl rfl rfl rfl rfl rfl rfl ⟨rfl, rfl, rfl, rfl, rfl⟩ rfl rfl rfl rfl rfl (by kernel_rfl) Tryz.func3 (by kernel_rfl)
    (of_decide_eq_true (by kernel_rfl)) (by unfold Func.isWrapper; first | (rw [if_pos (by decide +kernel)]; kernel_rfl) | (rw [if_neg (by decide +kernel)]; exact ⟨rfl, rfl⟩))
    (fun os started H enc _ F => by rw [OpenClaim.pre_eq_preRow]; exact lifted os started H enc F)
/-- The given statement. -/
theorem proved : Rows.AstPartsUptoCardSaid :=
  Claim7.holds_tied_plain_at .later [] _ _ _ _
    over (fun _ h => by cases h) (by kernel_rfl) (fun _ h => by cases h) astPartsUpto_row_tie rfl ⟨rfl, rfl⟩ (by kernel_rfl) rfl
    (fun f fn hf hfn => by
      obtain rfl : f = 3 := Option.some.inj ((show Tryz.prog.funcNamed "filigree/filigreelaw03.AstParts" = some 3 by kernel_rfl).symm.trans hf) |>.symm
      obtain rfl : fn = Tryz.f3 := (Option.some.inj (Tryz.func3.symm.trans hfn)).symm
      exact ⟨by kernel_rfl, fun j t ht => by
        rw [Tryz.params3] at ht
        have hm : t ∈ [25, 28] := by simpa using Array.mem_of_getElem? ht
        have hall : ([25, 28].all fun u => !Tryz.prog.wantsStandIn u) = true := by kernel_rfl
        exact (show Tryz.prog.wantsStandIn t = false by simpa using List.all_eq_true.1 hall t hm)⟩)
    (by kernel_rfl)
#print axioms proved
end Go.Proofs.YtlbjmnakiflfpaaGreatDoor.astParts
