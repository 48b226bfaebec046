/-
  What width, what number an expression is, and what is of it with its constants put in, is what the document says.
-/
import Derived.Test.YtlbjmnakiflfpaaGreatDoorTie
import Derived.Test.YtlbjmnakiflfpaaGreatDoorCards
import Derived.Test.YtlbjmnakiflfpaaGreatDoorKpAsOp
import Derived.Test.YtlbjmnakiflfpaaGreatDoorKpKsO
import Derived.Test.YtlbjmnakiflfpaaGreatDoorKpKsL
import Derived.Test.YtlbjmnakiflfpaaGreatDoorKpKsQ
import Derived.Test.YtlbjmnakiflfpaaGreatDoorKpRpZ
import Derived.Test.YtlbjmnakiflfpaaGreatDoorKpAsRs
import Derived.JoinedCond
import Derived.Deep.DeepHandedRow
namespace Go.Proofs.YtlbjmnakiflfpaaGreatDoor.konstPlaces
open Go Go.ChangeShapes Go.WideShapes Go.ChangeAt Go.RowKit Go.Joins Go.Sort Go.Deep
set_option linter.unusedVariables false
set_option linter.unusedSimpArgs false

theorem NRow.less3 {n m : Nat} {W : World} {l : List NT} {a : Option Addr} (h : n ≤ m) (hr : NRow n W l a) : NRow m W l a := InRow.less h (fun _ _ h => h) hr
theorem bits_same (x B : Int) (w : World) : (binOp .eql 52 (.agg #[.int .i64 x, .int .u64 B]) (.agg #[.int .i64 x, .int .u64 B])).run Tryz.prog w = .ok (.bool true) w := by simp [go_sem]
attribute [-go_sem] run_eql_struct
attribute [go_sem] bits_same
theorem open2b {w : World} {g : Nat} {v0 v1 : Value} {t : TypeId} (h : w.heap[g]? = some (.cells #[v0, v1] t (0, 0))) : w.cell? ⟨g, 0, none⟩ = some v0 ∧ w.cell? ⟨g, 1, none⟩ = some v1 := by
  simp [World.cell?, h]
theorem bk_subst_le (l : List NT) : ∀ x : XT, (substX l x).bk ≤ x.bk := XT.ind fun op nm n wd v a c xs ih => by
  have hm : ∀ ys : List XT, (∀ y ∈ ys, (substX l y).bk ≤ y.bk) → XT.bkL (substL l ys) ≤ XT.bkL ys := by
    intro ys
    induction ys with
    | nil => intro _; simp [substL, XT.bkL]
    | cons y r ih2 =>
      intro h
      have h1 := h y (by simp)
      have h2 := ih2 (fun z hz => h z (by simp [hz]))
      simp only [substL, XT.bkL]; omega
  have hn : (XT.mk op nm n wd v none 0 (XT.nrmL xs)).bk ≤ (XT.mk op nm n wd v a c xs).bk := (bk_nrm_le (.mk op nm n wd v a c xs)).1
  rw [substX]
  split
  · cases findN l nm with
    | none => exact hn
    | some k =>
      simp only
      split
      · simp only [XT.bk, XT.bkL]; simp; omega
      · exact hn
  · have := hm xs ih
    simp only [XT.bk]; omega
/-- Both put in: the same. -/
def SbP2 (z : XT) (W : World) (e : Ending) (W' : World) : Prop := ∃ t : XT, e = .returned t.val ∧ t.nrm = z ∧ t.bk ≤ 1500000 ∧ t.In W'.heap.size W' ∧ Below W.heap.size W W'
theorem subA (l : List NT) (hlk : NT.bkL l ≤ 1400000) (a : Option Addr) (c : Nat) (x : XT) (hbk : x.bk ≤ 1400000) (W : World) (hx : x.In W.heap.size W) (hl : NRow W.heap.size W l a) : Calls Tryz.prog 29 #[x.val, .slice a l.length c] W (SbP2 (substX l x) W) :=
  (subst_any x hbk l (by omega) a c W.heap.size W (Nat.le_refl _) hx hl).mono (fun e W' h => by
    obtain ⟨t, he, hn, hi, _, hb⟩ := h
    have h1 := bk_nrm_le t
    have h2 := bk_subst_le l x
    rw [hn] at h1
    exact ⟨t, he, hn, by omega, hi, hb⟩)
theorem subB (l : List NT) (hlk : NT.bkL l ≤ 1400000) (a : Option Addr) (c : Nat) (x : XT) (hbk : x.bk ≤ 1400000) (W : World) (hx : x.In W.heap.size W) (hl : NRow W.heap.size W l a) : Calls Tryz.prog 30 #[x.val, .slice a l.length c] W (SbP2 (substX l x) W) :=
  (refsubst_any l (Nat.le_trans (NT.bkL_len l) (by omega)) a c x hbk W.heap.size W (Nat.le_refl _) hx hl).mono (fun e W' h => by
    obtain ⟨t, he, hn, hi, _, hb⟩ := h
    have h1 := bk_nrm_le t
    have h2 := bk_subst_le l x
    rw [hn] at h1
    exact ⟨t, he, hn, by omega, hi, hb⟩)
theorem same_of (z : XT) (t y : XT) (ht : t.nrm = z) (hy : y.nrm = z) (bt : t.bk ≤ 1500000) (bbY : y.bk ≤ 1500000) (W : World) (it : t.In W.heap.size W) (iy : y.In W.heap.size W) : Calls Tryz.prog 20 #[t.val, y.val] W fun e w' => e = .returned (.bool true) ∧ Below W.heap.size W w' := by
  have q := refsameX_any t bt y bbY W.heap.size W (Nat.le_refl _) it iy
  rw [same_nrm t y (ht.trans hy.symm)] at q
  exact q

set_option maxHeartbeats 32000000 in
set_option maxRecDepth 3000000 in
theorem walk_any (x : XT) (hbk : x.bk ≤ 1400000) (hwf : x.Wf) (l : List NT) (hlk : NT.bkL l ≤ 1400000) (a : Option Addr) (c n0 : Nat) (w : World) (hn0 : n0 ≤ w.heap.size) (he : EnvA w) (hx : x.In n0 w) (hl : NRow n0 w l a) : Calls Tryz.prog 5 #[x.val, .slice a l.length c] w fun e w' => e = .returned (.bool true) ∧ Below w.heap.size w w' := by
  have HF := Lib.hid (fun (W : World) (h1 : n0 ≤ W.heap.size) (h3 : x.In n0 W) => kfew_any x (Nat.le_trans x.sz_bk (by omega)) l (Nat.le_trans (NT.bkL_len l) (by omega)) a c n0 W h1 h3)
  have HW := Lib.hid (fun (W : World) (h1 : n0 ≤ W.heap.size) (h2 : EnvA W) (h3 : x.In n0 W) (h4 : NRow n0 W l a) => width_any x (by omega) hwf l (by omega) a c n0 W h1 h2 h3 h4)
  have HV := Lib.hid (fun (W : World) (h1 : n0 ≤ W.heap.size) (h2 : EnvA W) (h3 : x.In n0 W) (h4 : NRow n0 W l a) => refWidth_any x (by omega) hwf l (by omega) a c n0 W h1 h2 h3 h4)
  have HN := Lib.hid (fun (W : World) (h1 : n0 ≤ W.heap.size) (h2 : EnvA W) (h3 : x.In n0 W) (h4 : NRow n0 W l a) => number_any x (by omega) hwf l (by omega) a c n0 W h1 h2 h3 h4)
  have HM := Lib.hid (fun (W : World) (h1 : n0 ≤ W.heap.size) (h2 : EnvA W) (h3 : x.In n0 W) (h4 : NRow n0 W l a) => refNumber_any x (by omega) hwf l (by omega) a c n0 W h1 h2 h3 h4)
  have HA := Lib.hid (fun (W : World) (h3 : x.In W.heap.size W) (h4 : NRow W.heap.size W l a) => subA l hlk a c x hbk W h3 h4)
  have HB := Lib.hid (fun (W : World) (h3 : x.In W.heap.size W) (h4 : NRow W.heap.size W l a) => subB l hlk a c x hbk W h3 h4)
  obtain ⟨⟨wi, fi⟩, hW⟩ : ∃ p, widthK l x = p := ⟨_, rfl⟩
  obtain ⟨⟨b1, b2, g⟩, hN⟩ : ∃ p, numberK l x = p := ⟨_, rfl⟩
  obtain ⟨Z, hZ⟩ : ∃ Z, substX l x = Z := ⟨_, rfl⟩
  simp only [hW] at HW HV
  simp only [hN] at HN HM
  simp only [hZ] at HA HB
  clear hW hN hZ hbk hwf hlk
  generalize (b2 : Int) = B at *
  generalize fewK x l = fb at *
  obtain ⟨op, nm, xn, wd, v, xa, xc, xl⟩ := x
  simp only [XT.val, XT.cells] at HF HW HV HN HM HA HB ⊢
  go_enter Tryz.func5, Tryz.ntmps5
  go_upto_region 1 with (fail)
  have BX := World.alloc_heap_new w (.cells #[.int .i64 op, .string (bs nm), .int .i64 xn, .int .i64 wd, .int .u64 (v : Int), .slice xa xl.length xc] 25)
  have hB : Below w.heap.size w (w.alloc (.cells #[.int .i64 op, .string (bs nm), .int .i64 xn, .int .i64 wd, .int .u64 (v : Int), .slice xa xl.length xc] 25)) := ((Below.refl _ _).alloc (by first | exact Nat.le_refl _ | (simp; done) | (simp; omega)) _)
  have hk9 := Below.keptTo hB hn0
  replace hx := XT.In.keep hk9 _ hx
  replace hl := hl.keep hk9
  replace he := he.keep hB
  replace hn0 := Nat.le_trans hn0 hB.size
  clear hk9
  generalize (w.alloc (.cells #[.int .i64 op, .string (bs nm), .int .i64 xn, .int .i64 wd, .int .u64 (v : Int), .slice xa xl.length xc] 25)) = w1 at *
  obtain ⟨q0, q1, q2, q3, q4, q5⟩ := open6 BX
  go_wp2_with fail
  refine (live_any _ he).mono ?_
  rintro e w2 ⟨rfl, hb⟩
  clear q0 q1 q2 q3 q4 q5
  have hk9 := Below.keptTo hb hn0
  replace BX := block_kept BX hb
  replace hx := XT.In.keep hk9 _ hx
  replace hl := hl.keep hk9
  replace he := he.keep hb
  replace hn0 := Nat.le_trans hn0 hb.size
  replace hB := hB.trans (hb.mono hB.size)
  clear hb hk9
  obtain ⟨q0, q1, q2, q3, q4, q5⟩ := open6 BX
  go_wp2_with fail
  refine (HF.out _ hn0 hx).mono ?_
  rintro e w3 ⟨rfl, hb⟩
  clear q0 q1 q2 q3 q4 q5
  have hk9 := Below.keptTo hb hn0
  replace BX := block_kept BX hb
  replace hx := XT.In.keep hk9 _ hx
  replace hl := hl.keep hk9
  replace he := he.keep hb
  replace hn0 := Nat.le_trans hn0 hb.size
  replace hB := hB.trans (hb.mono hB.size)
  clear hb hk9
  clear HF
  cases fb
  case false =>
    go_wp2
    go_ret
    exact ⟨rfl, hB⟩
  obtain ⟨q0, q1, q2, q3, q4, q5⟩ := open6 BX
  go_wp2_with fail
  refine (HW.out _ hn0 he hx hl).mono ?_
  rintro e w4 ⟨rfl, hb⟩
  clear q0 q1 q2 q3 q4 q5
  have hk9 := Below.keptTo hb hn0
  replace BX := block_kept BX hb
  replace hx := XT.In.keep hk9 _ hx
  replace hl := hl.keep hk9
  replace he := he.keep hb
  replace hn0 := Nat.le_trans hn0 hb.size
  replace hB := hB.trans (hb.mono hB.size)
  clear hb hk9
  obtain ⟨q0, q1, q2, q3, q4, q5⟩ := open6 BX
  go_wp2_with fail
  refine (HV.out _ hn0 he hx hl).mono ?_
  rintro e w5 ⟨rfl, hb⟩
  clear q0 q1 q2 q3 q4 q5
  have hk9 := Below.keptTo hb hn0
  replace BX := block_kept BX hb
  replace hx := XT.In.keep hk9 _ hx
  replace hl := hl.keep hk9
  replace he := he.keep hb
  replace hn0 := Nat.le_trans hn0 hb.size
  replace hB := hB.trans (hb.mono hB.size)
  clear hb hk9
  clear HW HV
  obtain ⟨q0, q1, q2, q3, q4, q5⟩ := open6 BX
  go_wp2_with fail
  refine (HN.out _ hn0 he hx hl).mono ?_
  rintro e w6 ⟨rfl, hb⟩
  clear q0 q1 q2 q3 q4 q5
  have hk9 := Below.keptTo hb hn0
  replace BX := block_kept BX hb
  replace hx := XT.In.keep hk9 _ hx
  replace hl := hl.keep hk9
  replace he := he.keep hb
  replace hn0 := Nat.le_trans hn0 hb.size
  replace hB := hB.trans (hb.mono hB.size)
  clear hb hk9
  obtain ⟨q0, q1, q2, q3, q4, q5⟩ := open6 BX
  go_upto_region 7 with (fail)
  clear q0 q1 q2 q3 q4 q5
  have hb : Below w6.heap.size w6 (w6.alloc (.cells #[.int .i64 b1, .int .u64 B] 52)) := (Below.refl _ _).alloc (Nat.le_refl _) _
  have BP := World.alloc_heap_new w6 (.cells #[.int .i64 b1, .int .u64 B] 52)
  obtain ⟨GP, hGP⟩ : ∃ GP, w6.heap.size = GP := ⟨_, rfl⟩
  have hk9 := Below.keptTo hb hn0
  replace BX := block_kept BX hb
  replace hx := XT.In.keep hk9 _ hx
  replace hl := hl.keep hk9
  replace he := he.keep hb
  replace hn0 := Nat.le_trans hn0 hb.size
  replace hB := hB.trans (hb.mono hB.size)
  clear hb hk9
  simp only [hGP] at BP ⊢
  generalize w6.alloc (.cells #[.int .i64 b1, .int .u64 B] 52) = wP at *
  clear hGP
  obtain ⟨q0, q1, q2, q3, q4, q5⟩ := open6 BX
  obtain ⟨p0, p1⟩ := open2b BP
  go_wp2_with fail
  refine (HM.out _ hn0 he hx hl).mono ?_
  rintro e wM ⟨rfl, hb⟩
  clear q0 q1 q2 q3 q4 q5
  clear p0 p1
  have hk9 := Below.keptTo hb hn0
  replace BX := block_kept BX hb
  replace hx := XT.In.keep hk9 _ hx
  replace hl := hl.keep hk9
  replace BP := block_kept BP hb
  replace he := he.keep hb
  replace hn0 := Nat.le_trans hn0 hb.size
  replace hB := hB.trans (hb.mono hB.size)
  clear hb hk9
  obtain ⟨q0, q1, q2, q3, q4, q5⟩ := open6 BX
  obtain ⟨p0, p1⟩ := open2b BP
  go_upto_region 8 with (fail)
  clear q0 q1 q2 q3 q4 q5
  clear p0 p1
  have hb : Below wM.heap.size wM (wM.alloc (.cells #[.int .i64 b1, .int .u64 B] 52)) := (Below.refl _ _).alloc (Nat.le_refl _) _
  have BQ := World.alloc_heap_new wM (.cells #[.int .i64 b1, .int .u64 B] 52)
  obtain ⟨GQ, hGQ⟩ : ∃ GQ, wM.heap.size = GQ := ⟨_, rfl⟩
  have hk9 := Below.keptTo hb hn0
  replace BX := block_kept BX hb
  replace hx := XT.In.keep hk9 _ hx
  replace hl := hl.keep hk9
  replace BP := block_kept BP hb
  replace he := he.keep hb
  replace hn0 := Nat.le_trans hn0 hb.size
  replace hB := hB.trans (hb.mono hB.size)
  clear hb hk9
  simp only [hGQ] at BQ ⊢
  generalize wM.alloc (.cells #[.int .i64 b1, .int .u64 B] 52) = wQ at *
  clear hGQ
  clear HN HM
  have hix := XT.In.less hn0 _ hx
  have hll := NRow.less3 hn0 hl
  have Xd := Lib.hid (fun (W9 : World) (h9 : Below wQ.heap.size wQ W9) => XT.In.less h9.size _ (XT.In.keep (Below.keptTo h9 (Nat.le_refl _)) _ hix))
  have Ld := Lib.hid (fun (W9 : World) (h9 : Below wQ.heap.size wQ W9) => NRow.less3 h9.size (hll.keep (Below.keptTo h9 (Nat.le_refl _))))
  have Ad := Lib.hid (fun (W9 : World) (h9 : Below wQ.heap.size wQ W9) => HA.out W9 (Xd.out W9 h9) (Ld.out W9 h9))
  have Bd := Lib.hid (fun (W9 : World) (h9 : Below wQ.heap.size wQ W9) => HB.out W9 (Xd.out W9 h9) (Ld.out W9 h9))
  clear hix hll hx hl he HA HB Xd Ld
  obtain ⟨q0, q1, q2, q3, q4, q5⟩ := open6 BX
  obtain ⟨p0, p1⟩ := open2b BP
  obtain ⟨s0, s1⟩ := open2b BQ
  go_upto_region 8 with (fail)
  go_region_held3 (fun u1 => u1.cell? ⟨w.heap.size, 0, none⟩ = some (.int .i64 op) ∧ u1.cell? ⟨w.heap.size, 1, none⟩ = some (.string (bs nm)) ∧ u1.cell? ⟨w.heap.size, 2, none⟩ = some (.int .i64 xn) ∧ u1.cell? ⟨w.heap.size, 3, none⟩ = some (.int .i64 wd) ∧ u1.cell? ⟨w.heap.size, 4, none⟩ = some (.int .u64 (v : Int)) ∧ u1.cell? ⟨w.heap.size, 5, none⟩ = some (.slice xa xl.length xc) ∧ u1.cell? ⟨GP, 0, none⟩ = some (.int .i64 b1) ∧ u1.cell? ⟨GP, 1, none⟩ = some (.int .u64 B) ∧ u1.cell? ⟨GQ, 0, none⟩ = some (.int .i64 b1) ∧ u1.cell? ⟨GQ, 1, none⟩ = some (.int .u64 B)) (first | (with_reducible exact ⟨q0C, q1C, q2C, q3C, q4C, q5C, p0C, p1C, s0C, s1C⟩) | (with_reducible exact ⟨q0B, q1B, q2B, q3B, q4B, q5B, p0B, p1B, s0B, s1B⟩) | (with_reducible exact ⟨q0A, q1A, q2A, q3A, q4A, q5A, p0A, p1A, s0A, s1A⟩) | (with_reducible exact ⟨q0, q1, q2, q3, q4, q5, p0, p1, s0, s1⟩) | exact ⟨q0C, q1C, q2C, q3C, q4C, q5C, p0C, p1C, s0C, s1C⟩ | exact ⟨q0B, q1B, q2B, q3B, q4B, q5B, p0B, p1B, s0B, s1B⟩ | exact ⟨q0A, q1A, q2A, q3A, q4A, q5A, p0A, p1A, s0A, s1A⟩ | exact ⟨q0, q1, q2, q3, q4, q5, p0, p1, s0, s1⟩) (first | (go_at_call 20; refine (same_of _ t1 t2 n1 n2 k1 k2 _ j1 j2).mono ?_; rintro e v3 ⟨rfl, hb⟩; have hr3 : Below wQ.heap.size wQ v3 := hr2.trans (hb.mono hr2.size); have q0C := keep_cell hr3 q0; have q1C := keep_cell hr3 q1; have q2C := keep_cell hr3 q2; have q3C := keep_cell hr3 q3; have q4C := keep_cell hr3 q4; have q5C := keep_cell hr3 q5; have p0C := keep_cell hr3 p0; have p1C := keep_cell hr3 p1; have s0C := keep_cell hr3 s0; have s1C := keep_cell hr3 s1; clear hb) | (go_at_call 30; refine (Bd.out _ hr1).mono ?_; rintro e v2 ⟨t2, rfl, n2, k2, j2, hb⟩; have hr2 : Below wQ.heap.size wQ v2 := hr1.trans (hb.mono hr1.size); have q0B := keep_cell hr2 q0; have q1B := keep_cell hr2 q1; have q2B := keep_cell hr2 q2; have q3B := keep_cell hr2 q3; have q4B := keep_cell hr2 q4; have q5B := keep_cell hr2 q5; have p0B := keep_cell hr2 p0; have p1B := keep_cell hr2 p1; have s0B := keep_cell hr2 s0; have s1B := keep_cell hr2 s1; replace j1 := XT.In.less hb.size _ (XT.In.keep (Below.keptTo hb (Nat.le_refl _)) _ j1); clear hb) | (go_at_call 29; refine (Ad.out _ (by first | exact Below.refl _ _ | exact (Below.refl _ _).drew | exact below_drawn2 (Below.refl _ _) _)).mono ?_; rintro e v1 ⟨t1, rfl, n1, k1, j1, hb⟩; have hr1 : Below wQ.heap.size wQ v1 := ((by first | exact Below.refl _ _ | exact (Below.refl _ _).drew | exact below_drawn2 (Below.refl _ _) _) : Below wQ.heap.size wQ _).trans hb; have q0A := keep_cell hr1 q0; have q1A := keep_cell hr1 q1; have q2A := keep_cell hr1 q2; have q3A := keep_cell hr1 q3; have q4A := keep_cell hr1 q4; have q5A := keep_cell hr1 q5; have p0A := keep_cell hr1 p0; have p1A := keep_cell hr1 p1; have s0A := keep_cell hr1 s0; have s1A := keep_cell hr1 s1; clear hb))
  go_wp2
  go_ret
  exact ⟨rfl, hB.trans (hr3.mono hB.size)⟩

/-! ### The row's step -/
set_option maxRecDepth 3000000 in
theorem contract (H : Type) (enc : TypeId × Value → H) (W : World) (base : Nat) (args : Array Value) (ds gs : List (DataW H)) (before : List MemPlace)
    (hval0 : ∀ (j : Nat) t v, Tryz.f5.params[j]? = some t → args[j]? = some v → Value.okWide Tryz.prog W .any base t v)
    (hW : DataW.Whole enc Tryz.prog Tryz.f5.params.toList Rows.konstPlacesSpec.vars false W args.toList ds gs before) (hbk : Rows.uptoBulkAll (ds ++ gs) ≤ 1048576) (hL : laidMetH Tryz.prog LD W) (hsh : W.ShapedOpen Tryz.prog) :
    Calls Tryz.prog 5 args W fun e W' => ∃ v, e = .returned v ∧ Rows.konstPlacesSpec.post enc Tryz.prog Tryz.f5 false true false false W args v W' := by
  have hval : ∀ (j : Nat) t v, Tryz.f5.params[j]? = some t → args[j]? = some v → Value.okWide Tryz.prog W .any base t v := hval0
  have hW' := hW
  obtain ⟨p, q, hA0, hV, rfl, hfz, hnd⟩ := hW
  have hA : DataW.TrodAll enc Tryz.prog W 0 (fun _ => true) true Tryz.f5.params.toList args.toList ds p := hA0
  rw [Tryz.params5] at hA hval
  obtain ⟨v0, vs0, d0, ds0, p0, q0, hargs, rfl, rfl, h0, r0⟩ := trodAll_cons hA
  obtain ⟨v1, vs1, d1, ds1, p1, q1, rfl, rfl, rfl, h1, r1⟩ := trodAll_cons r0
  obtain ⟨rfl, rfl, rfl⟩ := trodAll_nil r1
  obtain rfl : args = #[v0, v1] := by cases args; simp_all
  obtain ⟨rfl, rfl⟩ := trodVars_none hV
  have he := env_of hL hsh
  simp only [List.append_nil, Rows.uptoBulkAll] at hbk
  have k0 : ∀ (W' : World), Below W.heap.size W W' → DataW.Trod enc Tryz.prog W' 0 (fun b => decide (b < W.heap.size)) true 25 v0 d0 p0 := fun W' hn => Below.trod laidOut (by kernel_rfl) (of_decide_eq_true (by kernel_rfl)) h0 hn (fun x hx => by simpa using hW'.lt x (by simp [hx]))
  have k1 : ∀ (W' : World), Below W.heap.size W W' → DataW.Trod enc Tryz.prog W' 0 (fun b => decide (b < W.heap.size)) true 47 v1 d1 p1 := fun W' hn => Below.trod laidOut (by kernel_rfl) (of_decide_eq_true (by kernel_rfl)) h1 hn (fun x hx => by simpa using hW'.lt x (by simp [hx]))
  obtain ⟨t0, rfl, i0, w0, b0⟩ := xt_of (hval 0 25 v0 rfl rfl) h0
  obtain ⟨a1, c1, l1, rfl, r1_, b1, z1⟩ := rowN_of (hval 1 47 v1 rfl rfl) h1
  clear hA0 hval0
  simp only [List.append_nil] at hW'
  refine (walk_any t0 (by omega) w0 l1 (by omega) a1 c1 W.heap.size W (Nat.le_refl _) he i0 r1_).mono fun e W' ⟨hr, bel⟩ => ?_
  subst hr
  exact ⟨_, rfl, _, _, _, [], _, [], hW', trodAll_mk1 (shut_bool Tryz.underlying4 _), (trodAll_cons_mk (k0 _ bel) (trodAll_cons_mk (k1 _ bel) trodAll_mk0)), rfl, bel.frame _, fun h => by cases h⟩
theorem reads (os : Os) {H : Type} (enc : TypeId × Value → H) : ∃ places, DataW.whole enc Tryz.prog ((World.doorLaid Tryz.prog 55 os).forCall (fun _ _ => 0) ⟨#[], #[.agg #[.int .i64 0, .string ⟨#[]⟩, .int .i64 0, .int .i64 0, .int .u64 0, .slice none 0 0], .slice none 0 0], []⟩).memory Tryz.f5.params.toList Rows.konstPlacesSpec.vars false #[.agg #[.int .i64 0, .string ⟨#[]⟩, .int .i64 0, .int .i64 0, .int .u64 0, .slice none 0 0], .slice none 0 0].toList 8 = some ([.agg [.lit (.int .i64 0), .lit (.string []), .lit (.int .i64 0), .lit (.int .i64 0), .lit (.int .u64 0), .nil], .nil], [], places) :=
  ⟨[], by kernel_rfl⟩
set_option maxRecDepth 3000000 in
theorem lifted (os : Os) (started : os.Started) (H : Type) (enc : TypeId × Value → H) (F : Stop.Interp) :
    ReturnsInHanded {} Tryz.checked os 5 .any ((Rows.OpenSpec.upto Rows.konstPlacesSpec).preRow enc Tryz.prog Tryz.f5 Rows.konstPlacesUptoRow.domain false Rows.konstPlacesUptoRow.laid) (((Rows.OpenSpec.upto Rows.konstPlacesSpec).at F).post enc Tryz.prog Tryz.f5 false true false false) := by
  obtain ⟨places, hx⟩ := reads os enc
  refine returnsInHanded_of_row (C := Tryz.checked) (s := Rows.OpenSpec.upto Rows.konstPlacesSpec) own started (by kernel_rfl) Tryz.func5
    (witness_row_at (enc := enc) (C := Tryz.checked) false (World.doorLaid Tryz.prog 55 os) #[.agg #[.int .i64 0, .string ⟨#[]⟩, .int .i64 0, .int .i64 0, .int .u64 0, .slice none 0 0], .slice none 0 0] rfl (by kernel_rfl) (by kernel_rfl) (by kernel_rfl)
      (OpenSpec.preRow_of_cond 8 hx (by kernel_rfl) (fun k hk => by cases hk; kernel_rfl) (by kernel_rfl) (door_met os _))) ?_
  intro W base args ds gs before hval hW _ hcond _ hL hsh _
  have hbk : Rows.uptoBulkAll (ds ++ gs) ≤ 1048576 := of_decide_eq_true (hcond _ rfl)
  exact contract H enc W base args ds gs before hval hW hbk hL hsh
theorem over : Rows.KonstPlacesUptoSaid :=
  OpenClaim.holds_of_cond 5 Tryz.f5 rfl rfl rfl rfl rfl rfl rfl ⟨rfl, rfl, rfl, rfl, rfl⟩ rfl rfl rfl rfl rfl (by kernel_rfl) Tryz.func5 (by kernel_rfl)
    (of_decide_eq_true (by kernel_rfl)) (by unfold Func.isWrapper; first | (rw [if_pos (by decide +kernel)]; kernel_rfl) | (rw [if_neg (by decide +kernel)]; exact ⟨rfl, rfl⟩))
    (fun os started H enc _ F => by rw [OpenClaim.pre_eq_preRow]; exact lifted os started H enc F)
/-- The given statement. -/
theorem proved : Rows.KonstPlacesUptoCardSaid :=
  Claim7.holds_tied_plain_at .later [] _ _ _ _
    over (fun _ h => by cases h) (by kernel_rfl) (fun _ h => by cases h) konstPlacesUpto_row_tie rfl ⟨rfl, rfl⟩ (by kernel_rfl) rfl
    (fun f fn hf hfn => by
      obtain rfl : f = 5 := Option.some.inj ((show Tryz.prog.funcNamed "filigree/filigreelaw06.KonstPlaces" = some 5 by kernel_rfl).symm.trans hf) |>.symm
      obtain rfl : fn = Tryz.f5 := (Option.some.inj (Tryz.func5.symm.trans hfn)).symm
      exact ⟨by kernel_rfl, fun j t ht => by
        rw [Tryz.params5] at ht
        have hm : t ∈ [25, 47] := by simpa using Array.mem_of_getElem? ht
        have hall : ([25, 47].all fun u => !Tryz.prog.wantsStandIn u) = true := by kernel_rfl
        exact (show Tryz.prog.wantsStandIn t = false by simpa using List.all_eq_true.1 hall t hm)⟩)
    (by kernel_rfl)
#print axioms proved
end Go.Proofs.YtlbjmnakiflfpaaGreatDoor.konstPlaces
