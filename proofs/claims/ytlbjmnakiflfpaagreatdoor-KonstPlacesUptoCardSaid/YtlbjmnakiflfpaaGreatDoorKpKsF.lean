/-
  Eval, Width, Number; what the laws call.
-/
import Derived.Test.YtlbjmnakiflfpaaGreatDoorKpKsE
import Derived.Test.YtlbjmnakiflfpaaGreatDoorKpAsR
import Derived.Test.YtlbjmnakiflfpaaGreatDoorKpAsU
namespace Go.Proofs.YtlbjmnakiflfpaaGreatDoor
open Go Go.RowKit
set_option linter.unusedVariables false
set_option linter.unusedSimpArgs false
open Go.Sort

theorem open2 {w : World} {g : Nat} {v0 v1 : Value} {t : TypeId} (h : w.heap[g]? = some (.cells #[v0, v1] t (0, 0))) : w.cell? ⟨g, 0, none⟩ = some v0 ∧ w.cell? ⟨g, 1, none⟩ = some v1 ∧ w.frozen? ⟨g, 0, none⟩ = false ∧ w.frozen? ⟨g, 1, none⟩ = false := by
  simp [World.cell?, World.frozen?, h]
theorem set2 {w : World} {g : Nat} {v0 v1 : Value} {t : TypeId} (h : w.heap[g]? = some (.cells #[v0, v1] t (0, 0))) (x y : Value) : ((w.setCell ⟨g, 0, none⟩ x).setCell ⟨g, 1, none⟩ y).cell? ⟨g, 0, none⟩ = some x ∧ ((w.setCell ⟨g, 0, none⟩ x).setCell ⟨g, 1, none⟩ y).cell? ⟨g, 1, none⟩ = some y := by
  simp [World.cell?, World.setCell, Array.getElem?_modify, h]
/-- What Eval tells. -/
def evalK (l : List NT) (x : XT) : Int × Int := if checkX x = 0 then evX l x else (0, 1)
def widthK (l : List NT) (x : XT) : Int × Int := if (evalK l x).2 = 0 then (if (decide ((evalK l x).1 < 1) || decide (64 < (evalK l x).1)) = true then (0, 83) else ((evalK l x).1, 0)) else (0, (evalK l x).2)
theorem evalK_ok (l : List NT) (x : XT) : KOk (evalK l x) := by
  unfold evalK
  split
  · exact evX_ok l x
  · exact kok_err _ (by decide) (by decide)
theorem check_may {x : XT} (h : checkX x = 0) : mayX x = true := by
  unfold checkX at h
  split at h
  · cases h
  · split at h
    · assumption
    · cases h
theorem check_nz {x : XT} (h : ¬ checkX x = 0) : (checkX x != 0) = true := by simpa using h

set_option maxHeartbeats 4000000 in
set_option maxRecDepth 3000000 in
theorem eval_any (x : XT) (hbk : x.bk ≤ 1500000) (hwf : x.Wf) (l : List NT) (hlk : NT.bkL l ≤ 1500000) (a : Option Addr) (c n0 : Nat) (w : World) (hn0 : n0 ≤ w.heap.size) (he : EnvA w) (hx : x.In n0 w) (hl : NRow n0 w l a) : Calls Tryz.prog 63 #[x.val, .slice a l.length c] w fun e w' => e = .returned (.tuple #[.int .i64 (evalK l x).1, .int .i64 (evalK l x).2]) ∧ Below w.heap.size w w' := by
  have HI : Hid (evalK l x = if checkX x = 0 then evX l x else (0, 1)) := Lib.hid rfl
  have HM := Lib.hid (fun h => check_may (x := x) h)
  have hck := fun (w' : World) h1 h2 h3 => checkX_any x hbk hwf n0 w' h1 h2 h3
  have HVAL := Lib.hid (fun (H ev pm : Nat) hnH hH hpm hm => value_any H ev pm n0 hnH hH hpm l hlk a c x hbk hwf hm)
  generalize hR : evalK l x = R at *
  clear hR
  obtain ⟨C, hC⟩ : ∃ C, checkX x = C := ⟨_, rfl⟩
  obtain ⟨E, hE⟩ : ∃ E, evX l x = E := ⟨_, rfl⟩
  rw [hC] at hck
  have HCE := Lib.hid (And.intro hC hE)
  clear hC hE
  obtain ⟨op, nm, xn, wd, v, xa, xc, xl⟩ := x
  have hk0 : Below w.heap.size w (w.alloc (.cells #[.int .i64 op, .string (bs nm), .int .i64 xn, .int .i64 wd, .int .u64 (v : Int), .slice xa xl.length xc] 25)) := (Below.refl _ _).alloc (Nat.le_refl _) _
  have BX := World.alloc_heap_new w (.cells #[.int .i64 op, .string (bs nm), .int .i64 xn, .int .i64 wd, .int .u64 (v : Int), .slice xa xl.length xc] 25)
  have hx1 := XT.In.keep (Below.keptTo hk0 hn0) _ hx
  have hl1 := hl.keep (Below.keptTo hk0 hn0)
  have hc1 := hck (w.alloc (.cells #[.int .i64 op, .string (bs nm), .int .i64 xn, .int .i64 wd, .int .u64 (v : Int), .slice xa xl.length xc] 25)) (by simp; omega) (he.alloc _) hx1
  simp only [XT.val, XT.cells] at hc1 ⊢
  clear hck he hx hl
  go_enter Tryz.func63, Tryz.ntmps63
  go_wp2_with fail
  refine hc1.mono ?_
  rintro e w1 ⟨rfl, hb1⟩
  clear hc1
  have hB1 := hk0.trans (hb1.mono (by simp))
  replace BX := block_kept BX hb1
  have hx2 := XT.In.keep (Below.keptTo hb1 (by simp; omega)) _ hx1
  have hl2 := hl1.keep (Below.keptTo hb1 (by simp; omega))
  have hz1 : w.heap.size < w1.heap.size := by have := hb1.size; simp at this; omega
  obtain ⟨z0, z1, z2, z3, z4, z5⟩ := open6 BX
  by_cases h0 : C = 0
  · subst h0
    have HE : Hid (R = E) := Lib.hid (by rw [HI.out, HCE.out.1, HCE.out.2]; rfl)
    have HMY := Lib.hid (HM.out HCE.out.1)
    have hv := HVAL.out w1.heap.size (w1.heap.size + 1) w1.heap.size (by omega) (by omega) (by omega) HMY.out
    unfold PartC at hv
    rw [HCE.out.2] at hv
    simp only [XT.val, XT.cells] at hv
    have hev : ∀ u w2, Below w1.heap.size w1 u → u.heap.size = w1.heap.size → w2 = (u.alloc (.map pairTab 13)).alloc (.cells #[.slice a l.length c, .int .i64 0, .map none, .map (some u.heap.size)] 168) → EvAt w2 (w1.heap.size + 1) w1.heap.size n0 l a c ∧ Below w1.heap.size w1 w2 := by
      rintro u w2 hu hs rfl
      rw [← hs] at hu ⊢
      have hq : Below u.heap.size u ((u.alloc (.map pairTab 13)).alloc (.cells #[.slice a l.length c, .int .i64 0, .map none, .map (some u.heap.size)] 168)) := ((Below.refl _ _).alloc (Nat.le_refl _) _).alloc (by simp) _
      refine ⟨⟨⟨0, none, ?_, by omega, fun g e => by cases e⟩, block_alloc (World.alloc_heap_new u _) _, hl2.keep (Below.keptTo (hu.trans hq) (by omega))⟩, hu.trans hq⟩
      have h := World.alloc_heap_new (u.alloc (.map pairTab 13)) (.cells #[.slice a l.length c, .int .i64 0, .map none, .map (some u.heap.size)] 168)
      rw [World.size_alloc] at h
      exact h
    have HX := Lib.hid (And.intro hx2 hl2)
    clear HI HM HVAL hx1 hx2 hl1 hl2
    go_upto_region 3 with (fail)
    go_region_held3 (fun u1 => u1.cell? ⟨w.heap.size, 0, none⟩ = some (.int .i64 op) ∧ u1.cell? ⟨w.heap.size, 1, none⟩ = some (.string (bs nm)) ∧ u1.cell? ⟨w.heap.size, 2, none⟩ = some (.int .i64 xn) ∧ u1.cell? ⟨w.heap.size, 3, none⟩ = some (.int .i64 wd) ∧ u1.cell? ⟨w.heap.size, 4, none⟩ = some (.int .u64 (v : Int)) ∧ u1.cell? ⟨w.heap.size, 5, none⟩ = some (.slice xa xl.length xc)) (first | exact ⟨z0, z1, z2, z3, z4, z5⟩ | exact ⟨z0N, z1N, z2N, z3N, z4N, z5N⟩ | exact ⟨z0M, z1M, z2M, z3M, z4M, z5M⟩) (first | (go_at_call 107; refine (newEv_any _ _ _ _).mono ?_; rintro e w' ⟨rfl, hw⟩; obtain ⟨hEV, hB2⟩ := hev _ _ (by first | exact Below.refl _ _ | exact (Below.refl _ _).drew | exact below_drawn2 (Below.refl _ _) _) (by first | rfl | simp) hw; have z0N := keep_cell hB2 z0; have z1N := keep_cell hB2 z1; have z2N := keep_cell hB2 z2; have z3N := keep_cell hB2 z3; have z4N := keep_cell hB2 z4; have z5N := keep_cell hB2 z5; clear hw) | (go_at_call 108; refine (hv _ hEV (XT.In.keep (Below.keptTo hB2 (by omega)) _ HX.out.1)).mono ?_; rintro e w'' ⟨rfl, hEf, hkf⟩; have hBf := hB1.trans (((hB2.trans hkf.low)).mono (by omega)); have z0M := hkf.cell (by omega) z0N; have z1M := hkf.cell (by omega) z1N; have z2M := hkf.cell (by omega) z2N; have z3M := hkf.cell (by omega) z3N; have z4M := hkf.cell (by omega) z4N; have z5M := hkf.cell (by omega) z5N))
    go_wp2
    go_ret2
    exact ⟨by rw [HE.out]; rfl, hBf⟩
  · have d1 : (C != 0) = true := by simpa using h0
    have HE : Hid (R = (0, 1)) := Lib.hid (by rw [HI.out, HCE.out.1]; simp [h0])
    go_wp2
    go_ret2
    exact ⟨by rw [HE.out]; rfl, hB1⟩
/-! ### Width -/

set_option maxHeartbeats 4000000 in
set_option maxRecDepth 3000000 in
theorem width_any (x : XT) (hbk : x.bk ≤ 1500000) (hwf : x.Wf) (l : List NT) (hlk : NT.bkL l ≤ 1500000) (a : Option Addr) (c n0 : Nat) (w : World) (hn0 : n0 ≤ w.heap.size) (he : EnvA w) (hx : x.In n0 w) (hl : NRow n0 w l a) : Calls Tryz.prog 25 #[x.val, .slice a l.length c] w fun e w' => e = .returned (.tuple #[.int .i64 (widthK l x).1, .int .i64 (widthK l x).2]) ∧ Below w.heap.size w w' := by

  have HI : Hid (widthK l x = if (evalK l x).2 = 0 then (if (decide ((evalK l x).1 < 1) || decide (64 < (evalK l x).1)) = true then (0, 83) else ((evalK l x).1, 0)) else (0, (evalK l x).2)) := Lib.hid rfl
  have hk0 : ∀ o, Below w.heap.size w (w.alloc o) := fun o => (Below.refl _ _).alloc (Nat.le_refl _) o
  have hv := fun (o : Obj) => eval_any x hbk hwf l hlk a c n0 (w.alloc o) (by simp; omega) (he.alloc o) (XT.In.keep (Below.keptTo (hk0 o) hn0) _ hx) (hl.keep (Below.keptTo (hk0 o) hn0))
  have hok := evalK_ok l x
  generalize widthK l x = R at *
  generalize evalK l x = E at *
  obtain ⟨E1, E2⟩ := E
  obtain ⟨op, nm, xn, wd, v, xa, xc, xl⟩ := x
  simp only [XT.val, XT.cells] at hv ⊢
  simp only at HI
  have hk := hk0 (.cells #[.int .i64 op, .string (bs nm), .int .i64 xn, .int .i64 wd, .int .u64 (v : Int), .slice xa xl.length xc] 25)
  clear hk0 he hx hl
  go_enter Tryz.func25, Tryz.ntmps25
  go_wp2_with fail
  refine (hv _).mono ?_
  rintro e w1 ⟨rfl, hb⟩
  have hB := hk.trans (hb.mono (by simp))
  clear hv
  by_cases h0 : E2 = 0
  · subst h0
    have o1 := hok.1
    have o2 := hok.2.1
    by_cases h1 : E1 < 1
    · have d1 : decide (E1 < 1) = true := by simpa using h1
      have HE : Hid (R = (0, 83)) := Lib.hid (by rw [HI.out, d1]; rfl)
      go_wp2
      go_ret2
      exact ⟨by rw [HE.out]; rfl, hB⟩
    · have d1 : decide (E1 < 1) = false := by simpa using h1
      by_cases h2 : 64 < E1
      · have d2 : decide (64 < E1) = true := by simpa using h2
        have HE : Hid (R = (0, 83)) := Lib.hid (by rw [HI.out, d1, d2]; rfl)
        go_wp2
        go_ret2
        exact ⟨by rw [HE.out]; rfl, hB⟩
      · have d2 : decide (64 < E1) = false := by simpa using h2
        have HE : Hid (R = (E1, 0)) := Lib.hid (by rw [HI.out, d1, d2]; rfl)
        go_wp2
        go_ret2
        exact ⟨by rw [HE.out]; rfl, hB⟩
  · have d1 : (E2 != 0) = true := by simpa using h0
    have HE : Hid (R = (0, E2)) := Lib.hid (by rw [HI.out, if_neg h0])
    go_wp2
    go_ret2
    exact ⟨by rw [HE.out]; rfl, hB⟩
/-! ### Number -/
/-- What Number tells: a width, a value, an error. -/
def numberK (l : List NT) (x : XT) : Int × Nat × Int := if x.op = 1 ∧ checkX x = 0 then (x.wd, x.v, 0) else (0, (evalK l x).1.toNat, (evalK l x).2)

set_option maxHeartbeats 4000000 in
set_option maxRecDepth 3000000 in
theorem number_any (x : XT) (hbk : x.bk ≤ 1500000) (hwf : x.Wf) (l : List NT) (hlk : NT.bkL l ≤ 1500000) (a : Option Addr) (c n0 : Nat) (w : World) (hn0 : n0 ≤ w.heap.size) (he : EnvA w) (hx : x.In n0 w) (hl : NRow n0 w l a) : Calls Tryz.prog 27 #[x.val, .slice a l.length c] w fun e w' => e = .returned (.tuple #[.agg #[.int .i64 (numberK l x).1, .int .u64 ((numberK l x).2.1 : Int)], .int .i64 (numberK l x).2.2]) ∧ Below w.heap.size w w' := by

  have HI : Hid (numberK l x = if x.op = 1 ∧ checkX x = 0 then (x.wd, x.v, 0) else (0, (evalK l x).1.toNat, (evalK l x).2)) := Lib.hid rfl
  have hck := fun (w' : World) h1 h2 h3 => checkX_any x hbk hwf n0 w' h1 h2 h3
  have hv := fun (w' : World) h1 h2 h3 h4 => eval_any x hbk hwf l hlk a c n0 w' h1 h2 h3 h4
  have hok := evalK_ok l x
  have hvv : x.v < 18446744073709551616 := by cases x; exact (XT.wf_mk.1 hwf).1
  generalize numberK l x = R at *
  generalize evalK l x = E at *
  generalize checkX x = C at *
  obtain ⟨E1, E2⟩ := E
  obtain ⟨e1, hE1⟩ : ∃ e1 : Nat, E1 = (e1 : Int) := ⟨E1.toNat, by have := hok.1; simp only at this; omega⟩
  subst hE1
  have hob : (e1 : Int) ≤ 2147483647 := hok.2.1
  have hx0 := hx
  obtain ⟨op, nm, xn, wd, v, xa, xc, xl⟩ := x
  simp only [XT.val, XT.cells, XT.op, XT.wd, XT.v, Int.toNat_natCast] at hck hv HI hvv ⊢
  have HVV := Lib.hid hvv
  have Hck := Lib.hid hck
  have Hv := Lib.hid hv
  clear hck hv hok hvv hx
  go_enter Tryz.func27, Tryz.ntmps27
  go_upto_region 1 with (fail)
  have BX := block_alloc (World.alloc_heap_new w (.cells #[.int .i64 op, .string (bs nm), .int .i64 xn, .int .i64 wd, .int .u64 (v : Int), .slice xa xl.length xc] 25)) (.cells #[.int .i64 0, .int .u64 0] 52)
  have B4 := World.alloc_heap_new (w.alloc (.cells #[.int .i64 op, .string (bs nm), .int .i64 xn, .int .i64 wd, .int .u64 (v : Int), .slice xa xl.length xc] 25)) (.cells #[.int .i64 0, .int .u64 0] 52)
  rw [World.size_alloc] at B4
  have hB2 : Below w.heap.size w ((w.alloc (.cells #[.int .i64 op, .string (bs nm), .int .i64 xn, .int .i64 wd, .int .u64 (v : Int), .slice xa xl.length xc] 25)).alloc (.cells #[.int .i64 0, .int .u64 0] 52)) := ((Below.refl _ _).alloc (Nat.le_refl _) _).alloc (by simp) _
  have hi2 := XT.In.keep (Below.keptTo hB2 hn0) _ hx0
  have hl2 := hl.keep (Below.keptTo hB2 hn0)
  have he2 := (he.alloc (.cells #[.int .i64 op, .string (bs nm), .int .i64 xn, .int .i64 wd, .int .u64 (v : Int), .slice xa xl.length xc] 25)).alloc (.cells #[.int .i64 0, .int .u64 0] 52)
  clear hx0 hl he
  generalize (w.alloc (.cells #[.int .i64 op, .string (bs nm), .int .i64 xn, .int .i64 wd, .int .u64 (v : Int), .slice xa xl.length xc] 25)).alloc (.cells #[.int .i64 0, .int .u64 0] 52) = w1 at *
  have hn1 : n0 ≤ w1.heap.size := by have := hB2.size; omega
  obtain ⟨z0, z1, z2, z3, z4, z5⟩ := open6 BX
  by_cases hop : op = 1
  · subst hop
    go_wp2_with fail
    refine (Hck.out _ hn1 he2 hi2).mono ?_
    rintro e w2 ⟨rfl, hb⟩
    clear z0 z1 z2 z3 z4 z5
    replace BX := block_kept BX hb
    replace B4 := block_kept B4 hb
    have hk9 := Below.keptTo hb hn1
    replace hi2 := XT.In.keep hk9 _ hi2
    replace hl2 := hl2.keep hk9
    replace he2 := he2.keep hb
    replace hn1 := Nat.le_trans hn1 hb.size
    replace hB2 := hB2.trans (hb.mono hB2.size)
    clear hb hk9
    obtain ⟨z0, z1, z2, z3, z4, z5⟩ := open6 BX
    obtain ⟨q0, q1, q2, q3⟩ := open2 B4
    by_cases h0 : C = 0
    · subst h0
      have HE : Hid (R = (wd, v, 0)) := Lib.hid (by rw [HI.out]; simp)
      go_wp2
      have hB5 := (hB2.setCell (p := ⟨w.heap.size + 1, 0, none⟩) (by show w.heap.size ≤ w.heap.size + 1; omega) (.int .i64 wd)).setCell (p := ⟨w.heap.size + 1, 1, none⟩) (by show w.heap.size ≤ w.heap.size + 1; omega) (.int .u64 (v : Int))
      obtain ⟨q4, q5⟩ := set2 B4 (.int .i64 wd) (.int .u64 (v : Int))
      rw [HE.out]
      exact bodyPost_ret (v := .tuple #[.agg #[.int .i64 wd, .int .u64 (v : Int)], .int .i64 0]) (by simp [results, Tryz.results27, go_sem, q4, q5]) rfl ⟨rfl, hB5⟩
    · have d1 : (C == 0) = false := by simpa using h0
      have HE : Hid (R = (0, e1, E2)) := Lib.hid (by rw [HI.out]; simp [h0])
      go_wp2_with fail
      refine (Hv.out _ hn1 he2 hi2 hl2).mono ?_
      rintro e w3 ⟨rfl, hb⟩
      replace B4 := block_kept B4 hb
      replace hB2 := hB2.trans (hb.mono hB2.size)
      clear q0 q1 q2 q3
      obtain ⟨q0, q1, q2, q3⟩ := open2 B4
      go_wp2
      have hB5 := (hB2.setCell (p := ⟨w.heap.size + 1, 0, none⟩) (by show w.heap.size ≤ w.heap.size + 1; omega) (.int .i64 0)).setCell (p := ⟨w.heap.size + 1, 1, none⟩) (by show w.heap.size ≤ w.heap.size + 1; omega) (.int .u64 (e1 : Int))
      obtain ⟨q4, q5⟩ := set2 B4 (.int .i64 0) (.int .u64 (e1 : Int))
      rw [HE.out]
      exact bodyPost_ret (v := .tuple #[.agg #[.int .i64 0, .int .u64 (e1 : Int)], .int .i64 E2]) (by simp [results, Tryz.results27, go_sem, q4, q5]) rfl ⟨rfl, hB5⟩
  · have d1 : (op == 1) = false := by simpa using hop
    have HE : Hid (R = (0, e1, E2)) := Lib.hid (by rw [HI.out]; simp [hop])
    go_wp2_with fail
    refine (Hv.out _ hn1 he2 hi2 hl2).mono ?_
    rintro e w3 ⟨rfl, hb⟩
    replace B4 := block_kept B4 hb
    replace hB2 := hB2.trans (hb.mono hB2.size)
    obtain ⟨q0, q1, q2, q3⟩ := open2 B4
    go_wp2
    have hB5 := (hB2.setCell (p := ⟨w.heap.size + 1, 0, none⟩) (by show w.heap.size ≤ w.heap.size + 1; omega) (.int .i64 0)).setCell (p := ⟨w.heap.size + 1, 1, none⟩) (by show w.heap.size ≤ w.heap.size + 1; omega) (.int .u64 (e1 : Int))
    obtain ⟨q4, q5⟩ := set2 B4 (.int .i64 0) (.int .u64 (e1 : Int))
    rw [HE.out]
    exact bodyPost_ret (v := .tuple #[.agg #[.int .i64 0, .int .u64 (e1 : Int)], .int .i64 E2]) (by simp [results, Tryz.results27, go_sem, q4, q5]) rfl ⟨rfl, hB5⟩
end Go.Proofs.YtlbjmnakiflfpaaGreatDoor
