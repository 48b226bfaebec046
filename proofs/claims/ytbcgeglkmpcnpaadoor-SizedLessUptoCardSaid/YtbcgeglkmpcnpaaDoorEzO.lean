/-
  sized: the sizer, whole.
-/
import Derived.Test.YtbcgeglkmpcnpaaDoorEzN
import Derived.StillTailTactics
namespace Go.Proofs.YtbcgeglkmpcnpaaDoor
open Go Go.RowKit
set_option linter.unusedVariables false
set_option linter.unusedSimpArgs false
open Go.Sort

theorem RowT.setW {tb : TypeId} {W : World} {b : Nat} {pre post : List Value} {op wd : Int} {v : Nat} {sg uh ul xn : Int} {xa : Option Addr} {xc : Nat} {xl : List ET} (h : RowT tb W b (pre ++ ((ET.mk op wd v sg uh ul xn xa xc xl).cells ++ post))) (o : Nat) (ho : pre.length = o) (u : Int) : RowT tb (W.setCell ⟨b, o + 1, none⟩ (.int .i64 u)) b (pre ++ ((ET.mk op u v sg uh ul xn xa xc xl).cells ++ post)) := by
  subst ho
  unfold RowT at *
  simp only [ET.cells] at *
  simp [World.setCell, Array.getElem?_modify, h, List.set_append]
theorem one_of {l : List ET} (h : l.length = 1) : ∃ a, l = [a] := by
  match l, h with
  | [a], _ => exact ⟨a, rfl⟩
theorem three_of {l : List ET} (h : l.length = 3) : ∃ a b c, l = [a, b, c] := by
  match l, h with
  | [a, b, c], _ => exact ⟨a, b, c, rfl⟩
theorem postF_n8 {op xn w : Int} {l : List ET} {f : Int} (h : op ≠ 8) : postF op xn w l f = f := by unfold postF; rw [if_neg h]
theorem cells_len {op wd : Int} {v : Nat} {sg uh ul xn : Int} {xa : Option Addr} {xc : Nat} {xl q : List ET} (h : q.length = xl.length) : (ET.mk op wd v sg uh ul xn xa xc q).cells = (ET.mk op wd v sg uh ul xn xa xc xl).cells := by
  simp only [ET.cells, h]
theorem size_end {tb : TypeId} {g b lo hi : Nat} {pre post : List Value} {op u : Int} {v : Nat} {sg uh ul xn : Int} {xa : Option Addr} {xc : Nat} {xl q : List ET} {F : Int} {w W2 W' : World} (k2 : KeptP (Chg b g lo hi) w W2) (k3 : KeptP (Chp g lo hi) W2 W') (r3 : RowT tb W' b (pre ++ ((ET.mk op u v sg uh ul xn xa xc xl).cells ++ post))) (o3 : OwnRow W' lo hi xa xc q) (hq : q.length = xl.length) (s3 : SzAt g F W') : SzP tb g b lo hi pre post (.mk op u v sg uh ul xn xa xc q, F) w (.returned (.tuple #[])) W' :=
  ⟨rfl, k2.trans (k3.mono (fun k h => by unfold Chp at h; unfold Chg; omega)), by rw [cells_len hq]; exact r3, ET.own_mk.2 o3, s3⟩
theorem row_keepP {tb : TypeId} {g b lo hi : Nat} {cs : List Value} {W W' : World} (h : RowT tb W b cs) (k : KeptP (Chp g lo hi) W W') (hb : ¬ (lo ≤ b ∧ b < hi)) (hgb : g ≠ b) : RowT tb W' b cs := h.keep (k.block b (Array.getElem?_eq_some_iff.1 h).1 (fun q => by unfold Chp at q; omega))
theorem own_keepK {g lo hi : Nat} {xa : Option Addr} {xc : Nat} {xl : List ET} {W W' : World} (h : OwnRow W lo hi xa xc xl) (k : Kb1 g W W') (hs : hi ≤ W.heap.size) (hg : ¬ (lo ≤ g ∧ g < hi)) : OwnRow W' lo hi xa xc xl := h.keepP (fun q h1 h2 => k.block q (by omega) (by omega))
set_option maxHeartbeats 8000000 in
set_option maxRecDepth 100000 in
theorem size_any {gl : List GT} (hg : ∀ g ∈ gl, g.wd ≤ 64) : ∀ x : ET, x.bk ≤ 4500000 → x.Wf → mayE gl x = true → SzOK x := by
  refine ET.ind ?_
  intro op wd v sg uh ul xn xa xc xl ih hbk hwf hm tb w0 g b o lo hi pre post f w hpl hhi hlh hb hgn hgb hr ho hs
  have c0 := ow_any hg (.mk op wd v sg uh ul xn xa xc xl) hbk hm hi w hhi (ET.Own.inn _ lo hi ho)
  rw [ET.wf_mk] at hwf
  simp only [ET.bk] at hbk
  have hll := ET.bkL_len xl
  obtain ⟨hop, f2, f3, f4, f5, f6, f7⟩ := may_facts hm
  have hc : ∀ x ∈ xl, SzOK x ∧ OwOK x := fun x hx => ⟨ih x hx (by have := ET.bkL_mem hx; omega) (hwf.2 x hx) (f7 x hx), ow_any hg x (by have := ET.bkL_mem hx; omega) (f7 x hx)⟩
  obtain ⟨p, hp⟩ : ∃ p, ow (.mk op wd v sg uh ul xn xa xc xl) = p := ⟨_, rfl⟩
  rw [hp] at c0
  obtain ⟨u, hu⟩ : ∃ u, (if w0 = 0 then orU p else w0) = u := ⟨_, rfl⟩
  obtain ⟨R, hR⟩ : ∃ R, szE (.mk op wd v sg uh ul xn xa xc xl) w0 f = R := ⟨_, rfl⟩
  have HR : Hid (R = (.mk op u v sg uh ul xn xa xc (szL xl 0 (insF op xn u (owL xl)) (preF op xn p u v f)).1, postF op xn u (szL xl 0 (insF op xn u (owL xl)) (preF op xn p u v f)).1 (szL xl 0 (insF op xn u (owL xl)) (preF op xn p u v f)).2)) := Lib.hid (by
    rw [← hR, szE]
    have h9 : owF op wd uh ul xn (owL xl) = p := by rw [← hp, ow]
    simp only [h9, hu])
  rw [hR]
  have hsh : op = 4 ∨ op = 5 → (xl.length = 1 ∧ 1 ≤ xn ∧ xn ≤ 6) ∨ (xl.length = 2 ∧ 11 ≤ xn ∧ xn ≤ 26) := by
    rintro (rfl | rfl)
    · left
      have h9 := f6
      simp [countP, ke] at h9 f4 f5
      omega
    · right
      have h9 := f6
      simp [countP, ke] at h9 f4 f5
      omega
  have hs6 : op = 6 → xl.length = 3 := by rintro rfl; have h9 := f6; simp [countP, ke] at h9; omega
  have hs1 : op = 1 → xl = [] := by rintro rfl; have h9 := f6; simp [countP, ke] at h9; exact h9
  have hs8 : op = 8 → xl.length = 1 := by rintro rfl; have h9 := f6; simp [countP, ke] at h9; omega
  have hv := hwf.1
  rw [ET.own_mk] at ho
  have hrc := rowT_cells hr o hpl
  obtain ⟨q0, q1, q2, q3, q4, q5, q6, q7⟩ := RowT.thaw hr o
  obtain ⟨z0, z1, z2, z3, z4, z5, z6, z7⟩ : _ ∧ _ ∧ _ ∧ _ ∧ _ ∧ _ ∧ _ ∧ _ := ⟨hrc 0 _ rfl, hrc 1 _ rfl, hrc 2 _ rfl, hrc 3 _ rfl, hrc 4 _ rfl, hrc 5 _ rfl, hrc 6 _ rfl, hrc 7 _ rfl⟩
  simp only [Nat.add_zero] at z0
  have HX := Lib.hid (And.intro hr (And.intro ho (And.intro hs (And.intro hhi (And.intro hb (And.intro hgn hgb))))))
  have HL := Lib.hid (And.intro (show xl.length ≤ 12000000 by omega) (And.intro hlh hv))
  have HC := Lib.hid hc
  have HPL := Lib.hid hpl
  have HSH := Lib.hid (And.intro hsh (And.intro hs6 (And.intro hs1 hs8)))
  have hopp : op = 1 ∨ op = 2 ∨ op = 3 ∨ op = 4 ∨ op = 5 ∨ op = 6 ∨ op = 7 ∨ op = 8 := by omega
  simp only [ET.val, ET.cells] at c0
  clear hrc hr ho hs hhi hb hgn hgb hlh hc hpl hsh hs6 hs1 hs8 hR hp ih hbk hwf hm hll hop f2 f3 f4 f5 f6 f7 hv q0 q1 q2 q3 q4 q5 q6 q7
  rcases hopp with rfl | rfl | rfl | rfl | rfl | rfl | rfl | rfl
  · by_cases t0 : w0 = 0
    · have e0 : (w0 == 0) = true := by rw [beq_iff_eq]; exact t0
      have hU : orU p = u := by rw [← hu, if_pos t0]
      clear t0 hu
      have hxl := HSH.out.2.2.1 rfl
      subst hxl
      by_cases t1 : p = 0
      · have e1 : (p == 0) = true := by rw [beq_iff_eq]; exact t1
        have HB : Hid ((p == 0 || p == u) = true) := Lib.hid (by rw [e1]; rfl)
        clear t1
        have HE : Hid (R = (.mk 1 u v sg uh ul xn xa xc [], wantF (wantF f true 90) (holdsE u v) 92)) := Lib.hid (by
          rw [HR.out]
          have h8 : preF 1 xn p u v f = wantF (wantF f true 90) (holdsE u v) 92 := by simp only [preF, if_pos]; rw [HB.out]
          rw [h8]
          simp [szL, postF])
        go_enter Tryd.func31, Tryd.ntmps31
        go_wp2_with fail
        refine c0.mono ?_
        clear c0 z0 z1 z2 z3 z4 z5 z6 z7
        rintro e W1 ⟨rfl, hb1⟩
        have hr1 := HX.out.1.keep (hb1.block b (Array.getElem?_eq_some_iff.1 HX.out.1).1)
        have hrc1 := rowT_cells hr1 o HPL.out
        have y0 : W1.cell? ⟨b, o, none⟩ = some (.int .i64 1) := hrc1 0 _ rfl
        have y1 : W1.cell? ⟨b, o + 1, none⟩ = some (.int .i64 wd) := hrc1 1 _ rfl
        have y2 : W1.cell? ⟨b, o + 2, none⟩ = some (.int .u64 (v : Int)) := hrc1 2 _ rfl
        have y3 : W1.cell? ⟨b, o + 3, none⟩ = some (.int .i64 sg) := hrc1 3 _ rfl
        have y4 : W1.cell? ⟨b, o + 4, none⟩ = some (.int .i64 uh) := hrc1 4 _ rfl
        have y5 : W1.cell? ⟨b, o + 5, none⟩ = some (.int .i64 ul) := hrc1 5 _ rfl
        have y6 : W1.cell? ⟨b, o + 6, none⟩ = some (.int .i64 xn) := hrc1 6 _ rfl
        have y7 : W1.cell? ⟨b, o + 7, none⟩ = some (.slice xa 0 xc) := hrc1 7 _ rfl
        obtain ⟨q0, q1, q2, q3, q4, q5, q6, q7⟩ := RowT.thaw hr1 o
        obtain ⟨W2, hW2⟩ : ∃ W2, W1.setCell ⟨b, o + 1, none⟩ (.int .i64 u) = W2 := ⟨_, rfl⟩
        have hr2 := RowT.setW hr1 o HPL.out u
        rw [hW2] at hr2
        have hk2 : KeptP (Chg b g lo hi) w W2 := (KeptP.of_below hb1).trans (by rw [← hW2]; exact KeptP.setCell W1 ⟨b, o + 1, none⟩ _ (Or.inl rfl))
        have hot : ∀ k, k < w.heap.size → k ≠ b → W2.heap[k]? = w.heap[k]? := fun k h1 h2 => by rw [← hW2, Below.heap_setCell W1 ⟨b, o + 1, none⟩ _ k h2]; exact hb1.block k h1
        have ho2 : OwnRow W2 lo hi xa xc [] := HX.out.2.1.keepP (fun k h1 h2 => hot k (by have := HX.out.2.2.2.1; omega) (by have := HX.out.2.2.2.2.1; omega))
        have hs2 : SzAt g f W2 := HX.out.2.2.1.keep (hot g (Array.getElem?_eq_some_iff.1 HX.out.2.2.1).1 HX.out.2.2.2.2.2.2)
        have hh2 : hi ≤ W2.heap.size := Nat.le_trans HX.out.2.2.2.1 hk2.size
        have hrc2 := rowT_cells hr2 o HPL.out
        have z0 : W2.cell? ⟨b, o, none⟩ = some (.int .i64 1) := hrc2 0 _ rfl
        have z1 : W2.cell? ⟨b, o + 1, none⟩ = some (.int .i64 u) := hrc2 1 _ rfl
        have z2 : W2.cell? ⟨b, o + 2, none⟩ = some (.int .u64 (v : Int)) := hrc2 2 _ rfl
        have z3 : W2.cell? ⟨b, o + 3, none⟩ = some (.int .i64 sg) := hrc2 3 _ rfl
        have z4 : W2.cell? ⟨b, o + 4, none⟩ = some (.int .i64 uh) := hrc2 4 _ rfl
        have z5 : W2.cell? ⟨b, o + 5, none⟩ = some (.int .i64 ul) := hrc2 5 _ rfl
        have z6 : W2.cell? ⟨b, o + 6, none⟩ = some (.int .i64 xn) := hrc2 6 _ rfl
        have z7 : W2.cell? ⟨b, o + 7, none⟩ = some (.slice xa 0 xc) := hrc2 7 _ rfl
        have HQ := Lib.hid (And.intro hk2 (And.intro hr2 (And.intro ho2 (And.intro hs2 hh2))))
        clear hb1 hr1 hrc1 hk2 hot ho2 hs2 hh2 hrc2 hr2
        go_wp2_with fail
        refine (orUsual_any p W1).mono ?_
        rintro e W9 ⟨rfl, rfl⟩
        rw [hU]
        have KK0 := Lib.hid (And.intro (KeptP.refl (Chp g lo hi) W2) HQ.out.2.2.1)
        have s0 := HQ.out.2.2.2.1
        have cw := want_any g f true 90 W2 s0
        have cwK := Lib.hid cw
        clear cw
        go_wp2_with fail
        refine cwK.out.mono ?_
        clear cwK
        rintro e V1 ⟨rfl, k1, s1⟩
        have kk1 : KeptP (Chp g lo hi) W2 V1 := KK0.out.1.trans (KeptP.of_kb1 k1 (Or.inl rfl))
        have oo1 : OwnRow V1 lo hi xa xc [] := own_keepK KK0.out.2 k1 (Nat.le_trans HQ.out.2.2.2.2 KK0.out.1.size) HX.out.2.2.2.2.2.1
        have rr1 := row_keepP HQ.out.2.1 kk1 HX.out.2.2.2.2.1 HX.out.2.2.2.2.2.2
        have hrc := rowT_cells rr1 o HPL.out
        clear z0 z1 z2 z3 z4 z5 z6 z7
        have z0 : V1.cell? ⟨b, o, none⟩ = some (.int .i64 1) := hrc 0 _ rfl
        have z1 : V1.cell? ⟨b, o + 1, none⟩ = some (.int .i64 u) := hrc 1 _ rfl
        have z2 : V1.cell? ⟨b, o + 2, none⟩ = some (.int .u64 (v : Int)) := hrc 2 _ rfl
        have z3 : V1.cell? ⟨b, o + 3, none⟩ = some (.int .i64 sg) := hrc 3 _ rfl
        have z4 : V1.cell? ⟨b, o + 4, none⟩ = some (.int .i64 uh) := hrc 4 _ rfl
        have z5 : V1.cell? ⟨b, o + 5, none⟩ = some (.int .i64 ul) := hrc 5 _ rfl
        have z6 : V1.cell? ⟨b, o + 6, none⟩ = some (.int .i64 xn) := hrc 6 _ rfl
        have z7 : V1.cell? ⟨b, o + 7, none⟩ = some (.slice xa 0 xc) := hrc 7 _ rfl
        have KK1 := Lib.hid (And.intro kk1 oo1)
        clear hrc kk1 oo1 rr1 k1
        have ch := holds_any u v HL.out.2.2 V1
        have cv := want_any g (wantF f true 90) (holdsE u v) 92 V1 s1
        have cvK := Lib.hid cv
        clear cv
        go_wp2_with fail
        refine ch.mono ?_
        clear ch
        rintro e W9 ⟨rfl, rfl⟩
        go_wp2_with fail
        refine cvK.out.mono ?_
        clear cvK
        rintro e V2 ⟨rfl, k2, s2⟩
        have kk2 : KeptP (Chp g lo hi) W2 V2 := KK1.out.1.trans (KeptP.of_kb1 k2 (Or.inl rfl))
        have oo2 : OwnRow V2 lo hi xa xc [] := own_keepK KK1.out.2 k2 (Nat.le_trans HQ.out.2.2.2.2 KK1.out.1.size) HX.out.2.2.2.2.2.1
        have rr2 := row_keepP HQ.out.2.1 kk2 HX.out.2.2.2.2.1 HX.out.2.2.2.2.2.2
        have hrc := rowT_cells rr2 o HPL.out
        clear z0 z1 z2 z3 z4 z5 z6 z7
        have z0 : V2.cell? ⟨b, o, none⟩ = some (.int .i64 1) := hrc 0 _ rfl
        have z1 : V2.cell? ⟨b, o + 1, none⟩ = some (.int .i64 u) := hrc 1 _ rfl
        have z2 : V2.cell? ⟨b, o + 2, none⟩ = some (.int .u64 (v : Int)) := hrc 2 _ rfl
        have z3 : V2.cell? ⟨b, o + 3, none⟩ = some (.int .i64 sg) := hrc 3 _ rfl
        have z4 : V2.cell? ⟨b, o + 4, none⟩ = some (.int .i64 uh) := hrc 4 _ rfl
        have z5 : V2.cell? ⟨b, o + 5, none⟩ = some (.int .i64 ul) := hrc 5 _ rfl
        have z6 : V2.cell? ⟨b, o + 6, none⟩ = some (.int .i64 xn) := hrc 6 _ rfl
        have z7 : V2.cell? ⟨b, o + 7, none⟩ = some (.slice xa 0 xc) := hrc 7 _ rfl
        have HP : Hid (SzP tb g b lo hi pre post R w (.returned (.tuple #[])) V2) := Lib.hid (by
          rw [HE.out]
          exact size_end HQ.out.1 kk2 rr2 oo2 rfl s2)
        clear hrc kk2 rr2 k2 oo2 s2
        go_wp2
        exact bodyPost_end (v := .tuple #[]) (by simp [results, Tryd.results31, go_sem]) rfl HP.out
      · have e1 : (p == 0) = false := by rw [beq_eq_false_iff_ne]; exact t1
        obtain ⟨B1, hB1⟩ : ∃ x, (p == u) = x := ⟨_, rfl⟩
        have HB : Hid ((p == 0 || p == u) = B1) := Lib.hid (by rw [e1, hB1]; rfl)
        clear t1
        have HE : Hid (R = (.mk 1 u v sg uh ul xn xa xc [], wantF (wantF f B1 90) (holdsE u v) 92)) := Lib.hid (by
          rw [HR.out]
          have h8 : preF 1 xn p u v f = wantF (wantF f B1 90) (holdsE u v) 92 := by simp only [preF, if_pos]; rw [HB.out]
          rw [h8]
          simp [szL, postF])
        go_enter Tryd.func31, Tryd.ntmps31
        go_wp2_with fail
        refine c0.mono ?_
        clear c0 z0 z1 z2 z3 z4 z5 z6 z7
        rintro e W1 ⟨rfl, hb1⟩
        have hr1 := HX.out.1.keep (hb1.block b (Array.getElem?_eq_some_iff.1 HX.out.1).1)
        have hrc1 := rowT_cells hr1 o HPL.out
        have y0 : W1.cell? ⟨b, o, none⟩ = some (.int .i64 1) := hrc1 0 _ rfl
        have y1 : W1.cell? ⟨b, o + 1, none⟩ = some (.int .i64 wd) := hrc1 1 _ rfl
        have y2 : W1.cell? ⟨b, o + 2, none⟩ = some (.int .u64 (v : Int)) := hrc1 2 _ rfl
        have y3 : W1.cell? ⟨b, o + 3, none⟩ = some (.int .i64 sg) := hrc1 3 _ rfl
        have y4 : W1.cell? ⟨b, o + 4, none⟩ = some (.int .i64 uh) := hrc1 4 _ rfl
        have y5 : W1.cell? ⟨b, o + 5, none⟩ = some (.int .i64 ul) := hrc1 5 _ rfl
        have y6 : W1.cell? ⟨b, o + 6, none⟩ = some (.int .i64 xn) := hrc1 6 _ rfl
        have y7 : W1.cell? ⟨b, o + 7, none⟩ = some (.slice xa 0 xc) := hrc1 7 _ rfl
        obtain ⟨q0, q1, q2, q3, q4, q5, q6, q7⟩ := RowT.thaw hr1 o
        obtain ⟨W2, hW2⟩ : ∃ W2, W1.setCell ⟨b, o + 1, none⟩ (.int .i64 u) = W2 := ⟨_, rfl⟩
        have hr2 := RowT.setW hr1 o HPL.out u
        rw [hW2] at hr2
        have hk2 : KeptP (Chg b g lo hi) w W2 := (KeptP.of_below hb1).trans (by rw [← hW2]; exact KeptP.setCell W1 ⟨b, o + 1, none⟩ _ (Or.inl rfl))
        have hot : ∀ k, k < w.heap.size → k ≠ b → W2.heap[k]? = w.heap[k]? := fun k h1 h2 => by rw [← hW2, Below.heap_setCell W1 ⟨b, o + 1, none⟩ _ k h2]; exact hb1.block k h1
        have ho2 : OwnRow W2 lo hi xa xc [] := HX.out.2.1.keepP (fun k h1 h2 => hot k (by have := HX.out.2.2.2.1; omega) (by have := HX.out.2.2.2.2.1; omega))
        have hs2 : SzAt g f W2 := HX.out.2.2.1.keep (hot g (Array.getElem?_eq_some_iff.1 HX.out.2.2.1).1 HX.out.2.2.2.2.2.2)
        have hh2 : hi ≤ W2.heap.size := Nat.le_trans HX.out.2.2.2.1 hk2.size
        have hrc2 := rowT_cells hr2 o HPL.out
        have z0 : W2.cell? ⟨b, o, none⟩ = some (.int .i64 1) := hrc2 0 _ rfl
        have z1 : W2.cell? ⟨b, o + 1, none⟩ = some (.int .i64 u) := hrc2 1 _ rfl
        have z2 : W2.cell? ⟨b, o + 2, none⟩ = some (.int .u64 (v : Int)) := hrc2 2 _ rfl
        have z3 : W2.cell? ⟨b, o + 3, none⟩ = some (.int .i64 sg) := hrc2 3 _ rfl
        have z4 : W2.cell? ⟨b, o + 4, none⟩ = some (.int .i64 uh) := hrc2 4 _ rfl
        have z5 : W2.cell? ⟨b, o + 5, none⟩ = some (.int .i64 ul) := hrc2 5 _ rfl
        have z6 : W2.cell? ⟨b, o + 6, none⟩ = some (.int .i64 xn) := hrc2 6 _ rfl
        have z7 : W2.cell? ⟨b, o + 7, none⟩ = some (.slice xa 0 xc) := hrc2 7 _ rfl
        have HQ := Lib.hid (And.intro hk2 (And.intro hr2 (And.intro ho2 (And.intro hs2 hh2))))
        clear hb1 hr1 hrc1 hk2 hot ho2 hs2 hh2 hrc2 hr2
        go_wp2_with fail
        refine (orUsual_any p W1).mono ?_
        rintro e W9 ⟨rfl, rfl⟩
        rw [hU]
        have KK0 := Lib.hid (And.intro (KeptP.refl (Chp g lo hi) W2) HQ.out.2.2.1)
        have s0 := HQ.out.2.2.2.1
        have cw := want_any g f B1 90 W2 s0
        have cwK := Lib.hid cw
        clear cw
        go_wp2_with fail
        refine cwK.out.mono ?_
        clear cwK
        rintro e V1 ⟨rfl, k1, s1⟩
        have kk1 : KeptP (Chp g lo hi) W2 V1 := KK0.out.1.trans (KeptP.of_kb1 k1 (Or.inl rfl))
        have oo1 : OwnRow V1 lo hi xa xc [] := own_keepK KK0.out.2 k1 (Nat.le_trans HQ.out.2.2.2.2 KK0.out.1.size) HX.out.2.2.2.2.2.1
        have rr1 := row_keepP HQ.out.2.1 kk1 HX.out.2.2.2.2.1 HX.out.2.2.2.2.2.2
        have hrc := rowT_cells rr1 o HPL.out
        clear z0 z1 z2 z3 z4 z5 z6 z7
        have z0 : V1.cell? ⟨b, o, none⟩ = some (.int .i64 1) := hrc 0 _ rfl
        have z1 : V1.cell? ⟨b, o + 1, none⟩ = some (.int .i64 u) := hrc 1 _ rfl
        have z2 : V1.cell? ⟨b, o + 2, none⟩ = some (.int .u64 (v : Int)) := hrc 2 _ rfl
        have z3 : V1.cell? ⟨b, o + 3, none⟩ = some (.int .i64 sg) := hrc 3 _ rfl
        have z4 : V1.cell? ⟨b, o + 4, none⟩ = some (.int .i64 uh) := hrc 4 _ rfl
        have z5 : V1.cell? ⟨b, o + 5, none⟩ = some (.int .i64 ul) := hrc 5 _ rfl
        have z6 : V1.cell? ⟨b, o + 6, none⟩ = some (.int .i64 xn) := hrc 6 _ rfl
        have z7 : V1.cell? ⟨b, o + 7, none⟩ = some (.slice xa 0 xc) := hrc 7 _ rfl
        have KK1 := Lib.hid (And.intro kk1 oo1)
        clear hrc kk1 oo1 rr1 k1
        have ch := holds_any u v HL.out.2.2 V1
        have cv := want_any g (wantF f B1 90) (holdsE u v) 92 V1 s1
        have cvK := Lib.hid cv
        clear cv
        go_wp2_with fail
        refine ch.mono ?_
        clear ch
        rintro e W9 ⟨rfl, rfl⟩
        go_wp2_with fail
        refine cvK.out.mono ?_
        clear cvK
        rintro e V2 ⟨rfl, k2, s2⟩
        have kk2 : KeptP (Chp g lo hi) W2 V2 := KK1.out.1.trans (KeptP.of_kb1 k2 (Or.inl rfl))
        have oo2 : OwnRow V2 lo hi xa xc [] := own_keepK KK1.out.2 k2 (Nat.le_trans HQ.out.2.2.2.2 KK1.out.1.size) HX.out.2.2.2.2.2.1
        have rr2 := row_keepP HQ.out.2.1 kk2 HX.out.2.2.2.2.1 HX.out.2.2.2.2.2.2
        have hrc := rowT_cells rr2 o HPL.out
        clear z0 z1 z2 z3 z4 z5 z6 z7
        have z0 : V2.cell? ⟨b, o, none⟩ = some (.int .i64 1) := hrc 0 _ rfl
        have z1 : V2.cell? ⟨b, o + 1, none⟩ = some (.int .i64 u) := hrc 1 _ rfl
        have z2 : V2.cell? ⟨b, o + 2, none⟩ = some (.int .u64 (v : Int)) := hrc 2 _ rfl
        have z3 : V2.cell? ⟨b, o + 3, none⟩ = some (.int .i64 sg) := hrc 3 _ rfl
        have z4 : V2.cell? ⟨b, o + 4, none⟩ = some (.int .i64 uh) := hrc 4 _ rfl
        have z5 : V2.cell? ⟨b, o + 5, none⟩ = some (.int .i64 ul) := hrc 5 _ rfl
        have z6 : V2.cell? ⟨b, o + 6, none⟩ = some (.int .i64 xn) := hrc 6 _ rfl
        have z7 : V2.cell? ⟨b, o + 7, none⟩ = some (.slice xa 0 xc) := hrc 7 _ rfl
        have HP : Hid (SzP tb g b lo hi pre post R w (.returned (.tuple #[])) V2) := Lib.hid (by
          rw [HE.out]
          exact size_end HQ.out.1 kk2 rr2 oo2 rfl s2)
        clear hrc kk2 rr2 k2 oo2 s2
        go_wp2
        exact bodyPost_end (v := .tuple #[]) (by simp [results, Tryd.results31, go_sem]) rfl HP.out
    · have e0 : (w0 == 0) = false := by rw [beq_eq_false_iff_ne]; exact t0
      have hU : w0 = u := by rw [← hu, if_neg t0]
      subst hU
      clear t0 hu
      have hxl := HSH.out.2.2.1 rfl
      subst hxl
      by_cases t1 : p = 0
      · have e1 : (p == 0) = true := by rw [beq_iff_eq]; exact t1
        have HB : Hid ((p == 0 || p == w0) = true) := Lib.hid (by rw [e1]; rfl)
        clear t1
        have HE : Hid (R = (.mk 1 w0 v sg uh ul xn xa xc [], wantF (wantF f true 90) (holdsE w0 v) 92)) := Lib.hid (by
          rw [HR.out]
          have h8 : preF 1 xn p w0 v f = wantF (wantF f true 90) (holdsE w0 v) 92 := by simp only [preF, if_pos]; rw [HB.out]
          rw [h8]
          simp [szL, postF])
        go_enter Tryd.func31, Tryd.ntmps31
        go_wp2_with fail
        refine c0.mono ?_
        clear c0 z0 z1 z2 z3 z4 z5 z6 z7
        rintro e W1 ⟨rfl, hb1⟩
        have hr1 := HX.out.1.keep (hb1.block b (Array.getElem?_eq_some_iff.1 HX.out.1).1)
        have hrc1 := rowT_cells hr1 o HPL.out
        have y0 : W1.cell? ⟨b, o, none⟩ = some (.int .i64 1) := hrc1 0 _ rfl
        have y1 : W1.cell? ⟨b, o + 1, none⟩ = some (.int .i64 wd) := hrc1 1 _ rfl
        have y2 : W1.cell? ⟨b, o + 2, none⟩ = some (.int .u64 (v : Int)) := hrc1 2 _ rfl
        have y3 : W1.cell? ⟨b, o + 3, none⟩ = some (.int .i64 sg) := hrc1 3 _ rfl
        have y4 : W1.cell? ⟨b, o + 4, none⟩ = some (.int .i64 uh) := hrc1 4 _ rfl
        have y5 : W1.cell? ⟨b, o + 5, none⟩ = some (.int .i64 ul) := hrc1 5 _ rfl
        have y6 : W1.cell? ⟨b, o + 6, none⟩ = some (.int .i64 xn) := hrc1 6 _ rfl
        have y7 : W1.cell? ⟨b, o + 7, none⟩ = some (.slice xa 0 xc) := hrc1 7 _ rfl
        obtain ⟨q0, q1, q2, q3, q4, q5, q6, q7⟩ := RowT.thaw hr1 o
        obtain ⟨W2, hW2⟩ : ∃ W2, W1.setCell ⟨b, o + 1, none⟩ (.int .i64 w0) = W2 := ⟨_, rfl⟩
        have hr2 := RowT.setW hr1 o HPL.out w0
        rw [hW2] at hr2
        have hk2 : KeptP (Chg b g lo hi) w W2 := (KeptP.of_below hb1).trans (by rw [← hW2]; exact KeptP.setCell W1 ⟨b, o + 1, none⟩ _ (Or.inl rfl))
        have hot : ∀ k, k < w.heap.size → k ≠ b → W2.heap[k]? = w.heap[k]? := fun k h1 h2 => by rw [← hW2, Below.heap_setCell W1 ⟨b, o + 1, none⟩ _ k h2]; exact hb1.block k h1
        have ho2 : OwnRow W2 lo hi xa xc [] := HX.out.2.1.keepP (fun k h1 h2 => hot k (by have := HX.out.2.2.2.1; omega) (by have := HX.out.2.2.2.2.1; omega))
        have hs2 : SzAt g f W2 := HX.out.2.2.1.keep (hot g (Array.getElem?_eq_some_iff.1 HX.out.2.2.1).1 HX.out.2.2.2.2.2.2)
        have hh2 : hi ≤ W2.heap.size := Nat.le_trans HX.out.2.2.2.1 hk2.size
        have hrc2 := rowT_cells hr2 o HPL.out
        have z0 : W2.cell? ⟨b, o, none⟩ = some (.int .i64 1) := hrc2 0 _ rfl
        have z1 : W2.cell? ⟨b, o + 1, none⟩ = some (.int .i64 w0) := hrc2 1 _ rfl
        have z2 : W2.cell? ⟨b, o + 2, none⟩ = some (.int .u64 (v : Int)) := hrc2 2 _ rfl
        have z3 : W2.cell? ⟨b, o + 3, none⟩ = some (.int .i64 sg) := hrc2 3 _ rfl
        have z4 : W2.cell? ⟨b, o + 4, none⟩ = some (.int .i64 uh) := hrc2 4 _ rfl
        have z5 : W2.cell? ⟨b, o + 5, none⟩ = some (.int .i64 ul) := hrc2 5 _ rfl
        have z6 : W2.cell? ⟨b, o + 6, none⟩ = some (.int .i64 xn) := hrc2 6 _ rfl
        have z7 : W2.cell? ⟨b, o + 7, none⟩ = some (.slice xa 0 xc) := hrc2 7 _ rfl
        have HQ := Lib.hid (And.intro hk2 (And.intro hr2 (And.intro ho2 (And.intro hs2 hh2))))
        clear hb1 hr1 hrc1 hk2 hot ho2 hs2 hh2 hrc2 hr2
        have KK0 := Lib.hid (And.intro (KeptP.refl (Chp g lo hi) W2) HQ.out.2.2.1)
        have s0 := HQ.out.2.2.2.1
        have cw := want_any g f true 90 W2 s0
        have cwK := Lib.hid cw
        clear cw
        go_wp2_with fail
        refine cwK.out.mono ?_
        clear cwK
        rintro e V1 ⟨rfl, k1, s1⟩
        have kk1 : KeptP (Chp g lo hi) W2 V1 := KK0.out.1.trans (KeptP.of_kb1 k1 (Or.inl rfl))
        have oo1 : OwnRow V1 lo hi xa xc [] := own_keepK KK0.out.2 k1 (Nat.le_trans HQ.out.2.2.2.2 KK0.out.1.size) HX.out.2.2.2.2.2.1
        have rr1 := row_keepP HQ.out.2.1 kk1 HX.out.2.2.2.2.1 HX.out.2.2.2.2.2.2
        have hrc := rowT_cells rr1 o HPL.out
        clear z0 z1 z2 z3 z4 z5 z6 z7
        have z0 : V1.cell? ⟨b, o, none⟩ = some (.int .i64 1) := hrc 0 _ rfl
        have z1 : V1.cell? ⟨b, o + 1, none⟩ = some (.int .i64 w0) := hrc 1 _ rfl
        have z2 : V1.cell? ⟨b, o + 2, none⟩ = some (.int .u64 (v : Int)) := hrc 2 _ rfl
        have z3 : V1.cell? ⟨b, o + 3, none⟩ = some (.int .i64 sg) := hrc 3 _ rfl
        have z4 : V1.cell? ⟨b, o + 4, none⟩ = some (.int .i64 uh) := hrc 4 _ rfl
        have z5 : V1.cell? ⟨b, o + 5, none⟩ = some (.int .i64 ul) := hrc 5 _ rfl
        have z6 : V1.cell? ⟨b, o + 6, none⟩ = some (.int .i64 xn) := hrc 6 _ rfl
        have z7 : V1.cell? ⟨b, o + 7, none⟩ = some (.slice xa 0 xc) := hrc 7 _ rfl
        have KK1 := Lib.hid (And.intro kk1 oo1)
        clear hrc kk1 oo1 rr1 k1
        have ch := holds_any w0 v HL.out.2.2 V1
        have cv := want_any g (wantF f true 90) (holdsE w0 v) 92 V1 s1
        have cvK := Lib.hid cv
        clear cv
        go_wp2_with fail
        refine ch.mono ?_
        clear ch
        rintro e W9 ⟨rfl, rfl⟩
        go_wp2_with fail
        refine cvK.out.mono ?_
        clear cvK
        rintro e V2 ⟨rfl, k2, s2⟩
        have kk2 : KeptP (Chp g lo hi) W2 V2 := KK1.out.1.trans (KeptP.of_kb1 k2 (Or.inl rfl))
        have oo2 : OwnRow V2 lo hi xa xc [] := own_keepK KK1.out.2 k2 (Nat.le_trans HQ.out.2.2.2.2 KK1.out.1.size) HX.out.2.2.2.2.2.1
        have rr2 := row_keepP HQ.out.2.1 kk2 HX.out.2.2.2.2.1 HX.out.2.2.2.2.2.2
        have hrc := rowT_cells rr2 o HPL.out
        clear z0 z1 z2 z3 z4 z5 z6 z7
        have z0 : V2.cell? ⟨b, o, none⟩ = some (.int .i64 1) := hrc 0 _ rfl
        have z1 : V2.cell? ⟨b, o + 1, none⟩ = some (.int .i64 w0) := hrc 1 _ rfl
        have z2 : V2.cell? ⟨b, o + 2, none⟩ = some (.int .u64 (v : Int)) := hrc 2 _ rfl
        have z3 : V2.cell? ⟨b, o + 3, none⟩ = some (.int .i64 sg) := hrc 3 _ rfl
        have z4 : V2.cell? ⟨b, o + 4, none⟩ = some (.int .i64 uh) := hrc 4 _ rfl
        have z5 : V2.cell? ⟨b, o + 5, none⟩ = some (.int .i64 ul) := hrc 5 _ rfl
        have z6 : V2.cell? ⟨b, o + 6, none⟩ = some (.int .i64 xn) := hrc 6 _ rfl
        have z7 : V2.cell? ⟨b, o + 7, none⟩ = some (.slice xa 0 xc) := hrc 7 _ rfl
        have HP : Hid (SzP tb g b lo hi pre post R w (.returned (.tuple #[])) V2) := Lib.hid (by
          rw [HE.out]
          exact size_end HQ.out.1 kk2 rr2 oo2 rfl s2)
        clear hrc kk2 rr2 k2 oo2 s2
        go_wp2
        exact bodyPost_end (v := .tuple #[]) (by simp [results, Tryd.results31, go_sem]) rfl HP.out
      · have e1 : (p == 0) = false := by rw [beq_eq_false_iff_ne]; exact t1
        obtain ⟨B1, hB1⟩ : ∃ x, (p == w0) = x := ⟨_, rfl⟩
        have HB : Hid ((p == 0 || p == w0) = B1) := Lib.hid (by rw [e1, hB1]; rfl)
        clear t1
        have HE : Hid (R = (.mk 1 w0 v sg uh ul xn xa xc [], wantF (wantF f B1 90) (holdsE w0 v) 92)) := Lib.hid (by
          rw [HR.out]
          have h8 : preF 1 xn p w0 v f = wantF (wantF f B1 90) (holdsE w0 v) 92 := by simp only [preF, if_pos]; rw [HB.out]
          rw [h8]
          simp [szL, postF])
        go_enter Tryd.func31, Tryd.ntmps31
        go_wp2_with fail
        refine c0.mono ?_
        clear c0 z0 z1 z2 z3 z4 z5 z6 z7
        rintro e W1 ⟨rfl, hb1⟩
        have hr1 := HX.out.1.keep (hb1.block b (Array.getElem?_eq_some_iff.1 HX.out.1).1)
        have hrc1 := rowT_cells hr1 o HPL.out
        have y0 : W1.cell? ⟨b, o, none⟩ = some (.int .i64 1) := hrc1 0 _ rfl
        have y1 : W1.cell? ⟨b, o + 1, none⟩ = some (.int .i64 wd) := hrc1 1 _ rfl
        have y2 : W1.cell? ⟨b, o + 2, none⟩ = some (.int .u64 (v : Int)) := hrc1 2 _ rfl
        have y3 : W1.cell? ⟨b, o + 3, none⟩ = some (.int .i64 sg) := hrc1 3 _ rfl
        have y4 : W1.cell? ⟨b, o + 4, none⟩ = some (.int .i64 uh) := hrc1 4 _ rfl
        have y5 : W1.cell? ⟨b, o + 5, none⟩ = some (.int .i64 ul) := hrc1 5 _ rfl
        have y6 : W1.cell? ⟨b, o + 6, none⟩ = some (.int .i64 xn) := hrc1 6 _ rfl
        have y7 : W1.cell? ⟨b, o + 7, none⟩ = some (.slice xa 0 xc) := hrc1 7 _ rfl
        obtain ⟨q0, q1, q2, q3, q4, q5, q6, q7⟩ := RowT.thaw hr1 o
        obtain ⟨W2, hW2⟩ : ∃ W2, W1.setCell ⟨b, o + 1, none⟩ (.int .i64 w0) = W2 := ⟨_, rfl⟩
        have hr2 := RowT.setW hr1 o HPL.out w0
        rw [hW2] at hr2
        have hk2 : KeptP (Chg b g lo hi) w W2 := (KeptP.of_below hb1).trans (by rw [← hW2]; exact KeptP.setCell W1 ⟨b, o + 1, none⟩ _ (Or.inl rfl))
        have hot : ∀ k, k < w.heap.size → k ≠ b → W2.heap[k]? = w.heap[k]? := fun k h1 h2 => by rw [← hW2, Below.heap_setCell W1 ⟨b, o + 1, none⟩ _ k h2]; exact hb1.block k h1
        have ho2 : OwnRow W2 lo hi xa xc [] := HX.out.2.1.keepP (fun k h1 h2 => hot k (by have := HX.out.2.2.2.1; omega) (by have := HX.out.2.2.2.2.1; omega))
        have hs2 : SzAt g f W2 := HX.out.2.2.1.keep (hot g (Array.getElem?_eq_some_iff.1 HX.out.2.2.1).1 HX.out.2.2.2.2.2.2)
        have hh2 : hi ≤ W2.heap.size := Nat.le_trans HX.out.2.2.2.1 hk2.size
        have hrc2 := rowT_cells hr2 o HPL.out
        have z0 : W2.cell? ⟨b, o, none⟩ = some (.int .i64 1) := hrc2 0 _ rfl
        have z1 : W2.cell? ⟨b, o + 1, none⟩ = some (.int .i64 w0) := hrc2 1 _ rfl
        have z2 : W2.cell? ⟨b, o + 2, none⟩ = some (.int .u64 (v : Int)) := hrc2 2 _ rfl
        have z3 : W2.cell? ⟨b, o + 3, none⟩ = some (.int .i64 sg) := hrc2 3 _ rfl
        have z4 : W2.cell? ⟨b, o + 4, none⟩ = some (.int .i64 uh) := hrc2 4 _ rfl
        have z5 : W2.cell? ⟨b, o + 5, none⟩ = some (.int .i64 ul) := hrc2 5 _ rfl
        have z6 : W2.cell? ⟨b, o + 6, none⟩ = some (.int .i64 xn) := hrc2 6 _ rfl
        have z7 : W2.cell? ⟨b, o + 7, none⟩ = some (.slice xa 0 xc) := hrc2 7 _ rfl
        have HQ := Lib.hid (And.intro hk2 (And.intro hr2 (And.intro ho2 (And.intro hs2 hh2))))
        clear hb1 hr1 hrc1 hk2 hot ho2 hs2 hh2 hrc2 hr2
        have KK0 := Lib.hid (And.intro (KeptP.refl (Chp g lo hi) W2) HQ.out.2.2.1)
        have s0 := HQ.out.2.2.2.1
        have cw := want_any g f B1 90 W2 s0
        have cwK := Lib.hid cw
        clear cw
        go_wp2_with fail
        refine cwK.out.mono ?_
        clear cwK
        rintro e V1 ⟨rfl, k1, s1⟩
        have kk1 : KeptP (Chp g lo hi) W2 V1 := KK0.out.1.trans (KeptP.of_kb1 k1 (Or.inl rfl))
        have oo1 : OwnRow V1 lo hi xa xc [] := own_keepK KK0.out.2 k1 (Nat.le_trans HQ.out.2.2.2.2 KK0.out.1.size) HX.out.2.2.2.2.2.1
        have rr1 := row_keepP HQ.out.2.1 kk1 HX.out.2.2.2.2.1 HX.out.2.2.2.2.2.2
        have hrc := rowT_cells rr1 o HPL.out
        clear z0 z1 z2 z3 z4 z5 z6 z7
        have z0 : V1.cell? ⟨b, o, none⟩ = some (.int .i64 1) := hrc 0 _ rfl
        have z1 : V1.cell? ⟨b, o + 1, none⟩ = some (.int .i64 w0) := hrc 1 _ rfl
        have z2 : V1.cell? ⟨b, o + 2, none⟩ = some (.int .u64 (v : Int)) := hrc 2 _ rfl
        have z3 : V1.cell? ⟨b, o + 3, none⟩ = some (.int .i64 sg) := hrc 3 _ rfl
        have z4 : V1.cell? ⟨b, o + 4, none⟩ = some (.int .i64 uh) := hrc 4 _ rfl
        have z5 : V1.cell? ⟨b, o + 5, none⟩ = some (.int .i64 ul) := hrc 5 _ rfl
        have z6 : V1.cell? ⟨b, o + 6, none⟩ = some (.int .i64 xn) := hrc 6 _ rfl
        have z7 : V1.cell? ⟨b, o + 7, none⟩ = some (.slice xa 0 xc) := hrc 7 _ rfl
        have KK1 := Lib.hid (And.intro kk1 oo1)
        clear hrc kk1 oo1 rr1 k1
        have ch := holds_any w0 v HL.out.2.2 V1
        have cv := want_any g (wantF f B1 90) (holdsE w0 v) 92 V1 s1
        have cvK := Lib.hid cv
        clear cv
        go_wp2_with fail
        refine ch.mono ?_
        clear ch
        rintro e W9 ⟨rfl, rfl⟩
        go_wp2_with fail
        refine cvK.out.mono ?_
        clear cvK
        rintro e V2 ⟨rfl, k2, s2⟩
        have kk2 : KeptP (Chp g lo hi) W2 V2 := KK1.out.1.trans (KeptP.of_kb1 k2 (Or.inl rfl))
        have oo2 : OwnRow V2 lo hi xa xc [] := own_keepK KK1.out.2 k2 (Nat.le_trans HQ.out.2.2.2.2 KK1.out.1.size) HX.out.2.2.2.2.2.1
        have rr2 := row_keepP HQ.out.2.1 kk2 HX.out.2.2.2.2.1 HX.out.2.2.2.2.2.2
        have hrc := rowT_cells rr2 o HPL.out
        clear z0 z1 z2 z3 z4 z5 z6 z7
        have z0 : V2.cell? ⟨b, o, none⟩ = some (.int .i64 1) := hrc 0 _ rfl
        have z1 : V2.cell? ⟨b, o + 1, none⟩ = some (.int .i64 w0) := hrc 1 _ rfl
        have z2 : V2.cell? ⟨b, o + 2, none⟩ = some (.int .u64 (v : Int)) := hrc 2 _ rfl
        have z3 : V2.cell? ⟨b, o + 3, none⟩ = some (.int .i64 sg) := hrc 3 _ rfl
        have z4 : V2.cell? ⟨b, o + 4, none⟩ = some (.int .i64 uh) := hrc 4 _ rfl
        have z5 : V2.cell? ⟨b, o + 5, none⟩ = some (.int .i64 ul) := hrc 5 _ rfl
        have z6 : V2.cell? ⟨b, o + 6, none⟩ = some (.int .i64 xn) := hrc 6 _ rfl
        have z7 : V2.cell? ⟨b, o + 7, none⟩ = some (.slice xa 0 xc) := hrc 7 _ rfl
        have HP : Hid (SzP tb g b lo hi pre post R w (.returned (.tuple #[])) V2) := Lib.hid (by
          rw [HE.out]
          exact size_end HQ.out.1 kk2 rr2 oo2 rfl s2)
        clear hrc kk2 rr2 k2 oo2 s2
        go_wp2
        exact bodyPost_end (v := .tuple #[]) (by simp [results, Tryd.results31, go_sem]) rfl HP.out
  · by_cases t0 : w0 = 0
    · have e0 : (w0 == 0) = true := by rw [beq_iff_eq]; exact t0
      have hU : orU p = u := by rw [← hu, if_pos t0]
      clear t0 hu
      obtain ⟨B1, hB1⟩ : ∃ x, (p == u) = x := ⟨_, rfl⟩
      have HE : Hid (R = (.mk 2 u v sg uh ul xn xa xc (szL xl 0 (fun _ => (false, 0)) (wantF f B1 90)).1, (szL xl 0 (fun _ => (false, 0)) (wantF f B1 90)).2)) := Lib.hid (by
        rw [HR.out]
        have h8 : preF 2 xn p u v f = wantF f B1 90 := by simp [preF, hB1]
        have h9 : szL xl 0 (insF 2 xn u (owL xl)) (wantF f B1 90) = szL xl 0 (fun _ => (false, 0)) (wantF f B1 90) := szL_congr xl 0 0 _ _ _ (fun j _ => by simp [insF])
        rw [h8, h9]
        simp [postF])
      go_enter Tryd.func31, Tryd.ntmps31
      go_wp2_with fail
      refine c0.mono ?_
      clear c0 z0 z1 z2 z3 z4 z5 z6 z7
      rintro e W1 ⟨rfl, hb1⟩
      have hr1 := HX.out.1.keep (hb1.block b (Array.getElem?_eq_some_iff.1 HX.out.1).1)
      have hrc1 := rowT_cells hr1 o HPL.out
      have y0 : W1.cell? ⟨b, o, none⟩ = some (.int .i64 2) := hrc1 0 _ rfl
      have y1 : W1.cell? ⟨b, o + 1, none⟩ = some (.int .i64 wd) := hrc1 1 _ rfl
      have y2 : W1.cell? ⟨b, o + 2, none⟩ = some (.int .u64 (v : Int)) := hrc1 2 _ rfl
      have y3 : W1.cell? ⟨b, o + 3, none⟩ = some (.int .i64 sg) := hrc1 3 _ rfl
      have y4 : W1.cell? ⟨b, o + 4, none⟩ = some (.int .i64 uh) := hrc1 4 _ rfl
      have y5 : W1.cell? ⟨b, o + 5, none⟩ = some (.int .i64 ul) := hrc1 5 _ rfl
      have y6 : W1.cell? ⟨b, o + 6, none⟩ = some (.int .i64 xn) := hrc1 6 _ rfl
      have y7 : W1.cell? ⟨b, o + 7, none⟩ = some (.slice xa xl.length xc) := hrc1 7 _ rfl
      obtain ⟨q0, q1, q2, q3, q4, q5, q6, q7⟩ := RowT.thaw hr1 o
      obtain ⟨W2, hW2⟩ : ∃ W2, W1.setCell ⟨b, o + 1, none⟩ (.int .i64 u) = W2 := ⟨_, rfl⟩
      have hr2 := RowT.setW hr1 o HPL.out u
      rw [hW2] at hr2
      have hk2 : KeptP (Chg b g lo hi) w W2 := (KeptP.of_below hb1).trans (by rw [← hW2]; exact KeptP.setCell W1 ⟨b, o + 1, none⟩ _ (Or.inl rfl))
      have hot : ∀ k, k < w.heap.size → k ≠ b → W2.heap[k]? = w.heap[k]? := fun k h1 h2 => by rw [← hW2, Below.heap_setCell W1 ⟨b, o + 1, none⟩ _ k h2]; exact hb1.block k h1
      have ho2 : OwnRow W2 lo hi xa xc xl := HX.out.2.1.keepP (fun k h1 h2 => hot k (by have := HX.out.2.2.2.1; omega) (by have := HX.out.2.2.2.2.1; omega))
      have hs2 : SzAt g f W2 := HX.out.2.2.1.keep (hot g (Array.getElem?_eq_some_iff.1 HX.out.2.2.1).1 HX.out.2.2.2.2.2.2)
      have hh2 : hi ≤ W2.heap.size := Nat.le_trans HX.out.2.2.2.1 hk2.size
      have hrc2 := rowT_cells hr2 o HPL.out
      have z0 : W2.cell? ⟨b, o, none⟩ = some (.int .i64 2) := hrc2 0 _ rfl
      have z1 : W2.cell? ⟨b, o + 1, none⟩ = some (.int .i64 u) := hrc2 1 _ rfl
      have z2 : W2.cell? ⟨b, o + 2, none⟩ = some (.int .u64 (v : Int)) := hrc2 2 _ rfl
      have z3 : W2.cell? ⟨b, o + 3, none⟩ = some (.int .i64 sg) := hrc2 3 _ rfl
      have z4 : W2.cell? ⟨b, o + 4, none⟩ = some (.int .i64 uh) := hrc2 4 _ rfl
      have z5 : W2.cell? ⟨b, o + 5, none⟩ = some (.int .i64 ul) := hrc2 5 _ rfl
      have z6 : W2.cell? ⟨b, o + 6, none⟩ = some (.int .i64 xn) := hrc2 6 _ rfl
      have z7 : W2.cell? ⟨b, o + 7, none⟩ = some (.slice xa xl.length xc) := hrc2 7 _ rfl
      have HQ := Lib.hid (And.intro hk2 (And.intro hr2 (And.intro ho2 (And.intro hs2 hh2))))
      clear hb1 hr1 hrc1 hk2 hot ho2 hs2 hh2 hrc2 hr2
      go_wp2_with fail
      refine (orUsual_any p W1).mono ?_
      rintro e W9 ⟨rfl, rfl⟩
      rw [hU]
      have KK0 := Lib.hid (And.intro (KeptP.refl (Chp g lo hi) W2) HQ.out.2.2.1)
      have s0 := HQ.out.2.2.2.1
      have cw := want_any g f B1 90 W2 s0
      have cwK := Lib.hid cw
      clear cw
      go_wp2_with fail
      refine cwK.out.mono ?_
      clear cwK
      rintro e V1 ⟨rfl, k1, s1⟩
      have kk1 : KeptP (Chp g lo hi) W2 V1 := KK0.out.1.trans (KeptP.of_kb1 k1 (Or.inl rfl))
      have oo1 : OwnRow V1 lo hi xa xc xl := own_keepK KK0.out.2 k1 (Nat.le_trans HQ.out.2.2.2.2 KK0.out.1.size) HX.out.2.2.2.2.2.1
      have rr1 := row_keepP HQ.out.2.1 kk1 HX.out.2.2.2.2.1 HX.out.2.2.2.2.2.2
      have hrc := rowT_cells rr1 o HPL.out
      clear z0 z1 z2 z3 z4 z5 z6 z7
      have z0 : V1.cell? ⟨b, o, none⟩ = some (.int .i64 2) := hrc 0 _ rfl
      have z1 : V1.cell? ⟨b, o + 1, none⟩ = some (.int .i64 u) := hrc 1 _ rfl
      have z2 : V1.cell? ⟨b, o + 2, none⟩ = some (.int .u64 (v : Int)) := hrc 2 _ rfl
      have z3 : V1.cell? ⟨b, o + 3, none⟩ = some (.int .i64 sg) := hrc 3 _ rfl
      have z4 : V1.cell? ⟨b, o + 4, none⟩ = some (.int .i64 uh) := hrc 4 _ rfl
      have z5 : V1.cell? ⟨b, o + 5, none⟩ = some (.int .i64 ul) := hrc 5 _ rfl
      have z6 : V1.cell? ⟨b, o + 6, none⟩ = some (.int .i64 xn) := hrc 6 _ rfl
      have z7 : V1.cell? ⟨b, o + 7, none⟩ = some (.slice xa xl.length xc) := hrc 7 _ rfl
      have KK1 := Lib.hid (And.intro kk1 oo1)
      clear hrc kk1 oo1 rr1 k1
      have cz := sizeRow_any 0 g lo hi xa xc xl HL.out.1 (fun x hx => (HC.out x hx).1) (wantF f B1 90) V1 (Nat.le_trans HQ.out.2.2.2.2 KK1.out.1.size) HX.out.2.2.2.2.2.1 KK1.out.2 s1
      have czK := Lib.hid cz
      clear cz
      go_wp2_with fail
      refine czK.out.mono ?_
      clear czK
      rintro e V2 ⟨rfl, k2, o2, s2⟩
      have kk2 : KeptP (Chp g lo hi) W2 V2 := KK1.out.1.trans k2
      have rr2 := row_keepP HQ.out.2.1 kk2 HX.out.2.2.2.2.1 HX.out.2.2.2.2.2.2
      have hrc := rowT_cells rr2 o HPL.out
      clear z0 z1 z2 z3 z4 z5 z6 z7
      have z0 : V2.cell? ⟨b, o, none⟩ = some (.int .i64 2) := hrc 0 _ rfl
      have z1 : V2.cell? ⟨b, o + 1, none⟩ = some (.int .i64 u) := hrc 1 _ rfl
      have z2 : V2.cell? ⟨b, o + 2, none⟩ = some (.int .u64 (v : Int)) := hrc 2 _ rfl
      have z3 : V2.cell? ⟨b, o + 3, none⟩ = some (.int .i64 sg) := hrc 3 _ rfl
      have z4 : V2.cell? ⟨b, o + 4, none⟩ = some (.int .i64 uh) := hrc 4 _ rfl
      have z5 : V2.cell? ⟨b, o + 5, none⟩ = some (.int .i64 ul) := hrc 5 _ rfl
      have z6 : V2.cell? ⟨b, o + 6, none⟩ = some (.int .i64 xn) := hrc 6 _ rfl
      have z7 : V2.cell? ⟨b, o + 7, none⟩ = some (.slice xa xl.length xc) := hrc 7 _ rfl
      have HP : Hid (SzP tb g b lo hi pre post R w (.returned (.tuple #[])) V2) := Lib.hid (by
        rw [HE.out]
        exact size_end HQ.out.1 kk2 rr2 (by simpa using o2) (szL_len _ _ _ _) s2)
      clear hrc kk2 rr2 k2 o2 s2
      go_wp2
      exact bodyPost_end (v := .tuple #[]) (by simp [results, Tryd.results31, go_sem]) rfl HP.out
    · have e0 : (w0 == 0) = false := by rw [beq_eq_false_iff_ne]; exact t0
      have hU : w0 = u := by rw [← hu, if_neg t0]
      subst hU
      clear t0 hu
      obtain ⟨B1, hB1⟩ : ∃ x, (p == w0) = x := ⟨_, rfl⟩
      have HE : Hid (R = (.mk 2 w0 v sg uh ul xn xa xc (szL xl 0 (fun _ => (false, 0)) (wantF f B1 90)).1, (szL xl 0 (fun _ => (false, 0)) (wantF f B1 90)).2)) := Lib.hid (by
        rw [HR.out]
        have h8 : preF 2 xn p w0 v f = wantF f B1 90 := by simp [preF, hB1]
        have h9 : szL xl 0 (insF 2 xn w0 (owL xl)) (wantF f B1 90) = szL xl 0 (fun _ => (false, 0)) (wantF f B1 90) := szL_congr xl 0 0 _ _ _ (fun j _ => by simp [insF])
        rw [h8, h9]
        simp [postF])
      go_enter Tryd.func31, Tryd.ntmps31
      go_wp2_with fail
      refine c0.mono ?_
      clear c0 z0 z1 z2 z3 z4 z5 z6 z7
      rintro e W1 ⟨rfl, hb1⟩
      have hr1 := HX.out.1.keep (hb1.block b (Array.getElem?_eq_some_iff.1 HX.out.1).1)
      have hrc1 := rowT_cells hr1 o HPL.out
      have y0 : W1.cell? ⟨b, o, none⟩ = some (.int .i64 2) := hrc1 0 _ rfl
      have y1 : W1.cell? ⟨b, o + 1, none⟩ = some (.int .i64 wd) := hrc1 1 _ rfl
      have y2 : W1.cell? ⟨b, o + 2, none⟩ = some (.int .u64 (v : Int)) := hrc1 2 _ rfl
      have y3 : W1.cell? ⟨b, o + 3, none⟩ = some (.int .i64 sg) := hrc1 3 _ rfl
      have y4 : W1.cell? ⟨b, o + 4, none⟩ = some (.int .i64 uh) := hrc1 4 _ rfl
      have y5 : W1.cell? ⟨b, o + 5, none⟩ = some (.int .i64 ul) := hrc1 5 _ rfl
      have y6 : W1.cell? ⟨b, o + 6, none⟩ = some (.int .i64 xn) := hrc1 6 _ rfl
      have y7 : W1.cell? ⟨b, o + 7, none⟩ = some (.slice xa xl.length xc) := hrc1 7 _ rfl
      obtain ⟨q0, q1, q2, q3, q4, q5, q6, q7⟩ := RowT.thaw hr1 o
      obtain ⟨W2, hW2⟩ : ∃ W2, W1.setCell ⟨b, o + 1, none⟩ (.int .i64 w0) = W2 := ⟨_, rfl⟩
      have hr2 := RowT.setW hr1 o HPL.out w0
      rw [hW2] at hr2
      have hk2 : KeptP (Chg b g lo hi) w W2 := (KeptP.of_below hb1).trans (by rw [← hW2]; exact KeptP.setCell W1 ⟨b, o + 1, none⟩ _ (Or.inl rfl))
      have hot : ∀ k, k < w.heap.size → k ≠ b → W2.heap[k]? = w.heap[k]? := fun k h1 h2 => by rw [← hW2, Below.heap_setCell W1 ⟨b, o + 1, none⟩ _ k h2]; exact hb1.block k h1
      have ho2 : OwnRow W2 lo hi xa xc xl := HX.out.2.1.keepP (fun k h1 h2 => hot k (by have := HX.out.2.2.2.1; omega) (by have := HX.out.2.2.2.2.1; omega))
      have hs2 : SzAt g f W2 := HX.out.2.2.1.keep (hot g (Array.getElem?_eq_some_iff.1 HX.out.2.2.1).1 HX.out.2.2.2.2.2.2)
      have hh2 : hi ≤ W2.heap.size := Nat.le_trans HX.out.2.2.2.1 hk2.size
      have hrc2 := rowT_cells hr2 o HPL.out
      have z0 : W2.cell? ⟨b, o, none⟩ = some (.int .i64 2) := hrc2 0 _ rfl
      have z1 : W2.cell? ⟨b, o + 1, none⟩ = some (.int .i64 w0) := hrc2 1 _ rfl
      have z2 : W2.cell? ⟨b, o + 2, none⟩ = some (.int .u64 (v : Int)) := hrc2 2 _ rfl
      have z3 : W2.cell? ⟨b, o + 3, none⟩ = some (.int .i64 sg) := hrc2 3 _ rfl
      have z4 : W2.cell? ⟨b, o + 4, none⟩ = some (.int .i64 uh) := hrc2 4 _ rfl
      have z5 : W2.cell? ⟨b, o + 5, none⟩ = some (.int .i64 ul) := hrc2 5 _ rfl
      have z6 : W2.cell? ⟨b, o + 6, none⟩ = some (.int .i64 xn) := hrc2 6 _ rfl
      have z7 : W2.cell? ⟨b, o + 7, none⟩ = some (.slice xa xl.length xc) := hrc2 7 _ rfl
      have HQ := Lib.hid (And.intro hk2 (And.intro hr2 (And.intro ho2 (And.intro hs2 hh2))))
      clear hb1 hr1 hrc1 hk2 hot ho2 hs2 hh2 hrc2 hr2
      have KK0 := Lib.hid (And.intro (KeptP.refl (Chp g lo hi) W2) HQ.out.2.2.1)
      have s0 := HQ.out.2.2.2.1
      have cw := want_any g f B1 90 W2 s0
      have cwK := Lib.hid cw
      clear cw
      go_wp2_with fail
      refine cwK.out.mono ?_
      clear cwK
      rintro e V1 ⟨rfl, k1, s1⟩
      have kk1 : KeptP (Chp g lo hi) W2 V1 := KK0.out.1.trans (KeptP.of_kb1 k1 (Or.inl rfl))
      have oo1 : OwnRow V1 lo hi xa xc xl := own_keepK KK0.out.2 k1 (Nat.le_trans HQ.out.2.2.2.2 KK0.out.1.size) HX.out.2.2.2.2.2.1
      have rr1 := row_keepP HQ.out.2.1 kk1 HX.out.2.2.2.2.1 HX.out.2.2.2.2.2.2
      have hrc := rowT_cells rr1 o HPL.out
      clear z0 z1 z2 z3 z4 z5 z6 z7
      have z0 : V1.cell? ⟨b, o, none⟩ = some (.int .i64 2) := hrc 0 _ rfl
      have z1 : V1.cell? ⟨b, o + 1, none⟩ = some (.int .i64 w0) := hrc 1 _ rfl
      have z2 : V1.cell? ⟨b, o + 2, none⟩ = some (.int .u64 (v : Int)) := hrc 2 _ rfl
      have z3 : V1.cell? ⟨b, o + 3, none⟩ = some (.int .i64 sg) := hrc 3 _ rfl
      have z4 : V1.cell? ⟨b, o + 4, none⟩ = some (.int .i64 uh) := hrc 4 _ rfl
      have z5 : V1.cell? ⟨b, o + 5, none⟩ = some (.int .i64 ul) := hrc 5 _ rfl
      have z6 : V1.cell? ⟨b, o + 6, none⟩ = some (.int .i64 xn) := hrc 6 _ rfl
      have z7 : V1.cell? ⟨b, o + 7, none⟩ = some (.slice xa xl.length xc) := hrc 7 _ rfl
      have KK1 := Lib.hid (And.intro kk1 oo1)
      clear hrc kk1 oo1 rr1 k1
      have cz := sizeRow_any 0 g lo hi xa xc xl HL.out.1 (fun x hx => (HC.out x hx).1) (wantF f B1 90) V1 (Nat.le_trans HQ.out.2.2.2.2 KK1.out.1.size) HX.out.2.2.2.2.2.1 KK1.out.2 s1
      have czK := Lib.hid cz
      clear cz
      go_wp2_with fail
      refine czK.out.mono ?_
      clear czK
      rintro e V2 ⟨rfl, k2, o2, s2⟩
      have kk2 : KeptP (Chp g lo hi) W2 V2 := KK1.out.1.trans k2
      have rr2 := row_keepP HQ.out.2.1 kk2 HX.out.2.2.2.2.1 HX.out.2.2.2.2.2.2
      have hrc := rowT_cells rr2 o HPL.out
      clear z0 z1 z2 z3 z4 z5 z6 z7
      have z0 : V2.cell? ⟨b, o, none⟩ = some (.int .i64 2) := hrc 0 _ rfl
      have z1 : V2.cell? ⟨b, o + 1, none⟩ = some (.int .i64 w0) := hrc 1 _ rfl
      have z2 : V2.cell? ⟨b, o + 2, none⟩ = some (.int .u64 (v : Int)) := hrc 2 _ rfl
      have z3 : V2.cell? ⟨b, o + 3, none⟩ = some (.int .i64 sg) := hrc 3 _ rfl
      have z4 : V2.cell? ⟨b, o + 4, none⟩ = some (.int .i64 uh) := hrc 4 _ rfl
      have z5 : V2.cell? ⟨b, o + 5, none⟩ = some (.int .i64 ul) := hrc 5 _ rfl
      have z6 : V2.cell? ⟨b, o + 6, none⟩ = some (.int .i64 xn) := hrc 6 _ rfl
      have z7 : V2.cell? ⟨b, o + 7, none⟩ = some (.slice xa xl.length xc) := hrc 7 _ rfl
      have HP : Hid (SzP tb g b lo hi pre post R w (.returned (.tuple #[])) V2) := Lib.hid (by
        rw [HE.out]
        exact size_end HQ.out.1 kk2 rr2 (by simpa using o2) (szL_len _ _ _ _) s2)
      clear hrc kk2 rr2 k2 o2 s2
      go_wp2
      exact bodyPost_end (v := .tuple #[]) (by simp [results, Tryd.results31, go_sem]) rfl HP.out
  · by_cases t0 : w0 = 0
    · have e0 : (w0 == 0) = true := by rw [beq_iff_eq]; exact t0
      have hU : orU p = u := by rw [← hu, if_pos t0]
      clear t0 hu
      obtain ⟨B1, hB1⟩ : ∃ x, (p == u) = x := ⟨_, rfl⟩
      have HE : Hid (R = (.mk 3 u v sg uh ul xn xa xc (szL xl 0 (fun _ => (false, 0)) (wantF f B1 90)).1, (szL xl 0 (fun _ => (false, 0)) (wantF f B1 90)).2)) := Lib.hid (by
        rw [HR.out]
        have h8 : preF 3 xn p u v f = wantF f B1 90 := by simp [preF, hB1]
        have h9 : szL xl 0 (insF 3 xn u (owL xl)) (wantF f B1 90) = szL xl 0 (fun _ => (false, 0)) (wantF f B1 90) := szL_congr xl 0 0 _ _ _ (fun j _ => by simp [insF])
        rw [h8, h9]
        simp [postF])
      go_enter Tryd.func31, Tryd.ntmps31
      go_wp2_with fail
      refine c0.mono ?_
      clear c0 z0 z1 z2 z3 z4 z5 z6 z7
      rintro e W1 ⟨rfl, hb1⟩
      have hr1 := HX.out.1.keep (hb1.block b (Array.getElem?_eq_some_iff.1 HX.out.1).1)
      have hrc1 := rowT_cells hr1 o HPL.out
      have y0 : W1.cell? ⟨b, o, none⟩ = some (.int .i64 3) := hrc1 0 _ rfl
      have y1 : W1.cell? ⟨b, o + 1, none⟩ = some (.int .i64 wd) := hrc1 1 _ rfl
      have y2 : W1.cell? ⟨b, o + 2, none⟩ = some (.int .u64 (v : Int)) := hrc1 2 _ rfl
      have y3 : W1.cell? ⟨b, o + 3, none⟩ = some (.int .i64 sg) := hrc1 3 _ rfl
      have y4 : W1.cell? ⟨b, o + 4, none⟩ = some (.int .i64 uh) := hrc1 4 _ rfl
      have y5 : W1.cell? ⟨b, o + 5, none⟩ = some (.int .i64 ul) := hrc1 5 _ rfl
      have y6 : W1.cell? ⟨b, o + 6, none⟩ = some (.int .i64 xn) := hrc1 6 _ rfl
      have y7 : W1.cell? ⟨b, o + 7, none⟩ = some (.slice xa xl.length xc) := hrc1 7 _ rfl
      obtain ⟨q0, q1, q2, q3, q4, q5, q6, q7⟩ := RowT.thaw hr1 o
      obtain ⟨W2, hW2⟩ : ∃ W2, W1.setCell ⟨b, o + 1, none⟩ (.int .i64 u) = W2 := ⟨_, rfl⟩
      have hr2 := RowT.setW hr1 o HPL.out u
      rw [hW2] at hr2
      have hk2 : KeptP (Chg b g lo hi) w W2 := (KeptP.of_below hb1).trans (by rw [← hW2]; exact KeptP.setCell W1 ⟨b, o + 1, none⟩ _ (Or.inl rfl))
      have hot : ∀ k, k < w.heap.size → k ≠ b → W2.heap[k]? = w.heap[k]? := fun k h1 h2 => by rw [← hW2, Below.heap_setCell W1 ⟨b, o + 1, none⟩ _ k h2]; exact hb1.block k h1
      have ho2 : OwnRow W2 lo hi xa xc xl := HX.out.2.1.keepP (fun k h1 h2 => hot k (by have := HX.out.2.2.2.1; omega) (by have := HX.out.2.2.2.2.1; omega))
      have hs2 : SzAt g f W2 := HX.out.2.2.1.keep (hot g (Array.getElem?_eq_some_iff.1 HX.out.2.2.1).1 HX.out.2.2.2.2.2.2)
      have hh2 : hi ≤ W2.heap.size := Nat.le_trans HX.out.2.2.2.1 hk2.size
      have hrc2 := rowT_cells hr2 o HPL.out
      have z0 : W2.cell? ⟨b, o, none⟩ = some (.int .i64 3) := hrc2 0 _ rfl
      have z1 : W2.cell? ⟨b, o + 1, none⟩ = some (.int .i64 u) := hrc2 1 _ rfl
      have z2 : W2.cell? ⟨b, o + 2, none⟩ = some (.int .u64 (v : Int)) := hrc2 2 _ rfl
      have z3 : W2.cell? ⟨b, o + 3, none⟩ = some (.int .i64 sg) := hrc2 3 _ rfl
      have z4 : W2.cell? ⟨b, o + 4, none⟩ = some (.int .i64 uh) := hrc2 4 _ rfl
      have z5 : W2.cell? ⟨b, o + 5, none⟩ = some (.int .i64 ul) := hrc2 5 _ rfl
      have z6 : W2.cell? ⟨b, o + 6, none⟩ = some (.int .i64 xn) := hrc2 6 _ rfl
      have z7 : W2.cell? ⟨b, o + 7, none⟩ = some (.slice xa xl.length xc) := hrc2 7 _ rfl
      have HQ := Lib.hid (And.intro hk2 (And.intro hr2 (And.intro ho2 (And.intro hs2 hh2))))
      clear hb1 hr1 hrc1 hk2 hot ho2 hs2 hh2 hrc2 hr2
      go_wp2_with fail
      refine (orUsual_any p W1).mono ?_
      rintro e W9 ⟨rfl, rfl⟩
      rw [hU]
      have KK0 := Lib.hid (And.intro (KeptP.refl (Chp g lo hi) W2) HQ.out.2.2.1)
      have s0 := HQ.out.2.2.2.1
      have cw := want_any g f B1 90 W2 s0
      have cwK := Lib.hid cw
      clear cw
      go_wp2_with fail
      refine cwK.out.mono ?_
      clear cwK
      rintro e V1 ⟨rfl, k1, s1⟩
      have kk1 : KeptP (Chp g lo hi) W2 V1 := KK0.out.1.trans (KeptP.of_kb1 k1 (Or.inl rfl))
      have oo1 : OwnRow V1 lo hi xa xc xl := own_keepK KK0.out.2 k1 (Nat.le_trans HQ.out.2.2.2.2 KK0.out.1.size) HX.out.2.2.2.2.2.1
      have rr1 := row_keepP HQ.out.2.1 kk1 HX.out.2.2.2.2.1 HX.out.2.2.2.2.2.2
      have hrc := rowT_cells rr1 o HPL.out
      clear z0 z1 z2 z3 z4 z5 z6 z7
      have z0 : V1.cell? ⟨b, o, none⟩ = some (.int .i64 3) := hrc 0 _ rfl
      have z1 : V1.cell? ⟨b, o + 1, none⟩ = some (.int .i64 u) := hrc 1 _ rfl
      have z2 : V1.cell? ⟨b, o + 2, none⟩ = some (.int .u64 (v : Int)) := hrc 2 _ rfl
      have z3 : V1.cell? ⟨b, o + 3, none⟩ = some (.int .i64 sg) := hrc 3 _ rfl
      have z4 : V1.cell? ⟨b, o + 4, none⟩ = some (.int .i64 uh) := hrc 4 _ rfl
      have z5 : V1.cell? ⟨b, o + 5, none⟩ = some (.int .i64 ul) := hrc 5 _ rfl
      have z6 : V1.cell? ⟨b, o + 6, none⟩ = some (.int .i64 xn) := hrc 6 _ rfl
      have z7 : V1.cell? ⟨b, o + 7, none⟩ = some (.slice xa xl.length xc) := hrc 7 _ rfl
      have KK1 := Lib.hid (And.intro kk1 oo1)
      clear hrc kk1 oo1 rr1 k1
      have cz := sizeRow_any 0 g lo hi xa xc xl HL.out.1 (fun x hx => (HC.out x hx).1) (wantF f B1 90) V1 (Nat.le_trans HQ.out.2.2.2.2 KK1.out.1.size) HX.out.2.2.2.2.2.1 KK1.out.2 s1
      have czK := Lib.hid cz
      clear cz
      go_wp2_with fail
      refine czK.out.mono ?_
      clear czK
      rintro e V2 ⟨rfl, k2, o2, s2⟩
      have kk2 : KeptP (Chp g lo hi) W2 V2 := KK1.out.1.trans k2
      have rr2 := row_keepP HQ.out.2.1 kk2 HX.out.2.2.2.2.1 HX.out.2.2.2.2.2.2
      have hrc := rowT_cells rr2 o HPL.out
      clear z0 z1 z2 z3 z4 z5 z6 z7
      have z0 : V2.cell? ⟨b, o, none⟩ = some (.int .i64 3) := hrc 0 _ rfl
      have z1 : V2.cell? ⟨b, o + 1, none⟩ = some (.int .i64 u) := hrc 1 _ rfl
      have z2 : V2.cell? ⟨b, o + 2, none⟩ = some (.int .u64 (v : Int)) := hrc 2 _ rfl
      have z3 : V2.cell? ⟨b, o + 3, none⟩ = some (.int .i64 sg) := hrc 3 _ rfl
      have z4 : V2.cell? ⟨b, o + 4, none⟩ = some (.int .i64 uh) := hrc 4 _ rfl
      have z5 : V2.cell? ⟨b, o + 5, none⟩ = some (.int .i64 ul) := hrc 5 _ rfl
      have z6 : V2.cell? ⟨b, o + 6, none⟩ = some (.int .i64 xn) := hrc 6 _ rfl
      have z7 : V2.cell? ⟨b, o + 7, none⟩ = some (.slice xa xl.length xc) := hrc 7 _ rfl
      have HP : Hid (SzP tb g b lo hi pre post R w (.returned (.tuple #[])) V2) := Lib.hid (by
        rw [HE.out]
        exact size_end HQ.out.1 kk2 rr2 (by simpa using o2) (szL_len _ _ _ _) s2)
      clear hrc kk2 rr2 k2 o2 s2
      go_wp2
      exact bodyPost_end (v := .tuple #[]) (by simp [results, Tryd.results31, go_sem]) rfl HP.out
    · have e0 : (w0 == 0) = false := by rw [beq_eq_false_iff_ne]; exact t0
      have hU : w0 = u := by rw [← hu, if_neg t0]
      subst hU
      clear t0 hu
      obtain ⟨B1, hB1⟩ : ∃ x, (p == w0) = x := ⟨_, rfl⟩
      have HE : Hid (R = (.mk 3 w0 v sg uh ul xn xa xc (szL xl 0 (fun _ => (false, 0)) (wantF f B1 90)).1, (szL xl 0 (fun _ => (false, 0)) (wantF f B1 90)).2)) := Lib.hid (by
        rw [HR.out]
        have h8 : preF 3 xn p w0 v f = wantF f B1 90 := by simp [preF, hB1]
        have h9 : szL xl 0 (insF 3 xn w0 (owL xl)) (wantF f B1 90) = szL xl 0 (fun _ => (false, 0)) (wantF f B1 90) := szL_congr xl 0 0 _ _ _ (fun j _ => by simp [insF])
        rw [h8, h9]
        simp [postF])
      go_enter Tryd.func31, Tryd.ntmps31
      go_wp2_with fail
      refine c0.mono ?_
      clear c0 z0 z1 z2 z3 z4 z5 z6 z7
      rintro e W1 ⟨rfl, hb1⟩
      have hr1 := HX.out.1.keep (hb1.block b (Array.getElem?_eq_some_iff.1 HX.out.1).1)
      have hrc1 := rowT_cells hr1 o HPL.out
      have y0 : W1.cell? ⟨b, o, none⟩ = some (.int .i64 3) := hrc1 0 _ rfl
      have y1 : W1.cell? ⟨b, o + 1, none⟩ = some (.int .i64 wd) := hrc1 1 _ rfl
      have y2 : W1.cell? ⟨b, o + 2, none⟩ = some (.int .u64 (v : Int)) := hrc1 2 _ rfl
      have y3 : W1.cell? ⟨b, o + 3, none⟩ = some (.int .i64 sg) := hrc1 3 _ rfl
      have y4 : W1.cell? ⟨b, o + 4, none⟩ = some (.int .i64 uh) := hrc1 4 _ rfl
      have y5 : W1.cell? ⟨b, o + 5, none⟩ = some (.int .i64 ul) := hrc1 5 _ rfl
      have y6 : W1.cell? ⟨b, o + 6, none⟩ = some (.int .i64 xn) := hrc1 6 _ rfl
      have y7 : W1.cell? ⟨b, o + 7, none⟩ = some (.slice xa xl.length xc) := hrc1 7 _ rfl
      obtain ⟨q0, q1, q2, q3, q4, q5, q6, q7⟩ := RowT.thaw hr1 o
      obtain ⟨W2, hW2⟩ : ∃ W2, W1.setCell ⟨b, o + 1, none⟩ (.int .i64 w0) = W2 := ⟨_, rfl⟩
      have hr2 := RowT.setW hr1 o HPL.out w0
      rw [hW2] at hr2
      have hk2 : KeptP (Chg b g lo hi) w W2 := (KeptP.of_below hb1).trans (by rw [← hW2]; exact KeptP.setCell W1 ⟨b, o + 1, none⟩ _ (Or.inl rfl))
      have hot : ∀ k, k < w.heap.size → k ≠ b → W2.heap[k]? = w.heap[k]? := fun k h1 h2 => by rw [← hW2, Below.heap_setCell W1 ⟨b, o + 1, none⟩ _ k h2]; exact hb1.block k h1
      have ho2 : OwnRow W2 lo hi xa xc xl := HX.out.2.1.keepP (fun k h1 h2 => hot k (by have := HX.out.2.2.2.1; omega) (by have := HX.out.2.2.2.2.1; omega))
      have hs2 : SzAt g f W2 := HX.out.2.2.1.keep (hot g (Array.getElem?_eq_some_iff.1 HX.out.2.2.1).1 HX.out.2.2.2.2.2.2)
      have hh2 : hi ≤ W2.heap.size := Nat.le_trans HX.out.2.2.2.1 hk2.size
      have hrc2 := rowT_cells hr2 o HPL.out
      have z0 : W2.cell? ⟨b, o, none⟩ = some (.int .i64 3) := hrc2 0 _ rfl
      have z1 : W2.cell? ⟨b, o + 1, none⟩ = some (.int .i64 w0) := hrc2 1 _ rfl
      have z2 : W2.cell? ⟨b, o + 2, none⟩ = some (.int .u64 (v : Int)) := hrc2 2 _ rfl
      have z3 : W2.cell? ⟨b, o + 3, none⟩ = some (.int .i64 sg) := hrc2 3 _ rfl
      have z4 : W2.cell? ⟨b, o + 4, none⟩ = some (.int .i64 uh) := hrc2 4 _ rfl
      have z5 : W2.cell? ⟨b, o + 5, none⟩ = some (.int .i64 ul) := hrc2 5 _ rfl
      have z6 : W2.cell? ⟨b, o + 6, none⟩ = some (.int .i64 xn) := hrc2 6 _ rfl
      have z7 : W2.cell? ⟨b, o + 7, none⟩ = some (.slice xa xl.length xc) := hrc2 7 _ rfl
      have HQ := Lib.hid (And.intro hk2 (And.intro hr2 (And.intro ho2 (And.intro hs2 hh2))))
      clear hb1 hr1 hrc1 hk2 hot ho2 hs2 hh2 hrc2 hr2
      have KK0 := Lib.hid (And.intro (KeptP.refl (Chp g lo hi) W2) HQ.out.2.2.1)
      have s0 := HQ.out.2.2.2.1
      have cw := want_any g f B1 90 W2 s0
      have cwK := Lib.hid cw
      clear cw
      go_wp2_with fail
      refine cwK.out.mono ?_
      clear cwK
      rintro e V1 ⟨rfl, k1, s1⟩
      have kk1 : KeptP (Chp g lo hi) W2 V1 := KK0.out.1.trans (KeptP.of_kb1 k1 (Or.inl rfl))
      have oo1 : OwnRow V1 lo hi xa xc xl := own_keepK KK0.out.2 k1 (Nat.le_trans HQ.out.2.2.2.2 KK0.out.1.size) HX.out.2.2.2.2.2.1
      have rr1 := row_keepP HQ.out.2.1 kk1 HX.out.2.2.2.2.1 HX.out.2.2.2.2.2.2
      have hrc := rowT_cells rr1 o HPL.out
      clear z0 z1 z2 z3 z4 z5 z6 z7
      have z0 : V1.cell? ⟨b, o, none⟩ = some (.int .i64 3) := hrc 0 _ rfl
      have z1 : V1.cell? ⟨b, o + 1, none⟩ = some (.int .i64 w0) := hrc 1 _ rfl
      have z2 : V1.cell? ⟨b, o + 2, none⟩ = some (.int .u64 (v : Int)) := hrc 2 _ rfl
      have z3 : V1.cell? ⟨b, o + 3, none⟩ = some (.int .i64 sg) := hrc 3 _ rfl
      have z4 : V1.cell? ⟨b, o + 4, none⟩ = some (.int .i64 uh) := hrc 4 _ rfl
      have z5 : V1.cell? ⟨b, o + 5, none⟩ = some (.int .i64 ul) := hrc 5 _ rfl
      have z6 : V1.cell? ⟨b, o + 6, none⟩ = some (.int .i64 xn) := hrc 6 _ rfl
      have z7 : V1.cell? ⟨b, o + 7, none⟩ = some (.slice xa xl.length xc) := hrc 7 _ rfl
      have KK1 := Lib.hid (And.intro kk1 oo1)
      clear hrc kk1 oo1 rr1 k1
      have cz := sizeRow_any 0 g lo hi xa xc xl HL.out.1 (fun x hx => (HC.out x hx).1) (wantF f B1 90) V1 (Nat.le_trans HQ.out.2.2.2.2 KK1.out.1.size) HX.out.2.2.2.2.2.1 KK1.out.2 s1
      have czK := Lib.hid cz
      clear cz
      go_wp2_with fail
      refine czK.out.mono ?_
      clear czK
      rintro e V2 ⟨rfl, k2, o2, s2⟩
      have kk2 : KeptP (Chp g lo hi) W2 V2 := KK1.out.1.trans k2
      have rr2 := row_keepP HQ.out.2.1 kk2 HX.out.2.2.2.2.1 HX.out.2.2.2.2.2.2
      have hrc := rowT_cells rr2 o HPL.out
      clear z0 z1 z2 z3 z4 z5 z6 z7
      have z0 : V2.cell? ⟨b, o, none⟩ = some (.int .i64 3) := hrc 0 _ rfl
      have z1 : V2.cell? ⟨b, o + 1, none⟩ = some (.int .i64 w0) := hrc 1 _ rfl
      have z2 : V2.cell? ⟨b, o + 2, none⟩ = some (.int .u64 (v : Int)) := hrc 2 _ rfl
      have z3 : V2.cell? ⟨b, o + 3, none⟩ = some (.int .i64 sg) := hrc 3 _ rfl
      have z4 : V2.cell? ⟨b, o + 4, none⟩ = some (.int .i64 uh) := hrc 4 _ rfl
      have z5 : V2.cell? ⟨b, o + 5, none⟩ = some (.int .i64 ul) := hrc 5 _ rfl
      have z6 : V2.cell? ⟨b, o + 6, none⟩ = some (.int .i64 xn) := hrc 6 _ rfl
      have z7 : V2.cell? ⟨b, o + 7, none⟩ = some (.slice xa xl.length xc) := hrc 7 _ rfl
      have HP : Hid (SzP tb g b lo hi pre post R w (.returned (.tuple #[])) V2) := Lib.hid (by
        rw [HE.out]
        exact size_end HQ.out.1 kk2 rr2 (by simpa using o2) (szL_len _ _ _ _) s2)
      clear hrc kk2 rr2 k2 o2 s2
      go_wp2
      exact bodyPost_end (v := .tuple #[]) (by simp [results, Tryd.results31, go_sem]) rfl HP.out
  · by_cases t0 : w0 = 0
    · have e0 : (w0 == 0) = true := by rw [beq_iff_eq]; exact t0
      have hU : orU p = u := by rw [← hu, if_pos t0]
      clear t0 hu
      have HE : Hid (R = (.mk 4 u v sg uh ul xn xa xc (szL xl 0 (insF 4 xn u (owL xl)) (preF 4 xn 0 u 0 f)).1, (szL xl 0 (insF 4 xn u (owL xl)) (preF 4 xn 0 u 0 f)).2)) := Lib.hid (by
        rw [HR.out]
        have h8 : preF 4 xn p u v f = preF 4 xn 0 u 0 f := by simp [preF]
        have h9 : szL xl 0 (insF 4 xn u (owL xl)) (preF 4 xn 0 u 0 f) = szL xl 0 (insF 4 xn u (owL xl)) (preF 4 xn 0 u 0 f) := szL_congr xl 0 0 _ _ _ (fun j _ => by simp [insF])
        rw [h8, h9]
        simp [postF])
      have HSH45 := HSH.out.1 (by first | exact Or.inl rfl | exact Or.inr rfl)
      go_enter Tryd.func31, Tryd.ntmps31
      go_wp2_with fail
      refine c0.mono ?_
      clear c0 z0 z1 z2 z3 z4 z5 z6 z7
      rintro e W1 ⟨rfl, hb1⟩
      have hr1 := HX.out.1.keep (hb1.block b (Array.getElem?_eq_some_iff.1 HX.out.1).1)
      have hrc1 := rowT_cells hr1 o HPL.out
      have y0 : W1.cell? ⟨b, o, none⟩ = some (.int .i64 4) := hrc1 0 _ rfl
      have y1 : W1.cell? ⟨b, o + 1, none⟩ = some (.int .i64 wd) := hrc1 1 _ rfl
      have y2 : W1.cell? ⟨b, o + 2, none⟩ = some (.int .u64 (v : Int)) := hrc1 2 _ rfl
      have y3 : W1.cell? ⟨b, o + 3, none⟩ = some (.int .i64 sg) := hrc1 3 _ rfl
      have y4 : W1.cell? ⟨b, o + 4, none⟩ = some (.int .i64 uh) := hrc1 4 _ rfl
      have y5 : W1.cell? ⟨b, o + 5, none⟩ = some (.int .i64 ul) := hrc1 5 _ rfl
      have y6 : W1.cell? ⟨b, o + 6, none⟩ = some (.int .i64 xn) := hrc1 6 _ rfl
      have y7 : W1.cell? ⟨b, o + 7, none⟩ = some (.slice xa xl.length xc) := hrc1 7 _ rfl
      obtain ⟨q0, q1, q2, q3, q4, q5, q6, q7⟩ := RowT.thaw hr1 o
      obtain ⟨W2, hW2⟩ : ∃ W2, W1.setCell ⟨b, o + 1, none⟩ (.int .i64 u) = W2 := ⟨_, rfl⟩
      have hr2 := RowT.setW hr1 o HPL.out u
      rw [hW2] at hr2
      have hk2 : KeptP (Chg b g lo hi) w W2 := (KeptP.of_below hb1).trans (by rw [← hW2]; exact KeptP.setCell W1 ⟨b, o + 1, none⟩ _ (Or.inl rfl))
      have hot : ∀ k, k < w.heap.size → k ≠ b → W2.heap[k]? = w.heap[k]? := fun k h1 h2 => by rw [← hW2, Below.heap_setCell W1 ⟨b, o + 1, none⟩ _ k h2]; exact hb1.block k h1
      have ho2 : OwnRow W2 lo hi xa xc xl := HX.out.2.1.keepP (fun k h1 h2 => hot k (by have := HX.out.2.2.2.1; omega) (by have := HX.out.2.2.2.2.1; omega))
      have hs2 : SzAt g f W2 := HX.out.2.2.1.keep (hot g (Array.getElem?_eq_some_iff.1 HX.out.2.2.1).1 HX.out.2.2.2.2.2.2)
      have hh2 : hi ≤ W2.heap.size := Nat.le_trans HX.out.2.2.2.1 hk2.size
      have hrc2 := rowT_cells hr2 o HPL.out
      have z0 : W2.cell? ⟨b, o, none⟩ = some (.int .i64 4) := hrc2 0 _ rfl
      have z1 : W2.cell? ⟨b, o + 1, none⟩ = some (.int .i64 u) := hrc2 1 _ rfl
      have z2 : W2.cell? ⟨b, o + 2, none⟩ = some (.int .u64 (v : Int)) := hrc2 2 _ rfl
      have z3 : W2.cell? ⟨b, o + 3, none⟩ = some (.int .i64 sg) := hrc2 3 _ rfl
      have z4 : W2.cell? ⟨b, o + 4, none⟩ = some (.int .i64 uh) := hrc2 4 _ rfl
      have z5 : W2.cell? ⟨b, o + 5, none⟩ = some (.int .i64 ul) := hrc2 5 _ rfl
      have z6 : W2.cell? ⟨b, o + 6, none⟩ = some (.int .i64 xn) := hrc2 6 _ rfl
      have z7 : W2.cell? ⟨b, o + 7, none⟩ = some (.slice xa xl.length xc) := hrc2 7 _ rfl
      have HQ := Lib.hid (And.intro hk2 (And.intro hr2 (And.intro ho2 (And.intro hs2 hh2))))
      clear hb1 hr1 hrc1 hk2 hot ho2 hs2 hh2 hrc2 hr2
      go_wp2_with fail
      refine (orUsual_any p W1).mono ?_
      rintro e W9 ⟨rfl, rfl⟩
      rw [hU]
      have KK0 := Lib.hid (And.intro (KeptP.refl (Chp g lo hi) W2) HQ.out.2.2.1)
      have s0 := HQ.out.2.2.2.1
      have cz := operation_any g b o lo hi pre post u v 4 sg uh ul xn xa xc xl HL.out.1 HSH45 HC.out f W2 HPL.out HQ.out.2.2.2.2 HL.out.2.1 HX.out.2.2.2.2.1 HX.out.2.2.2.2.2.1 HX.out.2.2.2.2.2.2 HQ.out.2.1 KK0.out.2 s0
      have czK := Lib.hid cz
      clear cz
      go_wp2_with fail
      refine czK.out.mono ?_
      clear czK
      rintro e V1 ⟨rfl, k1, o1, s1⟩
      have kk1 : KeptP (Chp g lo hi) W2 V1 := KK0.out.1.trans k1
      have rr1 := row_keepP HQ.out.2.1 kk1 HX.out.2.2.2.2.1 HX.out.2.2.2.2.2.2
      have hrc := rowT_cells rr1 o HPL.out
      clear z0 z1 z2 z3 z4 z5 z6 z7
      have z0 : V1.cell? ⟨b, o, none⟩ = some (.int .i64 4) := hrc 0 _ rfl
      have z1 : V1.cell? ⟨b, o + 1, none⟩ = some (.int .i64 u) := hrc 1 _ rfl
      have z2 : V1.cell? ⟨b, o + 2, none⟩ = some (.int .u64 (v : Int)) := hrc 2 _ rfl
      have z3 : V1.cell? ⟨b, o + 3, none⟩ = some (.int .i64 sg) := hrc 3 _ rfl
      have z4 : V1.cell? ⟨b, o + 4, none⟩ = some (.int .i64 uh) := hrc 4 _ rfl
      have z5 : V1.cell? ⟨b, o + 5, none⟩ = some (.int .i64 ul) := hrc 5 _ rfl
      have z6 : V1.cell? ⟨b, o + 6, none⟩ = some (.int .i64 xn) := hrc 6 _ rfl
      have z7 : V1.cell? ⟨b, o + 7, none⟩ = some (.slice xa xl.length xc) := hrc 7 _ rfl
      have HP : Hid (SzP tb g b lo hi pre post R w (.returned (.tuple #[])) V1) := Lib.hid (by
        rw [HE.out]
        exact size_end HQ.out.1 kk1 rr1 (by simpa using o1) (szL_len _ _ _ _) s1)
      clear hrc kk1 rr1 k1 o1 s1
      go_wp2
      exact bodyPost_end (v := .tuple #[]) (by simp [results, Tryd.results31, go_sem]) rfl HP.out
    · have e0 : (w0 == 0) = false := by rw [beq_eq_false_iff_ne]; exact t0
      have hU : w0 = u := by rw [← hu, if_neg t0]
      subst hU
      clear t0 hu
      have HE : Hid (R = (.mk 4 w0 v sg uh ul xn xa xc (szL xl 0 (insF 4 xn w0 (owL xl)) (preF 4 xn 0 w0 0 f)).1, (szL xl 0 (insF 4 xn w0 (owL xl)) (preF 4 xn 0 w0 0 f)).2)) := Lib.hid (by
        rw [HR.out]
        have h8 : preF 4 xn p w0 v f = preF 4 xn 0 w0 0 f := by simp [preF]
        have h9 : szL xl 0 (insF 4 xn w0 (owL xl)) (preF 4 xn 0 w0 0 f) = szL xl 0 (insF 4 xn w0 (owL xl)) (preF 4 xn 0 w0 0 f) := szL_congr xl 0 0 _ _ _ (fun j _ => by simp [insF])
        rw [h8, h9]
        simp [postF])
      have HSH45 := HSH.out.1 (by first | exact Or.inl rfl | exact Or.inr rfl)
      go_enter Tryd.func31, Tryd.ntmps31
      go_wp2_with fail
      refine c0.mono ?_
      clear c0 z0 z1 z2 z3 z4 z5 z6 z7
      rintro e W1 ⟨rfl, hb1⟩
      have hr1 := HX.out.1.keep (hb1.block b (Array.getElem?_eq_some_iff.1 HX.out.1).1)
      have hrc1 := rowT_cells hr1 o HPL.out
      have y0 : W1.cell? ⟨b, o, none⟩ = some (.int .i64 4) := hrc1 0 _ rfl
      have y1 : W1.cell? ⟨b, o + 1, none⟩ = some (.int .i64 wd) := hrc1 1 _ rfl
      have y2 : W1.cell? ⟨b, o + 2, none⟩ = some (.int .u64 (v : Int)) := hrc1 2 _ rfl
      have y3 : W1.cell? ⟨b, o + 3, none⟩ = some (.int .i64 sg) := hrc1 3 _ rfl
      have y4 : W1.cell? ⟨b, o + 4, none⟩ = some (.int .i64 uh) := hrc1 4 _ rfl
      have y5 : W1.cell? ⟨b, o + 5, none⟩ = some (.int .i64 ul) := hrc1 5 _ rfl
      have y6 : W1.cell? ⟨b, o + 6, none⟩ = some (.int .i64 xn) := hrc1 6 _ rfl
      have y7 : W1.cell? ⟨b, o + 7, none⟩ = some (.slice xa xl.length xc) := hrc1 7 _ rfl
      obtain ⟨q0, q1, q2, q3, q4, q5, q6, q7⟩ := RowT.thaw hr1 o
      obtain ⟨W2, hW2⟩ : ∃ W2, W1.setCell ⟨b, o + 1, none⟩ (.int .i64 w0) = W2 := ⟨_, rfl⟩
      have hr2 := RowT.setW hr1 o HPL.out w0
      rw [hW2] at hr2
      have hk2 : KeptP (Chg b g lo hi) w W2 := (KeptP.of_below hb1).trans (by rw [← hW2]; exact KeptP.setCell W1 ⟨b, o + 1, none⟩ _ (Or.inl rfl))
      have hot : ∀ k, k < w.heap.size → k ≠ b → W2.heap[k]? = w.heap[k]? := fun k h1 h2 => by rw [← hW2, Below.heap_setCell W1 ⟨b, o + 1, none⟩ _ k h2]; exact hb1.block k h1
      have ho2 : OwnRow W2 lo hi xa xc xl := HX.out.2.1.keepP (fun k h1 h2 => hot k (by have := HX.out.2.2.2.1; omega) (by have := HX.out.2.2.2.2.1; omega))
      have hs2 : SzAt g f W2 := HX.out.2.2.1.keep (hot g (Array.getElem?_eq_some_iff.1 HX.out.2.2.1).1 HX.out.2.2.2.2.2.2)
      have hh2 : hi ≤ W2.heap.size := Nat.le_trans HX.out.2.2.2.1 hk2.size
      have hrc2 := rowT_cells hr2 o HPL.out
      have z0 : W2.cell? ⟨b, o, none⟩ = some (.int .i64 4) := hrc2 0 _ rfl
      have z1 : W2.cell? ⟨b, o + 1, none⟩ = some (.int .i64 w0) := hrc2 1 _ rfl
      have z2 : W2.cell? ⟨b, o + 2, none⟩ = some (.int .u64 (v : Int)) := hrc2 2 _ rfl
      have z3 : W2.cell? ⟨b, o + 3, none⟩ = some (.int .i64 sg) := hrc2 3 _ rfl
      have z4 : W2.cell? ⟨b, o + 4, none⟩ = some (.int .i64 uh) := hrc2 4 _ rfl
      have z5 : W2.cell? ⟨b, o + 5, none⟩ = some (.int .i64 ul) := hrc2 5 _ rfl
      have z6 : W2.cell? ⟨b, o + 6, none⟩ = some (.int .i64 xn) := hrc2 6 _ rfl
      have z7 : W2.cell? ⟨b, o + 7, none⟩ = some (.slice xa xl.length xc) := hrc2 7 _ rfl
      have HQ := Lib.hid (And.intro hk2 (And.intro hr2 (And.intro ho2 (And.intro hs2 hh2))))
      clear hb1 hr1 hrc1 hk2 hot ho2 hs2 hh2 hrc2 hr2
      have KK0 := Lib.hid (And.intro (KeptP.refl (Chp g lo hi) W2) HQ.out.2.2.1)
      have s0 := HQ.out.2.2.2.1
      have cz := operation_any g b o lo hi pre post w0 v 4 sg uh ul xn xa xc xl HL.out.1 HSH45 HC.out f W2 HPL.out HQ.out.2.2.2.2 HL.out.2.1 HX.out.2.2.2.2.1 HX.out.2.2.2.2.2.1 HX.out.2.2.2.2.2.2 HQ.out.2.1 KK0.out.2 s0
      have czK := Lib.hid cz
      clear cz
      go_wp2_with fail
      refine czK.out.mono ?_
      clear czK
      rintro e V1 ⟨rfl, k1, o1, s1⟩
      have kk1 : KeptP (Chp g lo hi) W2 V1 := KK0.out.1.trans k1
      have rr1 := row_keepP HQ.out.2.1 kk1 HX.out.2.2.2.2.1 HX.out.2.2.2.2.2.2
      have hrc := rowT_cells rr1 o HPL.out
      clear z0 z1 z2 z3 z4 z5 z6 z7
      have z0 : V1.cell? ⟨b, o, none⟩ = some (.int .i64 4) := hrc 0 _ rfl
      have z1 : V1.cell? ⟨b, o + 1, none⟩ = some (.int .i64 w0) := hrc 1 _ rfl
      have z2 : V1.cell? ⟨b, o + 2, none⟩ = some (.int .u64 (v : Int)) := hrc 2 _ rfl
      have z3 : V1.cell? ⟨b, o + 3, none⟩ = some (.int .i64 sg) := hrc 3 _ rfl
      have z4 : V1.cell? ⟨b, o + 4, none⟩ = some (.int .i64 uh) := hrc 4 _ rfl
      have z5 : V1.cell? ⟨b, o + 5, none⟩ = some (.int .i64 ul) := hrc 5 _ rfl
      have z6 : V1.cell? ⟨b, o + 6, none⟩ = some (.int .i64 xn) := hrc 6 _ rfl
      have z7 : V1.cell? ⟨b, o + 7, none⟩ = some (.slice xa xl.length xc) := hrc 7 _ rfl
      have HP : Hid (SzP tb g b lo hi pre post R w (.returned (.tuple #[])) V1) := Lib.hid (by
        rw [HE.out]
        exact size_end HQ.out.1 kk1 rr1 (by simpa using o1) (szL_len _ _ _ _) s1)
      clear hrc kk1 rr1 k1 o1 s1
      go_wp2
      exact bodyPost_end (v := .tuple #[]) (by simp [results, Tryd.results31, go_sem]) rfl HP.out
  · by_cases t0 : w0 = 0
    · have e0 : (w0 == 0) = true := by rw [beq_iff_eq]; exact t0
      have hU : orU p = u := by rw [← hu, if_pos t0]
      clear t0 hu
      have HE : Hid (R = (.mk 5 u v sg uh ul xn xa xc (szL xl 0 (insF 4 xn u (owL xl)) (preF 4 xn 0 u 0 f)).1, (szL xl 0 (insF 4 xn u (owL xl)) (preF 4 xn 0 u 0 f)).2)) := Lib.hid (by
        rw [HR.out]
        have h8 : preF 5 xn p u v f = preF 4 xn 0 u 0 f := by simp [preF]
        have h9 : szL xl 0 (insF 5 xn u (owL xl)) (preF 4 xn 0 u 0 f) = szL xl 0 (insF 4 xn u (owL xl)) (preF 4 xn 0 u 0 f) := szL_congr xl 0 0 _ _ _ (fun j _ => by simp [insF])
        rw [h8, h9]
        simp [postF])
      have HSH45 := HSH.out.1 (by first | exact Or.inl rfl | exact Or.inr rfl)
      go_enter Tryd.func31, Tryd.ntmps31
      go_wp2_with fail
      refine c0.mono ?_
      clear c0 z0 z1 z2 z3 z4 z5 z6 z7
      rintro e W1 ⟨rfl, hb1⟩
      have hr1 := HX.out.1.keep (hb1.block b (Array.getElem?_eq_some_iff.1 HX.out.1).1)
      have hrc1 := rowT_cells hr1 o HPL.out
      have y0 : W1.cell? ⟨b, o, none⟩ = some (.int .i64 5) := hrc1 0 _ rfl
      have y1 : W1.cell? ⟨b, o + 1, none⟩ = some (.int .i64 wd) := hrc1 1 _ rfl
      have y2 : W1.cell? ⟨b, o + 2, none⟩ = some (.int .u64 (v : Int)) := hrc1 2 _ rfl
      have y3 : W1.cell? ⟨b, o + 3, none⟩ = some (.int .i64 sg) := hrc1 3 _ rfl
      have y4 : W1.cell? ⟨b, o + 4, none⟩ = some (.int .i64 uh) := hrc1 4 _ rfl
      have y5 : W1.cell? ⟨b, o + 5, none⟩ = some (.int .i64 ul) := hrc1 5 _ rfl
      have y6 : W1.cell? ⟨b, o + 6, none⟩ = some (.int .i64 xn) := hrc1 6 _ rfl
      have y7 : W1.cell? ⟨b, o + 7, none⟩ = some (.slice xa xl.length xc) := hrc1 7 _ rfl
      obtain ⟨q0, q1, q2, q3, q4, q5, q6, q7⟩ := RowT.thaw hr1 o
      obtain ⟨W2, hW2⟩ : ∃ W2, W1.setCell ⟨b, o + 1, none⟩ (.int .i64 u) = W2 := ⟨_, rfl⟩
      have hr2 := RowT.setW hr1 o HPL.out u
      rw [hW2] at hr2
      have hk2 : KeptP (Chg b g lo hi) w W2 := (KeptP.of_below hb1).trans (by rw [← hW2]; exact KeptP.setCell W1 ⟨b, o + 1, none⟩ _ (Or.inl rfl))
      have hot : ∀ k, k < w.heap.size → k ≠ b → W2.heap[k]? = w.heap[k]? := fun k h1 h2 => by rw [← hW2, Below.heap_setCell W1 ⟨b, o + 1, none⟩ _ k h2]; exact hb1.block k h1
      have ho2 : OwnRow W2 lo hi xa xc xl := HX.out.2.1.keepP (fun k h1 h2 => hot k (by have := HX.out.2.2.2.1; omega) (by have := HX.out.2.2.2.2.1; omega))
      have hs2 : SzAt g f W2 := HX.out.2.2.1.keep (hot g (Array.getElem?_eq_some_iff.1 HX.out.2.2.1).1 HX.out.2.2.2.2.2.2)
      have hh2 : hi ≤ W2.heap.size := Nat.le_trans HX.out.2.2.2.1 hk2.size
      have hrc2 := rowT_cells hr2 o HPL.out
      have z0 : W2.cell? ⟨b, o, none⟩ = some (.int .i64 5) := hrc2 0 _ rfl
      have z1 : W2.cell? ⟨b, o + 1, none⟩ = some (.int .i64 u) := hrc2 1 _ rfl
      have z2 : W2.cell? ⟨b, o + 2, none⟩ = some (.int .u64 (v : Int)) := hrc2 2 _ rfl
      have z3 : W2.cell? ⟨b, o + 3, none⟩ = some (.int .i64 sg) := hrc2 3 _ rfl
      have z4 : W2.cell? ⟨b, o + 4, none⟩ = some (.int .i64 uh) := hrc2 4 _ rfl
      have z5 : W2.cell? ⟨b, o + 5, none⟩ = some (.int .i64 ul) := hrc2 5 _ rfl
      have z6 : W2.cell? ⟨b, o + 6, none⟩ = some (.int .i64 xn) := hrc2 6 _ rfl
      have z7 : W2.cell? ⟨b, o + 7, none⟩ = some (.slice xa xl.length xc) := hrc2 7 _ rfl
      have HQ := Lib.hid (And.intro hk2 (And.intro hr2 (And.intro ho2 (And.intro hs2 hh2))))
      clear hb1 hr1 hrc1 hk2 hot ho2 hs2 hh2 hrc2 hr2
      go_wp2_with fail
      refine (orUsual_any p W1).mono ?_
      rintro e W9 ⟨rfl, rfl⟩
      rw [hU]
      have KK0 := Lib.hid (And.intro (KeptP.refl (Chp g lo hi) W2) HQ.out.2.2.1)
      have s0 := HQ.out.2.2.2.1
      have cz := operation_any g b o lo hi pre post u v 5 sg uh ul xn xa xc xl HL.out.1 HSH45 HC.out f W2 HPL.out HQ.out.2.2.2.2 HL.out.2.1 HX.out.2.2.2.2.1 HX.out.2.2.2.2.2.1 HX.out.2.2.2.2.2.2 HQ.out.2.1 KK0.out.2 s0
      have czK := Lib.hid cz
      clear cz
      go_wp2_with fail
      refine czK.out.mono ?_
      clear czK
      rintro e V1 ⟨rfl, k1, o1, s1⟩
      have kk1 : KeptP (Chp g lo hi) W2 V1 := KK0.out.1.trans k1
      have rr1 := row_keepP HQ.out.2.1 kk1 HX.out.2.2.2.2.1 HX.out.2.2.2.2.2.2
      have hrc := rowT_cells rr1 o HPL.out
      clear z0 z1 z2 z3 z4 z5 z6 z7
      have z0 : V1.cell? ⟨b, o, none⟩ = some (.int .i64 5) := hrc 0 _ rfl
      have z1 : V1.cell? ⟨b, o + 1, none⟩ = some (.int .i64 u) := hrc 1 _ rfl
      have z2 : V1.cell? ⟨b, o + 2, none⟩ = some (.int .u64 (v : Int)) := hrc 2 _ rfl
      have z3 : V1.cell? ⟨b, o + 3, none⟩ = some (.int .i64 sg) := hrc 3 _ rfl
      have z4 : V1.cell? ⟨b, o + 4, none⟩ = some (.int .i64 uh) := hrc 4 _ rfl
      have z5 : V1.cell? ⟨b, o + 5, none⟩ = some (.int .i64 ul) := hrc 5 _ rfl
      have z6 : V1.cell? ⟨b, o + 6, none⟩ = some (.int .i64 xn) := hrc 6 _ rfl
      have z7 : V1.cell? ⟨b, o + 7, none⟩ = some (.slice xa xl.length xc) := hrc 7 _ rfl
      have HP : Hid (SzP tb g b lo hi pre post R w (.returned (.tuple #[])) V1) := Lib.hid (by
        rw [HE.out]
        exact size_end HQ.out.1 kk1 rr1 (by simpa using o1) (szL_len _ _ _ _) s1)
      clear hrc kk1 rr1 k1 o1 s1
      go_wp2
      exact bodyPost_end (v := .tuple #[]) (by simp [results, Tryd.results31, go_sem]) rfl HP.out
    · have e0 : (w0 == 0) = false := by rw [beq_eq_false_iff_ne]; exact t0
      have hU : w0 = u := by rw [← hu, if_neg t0]
      subst hU
      clear t0 hu
      have HE : Hid (R = (.mk 5 w0 v sg uh ul xn xa xc (szL xl 0 (insF 4 xn w0 (owL xl)) (preF 4 xn 0 w0 0 f)).1, (szL xl 0 (insF 4 xn w0 (owL xl)) (preF 4 xn 0 w0 0 f)).2)) := Lib.hid (by
        rw [HR.out]
        have h8 : preF 5 xn p w0 v f = preF 4 xn 0 w0 0 f := by simp [preF]
        have h9 : szL xl 0 (insF 5 xn w0 (owL xl)) (preF 4 xn 0 w0 0 f) = szL xl 0 (insF 4 xn w0 (owL xl)) (preF 4 xn 0 w0 0 f) := szL_congr xl 0 0 _ _ _ (fun j _ => by simp [insF])
        rw [h8, h9]
        simp [postF])
      have HSH45 := HSH.out.1 (by first | exact Or.inl rfl | exact Or.inr rfl)
      go_enter Tryd.func31, Tryd.ntmps31
      go_wp2_with fail
      refine c0.mono ?_
      clear c0 z0 z1 z2 z3 z4 z5 z6 z7
      rintro e W1 ⟨rfl, hb1⟩
      have hr1 := HX.out.1.keep (hb1.block b (Array.getElem?_eq_some_iff.1 HX.out.1).1)
      have hrc1 := rowT_cells hr1 o HPL.out
      have y0 : W1.cell? ⟨b, o, none⟩ = some (.int .i64 5) := hrc1 0 _ rfl
      have y1 : W1.cell? ⟨b, o + 1, none⟩ = some (.int .i64 wd) := hrc1 1 _ rfl
      have y2 : W1.cell? ⟨b, o + 2, none⟩ = some (.int .u64 (v : Int)) := hrc1 2 _ rfl
      have y3 : W1.cell? ⟨b, o + 3, none⟩ = some (.int .i64 sg) := hrc1 3 _ rfl
      have y4 : W1.cell? ⟨b, o + 4, none⟩ = some (.int .i64 uh) := hrc1 4 _ rfl
      have y5 : W1.cell? ⟨b, o + 5, none⟩ = some (.int .i64 ul) := hrc1 5 _ rfl
      have y6 : W1.cell? ⟨b, o + 6, none⟩ = some (.int .i64 xn) := hrc1 6 _ rfl
      have y7 : W1.cell? ⟨b, o + 7, none⟩ = some (.slice xa xl.length xc) := hrc1 7 _ rfl
      obtain ⟨q0, q1, q2, q3, q4, q5, q6, q7⟩ := RowT.thaw hr1 o
      obtain ⟨W2, hW2⟩ : ∃ W2, W1.setCell ⟨b, o + 1, none⟩ (.int .i64 w0) = W2 := ⟨_, rfl⟩
      have hr2 := RowT.setW hr1 o HPL.out w0
      rw [hW2] at hr2
      have hk2 : KeptP (Chg b g lo hi) w W2 := (KeptP.of_below hb1).trans (by rw [← hW2]; exact KeptP.setCell W1 ⟨b, o + 1, none⟩ _ (Or.inl rfl))
      have hot : ∀ k, k < w.heap.size → k ≠ b → W2.heap[k]? = w.heap[k]? := fun k h1 h2 => by rw [← hW2, Below.heap_setCell W1 ⟨b, o + 1, none⟩ _ k h2]; exact hb1.block k h1
      have ho2 : OwnRow W2 lo hi xa xc xl := HX.out.2.1.keepP (fun k h1 h2 => hot k (by have := HX.out.2.2.2.1; omega) (by have := HX.out.2.2.2.2.1; omega))
      have hs2 : SzAt g f W2 := HX.out.2.2.1.keep (hot g (Array.getElem?_eq_some_iff.1 HX.out.2.2.1).1 HX.out.2.2.2.2.2.2)
      have hh2 : hi ≤ W2.heap.size := Nat.le_trans HX.out.2.2.2.1 hk2.size
      have hrc2 := rowT_cells hr2 o HPL.out
      have z0 : W2.cell? ⟨b, o, none⟩ = some (.int .i64 5) := hrc2 0 _ rfl
      have z1 : W2.cell? ⟨b, o + 1, none⟩ = some (.int .i64 w0) := hrc2 1 _ rfl
      have z2 : W2.cell? ⟨b, o + 2, none⟩ = some (.int .u64 (v : Int)) := hrc2 2 _ rfl
      have z3 : W2.cell? ⟨b, o + 3, none⟩ = some (.int .i64 sg) := hrc2 3 _ rfl
      have z4 : W2.cell? ⟨b, o + 4, none⟩ = some (.int .i64 uh) := hrc2 4 _ rfl
      have z5 : W2.cell? ⟨b, o + 5, none⟩ = some (.int .i64 ul) := hrc2 5 _ rfl
      have z6 : W2.cell? ⟨b, o + 6, none⟩ = some (.int .i64 xn) := hrc2 6 _ rfl
      have z7 : W2.cell? ⟨b, o + 7, none⟩ = some (.slice xa xl.length xc) := hrc2 7 _ rfl
      have HQ := Lib.hid (And.intro hk2 (And.intro hr2 (And.intro ho2 (And.intro hs2 hh2))))
      clear hb1 hr1 hrc1 hk2 hot ho2 hs2 hh2 hrc2 hr2
      have KK0 := Lib.hid (And.intro (KeptP.refl (Chp g lo hi) W2) HQ.out.2.2.1)
      have s0 := HQ.out.2.2.2.1
      have cz := operation_any g b o lo hi pre post w0 v 5 sg uh ul xn xa xc xl HL.out.1 HSH45 HC.out f W2 HPL.out HQ.out.2.2.2.2 HL.out.2.1 HX.out.2.2.2.2.1 HX.out.2.2.2.2.2.1 HX.out.2.2.2.2.2.2 HQ.out.2.1 KK0.out.2 s0
      have czK := Lib.hid cz
      clear cz
      go_wp2_with fail
      refine czK.out.mono ?_
      clear czK
      rintro e V1 ⟨rfl, k1, o1, s1⟩
      have kk1 : KeptP (Chp g lo hi) W2 V1 := KK0.out.1.trans k1
      have rr1 := row_keepP HQ.out.2.1 kk1 HX.out.2.2.2.2.1 HX.out.2.2.2.2.2.2
      have hrc := rowT_cells rr1 o HPL.out
      clear z0 z1 z2 z3 z4 z5 z6 z7
      have z0 : V1.cell? ⟨b, o, none⟩ = some (.int .i64 5) := hrc 0 _ rfl
      have z1 : V1.cell? ⟨b, o + 1, none⟩ = some (.int .i64 w0) := hrc 1 _ rfl
      have z2 : V1.cell? ⟨b, o + 2, none⟩ = some (.int .u64 (v : Int)) := hrc 2 _ rfl
      have z3 : V1.cell? ⟨b, o + 3, none⟩ = some (.int .i64 sg) := hrc 3 _ rfl
      have z4 : V1.cell? ⟨b, o + 4, none⟩ = some (.int .i64 uh) := hrc 4 _ rfl
      have z5 : V1.cell? ⟨b, o + 5, none⟩ = some (.int .i64 ul) := hrc 5 _ rfl
      have z6 : V1.cell? ⟨b, o + 6, none⟩ = some (.int .i64 xn) := hrc 6 _ rfl
      have z7 : V1.cell? ⟨b, o + 7, none⟩ = some (.slice xa xl.length xc) := hrc 7 _ rfl
      have HP : Hid (SzP tb g b lo hi pre post R w (.returned (.tuple #[])) V1) := Lib.hid (by
        rw [HE.out]
        exact size_end HQ.out.1 kk1 rr1 (by simpa using o1) (szL_len _ _ _ _) s1)
      clear hrc kk1 rr1 k1 o1 s1
      go_wp2
      exact bodyPost_end (v := .tuple #[]) (by simp [results, Tryd.results31, go_sem]) rfl HP.out
  · by_cases t0 : w0 = 0
    · have e0 : (w0 == 0) = true := by rw [beq_iff_eq]; exact t0
      have hU : orU p = u := by rw [← hu, if_pos t0]
      clear t0 hu
      have h2 : xl.length = 3 := HSH.out.2.1 rfl
      obtain ⟨x1, x2, x3, h3⟩ := three_of h2
      subst h3
      clear h2
      have ho9 := HX.out.2.1
      rcases ho9 with ⟨h, _, _⟩ | ⟨B, rfl, h2, h3, hxc, h5, h6, h7⟩
      · cases h
      simp only [List.length_cons, List.length_nil] at hxc
      subst hxc
      clear h2 h3 h5 h6 h7
      simp only [List.length_cons, List.length_nil, Nat.zero_add, Nat.reduceAdd] at c0 z7
      have HE : Hid (R = (.mk 6 u v sg uh ul xn (some ⟨B, 0, none⟩) 3 ((szL [x1] 0 (fun _ => (true, 1)) f).1 ++ (szL [x2, x3] 0 (fun _ => (false, u)) (szL [x1] 0 (fun _ => (true, 1)) f).2).1), (szL [x2, x3] 0 (fun _ => (false, u)) (szL [x1] 0 (fun _ => (true, 1)) f).2).2)) := Lib.hid (by
        have a0 : preF 6 xn p u v f = f := by simp [preF]
        have a1 : szL [x1] 0 (insF 6 xn u (owL [x1, x2, x3])) f = (szL [x1] 0 (fun _ => (true, 1)) f) := szL_congr _ 0 0 _ _ _ (fun j hj => by
          have hj0 : j = 0 := by simpa using hj
          subst hj0; simp [insF])
        have a2 : ∀ G, szL [x2, x3] 1 (insF 6 xn u (owL [x1, x2, x3])) G = szL [x2, x3] 0 (fun _ => (false, u)) G := fun G => szL_congr _ 1 0 _ _ _ (fun j hj => by
          have hj0 : 1 + j ≠ 0 := by omega
          simp [insF, hj0])
        have a3 : szL [x1, x2, x3] 0 (insF 6 xn u (owL [x1, x2, x3])) f = ((szL [x1] 0 (fun _ => (true, 1)) f).1 ++ (szL [x2, x3] 0 (fun _ => (false, u)) (szL [x1] 0 (fun _ => (true, 1)) f).2).1, (szL [x2, x3] 0 (fun _ => (false, u)) (szL [x1] 0 (fun _ => (true, 1)) f).2).2) := by
          have a4 := szL_app [x1] [x2, x3] 0 (insF 6 xn u (owL [x1, x2, x3])) f
          rw [a1] at a4
          simp only [List.length_cons, List.length_nil, Nat.zero_add] at a4
          rw [a2] at a4
          exact a4
        rw [HR.out, a0, a3, postF_n8 (by decide)])
      go_enter Tryd.func31, Tryd.ntmps31
      go_wp2_with fail
      refine c0.mono ?_
      clear c0 z0 z1 z2 z3 z4 z5 z6 z7
      rintro e W1 ⟨rfl, hb1⟩
      have hr1 := HX.out.1.keep (hb1.block b (Array.getElem?_eq_some_iff.1 HX.out.1).1)
      have hrc1 := rowT_cells hr1 o HPL.out
      have y0 : W1.cell? ⟨b, o, none⟩ = some (.int .i64 6) := hrc1 0 _ rfl
      have y1 : W1.cell? ⟨b, o + 1, none⟩ = some (.int .i64 wd) := hrc1 1 _ rfl
      have y2 : W1.cell? ⟨b, o + 2, none⟩ = some (.int .u64 (v : Int)) := hrc1 2 _ rfl
      have y3 : W1.cell? ⟨b, o + 3, none⟩ = some (.int .i64 sg) := hrc1 3 _ rfl
      have y4 : W1.cell? ⟨b, o + 4, none⟩ = some (.int .i64 uh) := hrc1 4 _ rfl
      have y5 : W1.cell? ⟨b, o + 5, none⟩ = some (.int .i64 ul) := hrc1 5 _ rfl
      have y6 : W1.cell? ⟨b, o + 6, none⟩ = some (.int .i64 xn) := hrc1 6 _ rfl
      have y7 : W1.cell? ⟨b, o + 7, none⟩ = some (.slice (some ⟨B, 0, none⟩) 3 3) := hrc1 7 _ rfl
      obtain ⟨q0, q1, q2, q3, q4, q5, q6, q7⟩ := RowT.thaw hr1 o
      obtain ⟨W2, hW2⟩ : ∃ W2, W1.setCell ⟨b, o + 1, none⟩ (.int .i64 u) = W2 := ⟨_, rfl⟩
      have hr2 := RowT.setW hr1 o HPL.out u
      rw [hW2] at hr2
      have hk2 : KeptP (Chg b g lo hi) w W2 := (KeptP.of_below hb1).trans (by rw [← hW2]; exact KeptP.setCell W1 ⟨b, o + 1, none⟩ _ (Or.inl rfl))
      have hot : ∀ k, k < w.heap.size → k ≠ b → W2.heap[k]? = w.heap[k]? := fun k h1 h2 => by rw [← hW2, Below.heap_setCell W1 ⟨b, o + 1, none⟩ _ k h2]; exact hb1.block k h1
      have ho2 : OwnRow W2 lo hi (some ⟨B, 0, none⟩) 3 [x1, x2, x3] := HX.out.2.1.keepP (fun k h1 h2 => hot k (by have := HX.out.2.2.2.1; omega) (by have := HX.out.2.2.2.2.1; omega))
      have hs2 : SzAt g f W2 := HX.out.2.2.1.keep (hot g (Array.getElem?_eq_some_iff.1 HX.out.2.2.1).1 HX.out.2.2.2.2.2.2)
      have hh2 : hi ≤ W2.heap.size := Nat.le_trans HX.out.2.2.2.1 hk2.size
      have hrc2 := rowT_cells hr2 o HPL.out
      have z0 : W2.cell? ⟨b, o, none⟩ = some (.int .i64 6) := hrc2 0 _ rfl
      have z1 : W2.cell? ⟨b, o + 1, none⟩ = some (.int .i64 u) := hrc2 1 _ rfl
      have z2 : W2.cell? ⟨b, o + 2, none⟩ = some (.int .u64 (v : Int)) := hrc2 2 _ rfl
      have z3 : W2.cell? ⟨b, o + 3, none⟩ = some (.int .i64 sg) := hrc2 3 _ rfl
      have z4 : W2.cell? ⟨b, o + 4, none⟩ = some (.int .i64 uh) := hrc2 4 _ rfl
      have z5 : W2.cell? ⟨b, o + 5, none⟩ = some (.int .i64 ul) := hrc2 5 _ rfl
      have z6 : W2.cell? ⟨b, o + 6, none⟩ = some (.int .i64 xn) := hrc2 6 _ rfl
      have z7 : W2.cell? ⟨b, o + 7, none⟩ = some (.slice (some ⟨B, 0, none⟩) 3 3) := hrc2 7 _ rfl
      have HQ := Lib.hid (And.intro hk2 (And.intro hr2 (And.intro ho2 (And.intro hs2 hh2))))
      clear hb1 hr1 hrc1 hk2 hot ho2 hs2 hh2 hrc2 hr2
      go_wp2_with fail
      refine (orUsual_any p W1).mono ?_
      rintro e W9 ⟨rfl, rfl⟩
      rw [hU]
      have KK0 := Lib.hid (And.intro (KeptP.refl (Chp g lo hi) W2) HQ.out.2.2.1)
      have s0 := HQ.out.2.2.2.1
      (try simp only [List.length_cons, List.length_nil, Nat.zero_add, Nat.reduceAdd] at z7)
      have cz := bitsSome_any g lo hi B [] [x1] [x2, x3] (by simp) (fun x hx => HC.out x (by simp at hx; simp [hx])) 3 3 f W2 HQ.out.2.2.2.2 HX.out.2.2.2.2.2.1 (by simpa using HQ.out.2.2.1) s0 0 (by simp)
      simp only [List.length_cons, List.length_nil, Nat.zero_add, Nat.reduceAdd] at cz
      have czK := Lib.hid cz
      clear cz
      go_wp2_with fail
      refine czK.out.mono ?_
      clear czK
      rintro e V1 ⟨rfl, k1, o1, s1⟩
      have rr1 := row_keepP HQ.out.2.1 k1 HX.out.2.2.2.2.1 HX.out.2.2.2.2.2.2
      have hrc := rowT_cells rr1 o HPL.out
      clear z0 z1 z2 z3 z4 z5 z6 z7
      have z0 : V1.cell? ⟨b, o, none⟩ = some (.int .i64 6) := hrc 0 _ rfl
      have z1 : V1.cell? ⟨b, o + 1, none⟩ = some (.int .i64 u) := hrc 1 _ rfl
      have z2 : V1.cell? ⟨b, o + 2, none⟩ = some (.int .u64 (v : Int)) := hrc 2 _ rfl
      have z3 : V1.cell? ⟨b, o + 3, none⟩ = some (.int .i64 sg) := hrc 3 _ rfl
      have z4 : V1.cell? ⟨b, o + 4, none⟩ = some (.int .i64 uh) := hrc 4 _ rfl
      have z5 : V1.cell? ⟨b, o + 5, none⟩ = some (.int .i64 ul) := hrc 5 _ rfl
      have z6 : V1.cell? ⟨b, o + 6, none⟩ = some (.int .i64 xn) := hrc 6 _ rfl
      have z7 : V1.cell? ⟨b, o + 7, none⟩ = some (.slice (some ⟨B, 0, none⟩) 3 3) := hrc 7 _ rfl
      have hln := szL_len [x1] 0 (fun _ => (true, 1)) f
      have c1 := fun ys (hys : ys = (szL [x1] 0 (fun _ => (true, 1)) f).1) => sizeSome_any u g lo hi B ys [x2, x3] [] (by simp) (fun x hx => (HC.out x (by simp at hx; rcases hx with rfl | rfl <;> simp)).1) 2 3 (szL [x1] 0 (fun _ => (true, 1)) f).2 V1 (Nat.le_trans HQ.out.2.2.2.2 k1.size) HX.out.2.2.2.2.2.1 (by rw [hys]; simpa using o1) s1 8 (by rw [hys, hln]; rfl)
      have c2 := c1 _ rfl
      simp only [List.length_cons, List.length_nil, Nat.zero_add, Nat.reduceAdd] at c2
      have c2K := Lib.hid c2
      have HK1 := Lib.hid k1
      clear rr1 hrc k1 o1 s1 hln c1 c2
      go_wp2_with fail
      refine c2K.out.mono ?_
      clear c2K
      rintro e V2 ⟨rfl, k2, o2, s2⟩
      have kk2 : KeptP (Chp g lo hi) W2 V2 := HK1.out.trans k2
      have rr2 := row_keepP HQ.out.2.1 kk2 HX.out.2.2.2.2.1 HX.out.2.2.2.2.2.2
      have hrc := rowT_cells rr2 o HPL.out
      clear z0 z1 z2 z3 z4 z5 z6 z7
      have z0 : V2.cell? ⟨b, o, none⟩ = some (.int .i64 6) := hrc 0 _ rfl
      have z1 : V2.cell? ⟨b, o + 1, none⟩ = some (.int .i64 u) := hrc 1 _ rfl
      have z2 : V2.cell? ⟨b, o + 2, none⟩ = some (.int .u64 (v : Int)) := hrc 2 _ rfl
      have z3 : V2.cell? ⟨b, o + 3, none⟩ = some (.int .i64 sg) := hrc 3 _ rfl
      have z4 : V2.cell? ⟨b, o + 4, none⟩ = some (.int .i64 uh) := hrc 4 _ rfl
      have z5 : V2.cell? ⟨b, o + 5, none⟩ = some (.int .i64 ul) := hrc 5 _ rfl
      have z6 : V2.cell? ⟨b, o + 6, none⟩ = some (.int .i64 xn) := hrc 6 _ rfl
      have z7 : V2.cell? ⟨b, o + 7, none⟩ = some (.slice (some ⟨B, 0, none⟩) 3 3) := hrc 7 _ rfl
      have HP : Hid (SzP tb g b lo hi pre post R w (.returned (.tuple #[])) V2) := Lib.hid (by
        rw [HE.out]
        exact size_end HQ.out.1 kk2 rr2 (by simpa using o2) (by simp [szL_len]) s2)
      clear hrc kk2 rr2 k2 o2 s2
      go_wp2
      exact bodyPost_end (v := .tuple #[]) (by simp [results, Tryd.results31, go_sem]) rfl HP.out
    · have e0 : (w0 == 0) = false := by rw [beq_eq_false_iff_ne]; exact t0
      have hU : w0 = u := by rw [← hu, if_neg t0]
      subst hU
      clear t0 hu
      have h2 : xl.length = 3 := HSH.out.2.1 rfl
      obtain ⟨x1, x2, x3, h3⟩ := three_of h2
      subst h3
      clear h2
      have ho9 := HX.out.2.1
      rcases ho9 with ⟨h, _, _⟩ | ⟨B, rfl, h2, h3, hxc, h5, h6, h7⟩
      · cases h
      simp only [List.length_cons, List.length_nil] at hxc
      subst hxc
      clear h2 h3 h5 h6 h7
      simp only [List.length_cons, List.length_nil, Nat.zero_add, Nat.reduceAdd] at c0 z7
      have HE : Hid (R = (.mk 6 w0 v sg uh ul xn (some ⟨B, 0, none⟩) 3 ((szL [x1] 0 (fun _ => (true, 1)) f).1 ++ (szL [x2, x3] 0 (fun _ => (false, w0)) (szL [x1] 0 (fun _ => (true, 1)) f).2).1), (szL [x2, x3] 0 (fun _ => (false, w0)) (szL [x1] 0 (fun _ => (true, 1)) f).2).2)) := Lib.hid (by
        have a0 : preF 6 xn p w0 v f = f := by simp [preF]
        have a1 : szL [x1] 0 (insF 6 xn w0 (owL [x1, x2, x3])) f = (szL [x1] 0 (fun _ => (true, 1)) f) := szL_congr _ 0 0 _ _ _ (fun j hj => by
          have hj0 : j = 0 := by simpa using hj
          subst hj0; simp [insF])
        have a2 : ∀ G, szL [x2, x3] 1 (insF 6 xn w0 (owL [x1, x2, x3])) G = szL [x2, x3] 0 (fun _ => (false, w0)) G := fun G => szL_congr _ 1 0 _ _ _ (fun j hj => by
          have hj0 : 1 + j ≠ 0 := by omega
          simp [insF, hj0])
        have a3 : szL [x1, x2, x3] 0 (insF 6 xn w0 (owL [x1, x2, x3])) f = ((szL [x1] 0 (fun _ => (true, 1)) f).1 ++ (szL [x2, x3] 0 (fun _ => (false, w0)) (szL [x1] 0 (fun _ => (true, 1)) f).2).1, (szL [x2, x3] 0 (fun _ => (false, w0)) (szL [x1] 0 (fun _ => (true, 1)) f).2).2) := by
          have a4 := szL_app [x1] [x2, x3] 0 (insF 6 xn w0 (owL [x1, x2, x3])) f
          rw [a1] at a4
          simp only [List.length_cons, List.length_nil, Nat.zero_add] at a4
          rw [a2] at a4
          exact a4
        rw [HR.out, a0, a3, postF_n8 (by decide)])
      go_enter Tryd.func31, Tryd.ntmps31
      go_wp2_with fail
      refine c0.mono ?_
      clear c0 z0 z1 z2 z3 z4 z5 z6 z7
      rintro e W1 ⟨rfl, hb1⟩
      have hr1 := HX.out.1.keep (hb1.block b (Array.getElem?_eq_some_iff.1 HX.out.1).1)
      have hrc1 := rowT_cells hr1 o HPL.out
      have y0 : W1.cell? ⟨b, o, none⟩ = some (.int .i64 6) := hrc1 0 _ rfl
      have y1 : W1.cell? ⟨b, o + 1, none⟩ = some (.int .i64 wd) := hrc1 1 _ rfl
      have y2 : W1.cell? ⟨b, o + 2, none⟩ = some (.int .u64 (v : Int)) := hrc1 2 _ rfl
      have y3 : W1.cell? ⟨b, o + 3, none⟩ = some (.int .i64 sg) := hrc1 3 _ rfl
      have y4 : W1.cell? ⟨b, o + 4, none⟩ = some (.int .i64 uh) := hrc1 4 _ rfl
      have y5 : W1.cell? ⟨b, o + 5, none⟩ = some (.int .i64 ul) := hrc1 5 _ rfl
      have y6 : W1.cell? ⟨b, o + 6, none⟩ = some (.int .i64 xn) := hrc1 6 _ rfl
      have y7 : W1.cell? ⟨b, o + 7, none⟩ = some (.slice (some ⟨B, 0, none⟩) 3 3) := hrc1 7 _ rfl
      obtain ⟨q0, q1, q2, q3, q4, q5, q6, q7⟩ := RowT.thaw hr1 o
      obtain ⟨W2, hW2⟩ : ∃ W2, W1.setCell ⟨b, o + 1, none⟩ (.int .i64 w0) = W2 := ⟨_, rfl⟩
      have hr2 := RowT.setW hr1 o HPL.out w0
      rw [hW2] at hr2
      have hk2 : KeptP (Chg b g lo hi) w W2 := (KeptP.of_below hb1).trans (by rw [← hW2]; exact KeptP.setCell W1 ⟨b, o + 1, none⟩ _ (Or.inl rfl))
      have hot : ∀ k, k < w.heap.size → k ≠ b → W2.heap[k]? = w.heap[k]? := fun k h1 h2 => by rw [← hW2, Below.heap_setCell W1 ⟨b, o + 1, none⟩ _ k h2]; exact hb1.block k h1
      have ho2 : OwnRow W2 lo hi (some ⟨B, 0, none⟩) 3 [x1, x2, x3] := HX.out.2.1.keepP (fun k h1 h2 => hot k (by have := HX.out.2.2.2.1; omega) (by have := HX.out.2.2.2.2.1; omega))
      have hs2 : SzAt g f W2 := HX.out.2.2.1.keep (hot g (Array.getElem?_eq_some_iff.1 HX.out.2.2.1).1 HX.out.2.2.2.2.2.2)
      have hh2 : hi ≤ W2.heap.size := Nat.le_trans HX.out.2.2.2.1 hk2.size
      have hrc2 := rowT_cells hr2 o HPL.out
      have z0 : W2.cell? ⟨b, o, none⟩ = some (.int .i64 6) := hrc2 0 _ rfl
      have z1 : W2.cell? ⟨b, o + 1, none⟩ = some (.int .i64 w0) := hrc2 1 _ rfl
      have z2 : W2.cell? ⟨b, o + 2, none⟩ = some (.int .u64 (v : Int)) := hrc2 2 _ rfl
      have z3 : W2.cell? ⟨b, o + 3, none⟩ = some (.int .i64 sg) := hrc2 3 _ rfl
      have z4 : W2.cell? ⟨b, o + 4, none⟩ = some (.int .i64 uh) := hrc2 4 _ rfl
      have z5 : W2.cell? ⟨b, o + 5, none⟩ = some (.int .i64 ul) := hrc2 5 _ rfl
      have z6 : W2.cell? ⟨b, o + 6, none⟩ = some (.int .i64 xn) := hrc2 6 _ rfl
      have z7 : W2.cell? ⟨b, o + 7, none⟩ = some (.slice (some ⟨B, 0, none⟩) 3 3) := hrc2 7 _ rfl
      have HQ := Lib.hid (And.intro hk2 (And.intro hr2 (And.intro ho2 (And.intro hs2 hh2))))
      clear hb1 hr1 hrc1 hk2 hot ho2 hs2 hh2 hrc2 hr2
      have KK0 := Lib.hid (And.intro (KeptP.refl (Chp g lo hi) W2) HQ.out.2.2.1)
      have s0 := HQ.out.2.2.2.1
      (try simp only [List.length_cons, List.length_nil, Nat.zero_add, Nat.reduceAdd] at z7)
      have cz := bitsSome_any g lo hi B [] [x1] [x2, x3] (by simp) (fun x hx => HC.out x (by simp at hx; simp [hx])) 3 3 f W2 HQ.out.2.2.2.2 HX.out.2.2.2.2.2.1 (by simpa using HQ.out.2.2.1) s0 0 (by simp)
      simp only [List.length_cons, List.length_nil, Nat.zero_add, Nat.reduceAdd] at cz
      have czK := Lib.hid cz
      clear cz
      go_wp2_with fail
      refine czK.out.mono ?_
      clear czK
      rintro e V1 ⟨rfl, k1, o1, s1⟩
      have rr1 := row_keepP HQ.out.2.1 k1 HX.out.2.2.2.2.1 HX.out.2.2.2.2.2.2
      have hrc := rowT_cells rr1 o HPL.out
      clear z0 z1 z2 z3 z4 z5 z6 z7
      have z0 : V1.cell? ⟨b, o, none⟩ = some (.int .i64 6) := hrc 0 _ rfl
      have z1 : V1.cell? ⟨b, o + 1, none⟩ = some (.int .i64 w0) := hrc 1 _ rfl
      have z2 : V1.cell? ⟨b, o + 2, none⟩ = some (.int .u64 (v : Int)) := hrc 2 _ rfl
      have z3 : V1.cell? ⟨b, o + 3, none⟩ = some (.int .i64 sg) := hrc 3 _ rfl
      have z4 : V1.cell? ⟨b, o + 4, none⟩ = some (.int .i64 uh) := hrc 4 _ rfl
      have z5 : V1.cell? ⟨b, o + 5, none⟩ = some (.int .i64 ul) := hrc 5 _ rfl
      have z6 : V1.cell? ⟨b, o + 6, none⟩ = some (.int .i64 xn) := hrc 6 _ rfl
      have z7 : V1.cell? ⟨b, o + 7, none⟩ = some (.slice (some ⟨B, 0, none⟩) 3 3) := hrc 7 _ rfl
      have hln := szL_len [x1] 0 (fun _ => (true, 1)) f
      have c1 := fun ys (hys : ys = (szL [x1] 0 (fun _ => (true, 1)) f).1) => sizeSome_any w0 g lo hi B ys [x2, x3] [] (by simp) (fun x hx => (HC.out x (by simp at hx; rcases hx with rfl | rfl <;> simp)).1) 2 3 (szL [x1] 0 (fun _ => (true, 1)) f).2 V1 (Nat.le_trans HQ.out.2.2.2.2 k1.size) HX.out.2.2.2.2.2.1 (by rw [hys]; simpa using o1) s1 8 (by rw [hys, hln]; rfl)
      have c2 := c1 _ rfl
      simp only [List.length_cons, List.length_nil, Nat.zero_add, Nat.reduceAdd] at c2
      have c2K := Lib.hid c2
      have HK1 := Lib.hid k1
      clear rr1 hrc k1 o1 s1 hln c1 c2
      go_wp2_with fail
      refine c2K.out.mono ?_
      clear c2K
      rintro e V2 ⟨rfl, k2, o2, s2⟩
      have kk2 : KeptP (Chp g lo hi) W2 V2 := HK1.out.trans k2
      have rr2 := row_keepP HQ.out.2.1 kk2 HX.out.2.2.2.2.1 HX.out.2.2.2.2.2.2
      have hrc := rowT_cells rr2 o HPL.out
      clear z0 z1 z2 z3 z4 z5 z6 z7
      have z0 : V2.cell? ⟨b, o, none⟩ = some (.int .i64 6) := hrc 0 _ rfl
      have z1 : V2.cell? ⟨b, o + 1, none⟩ = some (.int .i64 w0) := hrc 1 _ rfl
      have z2 : V2.cell? ⟨b, o + 2, none⟩ = some (.int .u64 (v : Int)) := hrc 2 _ rfl
      have z3 : V2.cell? ⟨b, o + 3, none⟩ = some (.int .i64 sg) := hrc 3 _ rfl
      have z4 : V2.cell? ⟨b, o + 4, none⟩ = some (.int .i64 uh) := hrc 4 _ rfl
      have z5 : V2.cell? ⟨b, o + 5, none⟩ = some (.int .i64 ul) := hrc 5 _ rfl
      have z6 : V2.cell? ⟨b, o + 6, none⟩ = some (.int .i64 xn) := hrc 6 _ rfl
      have z7 : V2.cell? ⟨b, o + 7, none⟩ = some (.slice (some ⟨B, 0, none⟩) 3 3) := hrc 7 _ rfl
      have HP : Hid (SzP tb g b lo hi pre post R w (.returned (.tuple #[])) V2) := Lib.hid (by
        rw [HE.out]
        exact size_end HQ.out.1 kk2 rr2 (by simpa using o2) (by simp [szL_len]) s2)
      clear hrc kk2 rr2 k2 o2 s2
      go_wp2
      exact bodyPost_end (v := .tuple #[]) (by simp [results, Tryd.results31, go_sem]) rfl HP.out
  · by_cases t0 : w0 = 0
    · have e0 : (w0 == 0) = true := by rw [beq_iff_eq]; exact t0
      have hU : orU p = u := by rw [← hu, if_pos t0]
      clear t0 hu
      obtain ⟨B1, hB1⟩ : ∃ x, (p == u) = x := ⟨_, rfl⟩
      obtain ⟨B2, hB2⟩ : ∃ x, decide (p ≤ 64) = x := ⟨_, rfl⟩
      have HE : Hid (R = (.mk 7 u v sg uh ul xn xa xc (szL xl 0 (fun _ => (false, 0)) (wantF (wantF f B2 90) B1 90)).1, (szL xl 0 (fun _ => (false, 0)) (wantF (wantF f B2 90) B1 90)).2)) := Lib.hid (by
        rw [HR.out]
        have h8 : preF 7 xn p u v f = wantF (wantF f B2 90) B1 90 := by simp [preF, hB1, hB2]
        have h9 : szL xl 0 (insF 7 xn u (owL xl)) (wantF (wantF f B2 90) B1 90) = szL xl 0 (fun _ => (false, 0)) (wantF (wantF f B2 90) B1 90) := szL_congr xl 0 0 _ _ _ (fun j _ => by simp [insF])
        rw [h8, h9]
        simp [postF])
      go_enter Tryd.func31, Tryd.ntmps31
      go_wp2_with fail
      refine c0.mono ?_
      clear c0 z0 z1 z2 z3 z4 z5 z6 z7
      rintro e W1 ⟨rfl, hb1⟩
      have hr1 := HX.out.1.keep (hb1.block b (Array.getElem?_eq_some_iff.1 HX.out.1).1)
      have hrc1 := rowT_cells hr1 o HPL.out
      have y0 : W1.cell? ⟨b, o, none⟩ = some (.int .i64 7) := hrc1 0 _ rfl
      have y1 : W1.cell? ⟨b, o + 1, none⟩ = some (.int .i64 wd) := hrc1 1 _ rfl
      have y2 : W1.cell? ⟨b, o + 2, none⟩ = some (.int .u64 (v : Int)) := hrc1 2 _ rfl
      have y3 : W1.cell? ⟨b, o + 3, none⟩ = some (.int .i64 sg) := hrc1 3 _ rfl
      have y4 : W1.cell? ⟨b, o + 4, none⟩ = some (.int .i64 uh) := hrc1 4 _ rfl
      have y5 : W1.cell? ⟨b, o + 5, none⟩ = some (.int .i64 ul) := hrc1 5 _ rfl
      have y6 : W1.cell? ⟨b, o + 6, none⟩ = some (.int .i64 xn) := hrc1 6 _ rfl
      have y7 : W1.cell? ⟨b, o + 7, none⟩ = some (.slice xa xl.length xc) := hrc1 7 _ rfl
      obtain ⟨q0, q1, q2, q3, q4, q5, q6, q7⟩ := RowT.thaw hr1 o
      obtain ⟨W2, hW2⟩ : ∃ W2, W1.setCell ⟨b, o + 1, none⟩ (.int .i64 u) = W2 := ⟨_, rfl⟩
      have hr2 := RowT.setW hr1 o HPL.out u
      rw [hW2] at hr2
      have hk2 : KeptP (Chg b g lo hi) w W2 := (KeptP.of_below hb1).trans (by rw [← hW2]; exact KeptP.setCell W1 ⟨b, o + 1, none⟩ _ (Or.inl rfl))
      have hot : ∀ k, k < w.heap.size → k ≠ b → W2.heap[k]? = w.heap[k]? := fun k h1 h2 => by rw [← hW2, Below.heap_setCell W1 ⟨b, o + 1, none⟩ _ k h2]; exact hb1.block k h1
      have ho2 : OwnRow W2 lo hi xa xc xl := HX.out.2.1.keepP (fun k h1 h2 => hot k (by have := HX.out.2.2.2.1; omega) (by have := HX.out.2.2.2.2.1; omega))
      have hs2 : SzAt g f W2 := HX.out.2.2.1.keep (hot g (Array.getElem?_eq_some_iff.1 HX.out.2.2.1).1 HX.out.2.2.2.2.2.2)
      have hh2 : hi ≤ W2.heap.size := Nat.le_trans HX.out.2.2.2.1 hk2.size
      have hrc2 := rowT_cells hr2 o HPL.out
      have z0 : W2.cell? ⟨b, o, none⟩ = some (.int .i64 7) := hrc2 0 _ rfl
      have z1 : W2.cell? ⟨b, o + 1, none⟩ = some (.int .i64 u) := hrc2 1 _ rfl
      have z2 : W2.cell? ⟨b, o + 2, none⟩ = some (.int .u64 (v : Int)) := hrc2 2 _ rfl
      have z3 : W2.cell? ⟨b, o + 3, none⟩ = some (.int .i64 sg) := hrc2 3 _ rfl
      have z4 : W2.cell? ⟨b, o + 4, none⟩ = some (.int .i64 uh) := hrc2 4 _ rfl
      have z5 : W2.cell? ⟨b, o + 5, none⟩ = some (.int .i64 ul) := hrc2 5 _ rfl
      have z6 : W2.cell? ⟨b, o + 6, none⟩ = some (.int .i64 xn) := hrc2 6 _ rfl
      have z7 : W2.cell? ⟨b, o + 7, none⟩ = some (.slice xa xl.length xc) := hrc2 7 _ rfl
      have HQ := Lib.hid (And.intro hk2 (And.intro hr2 (And.intro ho2 (And.intro hs2 hh2))))
      clear hb1 hr1 hrc1 hk2 hot ho2 hs2 hh2 hrc2 hr2
      go_wp2_with fail
      refine (orUsual_any p W1).mono ?_
      rintro e W9 ⟨rfl, rfl⟩
      rw [hU]
      have KK0 := Lib.hid (And.intro (KeptP.refl (Chp g lo hi) W2) HQ.out.2.2.1)
      have s0 := HQ.out.2.2.2.1
      have cw := want_any g f B2 90 W2 s0
      have cwK := Lib.hid cw
      clear cw
      go_wp2_with fail
      refine cwK.out.mono ?_
      clear cwK
      rintro e V1 ⟨rfl, k1, s1⟩
      have kk1 : KeptP (Chp g lo hi) W2 V1 := KK0.out.1.trans (KeptP.of_kb1 k1 (Or.inl rfl))
      have oo1 : OwnRow V1 lo hi xa xc xl := own_keepK KK0.out.2 k1 (Nat.le_trans HQ.out.2.2.2.2 KK0.out.1.size) HX.out.2.2.2.2.2.1
      have rr1 := row_keepP HQ.out.2.1 kk1 HX.out.2.2.2.2.1 HX.out.2.2.2.2.2.2
      have hrc := rowT_cells rr1 o HPL.out
      clear z0 z1 z2 z3 z4 z5 z6 z7
      have z0 : V1.cell? ⟨b, o, none⟩ = some (.int .i64 7) := hrc 0 _ rfl
      have z1 : V1.cell? ⟨b, o + 1, none⟩ = some (.int .i64 u) := hrc 1 _ rfl
      have z2 : V1.cell? ⟨b, o + 2, none⟩ = some (.int .u64 (v : Int)) := hrc 2 _ rfl
      have z3 : V1.cell? ⟨b, o + 3, none⟩ = some (.int .i64 sg) := hrc 3 _ rfl
      have z4 : V1.cell? ⟨b, o + 4, none⟩ = some (.int .i64 uh) := hrc 4 _ rfl
      have z5 : V1.cell? ⟨b, o + 5, none⟩ = some (.int .i64 ul) := hrc 5 _ rfl
      have z6 : V1.cell? ⟨b, o + 6, none⟩ = some (.int .i64 xn) := hrc 6 _ rfl
      have z7 : V1.cell? ⟨b, o + 7, none⟩ = some (.slice xa xl.length xc) := hrc 7 _ rfl
      have KK1 := Lib.hid (And.intro kk1 oo1)
      clear hrc kk1 oo1 rr1 k1
      have cx := want_any g (wantF f B2 90) B1 90 V1 s1
      have cxK := Lib.hid cx
      clear cx
      go_wp2_with fail
      refine cxK.out.mono ?_
      clear cxK
      rintro e V2 ⟨rfl, k2, s2⟩
      have kk2 : KeptP (Chp g lo hi) W2 V2 := KK1.out.1.trans (KeptP.of_kb1 k2 (Or.inl rfl))
      have oo2 : OwnRow V2 lo hi xa xc xl := own_keepK KK1.out.2 k2 (Nat.le_trans HQ.out.2.2.2.2 KK1.out.1.size) HX.out.2.2.2.2.2.1
      have rr2 := row_keepP HQ.out.2.1 kk2 HX.out.2.2.2.2.1 HX.out.2.2.2.2.2.2
      have hrc := rowT_cells rr2 o HPL.out
      clear z0 z1 z2 z3 z4 z5 z6 z7
      have z0 : V2.cell? ⟨b, o, none⟩ = some (.int .i64 7) := hrc 0 _ rfl
      have z1 : V2.cell? ⟨b, o + 1, none⟩ = some (.int .i64 u) := hrc 1 _ rfl
      have z2 : V2.cell? ⟨b, o + 2, none⟩ = some (.int .u64 (v : Int)) := hrc 2 _ rfl
      have z3 : V2.cell? ⟨b, o + 3, none⟩ = some (.int .i64 sg) := hrc 3 _ rfl
      have z4 : V2.cell? ⟨b, o + 4, none⟩ = some (.int .i64 uh) := hrc 4 _ rfl
      have z5 : V2.cell? ⟨b, o + 5, none⟩ = some (.int .i64 ul) := hrc 5 _ rfl
      have z6 : V2.cell? ⟨b, o + 6, none⟩ = some (.int .i64 xn) := hrc 6 _ rfl
      have z7 : V2.cell? ⟨b, o + 7, none⟩ = some (.slice xa xl.length xc) := hrc 7 _ rfl
      have KK2 := Lib.hid (And.intro kk2 oo2)
      clear hrc kk2 oo2 rr2 k2
      have cz := sizeRow_any 0 g lo hi xa xc xl HL.out.1 (fun x hx => (HC.out x hx).1) (wantF (wantF f B2 90) B1 90) V2 (Nat.le_trans HQ.out.2.2.2.2 KK2.out.1.size) HX.out.2.2.2.2.2.1 KK2.out.2 s2
      have czK := Lib.hid cz
      clear cz
      go_wp2_with fail
      refine czK.out.mono ?_
      clear czK
      rintro e V3 ⟨rfl, k3, o3, s3⟩
      have kk3 : KeptP (Chp g lo hi) W2 V3 := KK2.out.1.trans k3
      have rr3 := row_keepP HQ.out.2.1 kk3 HX.out.2.2.2.2.1 HX.out.2.2.2.2.2.2
      have hrc := rowT_cells rr3 o HPL.out
      clear z0 z1 z2 z3 z4 z5 z6 z7
      have z0 : V3.cell? ⟨b, o, none⟩ = some (.int .i64 7) := hrc 0 _ rfl
      have z1 : V3.cell? ⟨b, o + 1, none⟩ = some (.int .i64 u) := hrc 1 _ rfl
      have z2 : V3.cell? ⟨b, o + 2, none⟩ = some (.int .u64 (v : Int)) := hrc 2 _ rfl
      have z3 : V3.cell? ⟨b, o + 3, none⟩ = some (.int .i64 sg) := hrc 3 _ rfl
      have z4 : V3.cell? ⟨b, o + 4, none⟩ = some (.int .i64 uh) := hrc 4 _ rfl
      have z5 : V3.cell? ⟨b, o + 5, none⟩ = some (.int .i64 ul) := hrc 5 _ rfl
      have z6 : V3.cell? ⟨b, o + 6, none⟩ = some (.int .i64 xn) := hrc 6 _ rfl
      have z7 : V3.cell? ⟨b, o + 7, none⟩ = some (.slice xa xl.length xc) := hrc 7 _ rfl
      have HP : Hid (SzP tb g b lo hi pre post R w (.returned (.tuple #[])) V3) := Lib.hid (by
        rw [HE.out]
        exact size_end HQ.out.1 kk3 rr3 (by simpa using o3) (szL_len _ _ _ _) s3)
      clear hrc kk3 rr3 k3 o3 s3
      go_wp2
      exact bodyPost_end (v := .tuple #[]) (by simp [results, Tryd.results31, go_sem]) rfl HP.out
    · have e0 : (w0 == 0) = false := by rw [beq_eq_false_iff_ne]; exact t0
      have hU : w0 = u := by rw [← hu, if_neg t0]
      subst hU
      clear t0 hu
      obtain ⟨B1, hB1⟩ : ∃ x, (p == w0) = x := ⟨_, rfl⟩
      obtain ⟨B2, hB2⟩ : ∃ x, decide (p ≤ 64) = x := ⟨_, rfl⟩
      have HE : Hid (R = (.mk 7 w0 v sg uh ul xn xa xc (szL xl 0 (fun _ => (false, 0)) (wantF (wantF f B2 90) B1 90)).1, (szL xl 0 (fun _ => (false, 0)) (wantF (wantF f B2 90) B1 90)).2)) := Lib.hid (by
        rw [HR.out]
        have h8 : preF 7 xn p w0 v f = wantF (wantF f B2 90) B1 90 := by simp [preF, hB1, hB2]
        have h9 : szL xl 0 (insF 7 xn w0 (owL xl)) (wantF (wantF f B2 90) B1 90) = szL xl 0 (fun _ => (false, 0)) (wantF (wantF f B2 90) B1 90) := szL_congr xl 0 0 _ _ _ (fun j _ => by simp [insF])
        rw [h8, h9]
        simp [postF])
      go_enter Tryd.func31, Tryd.ntmps31
      go_wp2_with fail
      refine c0.mono ?_
      clear c0 z0 z1 z2 z3 z4 z5 z6 z7
      rintro e W1 ⟨rfl, hb1⟩
      have hr1 := HX.out.1.keep (hb1.block b (Array.getElem?_eq_some_iff.1 HX.out.1).1)
      have hrc1 := rowT_cells hr1 o HPL.out
      have y0 : W1.cell? ⟨b, o, none⟩ = some (.int .i64 7) := hrc1 0 _ rfl
      have y1 : W1.cell? ⟨b, o + 1, none⟩ = some (.int .i64 wd) := hrc1 1 _ rfl
      have y2 : W1.cell? ⟨b, o + 2, none⟩ = some (.int .u64 (v : Int)) := hrc1 2 _ rfl
      have y3 : W1.cell? ⟨b, o + 3, none⟩ = some (.int .i64 sg) := hrc1 3 _ rfl
      have y4 : W1.cell? ⟨b, o + 4, none⟩ = some (.int .i64 uh) := hrc1 4 _ rfl
      have y5 : W1.cell? ⟨b, o + 5, none⟩ = some (.int .i64 ul) := hrc1 5 _ rfl
      have y6 : W1.cell? ⟨b, o + 6, none⟩ = some (.int .i64 xn) := hrc1 6 _ rfl
      have y7 : W1.cell? ⟨b, o + 7, none⟩ = some (.slice xa xl.length xc) := hrc1 7 _ rfl
      obtain ⟨q0, q1, q2, q3, q4, q5, q6, q7⟩ := RowT.thaw hr1 o
      obtain ⟨W2, hW2⟩ : ∃ W2, W1.setCell ⟨b, o + 1, none⟩ (.int .i64 w0) = W2 := ⟨_, rfl⟩
      have hr2 := RowT.setW hr1 o HPL.out w0
      rw [hW2] at hr2
      have hk2 : KeptP (Chg b g lo hi) w W2 := (KeptP.of_below hb1).trans (by rw [← hW2]; exact KeptP.setCell W1 ⟨b, o + 1, none⟩ _ (Or.inl rfl))
      have hot : ∀ k, k < w.heap.size → k ≠ b → W2.heap[k]? = w.heap[k]? := fun k h1 h2 => by rw [← hW2, Below.heap_setCell W1 ⟨b, o + 1, none⟩ _ k h2]; exact hb1.block k h1
      have ho2 : OwnRow W2 lo hi xa xc xl := HX.out.2.1.keepP (fun k h1 h2 => hot k (by have := HX.out.2.2.2.1; omega) (by have := HX.out.2.2.2.2.1; omega))
      have hs2 : SzAt g f W2 := HX.out.2.2.1.keep (hot g (Array.getElem?_eq_some_iff.1 HX.out.2.2.1).1 HX.out.2.2.2.2.2.2)
      have hh2 : hi ≤ W2.heap.size := Nat.le_trans HX.out.2.2.2.1 hk2.size
      have hrc2 := rowT_cells hr2 o HPL.out
      have z0 : W2.cell? ⟨b, o, none⟩ = some (.int .i64 7) := hrc2 0 _ rfl
      have z1 : W2.cell? ⟨b, o + 1, none⟩ = some (.int .i64 w0) := hrc2 1 _ rfl
      have z2 : W2.cell? ⟨b, o + 2, none⟩ = some (.int .u64 (v : Int)) := hrc2 2 _ rfl
      have z3 : W2.cell? ⟨b, o + 3, none⟩ = some (.int .i64 sg) := hrc2 3 _ rfl
      have z4 : W2.cell? ⟨b, o + 4, none⟩ = some (.int .i64 uh) := hrc2 4 _ rfl
      have z5 : W2.cell? ⟨b, o + 5, none⟩ = some (.int .i64 ul) := hrc2 5 _ rfl
      have z6 : W2.cell? ⟨b, o + 6, none⟩ = some (.int .i64 xn) := hrc2 6 _ rfl
      have z7 : W2.cell? ⟨b, o + 7, none⟩ = some (.slice xa xl.length xc) := hrc2 7 _ rfl
      have HQ := Lib.hid (And.intro hk2 (And.intro hr2 (And.intro ho2 (And.intro hs2 hh2))))
      clear hb1 hr1 hrc1 hk2 hot ho2 hs2 hh2 hrc2 hr2
      have KK0 := Lib.hid (And.intro (KeptP.refl (Chp g lo hi) W2) HQ.out.2.2.1)
      have s0 := HQ.out.2.2.2.1
      have cw := want_any g f B2 90 W2 s0
      have cwK := Lib.hid cw
      clear cw
      go_wp2_with fail
      refine cwK.out.mono ?_
      clear cwK
      rintro e V1 ⟨rfl, k1, s1⟩
      have kk1 : KeptP (Chp g lo hi) W2 V1 := KK0.out.1.trans (KeptP.of_kb1 k1 (Or.inl rfl))
      have oo1 : OwnRow V1 lo hi xa xc xl := own_keepK KK0.out.2 k1 (Nat.le_trans HQ.out.2.2.2.2 KK0.out.1.size) HX.out.2.2.2.2.2.1
      have rr1 := row_keepP HQ.out.2.1 kk1 HX.out.2.2.2.2.1 HX.out.2.2.2.2.2.2
      have hrc := rowT_cells rr1 o HPL.out
      clear z0 z1 z2 z3 z4 z5 z6 z7
      have z0 : V1.cell? ⟨b, o, none⟩ = some (.int .i64 7) := hrc 0 _ rfl
      have z1 : V1.cell? ⟨b, o + 1, none⟩ = some (.int .i64 w0) := hrc 1 _ rfl
      have z2 : V1.cell? ⟨b, o + 2, none⟩ = some (.int .u64 (v : Int)) := hrc 2 _ rfl
      have z3 : V1.cell? ⟨b, o + 3, none⟩ = some (.int .i64 sg) := hrc 3 _ rfl
      have z4 : V1.cell? ⟨b, o + 4, none⟩ = some (.int .i64 uh) := hrc 4 _ rfl
      have z5 : V1.cell? ⟨b, o + 5, none⟩ = some (.int .i64 ul) := hrc 5 _ rfl
      have z6 : V1.cell? ⟨b, o + 6, none⟩ = some (.int .i64 xn) := hrc 6 _ rfl
      have z7 : V1.cell? ⟨b, o + 7, none⟩ = some (.slice xa xl.length xc) := hrc 7 _ rfl
      have KK1 := Lib.hid (And.intro kk1 oo1)
      clear hrc kk1 oo1 rr1 k1
      have cx := want_any g (wantF f B2 90) B1 90 V1 s1
      have cxK := Lib.hid cx
      clear cx
      go_wp2_with fail
      refine cxK.out.mono ?_
      clear cxK
      rintro e V2 ⟨rfl, k2, s2⟩
      have kk2 : KeptP (Chp g lo hi) W2 V2 := KK1.out.1.trans (KeptP.of_kb1 k2 (Or.inl rfl))
      have oo2 : OwnRow V2 lo hi xa xc xl := own_keepK KK1.out.2 k2 (Nat.le_trans HQ.out.2.2.2.2 KK1.out.1.size) HX.out.2.2.2.2.2.1
      have rr2 := row_keepP HQ.out.2.1 kk2 HX.out.2.2.2.2.1 HX.out.2.2.2.2.2.2
      have hrc := rowT_cells rr2 o HPL.out
      clear z0 z1 z2 z3 z4 z5 z6 z7
      have z0 : V2.cell? ⟨b, o, none⟩ = some (.int .i64 7) := hrc 0 _ rfl
      have z1 : V2.cell? ⟨b, o + 1, none⟩ = some (.int .i64 w0) := hrc 1 _ rfl
      have z2 : V2.cell? ⟨b, o + 2, none⟩ = some (.int .u64 (v : Int)) := hrc 2 _ rfl
      have z3 : V2.cell? ⟨b, o + 3, none⟩ = some (.int .i64 sg) := hrc 3 _ rfl
      have z4 : V2.cell? ⟨b, o + 4, none⟩ = some (.int .i64 uh) := hrc 4 _ rfl
      have z5 : V2.cell? ⟨b, o + 5, none⟩ = some (.int .i64 ul) := hrc 5 _ rfl
      have z6 : V2.cell? ⟨b, o + 6, none⟩ = some (.int .i64 xn) := hrc 6 _ rfl
      have z7 : V2.cell? ⟨b, o + 7, none⟩ = some (.slice xa xl.length xc) := hrc 7 _ rfl
      have KK2 := Lib.hid (And.intro kk2 oo2)
      clear hrc kk2 oo2 rr2 k2
      have cz := sizeRow_any 0 g lo hi xa xc xl HL.out.1 (fun x hx => (HC.out x hx).1) (wantF (wantF f B2 90) B1 90) V2 (Nat.le_trans HQ.out.2.2.2.2 KK2.out.1.size) HX.out.2.2.2.2.2.1 KK2.out.2 s2
      have czK := Lib.hid cz
      clear cz
      go_wp2_with fail
      refine czK.out.mono ?_
      clear czK
      rintro e V3 ⟨rfl, k3, o3, s3⟩
      have kk3 : KeptP (Chp g lo hi) W2 V3 := KK2.out.1.trans k3
      have rr3 := row_keepP HQ.out.2.1 kk3 HX.out.2.2.2.2.1 HX.out.2.2.2.2.2.2
      have hrc := rowT_cells rr3 o HPL.out
      clear z0 z1 z2 z3 z4 z5 z6 z7
      have z0 : V3.cell? ⟨b, o, none⟩ = some (.int .i64 7) := hrc 0 _ rfl
      have z1 : V3.cell? ⟨b, o + 1, none⟩ = some (.int .i64 w0) := hrc 1 _ rfl
      have z2 : V3.cell? ⟨b, o + 2, none⟩ = some (.int .u64 (v : Int)) := hrc 2 _ rfl
      have z3 : V3.cell? ⟨b, o + 3, none⟩ = some (.int .i64 sg) := hrc 3 _ rfl
      have z4 : V3.cell? ⟨b, o + 4, none⟩ = some (.int .i64 uh) := hrc 4 _ rfl
      have z5 : V3.cell? ⟨b, o + 5, none⟩ = some (.int .i64 ul) := hrc 5 _ rfl
      have z6 : V3.cell? ⟨b, o + 6, none⟩ = some (.int .i64 xn) := hrc 6 _ rfl
      have z7 : V3.cell? ⟨b, o + 7, none⟩ = some (.slice xa xl.length xc) := hrc 7 _ rfl
      have HP : Hid (SzP tb g b lo hi pre post R w (.returned (.tuple #[])) V3) := Lib.hid (by
        rw [HE.out]
        exact size_end HQ.out.1 kk3 rr3 (by simpa using o3) (szL_len _ _ _ _) s3)
      clear hrc kk3 rr3 k3 o3 s3
      go_wp2
      exact bodyPost_end (v := .tuple #[]) (by simp [results, Tryd.results31, go_sem]) rfl HP.out
  · by_cases t0 : w0 = 0
    · have e0 : (w0 == 0) = true := by rw [beq_iff_eq]; exact t0
      have hU : orU p = u := by rw [← hu, if_pos t0]
      clear t0 hu
      obtain ⟨B1, hB1⟩ : ∃ x, (p == u) = x := ⟨_, rfl⟩
      have h2 := HSH.out.2.2.2 rfl
      obtain ⟨Q, hQ⟩ : ∃ Q, szL xl 0 (fun _ => (false, 0)) (wantF f B1 90) = Q := ⟨_, rfl⟩
      have hy1 : Q.1.length = 1 := by rw [← hQ, szL_len]; exact h2
      obtain ⟨y, hy⟩ := one_of hy1
      obtain ⟨op5, wd5, v5, sg5, uh5, ul5, xn5, xa5, xc5, xl5⟩ := y
      have HE : Hid (R = (.mk 8 u v sg uh ul xn xa xc Q.1, wantF Q.2 (extB xn wd5 u) 90)) := Lib.hid (by
        rw [HR.out]
        have h8 : preF 8 xn p u v f = wantF f B1 90 := by simp [preF, hB1]
        have h9 : szL xl 0 (insF 8 xn u (owL xl)) (wantF f B1 90) = Q := by rw [← hQ]; exact szL_congr xl 0 0 _ _ _ (fun j _ => by simp [insF])
        rw [h8, h9]
        simp [postF, hy, ET.wd])
      have HY := Lib.hid (And.intro hy (And.intro h2 hQ))
      clear hy hQ hy1 h2
      go_enter Tryd.func31, Tryd.ntmps31
      go_wp2_with fail
      refine c0.mono ?_
      clear c0 z0 z1 z2 z3 z4 z5 z6 z7
      rintro e W1 ⟨rfl, hb1⟩
      have hr1 := HX.out.1.keep (hb1.block b (Array.getElem?_eq_some_iff.1 HX.out.1).1)
      have hrc1 := rowT_cells hr1 o HPL.out
      have y0 : W1.cell? ⟨b, o, none⟩ = some (.int .i64 8) := hrc1 0 _ rfl
      have y1 : W1.cell? ⟨b, o + 1, none⟩ = some (.int .i64 wd) := hrc1 1 _ rfl
      have y2 : W1.cell? ⟨b, o + 2, none⟩ = some (.int .u64 (v : Int)) := hrc1 2 _ rfl
      have y3 : W1.cell? ⟨b, o + 3, none⟩ = some (.int .i64 sg) := hrc1 3 _ rfl
      have y4 : W1.cell? ⟨b, o + 4, none⟩ = some (.int .i64 uh) := hrc1 4 _ rfl
      have y5 : W1.cell? ⟨b, o + 5, none⟩ = some (.int .i64 ul) := hrc1 5 _ rfl
      have y6 : W1.cell? ⟨b, o + 6, none⟩ = some (.int .i64 xn) := hrc1 6 _ rfl
      have y7 : W1.cell? ⟨b, o + 7, none⟩ = some (.slice xa xl.length xc) := hrc1 7 _ rfl
      obtain ⟨q0, q1, q2, q3, q4, q5, q6, q7⟩ := RowT.thaw hr1 o
      obtain ⟨W2, hW2⟩ : ∃ W2, W1.setCell ⟨b, o + 1, none⟩ (.int .i64 u) = W2 := ⟨_, rfl⟩
      have hr2 := RowT.setW hr1 o HPL.out u
      rw [hW2] at hr2
      have hk2 : KeptP (Chg b g lo hi) w W2 := (KeptP.of_below hb1).trans (by rw [← hW2]; exact KeptP.setCell W1 ⟨b, o + 1, none⟩ _ (Or.inl rfl))
      have hot : ∀ k, k < w.heap.size → k ≠ b → W2.heap[k]? = w.heap[k]? := fun k h1 h2 => by rw [← hW2, Below.heap_setCell W1 ⟨b, o + 1, none⟩ _ k h2]; exact hb1.block k h1
      have ho2 : OwnRow W2 lo hi xa xc xl := HX.out.2.1.keepP (fun k h1 h2 => hot k (by have := HX.out.2.2.2.1; omega) (by have := HX.out.2.2.2.2.1; omega))
      have hs2 : SzAt g f W2 := HX.out.2.2.1.keep (hot g (Array.getElem?_eq_some_iff.1 HX.out.2.2.1).1 HX.out.2.2.2.2.2.2)
      have hh2 : hi ≤ W2.heap.size := Nat.le_trans HX.out.2.2.2.1 hk2.size
      have hrc2 := rowT_cells hr2 o HPL.out
      have z0 : W2.cell? ⟨b, o, none⟩ = some (.int .i64 8) := hrc2 0 _ rfl
      have z1 : W2.cell? ⟨b, o + 1, none⟩ = some (.int .i64 u) := hrc2 1 _ rfl
      have z2 : W2.cell? ⟨b, o + 2, none⟩ = some (.int .u64 (v : Int)) := hrc2 2 _ rfl
      have z3 : W2.cell? ⟨b, o + 3, none⟩ = some (.int .i64 sg) := hrc2 3 _ rfl
      have z4 : W2.cell? ⟨b, o + 4, none⟩ = some (.int .i64 uh) := hrc2 4 _ rfl
      have z5 : W2.cell? ⟨b, o + 5, none⟩ = some (.int .i64 ul) := hrc2 5 _ rfl
      have z6 : W2.cell? ⟨b, o + 6, none⟩ = some (.int .i64 xn) := hrc2 6 _ rfl
      have z7 : W2.cell? ⟨b, o + 7, none⟩ = some (.slice xa xl.length xc) := hrc2 7 _ rfl
      have HQ := Lib.hid (And.intro hk2 (And.intro hr2 (And.intro ho2 (And.intro hs2 hh2))))
      clear hb1 hr1 hrc1 hk2 hot ho2 hs2 hh2 hrc2 hr2
      go_wp2_with fail
      refine (orUsual_any p W1).mono ?_
      rintro e W9 ⟨rfl, rfl⟩
      rw [hU]
      have KK0 := Lib.hid (And.intro (KeptP.refl (Chp g lo hi) W2) HQ.out.2.2.1)
      have s0 := HQ.out.2.2.2.1
      have cw := want_any g f B1 90 W2 s0
      have cwK := Lib.hid cw
      clear cw
      go_wp2_with fail
      refine cwK.out.mono ?_
      clear cwK
      rintro e V1 ⟨rfl, k1, s1⟩
      have kk1 : KeptP (Chp g lo hi) W2 V1 := KK0.out.1.trans (KeptP.of_kb1 k1 (Or.inl rfl))
      have oo1 : OwnRow V1 lo hi xa xc xl := own_keepK KK0.out.2 k1 (Nat.le_trans HQ.out.2.2.2.2 KK0.out.1.size) HX.out.2.2.2.2.2.1
      have rr1 := row_keepP HQ.out.2.1 kk1 HX.out.2.2.2.2.1 HX.out.2.2.2.2.2.2
      have hrc := rowT_cells rr1 o HPL.out
      clear z0 z1 z2 z3 z4 z5 z6 z7
      have z0 : V1.cell? ⟨b, o, none⟩ = some (.int .i64 8) := hrc 0 _ rfl
      have z1 : V1.cell? ⟨b, o + 1, none⟩ = some (.int .i64 u) := hrc 1 _ rfl
      have z2 : V1.cell? ⟨b, o + 2, none⟩ = some (.int .u64 (v : Int)) := hrc 2 _ rfl
      have z3 : V1.cell? ⟨b, o + 3, none⟩ = some (.int .i64 sg) := hrc 3 _ rfl
      have z4 : V1.cell? ⟨b, o + 4, none⟩ = some (.int .i64 uh) := hrc 4 _ rfl
      have z5 : V1.cell? ⟨b, o + 5, none⟩ = some (.int .i64 ul) := hrc 5 _ rfl
      have z6 : V1.cell? ⟨b, o + 6, none⟩ = some (.int .i64 xn) := hrc 6 _ rfl
      have z7 : V1.cell? ⟨b, o + 7, none⟩ = some (.slice xa xl.length xc) := hrc 7 _ rfl
      have KK1 := Lib.hid (And.intro kk1 oo1)
      clear hrc kk1 oo1 rr1 k1
      have cz := sizeRow_any 0 g lo hi xa xc xl HL.out.1 (fun x hx => (HC.out x hx).1) (wantF f B1 90) V1 (Nat.le_trans HQ.out.2.2.2.2 KK1.out.1.size) HX.out.2.2.2.2.2.1 KK1.out.2 s1
      rw [HY.out.2.2] at cz
      have czK := Lib.hid cz
      clear cz
      go_wp2_with fail
      refine czK.out.mono ?_
      clear czK
      rintro e V2 ⟨rfl, k2, o2, s2⟩
      have kk2 : KeptP (Chp g lo hi) W2 V2 := KK1.out.1.trans k2
      have rr2 := row_keepP HQ.out.2.1 kk2 HX.out.2.2.2.2.1 HX.out.2.2.2.2.2.2
      have hrc := rowT_cells rr2 o HPL.out
      clear z0 z1 z2 z3 z4 z5 z6 z7
      have z0 : V2.cell? ⟨b, o, none⟩ = some (.int .i64 8) := hrc 0 _ rfl
      have z1 : V2.cell? ⟨b, o + 1, none⟩ = some (.int .i64 u) := hrc 1 _ rfl
      have z2 : V2.cell? ⟨b, o + 2, none⟩ = some (.int .u64 (v : Int)) := hrc 2 _ rfl
      have z3 : V2.cell? ⟨b, o + 3, none⟩ = some (.int .i64 sg) := hrc 3 _ rfl
      have z4 : V2.cell? ⟨b, o + 4, none⟩ = some (.int .i64 uh) := hrc 4 _ rfl
      have z5 : V2.cell? ⟨b, o + 5, none⟩ = some (.int .i64 ul) := hrc 5 _ rfl
      have z6 : V2.cell? ⟨b, o + 6, none⟩ = some (.int .i64 xn) := hrc 6 _ rfl
      have z7 : V2.cell? ⟨b, o + 7, none⟩ = some (.slice xa xl.length xc) := hrc 7 _ rfl
      have o9 : OwnRow V2 lo hi xa xc [(ET.mk op5 wd5 v5 sg5 uh5 ul5 xn5 xa5 xc5 xl5)] := by
        have h := o2
        simp only [List.nil_append, List.append_nil] at h
        rw [HY.out.1] at h
        exact h
      obtain ⟨B, hxa, hrB⟩ : ∃ B, xa = some ⟨B, 0, none⟩ ∧ RowM V2 B (flatE [(ET.mk op5 wd5 v5 sg5 uh5 ul5 xn5 xa5 xc5 xl5)]) := by
        rcases o9 with ⟨h, _, _⟩ | ⟨B, h1, _, _, _, _, h6, _⟩
        · cases h
        · exact ⟨B, h1, h6⟩
      have y1 : V2.cell? ⟨B, 1, none⟩ = some (.int .i64 wd5) := by
        have h := rowM_cells (pre := []) (post := []) (cs := (ET.mk op5 wd5 v5 sg5 uh5 ul5 xn5 xa5 xc5 xl5).cells) (by simpa [flatE] using hrB) 0 rfl 1 _ rfl
        simpa using h
      subst hxa
      rw [HY.out.2.1] at z7
      have ce := (extends_any xn wd5 u V2.drew).mono (R' := fun e w'' => e = .returned (.bool (extB xn wd5 u)) ∧ w'' = V2.drew) (by rintro e W' ⟨rfl, rfl⟩; exact ⟨rfl, rfl⟩)
      have HS3 := Lib.hid (And.intro (s2.keep (w' := V2.drew) rfl) (And.intro (kk2.trans (KeptP.drew _ V2)) (o2.keepP (W' := V2.drew) (fun _ _ _ => rfl))))
      clear hrc rr2 k2 o2 s2 kk2 o9 hrB
      go_upto_region 22 with (fail)
      go_still_tail 14, (by kernel_rfl)
      still_call ce
      repeat still_step
      refine wpStill_nil ?_
      change wpList _ _ _ _ _ V2.drew
      clear ce y1 z0 z1 z2 z3 z4 z5 z6 z7
      generalize V2.drew = V3 at *
      have cx := want_any g Q.2 (extB xn wd5 u) 90 V3 HS3.out.1
      have cxK := Lib.hid cx
      clear cx
      go_wp2_with fail
      refine cxK.out.mono ?_
      clear cxK
      rintro e V4 ⟨rfl, k4, s4⟩
      have kk4 : KeptP (Chp g lo hi) W2 V4 := HS3.out.2.1.trans (KeptP.of_kb1 k4 (Or.inl rfl))
      have oo4 : OwnRow V4 lo hi (some ⟨B, 0, none⟩) xc Q.1 := own_keepK (by simpa using HS3.out.2.2) k4 (Nat.le_trans HQ.out.2.2.2.2 HS3.out.2.1.size) HX.out.2.2.2.2.2.1
      have rr4 := row_keepP HQ.out.2.1 kk4 HX.out.2.2.2.2.1 HX.out.2.2.2.2.2.2
      have HP : Hid (SzP tb g b lo hi pre post R w (.returned (.tuple #[])) V4) := Lib.hid (by
        rw [HE.out]
        exact size_end HQ.out.1 kk4 rr4 oo4 (by rw [HY.out.1, HY.out.2.1]; rfl) s4)
      clear rr4 k4 oo4 s4 kk4
      go_wp2
      exact bodyPost_end (v := .tuple #[]) (by simp [results, Tryd.results31, go_sem]) rfl HP.out
    · have e0 : (w0 == 0) = false := by rw [beq_eq_false_iff_ne]; exact t0
      have hU : w0 = u := by rw [← hu, if_neg t0]
      subst hU
      clear t0 hu
      obtain ⟨B1, hB1⟩ : ∃ x, (p == w0) = x := ⟨_, rfl⟩
      have h2 := HSH.out.2.2.2 rfl
      obtain ⟨Q, hQ⟩ : ∃ Q, szL xl 0 (fun _ => (false, 0)) (wantF f B1 90) = Q := ⟨_, rfl⟩
      have hy1 : Q.1.length = 1 := by rw [← hQ, szL_len]; exact h2
      obtain ⟨y, hy⟩ := one_of hy1
      obtain ⟨op5, wd5, v5, sg5, uh5, ul5, xn5, xa5, xc5, xl5⟩ := y
      have HE : Hid (R = (.mk 8 w0 v sg uh ul xn xa xc Q.1, wantF Q.2 (extB xn wd5 w0) 90)) := Lib.hid (by
        rw [HR.out]
        have h8 : preF 8 xn p w0 v f = wantF f B1 90 := by simp [preF, hB1]
        have h9 : szL xl 0 (insF 8 xn w0 (owL xl)) (wantF f B1 90) = Q := by rw [← hQ]; exact szL_congr xl 0 0 _ _ _ (fun j _ => by simp [insF])
        rw [h8, h9]
        simp [postF, hy, ET.wd])
      have HY := Lib.hid (And.intro hy (And.intro h2 hQ))
      clear hy hQ hy1 h2
      go_enter Tryd.func31, Tryd.ntmps31
      go_wp2_with fail
      refine c0.mono ?_
      clear c0 z0 z1 z2 z3 z4 z5 z6 z7
      rintro e W1 ⟨rfl, hb1⟩
      have hr1 := HX.out.1.keep (hb1.block b (Array.getElem?_eq_some_iff.1 HX.out.1).1)
      have hrc1 := rowT_cells hr1 o HPL.out
      have y0 : W1.cell? ⟨b, o, none⟩ = some (.int .i64 8) := hrc1 0 _ rfl
      have y1 : W1.cell? ⟨b, o + 1, none⟩ = some (.int .i64 wd) := hrc1 1 _ rfl
      have y2 : W1.cell? ⟨b, o + 2, none⟩ = some (.int .u64 (v : Int)) := hrc1 2 _ rfl
      have y3 : W1.cell? ⟨b, o + 3, none⟩ = some (.int .i64 sg) := hrc1 3 _ rfl
      have y4 : W1.cell? ⟨b, o + 4, none⟩ = some (.int .i64 uh) := hrc1 4 _ rfl
      have y5 : W1.cell? ⟨b, o + 5, none⟩ = some (.int .i64 ul) := hrc1 5 _ rfl
      have y6 : W1.cell? ⟨b, o + 6, none⟩ = some (.int .i64 xn) := hrc1 6 _ rfl
      have y7 : W1.cell? ⟨b, o + 7, none⟩ = some (.slice xa xl.length xc) := hrc1 7 _ rfl
      obtain ⟨q0, q1, q2, q3, q4, q5, q6, q7⟩ := RowT.thaw hr1 o
      obtain ⟨W2, hW2⟩ : ∃ W2, W1.setCell ⟨b, o + 1, none⟩ (.int .i64 w0) = W2 := ⟨_, rfl⟩
      have hr2 := RowT.setW hr1 o HPL.out w0
      rw [hW2] at hr2
      have hk2 : KeptP (Chg b g lo hi) w W2 := (KeptP.of_below hb1).trans (by rw [← hW2]; exact KeptP.setCell W1 ⟨b, o + 1, none⟩ _ (Or.inl rfl))
      have hot : ∀ k, k < w.heap.size → k ≠ b → W2.heap[k]? = w.heap[k]? := fun k h1 h2 => by rw [← hW2, Below.heap_setCell W1 ⟨b, o + 1, none⟩ _ k h2]; exact hb1.block k h1
      have ho2 : OwnRow W2 lo hi xa xc xl := HX.out.2.1.keepP (fun k h1 h2 => hot k (by have := HX.out.2.2.2.1; omega) (by have := HX.out.2.2.2.2.1; omega))
      have hs2 : SzAt g f W2 := HX.out.2.2.1.keep (hot g (Array.getElem?_eq_some_iff.1 HX.out.2.2.1).1 HX.out.2.2.2.2.2.2)
      have hh2 : hi ≤ W2.heap.size := Nat.le_trans HX.out.2.2.2.1 hk2.size
      have hrc2 := rowT_cells hr2 o HPL.out
      have z0 : W2.cell? ⟨b, o, none⟩ = some (.int .i64 8) := hrc2 0 _ rfl
      have z1 : W2.cell? ⟨b, o + 1, none⟩ = some (.int .i64 w0) := hrc2 1 _ rfl
      have z2 : W2.cell? ⟨b, o + 2, none⟩ = some (.int .u64 (v : Int)) := hrc2 2 _ rfl
      have z3 : W2.cell? ⟨b, o + 3, none⟩ = some (.int .i64 sg) := hrc2 3 _ rfl
      have z4 : W2.cell? ⟨b, o + 4, none⟩ = some (.int .i64 uh) := hrc2 4 _ rfl
      have z5 : W2.cell? ⟨b, o + 5, none⟩ = some (.int .i64 ul) := hrc2 5 _ rfl
      have z6 : W2.cell? ⟨b, o + 6, none⟩ = some (.int .i64 xn) := hrc2 6 _ rfl
      have z7 : W2.cell? ⟨b, o + 7, none⟩ = some (.slice xa xl.length xc) := hrc2 7 _ rfl
      have HQ := Lib.hid (And.intro hk2 (And.intro hr2 (And.intro ho2 (And.intro hs2 hh2))))
      clear hb1 hr1 hrc1 hk2 hot ho2 hs2 hh2 hrc2 hr2
      have KK0 := Lib.hid (And.intro (KeptP.refl (Chp g lo hi) W2) HQ.out.2.2.1)
      have s0 := HQ.out.2.2.2.1
      have cw := want_any g f B1 90 W2 s0
      have cwK := Lib.hid cw
      clear cw
      go_wp2_with fail
      refine cwK.out.mono ?_
      clear cwK
      rintro e V1 ⟨rfl, k1, s1⟩
      have kk1 : KeptP (Chp g lo hi) W2 V1 := KK0.out.1.trans (KeptP.of_kb1 k1 (Or.inl rfl))
      have oo1 : OwnRow V1 lo hi xa xc xl := own_keepK KK0.out.2 k1 (Nat.le_trans HQ.out.2.2.2.2 KK0.out.1.size) HX.out.2.2.2.2.2.1
      have rr1 := row_keepP HQ.out.2.1 kk1 HX.out.2.2.2.2.1 HX.out.2.2.2.2.2.2
      have hrc := rowT_cells rr1 o HPL.out
      clear z0 z1 z2 z3 z4 z5 z6 z7
      have z0 : V1.cell? ⟨b, o, none⟩ = some (.int .i64 8) := hrc 0 _ rfl
      have z1 : V1.cell? ⟨b, o + 1, none⟩ = some (.int .i64 w0) := hrc 1 _ rfl
      have z2 : V1.cell? ⟨b, o + 2, none⟩ = some (.int .u64 (v : Int)) := hrc 2 _ rfl
      have z3 : V1.cell? ⟨b, o + 3, none⟩ = some (.int .i64 sg) := hrc 3 _ rfl
      have z4 : V1.cell? ⟨b, o + 4, none⟩ = some (.int .i64 uh) := hrc 4 _ rfl
      have z5 : V1.cell? ⟨b, o + 5, none⟩ = some (.int .i64 ul) := hrc 5 _ rfl
      have z6 : V1.cell? ⟨b, o + 6, none⟩ = some (.int .i64 xn) := hrc 6 _ rfl
      have z7 : V1.cell? ⟨b, o + 7, none⟩ = some (.slice xa xl.length xc) := hrc 7 _ rfl
      have KK1 := Lib.hid (And.intro kk1 oo1)
      clear hrc kk1 oo1 rr1 k1
      have cz := sizeRow_any 0 g lo hi xa xc xl HL.out.1 (fun x hx => (HC.out x hx).1) (wantF f B1 90) V1 (Nat.le_trans HQ.out.2.2.2.2 KK1.out.1.size) HX.out.2.2.2.2.2.1 KK1.out.2 s1
      rw [HY.out.2.2] at cz
      have czK := Lib.hid cz
      clear cz
      go_wp2_with fail
      refine czK.out.mono ?_
      clear czK
      rintro e V2 ⟨rfl, k2, o2, s2⟩
      have kk2 : KeptP (Chp g lo hi) W2 V2 := KK1.out.1.trans k2
      have rr2 := row_keepP HQ.out.2.1 kk2 HX.out.2.2.2.2.1 HX.out.2.2.2.2.2.2
      have hrc := rowT_cells rr2 o HPL.out
      clear z0 z1 z2 z3 z4 z5 z6 z7
      have z0 : V2.cell? ⟨b, o, none⟩ = some (.int .i64 8) := hrc 0 _ rfl
      have z1 : V2.cell? ⟨b, o + 1, none⟩ = some (.int .i64 w0) := hrc 1 _ rfl
      have z2 : V2.cell? ⟨b, o + 2, none⟩ = some (.int .u64 (v : Int)) := hrc 2 _ rfl
      have z3 : V2.cell? ⟨b, o + 3, none⟩ = some (.int .i64 sg) := hrc 3 _ rfl
      have z4 : V2.cell? ⟨b, o + 4, none⟩ = some (.int .i64 uh) := hrc 4 _ rfl
      have z5 : V2.cell? ⟨b, o + 5, none⟩ = some (.int .i64 ul) := hrc 5 _ rfl
      have z6 : V2.cell? ⟨b, o + 6, none⟩ = some (.int .i64 xn) := hrc 6 _ rfl
      have z7 : V2.cell? ⟨b, o + 7, none⟩ = some (.slice xa xl.length xc) := hrc 7 _ rfl
      have o9 : OwnRow V2 lo hi xa xc [(ET.mk op5 wd5 v5 sg5 uh5 ul5 xn5 xa5 xc5 xl5)] := by
        have h := o2
        simp only [List.nil_append, List.append_nil] at h
        rw [HY.out.1] at h
        exact h
      obtain ⟨B, hxa, hrB⟩ : ∃ B, xa = some ⟨B, 0, none⟩ ∧ RowM V2 B (flatE [(ET.mk op5 wd5 v5 sg5 uh5 ul5 xn5 xa5 xc5 xl5)]) := by
        rcases o9 with ⟨h, _, _⟩ | ⟨B, h1, _, _, _, _, h6, _⟩
        · cases h
        · exact ⟨B, h1, h6⟩
      have y1 : V2.cell? ⟨B, 1, none⟩ = some (.int .i64 wd5) := by
        have h := rowM_cells (pre := []) (post := []) (cs := (ET.mk op5 wd5 v5 sg5 uh5 ul5 xn5 xa5 xc5 xl5).cells) (by simpa [flatE] using hrB) 0 rfl 1 _ rfl
        simpa using h
      subst hxa
      rw [HY.out.2.1] at z7
      have ce := (extends_any xn wd5 w0 V2.drew).mono (R' := fun e w'' => e = .returned (.bool (extB xn wd5 w0)) ∧ w'' = V2.drew) (by rintro e W' ⟨rfl, rfl⟩; exact ⟨rfl, rfl⟩)
      have HS3 := Lib.hid (And.intro (s2.keep (w' := V2.drew) rfl) (And.intro (kk2.trans (KeptP.drew _ V2)) (o2.keepP (W' := V2.drew) (fun _ _ _ => rfl))))
      clear hrc rr2 k2 o2 s2 kk2 o9 hrB
      go_upto_region 22 with (fail)
      go_still_tail 14, (by kernel_rfl)
      still_call ce
      repeat still_step
      refine wpStill_nil ?_
      change wpList _ _ _ _ _ V2.drew
      clear ce y1 z0 z1 z2 z3 z4 z5 z6 z7
      generalize V2.drew = V3 at *
      have cx := want_any g Q.2 (extB xn wd5 w0) 90 V3 HS3.out.1
      have cxK := Lib.hid cx
      clear cx
      go_wp2_with fail
      refine cxK.out.mono ?_
      clear cxK
      rintro e V4 ⟨rfl, k4, s4⟩
      have kk4 : KeptP (Chp g lo hi) W2 V4 := HS3.out.2.1.trans (KeptP.of_kb1 k4 (Or.inl rfl))
      have oo4 : OwnRow V4 lo hi (some ⟨B, 0, none⟩) xc Q.1 := own_keepK (by simpa using HS3.out.2.2) k4 (Nat.le_trans HQ.out.2.2.2.2 HS3.out.2.1.size) HX.out.2.2.2.2.2.1
      have rr4 := row_keepP HQ.out.2.1 kk4 HX.out.2.2.2.2.1 HX.out.2.2.2.2.2.2
      have HP : Hid (SzP tb g b lo hi pre post R w (.returned (.tuple #[])) V4) := Lib.hid (by
        rw [HE.out]
        exact size_end HQ.out.1 kk4 rr4 oo4 (by rw [HY.out.1, HY.out.2.1]; rfl) s4)
      clear rr4 k4 oo4 s4 kk4
      go_wp2
      exact bodyPost_end (v := .tuple #[]) (by simp [results, Tryd.results31, go_sem]) rfl HP.out
end Go.Proofs.YtbcgeglkmpcnpaaDoor
