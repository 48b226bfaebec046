/-
  The reference of layer 9: how many nodes statements, and designs, have, how deep they are; the law's few.
-/
import Derived.Test.YtbcgeglkmpcnpaaDoorEzB
import Derived.Test.YtbcgeglkmpcnpaaDoorEzX
namespace Go.Proofs.YtbcgeglkmpcnpaaDoor
open Go Go.RowKit
set_option linter.unusedVariables false
set_option linter.unusedSimpArgs false
open Go.Sort

def TT.sl : TT → List TT | .mk _ _ _ _ _ _ _ _ _ sl => sl
def TT.sa : TT → Option Addr | .mk _ _ _ _ _ _ _ sa _ _ => sa
set_option maxHeartbeats 8000000 in
set_option maxRecDepth 100000 in
theorem NodesTL_any (n0 : Nat) (l : List TT) (hsz : TT.szL l ≤ 6000000) (hc : ∀ x ∈ l, ∀ (c : Nat) (w : World), n0 ≤ w.heap.size → InRow 6 TT.cells (TT.In n0 w) n0 w x.sl x.sa → Calls Tryd.prog 47 #[.slice x.sa x.sl.length c] w fun e w' => e = .returned (.int .i64 ((TT.szL x.sl : Nat) : Int)) ∧ Below w.heap.size w w') (a : Option Addr) (c : Nat) (w : World) (hn0 : n0 ≤ w.heap.size) (hin : InRow 6 TT.cells (TT.In n0 w) n0 w l a) :
    Calls Tryd.prog 47 #[.slice a l.length c] w fun e w' => e = .returned (.int .i64 ((TT.szL l : Nat) : Int)) ∧ Below w.heap.size w w' := by
  have hll := TT.szL_len l
  obtain ⟨R, hR⟩ : ∃ R, TT.szL l = R := ⟨_, rfl⟩
  have HR := Lib.hid hR
  have HC := Lib.hid hc
  have HI := Lib.hid hin
  rw [hR]
  clear hR hc hin
  go_enter Tryd.func47, Tryd.ntmps47
  go_wp2
  go_loopg [3, 4] l.length (fun g s u wr => ∃ k : Nat, u = .int .i64 k ∧ k + g = l.length ∧ s = .int .i64 ((TT.szL (l.take k) : Nat) : Int) ∧ Below w.heap.size w wr)
  case atStart => exact ⟨0, rfl, by omega, rfl, Below.refl _ _⟩
  case round =>
    obtain ⟨k, rfl, hk, rfl, hb1⟩ := hrel
    generalize wr = W0 at *
    generalize gk = GK at *
    have hkt := Below.keptTo hb1 hn0
    have hle := TT.szL_take_le l k
    have hld := TT.dpL_sz (l.take k)
    by_cases hlt : k < l.length
    · have d1 : decide (k < l.length) = true := by simpa using hlt
      have d2 : decide ((k : Int) < (l.length : Int)) = true := by rw [decide_eq_true_eq]; omega
      have x1 : (k : Int) < (l.length : Int) := by omega
      obtain ⟨b, o, rfl, hb, hr, hx⟩ := InRow.at (InRow.keep hkt (fun x _ h => TT.In.keep hkt x h) HI.out) hlt
      have ht1 := TT.szL_take l k hlt
      have ht4 := TT.szL_take l k hlt
      have ht3 := TT.szL_take_le l (k + 1)
      have ht6 := (l[k]).dp_sz
      have hcx := HC.out l[k] (List.getElem_mem hlt)
      have HT := Lib.hid ht1
      obtain ⟨S, hS⟩ : ∃ S, TT.szL (l.take k) = S := ⟨_, rfl⟩
      rw [hS] at HT ⊢
      have hS2 : S ≤ 6000000 := by omega
      generalize hgy : l[k] = x at *
      obtain ⟨op, sg, uh, ul, xa, xc, xl, sa, sc, sl⟩ := x
      rw [TT.In_mk] at hx
      simp only [TT.sl, TT.sa] at hcx
      have hszx : 1 + ET.szL xl + TT.szL sl ≤ 6000000 := by rw [TT.sz] at ht4; omega
      have c1 := hcx sc W0 (Nat.le_trans hn0 hb1.size) hx.2
      obtain ⟨T, hT⟩ : ∃ T, TT.szL sl = T := ⟨_, rfl⟩
      rw [hT] at c1
      have hTd := TT.dpL_sz sl
      have hT2 : T ≤ 6000000 := by omega
      have HX : Hid ((TT.mk op sg uh ul xa xc xl sa sc sl).sz = 1 + ET.szL xl + T) := Lib.hid (by rw [TT.sz, hT])
      have HXI := Lib.hid hx.1
      have HBK := Lib.hid (And.intro hr hb)
      have HB1 := Lib.hid hb1
      have hxlen := ET.szL_len xl
      have r4 : W0.cell? ⟨b, o + k * 6 + 4, none⟩ = some (.slice xa xl.length xc) := hr 4 _ rfl
      have r5 : W0.cell? ⟨b, o + k * 6 + 5, none⟩ = some (.slice sa sl.length sc) := hr 5 _ rfl
      have c1K := Lib.hid c1
      have hbN : b < n0 := hb
      have hkl : k < l.length := hlt
      clear hcx hx hgy ht1 ht4 ht3 ht6 hS hT hkt hle hld c1 hb1 hr hb hTd
      go_wp2_with fail
      refine c1K.out.mono ?_
      clear c1K r4 r5
      rintro e W1 ⟨rfl, hb1⟩
      have HBW := Lib.hid (HB1.out.trans (hb1.mono HB1.out.size))
      have HBX := Lib.hid hb1
      clear hb1
      go_wp2
      go_loopg [3, 5] xl.length (fun g s u w8 => ∃ j : Nat, u = .int .i64 j ∧ j + g = xl.length ∧ s = .int .i64 (((S + 1 + T + ET.szL (xl.take j)) : Nat) : Int) ∧ Below w.heap.size w w8 ∧ Below W0.heap.size W0 w8)
      case atStart => exact ⟨0, rfl, by omega, by first | rfl | (simp [ET.szL]; done) | (simp [ET.szL]; omega), HBW.out, HBX.out⟩
      case round =>
        obtain ⟨j, rfl, hj, rfl, hbw, hbx⟩ := hrel
        have r4 : wr.cell? ⟨b, o + k * 6 + 4, none⟩ = some (.slice xa xl.length xc) := keep_cell hbx (HBK.out.1 4 _ rfl)
        have hje := ET.szL_take_le xl j
        have hjd := ET.dpL_sz (xl.take j)
        by_cases hjl : j < xl.length
        · have d3 : decide (j < xl.length) = true := by simpa using hjl
          have d4 : decide ((j : Int) < (xl.length : Int)) = true := by rw [decide_eq_true_eq]; omega
          have x3 : (j : Int) < (xl.length : Int) := by omega
          have hkt2 := Below.keptTo hbx (Nat.le_trans hn0 HB1.out.size)
          obtain ⟨b2, o2, rfl, hb2, hr2, hx2⟩ := InRow.at (InRow.keep hkt2 (fun x _ h => ET.In.keep hkt2 x h) HXI.out) hjl
          have hj1 := ET.szL_take xl j hjl
          have hj2 := ET.szL_take xl j hjl
          have hj3 := ET.szL_take_le xl (j + 1)
          have hj4 := (xl[j]).dp_sz
          have c2 := refNodes_any xl[j] (by omega) n0 wr (Nat.le_trans hn0 hbw.size) hx2
          obtain ⟨V, hV⟩ : ∃ V, S + 1 + T + ET.szL (xl.take j) = V := ⟨_, rfl⟩
          obtain ⟨E, hE⟩ : ∃ E, xl[j].sz = E := ⟨_, rfl⟩
          have HJ : Hid (S + 1 + T + ET.szL (xl.take (j + 1)) = V + E) := Lib.hid (by rw [hj1, ← hV, ← hE]; omega)
          have hV2 : V ≤ 90000000 := by omega
          have hE2 : E ≤ 6000000 := by omega
          rw [hV]
          rw [hE] at c2
          generalize hgx : xl[j] = x at *
          obtain ⟨op2, wd2, v2, sg2, uh2, ul2, xn2, xa2, xc2, xl2⟩ := x
          have q0 : wr.cell? ⟨b2, o2 + j * 8, none⟩ = some (.int .i64 op2) := hr2 0 _ rfl
          have q1 : wr.cell? ⟨b2, o2 + j * 8 + 1, none⟩ = some (.int .i64 wd2) := hr2 1 _ rfl
          have q2 : wr.cell? ⟨b2, o2 + j * 8 + 2, none⟩ = some (.int .u64 (v2 : Int)) := hr2 2 _ rfl
          have q3 : wr.cell? ⟨b2, o2 + j * 8 + 3, none⟩ = some (.int .i64 sg2) := hr2 3 _ rfl
          have q4 : wr.cell? ⟨b2, o2 + j * 8 + 4, none⟩ = some (.int .i64 uh2) := hr2 4 _ rfl
          have q5 : wr.cell? ⟨b2, o2 + j * 8 + 5, none⟩ = some (.int .i64 ul2) := hr2 5 _ rfl
          have q6 : wr.cell? ⟨b2, o2 + j * 8 + 6, none⟩ = some (.int .i64 xn2) := hr2 6 _ rfl
          have q7 : wr.cell? ⟨b2, o2 + j * 8 + 7, none⟩ = some (.slice xa2 xl2.length xc2) := hr2 7 _ rfl
          simp only [ET.val, ET.cells] at c2
          have HBY := Lib.hid (And.intro hbw hbx)
          have c2K := Lib.hid c2
          clear hr2 hx2 hgx hj1 hj2 hj3 hj4 hV hE hkt2 hbw hbx hje hjd hb2 c2
          go_wp2_with fail
          refine c2K.out.mono ?_
          clear c2K r4 q0 q1 q2 q3 q4 q5 q6 q7
          rintro e W3 ⟨rfl, hb3⟩
          have HB2 := Lib.hid (And.intro (HBY.out.1.trans (hb3.mono HBY.out.1.size)) (HBY.out.2.trans (hb3.mono HBY.out.2.size)))
          clear hb3 HBY
          obtain ⟨gh, hgh⟩ : ∃ gh, gk = gh + 1 := ⟨gk - 1, by omega⟩
          subst hgh
          go_wp2
          go_roundg gh
          case rel => exact ⟨j + 1, rfl, by omega, by rw [HJ.out]; simp, HB2.out.1, HB2.out.2⟩
          case measure => omega
        · have d3 : decide (j < xl.length) = false := by simpa using hjl
          have d4 : decide ((j : Int) < (xl.length : Int)) = false := by rw [decide_eq_false_iff_not]; omega
          have HK : Hid (S + 1 + T + ET.szL (xl.take j) = TT.szL (l.take (k + 1))) := Lib.hid (by
            rw [HT.out, HX.out, show j = xl.length by omega, List.take_length]
            omega)
          have HBW2 := Lib.hid hbw
          have hV3 : S + 1 + T + ET.szL (xl.take j) ≤ 90000000 := by omega
          rw [HK.out] at hV3 ⊢
          clear hbw hbx hje hjd
          obtain ⟨gg, hgg⟩ : ∃ gg, GK = gg + 1 := ⟨GK - 1, by omega⟩
          subst hgg
          go_wp2
          go_roundg gg
          case rel => exact ⟨k + 1, rfl, by omega, rfl, HBW2.out⟩
          case measure => omega
    · have d1 : decide (k < l.length) = false := by simpa using hlt
      have d2 : decide ((k : Int) < (l.length : Int)) = false := by rw [decide_eq_false_iff_not]; omega
      have HE : Hid (TT.szL (l.take k) = R) := Lib.hid (by rw [show k = l.length by omega, List.take_length]; exact HR.out)
      rw [HE.out]
      have HBW := Lib.hid hb1
      clear hlt hb1 hkt hle hld
      go_wp2
      go_ret
      exact ⟨rfl, HBW.out⟩
theorem NodesT_any : ∀ x : TT, TT.szL x.sl ≤ 6000000 → ∀ (n0 c : Nat) (w : World), n0 ≤ w.heap.size → InRow 6 TT.cells (TT.In n0 w) n0 w x.sl x.sa → Calls Tryd.prog 47 #[.slice x.sa x.sl.length c] w fun e w' => e = .returned (.int .i64 ((TT.szL x.sl : Nat) : Int)) ∧ Below w.heap.size w w' := by
  refine TT.ind ?_
  intro op sg uh ul xa xc xl sa sc sl ih hsz n0 c w hn0 hin
  exact NodesTL_any n0 sl hsz (fun x hx c w' h1 h2 => ih x hx (by
    have h3 := TT.szL_mem hx
    have h4 : TT.szL x.sl ≤ x.sz := by obtain ⟨_, _, _, _, _, _, _, _, _, q⟩ := x; simp only [TT.sl, TT.sz]; omega
    simp only [TT.sl] at hsz
    omega) n0 c w' h1 h2) sa c w hn0 hin
theorem NodesTR_any (n0 : Nat) (l : List TT) (hsz : TT.szL l ≤ 6000000) (a : Option Addr) (c : Nat) (w : World) (hn0 : n0 ≤ w.heap.size) (hin : InRow 6 TT.cells (TT.In n0 w) n0 w l a) : Calls Tryd.prog 47 #[.slice a l.length c] w fun e w' => e = .returned (.int .i64 ((TT.szL l : Nat) : Int)) ∧ Below w.heap.size w w' :=
  NodesT_any (.mk 0 0 0 0 none 0 [] a 0 l) hsz n0 c w hn0 hin
set_option maxHeartbeats 8000000 in
set_option maxRecDepth 100000 in
theorem deepTL_any (n0 : Nat) (l : List TT) (hsz : TT.szL l ≤ 6000000) (hc : ∀ x ∈ l, ∀ (c : Nat) (w : World), n0 ≤ w.heap.size → InRow 6 TT.cells (TT.In n0 w) n0 w x.sl x.sa → Calls Tryd.prog 48 #[.slice x.sa x.sl.length c] w fun e w' => e = .returned (.int .i64 ((TT.dpL x.sl : Nat) : Int)) ∧ Below w.heap.size w w') (a : Option Addr) (c : Nat) (w : World) (hn0 : n0 ≤ w.heap.size) (hin : InRow 6 TT.cells (TT.In n0 w) n0 w l a) :
    Calls Tryd.prog 48 #[.slice a l.length c] w fun e w' => e = .returned (.int .i64 ((TT.dpL l : Nat) : Int)) ∧ Below w.heap.size w w' := by
  have hll := TT.szL_len l
  obtain ⟨R, hR⟩ : ∃ R, TT.dpL l = R := ⟨_, rfl⟩
  have HR := Lib.hid hR
  have HC := Lib.hid hc
  have HI := Lib.hid hin
  rw [hR]
  clear hR hc hin
  go_enter Tryd.func48, Tryd.ntmps48
  go_wp2
  go_loopg [3, 4] l.length (fun g s u wr => ∃ k : Nat, u = .int .i64 k ∧ k + g = l.length ∧ s = .int .i64 ((TT.dpL (l.take k) : Nat) : Int) ∧ Below w.heap.size w wr)
  case atStart => exact ⟨0, rfl, by omega, rfl, Below.refl _ _⟩
  case round =>
    obtain ⟨k, rfl, hk, rfl, hb1⟩ := hrel
    generalize wr = W0 at *
    generalize gk = GK at *
    have hkt := Below.keptTo hb1 hn0
    have hle := TT.szL_take_le l k
    have hld := TT.dpL_sz (l.take k)
    by_cases hlt : k < l.length
    · have d1 : decide (k < l.length) = true := by simpa using hlt
      have d2 : decide ((k : Int) < (l.length : Int)) = true := by rw [decide_eq_true_eq]; omega
      have x1 : (k : Int) < (l.length : Int) := by omega
      obtain ⟨b, o, rfl, hb, hr, hx⟩ := InRow.at (InRow.keep hkt (fun x _ h => TT.In.keep hkt x h) HI.out) hlt
      have ht1 := TT.dpL_take l k hlt
      have ht4 := TT.szL_take l k hlt
      have ht3 := TT.szL_take_le l (k + 1)
      have ht6 := (l[k]).dp_sz
      have hcx := HC.out l[k] (List.getElem_mem hlt)
      have HT := Lib.hid ht1
      obtain ⟨S, hS⟩ : ∃ S, TT.dpL (l.take k) = S := ⟨_, rfl⟩
      rw [hS] at HT ⊢
      have hS2 : S ≤ 6000000 := by omega
      generalize hgy : l[k] = x at *
      obtain ⟨op, sg, uh, ul, xa, xc, xl, sa, sc, sl⟩ := x
      rw [TT.In_mk] at hx
      simp only [TT.sl, TT.sa] at hcx
      have hszx : 1 + ET.szL xl + TT.szL sl ≤ 6000000 := by rw [TT.sz] at ht4; omega
      have c1 := hcx sc W0 (Nat.le_trans hn0 hb1.size) hx.2
      obtain ⟨T, hT⟩ : ∃ T, TT.dpL sl = T := ⟨_, rfl⟩
      rw [hT] at c1
      have hTd := TT.dpL_sz sl
      have hT2 : T ≤ 6000000 := by omega
      have HX : Hid ((TT.mk op sg uh ul xa xc xl sa sc sl).dp = 1 + max (ET.dpL xl) T) := Lib.hid (by rw [TT.dp, hT])
      have HXI := Lib.hid hx.1
      have HBK := Lib.hid (And.intro hr hb)
      have HB1 := Lib.hid hb1
      have hxlen := ET.szL_len xl
      have r4 : W0.cell? ⟨b, o + k * 6 + 4, none⟩ = some (.slice xa xl.length xc) := hr 4 _ rfl
      have r5 : W0.cell? ⟨b, o + k * 6 + 5, none⟩ = some (.slice sa sl.length sc) := hr 5 _ rfl
      have c1K := Lib.hid c1
      have hbN : b < n0 := hb
      have hkl : k < l.length := hlt
      clear hcx hx hgy ht1 ht4 ht3 ht6 hS hT hkt hle hld c1 hb1 hr hb hTd
      go_wp2_with fail
      refine c1K.out.mono ?_
      clear c1K r4 r5
      rintro e W1 ⟨rfl, hb1⟩
      have HBW := Lib.hid (HB1.out.trans (hb1.mono HB1.out.size))
      have HBX := Lib.hid hb1
      clear hb1
      by_cases hse : S ≤ 1 + T
      all_goals
        go_wp2
        go_loopg [3, 5] xl.length (fun g s u w8 => ∃ j : Nat, u = .int .i64 j ∧ j + g = xl.length ∧ s = .int .i64 (((max (max S (1 + T)) (if j = 0 then 0 else 1 + ET.dpL (xl.take j))) : Nat) : Int) ∧ Below w.heap.size w w8 ∧ Below W0.heap.size W0 w8)
        case atStart => exact ⟨0, rfl, by omega, by first | rfl | (simp; omega) | (congr 1; simp; omega), HBW.out, HBX.out⟩
        case round =>
          obtain ⟨j, rfl, hj, rfl, hbw, hbx⟩ := hrel
          have r4 : wr.cell? ⟨b, o + k * 6 + 4, none⟩ = some (.slice xa xl.length xc) := keep_cell hbx (HBK.out.1 4 _ rfl)
          have hje := ET.szL_take_le xl j
          have hjd := ET.dpL_sz (xl.take j)
          by_cases hjl : j < xl.length
          · have d3 : decide (j < xl.length) = true := by simpa using hjl
            have d4 : decide ((j : Int) < (xl.length : Int)) = true := by rw [decide_eq_true_eq]; omega
            have x3 : (j : Int) < (xl.length : Int) := by omega
            have hkt2 := Below.keptTo hbx (Nat.le_trans hn0 HB1.out.size)
            obtain ⟨b2, o2, rfl, hb2, hr2, hx2⟩ := InRow.at (InRow.keep hkt2 (fun x _ h => ET.In.keep hkt2 x h) HXI.out) hjl
            have hj1 := ET.dpL_take xl j hjl
            have hj2 := ET.szL_take xl j hjl
            have hj3 := ET.szL_take_le xl (j + 1)
            have hj4 := (xl[j]).dp_sz
            have c2 := refDeep_any xl[j] (by omega) n0 wr (Nat.le_trans hn0 hbw.size) hx2
            obtain ⟨V, hV⟩ : ∃ V, max (max S (1 + T)) (if j = 0 then 0 else 1 + ET.dpL (xl.take j)) = V := ⟨_, rfl⟩
            obtain ⟨E, hE⟩ : ∃ E, xl[j].dp = E := ⟨_, rfl⟩
            have HJ : Hid (max (max S (1 + T)) (if (j + 1) = 0 then 0 else 1 + ET.dpL (xl.take (j + 1))) = max V (1 + E)) := Lib.hid (by rw [hj1, ← hV, ← hE]; by_cases h0 : j = 0 <;> simp [h0, ET.dpL] <;> omega)
            have hV2 : V ≤ 90000000 := by (have hq : ET.dpL (xl.take j) ≤ 6000000 := by omega); (rw [← hV]; by_cases h0 : j = 0 <;> simp [h0] <;> omega)
            have hE2 : E ≤ 6000000 := by omega
            rw [hV]
            rw [hE] at c2
            generalize hgx : xl[j] = x at *
            obtain ⟨op2, wd2, v2, sg2, uh2, ul2, xn2, xa2, xc2, xl2⟩ := x
            have q0 : wr.cell? ⟨b2, o2 + j * 8, none⟩ = some (.int .i64 op2) := hr2 0 _ rfl
            have q1 : wr.cell? ⟨b2, o2 + j * 8 + 1, none⟩ = some (.int .i64 wd2) := hr2 1 _ rfl
            have q2 : wr.cell? ⟨b2, o2 + j * 8 + 2, none⟩ = some (.int .u64 (v2 : Int)) := hr2 2 _ rfl
            have q3 : wr.cell? ⟨b2, o2 + j * 8 + 3, none⟩ = some (.int .i64 sg2) := hr2 3 _ rfl
            have q4 : wr.cell? ⟨b2, o2 + j * 8 + 4, none⟩ = some (.int .i64 uh2) := hr2 4 _ rfl
            have q5 : wr.cell? ⟨b2, o2 + j * 8 + 5, none⟩ = some (.int .i64 ul2) := hr2 5 _ rfl
            have q6 : wr.cell? ⟨b2, o2 + j * 8 + 6, none⟩ = some (.int .i64 xn2) := hr2 6 _ rfl
            have q7 : wr.cell? ⟨b2, o2 + j * 8 + 7, none⟩ = some (.slice xa2 xl2.length xc2) := hr2 7 _ rfl
            simp only [ET.val, ET.cells] at c2
            have HBY := Lib.hid (And.intro hbw hbx)
            have c2K := Lib.hid c2
            clear hr2 hx2 hgx hj1 hj2 hj3 hj4 hV hE hkt2 hbw hbx hje hjd hb2 c2
            go_wp2_with fail
            refine c2K.out.mono ?_
            clear c2K r4 q0 q1 q2 q3 q4 q5 q6 q7
            rintro e W3 ⟨rfl, hb3⟩
            have HB2 := Lib.hid (And.intro (HBY.out.1.trans (hb3.mono HBY.out.1.size)) (HBY.out.2.trans (hb3.mono HBY.out.2.size)))
            clear hb3 HBY
            obtain ⟨gh, hgh⟩ : ∃ gh, gk = gh + 1 := ⟨gk - 1, by omega⟩
            subst hgh
            by_cases hsf : V ≤ 1 + E
            all_goals
              go_wp2
              all_goals
                go_roundg gh
                case rel => exact ⟨j + 1, rfl, by omega, by rw [HJ.out]; congr 1; omega, HB2.out.1, HB2.out.2⟩
                case measure => omega
          · have d3 : decide (j < xl.length) = false := by simpa using hjl
            have d4 : decide ((j : Int) < (xl.length : Int)) = false := by rw [decide_eq_false_iff_not]; omega
            have HK : Hid (max (max S (1 + T)) (if j = 0 then 0 else 1 + ET.dpL (xl.take j)) = TT.dpL (l.take (k + 1))) := Lib.hid (by
              rw [HT.out, HX.out, show j = xl.length by omega, List.take_length]
              by_cases h0 : xl.length = 0
              · have h1 : xl = [] := List.length_eq_zero_iff.1 h0
                subst h1; simp [ET.dpL] <;> omega
              · simp [h0] <;> omega)
            have HBW2 := Lib.hid hbw
            have hV3 : max (max S (1 + T)) (if j = 0 then 0 else 1 + ET.dpL (xl.take j)) ≤ 90000000 := by by_cases h0 : j = 0 <;> simp [h0] <;> omega
            rw [HK.out] at hV3 ⊢
            clear hbw hbx hje hjd
            obtain ⟨gg, hgg⟩ : ∃ gg, GK = gg + 1 := ⟨GK - 1, by omega⟩
            subst hgg
            go_wp2
            go_roundg gg
            case rel => exact ⟨k + 1, rfl, by omega, rfl, HBW2.out⟩
            case measure => omega
    · have d1 : decide (k < l.length) = false := by simpa using hlt
      have d2 : decide ((k : Int) < (l.length : Int)) = false := by rw [decide_eq_false_iff_not]; omega
      have HE : Hid (TT.dpL (l.take k) = R) := Lib.hid (by rw [show k = l.length by omega, List.take_length]; exact HR.out)
      rw [HE.out]
      have HBW := Lib.hid hb1
      clear hlt hb1 hkt hle hld
      go_wp2
      go_ret
      exact ⟨rfl, HBW.out⟩
theorem deepT_any : ∀ x : TT, TT.szL x.sl ≤ 6000000 → ∀ (n0 c : Nat) (w : World), n0 ≤ w.heap.size → InRow 6 TT.cells (TT.In n0 w) n0 w x.sl x.sa → Calls Tryd.prog 48 #[.slice x.sa x.sl.length c] w fun e w' => e = .returned (.int .i64 ((TT.dpL x.sl : Nat) : Int)) ∧ Below w.heap.size w w' := by
  refine TT.ind ?_
  intro op sg uh ul xa xc xl sa sc sl ih hsz n0 c w hn0 hin
  exact deepTL_any n0 sl hsz (fun x hx c w' h1 h2 => ih x hx (by
    have h3 := TT.szL_mem hx
    have h4 : TT.szL x.sl ≤ x.sz := by obtain ⟨_, _, _, _, _, _, _, _, _, q⟩ := x; simp only [TT.sl, TT.sz]; omega
    simp only [TT.sl] at hsz
    omega) n0 c w' h1 h2) sa c w hn0 hin
theorem deepTR_any (n0 : Nat) (l : List TT) (hsz : TT.szL l ≤ 6000000) (a : Option Addr) (c : Nat) (w : World) (hn0 : n0 ≤ w.heap.size) (hin : InRow 6 TT.cells (TT.In n0 w) n0 w l a) : Calls Tryd.prog 48 #[.slice a l.length c] w fun e w' => e = .returned (.int .i64 ((TT.dpL l : Nat) : Int)) ∧ Below w.heap.size w w' :=
  deepT_any (.mk 0 0 0 0 none 0 [] a 0 l) hsz n0 c w hn0 hin

def nodesQ : List QT → Nat | [] => 0 | q :: r => TT.szL q.sl + nodesQ r
def nodesK : List KT → Nat | [] => 0 | q :: r => q.x.sz + nodesK r
def deepQ : List QT → Nat | [] => 0 | q :: r => max (TT.dpL q.sl) (deepQ r)
def deepK : List KT → Nat | [] => 0 | q :: r => max q.x.dp (deepK r)
theorem nodesQ_app : ∀ l m, nodesQ (l ++ m) = nodesQ l + nodesQ m
  | [], m => by simp [nodesQ]
  | x :: r, m => by simp [nodesQ, nodesQ_app r m]; omega
theorem nodesK_app : ∀ l m, nodesK (l ++ m) = nodesK l + nodesK m
  | [], m => by simp [nodesK]
  | x :: r, m => by simp [nodesK, nodesK_app r m]; omega
theorem deepQ_app : ∀ l m, deepQ (l ++ m) = max (deepQ l) (deepQ m)
  | [], m => by simp [deepQ]
  | x :: r, m => by simp [deepQ, deepQ_app r m] <;> omega
theorem deepK_app : ∀ l m, deepK (l ++ m) = max (deepK l) (deepK m)
  | [], m => by simp [deepK]
  | x :: r, m => by simp [deepK, deepK_app r m] <;> omega
theorem nodesQ_take (l : List QT) (k : Nat) (h : k < l.length) : nodesQ (l.take (k + 1)) = nodesQ (l.take k) + TT.szL l[k].sl := by
  rw [List.take_succ_eq_append_getElem h, nodesQ_app]; simp [nodesQ]
theorem nodesK_take (l : List KT) (k : Nat) (h : k < l.length) : nodesK (l.take (k + 1)) = nodesK (l.take k) + l[k].x.sz := by
  rw [List.take_succ_eq_append_getElem h, nodesK_app]; simp [nodesK]
theorem deepQ_take (l : List QT) (k : Nat) (h : k < l.length) : deepQ (l.take (k + 1)) = max (deepQ (l.take k)) (TT.dpL l[k].sl) := by
  rw [List.take_succ_eq_append_getElem h, deepQ_app]; simp [deepQ]
theorem deepK_take (l : List KT) (k : Nat) (h : k < l.length) : deepK (l.take (k + 1)) = max (deepK (l.take k)) l[k].x.dp := by
  rw [List.take_succ_eq_append_getElem h, deepK_app]; simp [deepK]
theorem nodesQ_le : ∀ (l : List QT) (k : Nat), nodesQ (l.take k) ≤ QT.szL l
  | [], k => by simp [nodesQ]
  | x :: r, 0 => by simp [nodesQ]
  | x :: r, k + 1 => by
    have := nodesQ_le r k
    obtain ⟨_, _, _, q⟩ := x
    simp only [List.take_succ_cons, nodesQ, QT.szL, QT.sz]; omega
theorem nodesK_le : ∀ (l : List KT) (k : Nat), nodesK (l.take k) ≤ KT.szL l
  | [], k => by simp [nodesK]
  | x :: r, 0 => by simp [nodesK]
  | x :: r, k + 1 => by
    have := nodesK_le r k
    obtain ⟨_, q⟩ := x
    simp only [List.take_succ_cons, nodesK, KT.szL, KT.sz]; omega
theorem deepQ_nodes : ∀ l, deepQ l ≤ nodesQ l
  | [] => Nat.le_refl _
  | x :: r => by have := deepQ_nodes r; have := TT.dpL_sz x.sl; simp only [deepQ, nodesQ]; omega
theorem deepK_nodes : ∀ l, deepK l ≤ nodesK l
  | [] => Nat.le_refl _
  | x :: r => by have := deepK_nodes r; have := x.x.dp_sz; simp only [deepK, nodesK]; omega
def measN (d : DT) : Nat := nodesQ d.ql + nodesK d.kl
def measD (d : DT) : Nat := max (deepQ d.ql) (deepK d.kl)
set_option maxHeartbeats 8000000 in
set_option maxRecDepth 100000 in
theorem measure_any (d : DT) (hbk : d.bk ≤ 4500000) (n0 : Nat) (w : World) (hn0 : n0 ≤ w.heap.size) (hin : d.In n0 w) : Calls Tryd.prog 25 #[d.val] w fun e w' => e = .returned (.tuple #[.int .i64 ((measN d : Nat) : Int), .int .i64 ((measD d : Nat) : Int)]) ∧ Below w.heap.size w w' := by
  obtain ⟨ga, gc, gl, qa, qc, ql, ka, kc, kl⟩ := d
  simp only [DT.bk] at hbk
  have g3 := QT.szL_bk ql
  have g5 := KT.szL_bk kl
  have g6 := QT.bkL_len ql
  have g7 := KT.bkL_len kl
  have HSB : Hid (QT.szL ql ≤ 4500000 ∧ KT.szL kl ≤ 4500000 ∧ nodesQ ql ≤ 4500000 ∧ deepQ ql ≤ 4500000) := Lib.hid (by
    have q1 := nodesQ_le ql ql.length
    have q2 := deepQ_nodes ql
    rw [List.take_length] at q1
    omega)
  have HLN := Lib.hid (And.intro (show ql.length ≤ 4500000 by omega) (show kl.length ≤ 4500000 by omega))
  clear g3 g5 g6 g7 hbk
  simp only [DT.val, DT.cells]
  obtain ⟨gx, hgx⟩ : ∃ gx, w.heap.size = gx := ⟨_, rfl⟩
  obtain ⟨wa, hwa⟩ : ∃ wa, w.alloc (.cells #[.slice ga gl.length gc, .slice qa ql.length qc, .slice ka kl.length kc] 26) = wa := ⟨_, rfl⟩
  have hba : Below w.heap.size w wa := by rw [← hwa]; exact (Below.refl _ _).alloc (Nat.le_refl _) _
  have BX : wa.heap[gx]? = some (.cells #[.slice ga gl.length gc, .slice qa ql.length qc, .slice ka kl.length kc] 26 (0, 0)) := by rw [← hwa, ← hgx]; exact World.alloc_heap_new w _
  have HW := Lib.hid (And.intro hba BX)
  have HI := Lib.hid hin
  clear hba BX hin
  go_enter Tryd.func25, Tryd.ntmps25
  go_upto_region 1 with (fail)
  (try rw [hwa])
  (try rw [hgx])
  clear hwa
  go_wp2
  go_loopg [4, 5, 6] ql.length (fun g s d u wr => ∃ k : Nat, u = .int .i64 k ∧ k + g = ql.length ∧ s = .int .i64 (((nodesQ (ql.take k)) : Nat) : Int) ∧ d = .int .i64 (((deepQ (ql.take k)) : Nat) : Int) ∧ Below w.heap.size w wr ∧ wr.heap[gx]? = some (.cells #[.slice ga gl.length gc, .slice qa ql.length qc, .slice ka kl.length kc] 26 (0, 0)))
  case atStart => exact ⟨0, rfl, by omega, by first | rfl | (simp [nodesK]; done), by first | rfl | (simp [deepK]; done), HW.out.1, HW.out.2⟩
  case round =>
    obtain ⟨k, rfl, hk, rfl, rfl, hbw, hbx⟩ := hrel
    have hkt := Below.keptTo hbw hn0
    have hle := nodesQ_le ql k
    have hld := deepQ_nodes (ql.take k)
    obtain ⟨z0, z1, z2⟩ := opq3 hbx
    have hBS := HSB.out
    by_cases hlt : k < ql.length
    · have d1 : decide (k < ql.length) = true := by simpa using hlt
      have d2 : decide ((k : Int) < (ql.length : Int)) = true := by rw [decide_eq_true_eq]; omega
      have x1 : (k : Int) < (ql.length : Int) := by omega
      obtain ⟨b, o, rfl, hb, hr, hx⟩ := InRow.at (InRow.keep hkt (fun x _ h => QT.In.keep hkt x h) HI.out.2.1) hlt
      have x2 : (k : Int) ≤ 50000000 := by have := HLN.out; omega
      have ht1 := nodesQ_take ql k hlt
      have ht2 := deepQ_take ql k hlt
      have ht3 := nodesQ_le ql (k + 1)
      generalize hgy : ql[k] = x at *
      obtain ⟨ck, sa, sc, sl⟩ := x
      simp only [QT.In] at ht1 ht2 hx
      have r1 : wr.cell? ⟨b, o + k * 2 + 1, none⟩ = some (.slice sa sl.length sc) := hr 1 _ rfl
      have hsze := TT.dpL_sz sl
      have HSZ : Hid (TT.szL sl ≤ 6000000) := Lib.hid (by omega)
      have c1 := NodesTR_any n0 sl (by omega) sa sc wr (Nat.le_trans hn0 hbw.size) hx
      obtain ⟨S, hS⟩ : ∃ S, nodesQ (ql.take k) = S := ⟨_, rfl⟩
      obtain ⟨D, hD⟩ : ∃ D, deepQ (ql.take k) = D := ⟨_, rfl⟩
      obtain ⟨E, hE⟩ : ∃ E, TT.szL sl = E := ⟨_, rfl⟩
      obtain ⟨H, hH⟩ : ∃ H, TT.dpL sl = H := ⟨_, rfl⟩
      have HT : Hid (nodesQ (ql.take (k + 1)) = S + E ∧ deepQ (ql.take (k + 1)) = max D H) := Lib.hid (by rw [ht1, ht2, ← hS, ← hD, ← hE, ← hH]; omega)
      have hS2 : S ≤ 40000000 := by omega
      have hD2 : D ≤ 40000000 := by omega
      have hE2 : E ≤ 40000000 := by omega
      have hH2 : H ≤ 40000000 := by omega
      rw [hS, hD]
      rw [hE] at c1
      have HBW := Lib.hid (And.intro hbw hbx)
      have HXX := Lib.hid hx
      have HR2 := Lib.hid hr
      have c1K := Lib.hid c1
      have HH := Lib.hid hH
      clear hr hx hgy ht1 ht2 ht3 hS hD hE hH hkt hbw hbx hle hld hb hsze hBS c1
      
      go_wp2_with fail
      refine c1K.out.mono ?_
      clear c1K z0 z1 z2
      rintro e W1 ⟨rfl, hb1⟩
      have HB2 := Lib.hid (And.intro (HBW.out.1.trans (hb1.mono HBW.out.1.size)) (block_kept HBW.out.2 hb1))
      obtain ⟨z0, z1, z2⟩ := opq3 HB2.out.2
      clear r1
      have r1 : W1.cell? ⟨b, o + k * 2 + 1, none⟩ = some (.slice sa sl.length sc) := keep_cell hb1 (HR2.out 1 _ rfl)
      have c2 := deepTR_any n0 sl (by have := HSZ.out; omega) sa sc W1 (Nat.le_trans hn0 HB2.out.1.size) (InRow.keep (Below.keptTo hb1 (Nat.le_trans hn0 HBW.out.1.size)) (fun x _ h => TT.In.keep (Below.keptTo hb1 (Nat.le_trans hn0 HBW.out.1.size)) x h) HXX.out)
      rw [HH.out] at c2
      have c2K := Lib.hid c2
      clear c2 hb1
      
      go_wp2_with fail
      refine c2K.out.mono ?_
      clear c2K z0 z1 z2 r1
      rintro e W2 ⟨rfl, hb2⟩
      have HB3 := Lib.hid (And.intro (HB2.out.1.trans (hb2.mono HB2.out.1.size)) (block_kept HB2.out.2 hb2))
      clear hb2
      obtain ⟨gg, rfl⟩ : ∃ gg, gk = gg + 1 := ⟨gk - 1, by omega⟩
      by_cases hse : D ≤ H
      all_goals
        go_wp2
        all_goals
          go_roundg gg
          case rel => exact ⟨k + 1, rfl, by omega, by rw [HT.out.1]; first | rfl | simp, by rw [HT.out.2]; congr 1; omega, HB3.out.1, HB3.out.2⟩
          case measure => omega
    · have d1 : decide (k < ql.length) = false := by simpa using hlt
      have d2 : decide ((k : Int) < (ql.length : Int)) = false := by rw [decide_eq_false_iff_not]; omega
      have HE : Hid (nodesQ (ql.take k) = nodesQ ql ∧ deepQ (ql.take k) = deepQ ql) := Lib.hid (by rw [show k = ql.length by omega, List.take_length]; exact ⟨rfl, rfl⟩)
      rw [HE.out.1, HE.out.2]
      have HWQ := Lib.hid (And.intro hbw hbx)
      clear hlt hbw hbx hkt hle hld hBS
      go_wp2
      go_loopg [4, 5, 7] kl.length (fun g s d u wr => ∃ k : Nat, u = .int .i64 k ∧ k + g = kl.length ∧ s = .int .i64 (((nodesQ ql + nodesK (kl.take k)) : Nat) : Int) ∧ d = .int .i64 (((max (deepQ ql) (deepK (kl.take k))) : Nat) : Int) ∧ Below w.heap.size w wr ∧ wr.heap[gx]? = some (.cells #[.slice ga gl.length gc, .slice qa ql.length qc, .slice ka kl.length kc] 26 (0, 0)))
      case atStart => exact ⟨0, rfl, by omega, by first | rfl | (simp [nodesK]; done), by first | rfl | (simp [deepK]; done), HWQ.out.1, HWQ.out.2⟩
      case round =>
        obtain ⟨k, rfl, hk, rfl, rfl, hbw, hbx⟩ := hrel
        have hkt := Below.keptTo hbw hn0
        have hle := nodesK_le kl k
        have hld := deepK_nodes (kl.take k)
        obtain ⟨z0, z1, z2⟩ := opq3 hbx
        have hBS := HSB.out
        by_cases hlt : k < kl.length
        · have d1 : decide (k < kl.length) = true := by simpa using hlt
          have d2 : decide ((k : Int) < (kl.length : Int)) = true := by rw [decide_eq_true_eq]; omega
          have x1 : (k : Int) < (kl.length : Int) := by omega
          obtain ⟨b, o, rfl, hb, hr, hx⟩ := InRow.at (InRow.keep hkt (fun x _ h => KT.In.keep hkt x h) HI.out.2.2) hlt
          have x2 : (k : Int) ≤ 50000000 := by have := HLN.out; omega
          have ht1 := nodesK_take kl k hlt
          have ht2 := deepK_take kl k hlt
          have ht3 := nodesK_le kl (k + 1)
          generalize hgy : kl[k] = x at *
          obtain ⟨bn, x9⟩ := x
          obtain ⟨op, wd, v, sg, uh, ul, xn, xa, xc, xl⟩ := x9
          simp only [KT.In] at ht1 ht2 hx
          have r1 : wr.cell? ⟨b, o + k * 9 + 1, none⟩ = some (.int .i64 op) := hr 1 _ rfl
          have r2 : wr.cell? ⟨b, o + k * 9 + 2, none⟩ = some (.int .i64 wd) := hr 2 _ rfl
          have r3 : wr.cell? ⟨b, o + k * 9 + 3, none⟩ = some (.int .u64 (v : Int)) := hr 3 _ rfl
          have r4 : wr.cell? ⟨b, o + k * 9 + 4, none⟩ = some (.int .i64 sg) := hr 4 _ rfl
          have r5 : wr.cell? ⟨b, o + k * 9 + 5, none⟩ = some (.int .i64 uh) := hr 5 _ rfl
          have r6 : wr.cell? ⟨b, o + k * 9 + 6, none⟩ = some (.int .i64 ul) := hr 6 _ rfl
          have r7 : wr.cell? ⟨b, o + k * 9 + 7, none⟩ = some (.int .i64 xn) := hr 7 _ rfl
          have r8 : wr.cell? ⟨b, o + k * 9 + 8, none⟩ = some (.slice xa xl.length xc) := hr 8 _ rfl
          have hsze := (ET.mk op wd v sg uh ul xn xa xc xl).dp_sz
          have HSZ : Hid ((ET.mk op wd v sg uh ul xn xa xc xl).sz ≤ 6000000) := Lib.hid (by omega)
          have c1 := refNodes_any (.mk op wd v sg uh ul xn xa xc xl) (by omega) n0 wr (Nat.le_trans hn0 hbw.size) hx
          obtain ⟨S, hS⟩ : ∃ S, nodesQ ql + nodesK (kl.take k) = S := ⟨_, rfl⟩
          obtain ⟨D, hD⟩ : ∃ D, max (deepQ ql) (deepK (kl.take k)) = D := ⟨_, rfl⟩
          obtain ⟨E, hE⟩ : ∃ E, (ET.mk op wd v sg uh ul xn xa xc xl).sz = E := ⟨_, rfl⟩
          obtain ⟨H, hH⟩ : ∃ H, (ET.mk op wd v sg uh ul xn xa xc xl).dp = H := ⟨_, rfl⟩
          have HT : Hid (nodesQ ql + nodesK (kl.take (k + 1)) = S + E ∧ max (deepQ ql) (deepK (kl.take (k + 1))) = max D H) := Lib.hid (by rw [ht1, ht2, ← hS, ← hD, ← hE, ← hH]; omega)
          have hS2 : S ≤ 40000000 := by omega
          have hD2 : D ≤ 40000000 := by omega
          have hE2 : E ≤ 40000000 := by omega
          have hH2 : H ≤ 40000000 := by omega
          rw [hS, hD]
          rw [hE] at c1
          have HBW := Lib.hid (And.intro hbw hbx)
          have HXX := Lib.hid hx
          have HR2 := Lib.hid hr
          have c1K := Lib.hid c1
          have HH := Lib.hid hH
          clear hr hx hgy ht1 ht2 ht3 hS hD hE hH hkt hbw hbx hle hld hb hsze hBS c1
          simp only [ET.val, ET.cells] at c1K
          go_wp2_with fail
          refine c1K.out.mono ?_
          clear c1K z0 z1 z2
          rintro e W1 ⟨rfl, hb1⟩
          have HB2 := Lib.hid (And.intro (HBW.out.1.trans (hb1.mono HBW.out.1.size)) (block_kept HBW.out.2 hb1))
          obtain ⟨z0, z1, z2⟩ := opq3 HB2.out.2
          clear r1 r2 r3 r4 r5 r6 r7 r8
          have r1 : W1.cell? ⟨b, o + k * 9 + 1, none⟩ = some (.int .i64 op) := keep_cell hb1 (HR2.out 1 _ rfl)
          have r2 : W1.cell? ⟨b, o + k * 9 + 2, none⟩ = some (.int .i64 wd) := keep_cell hb1 (HR2.out 2 _ rfl)
          have r3 : W1.cell? ⟨b, o + k * 9 + 3, none⟩ = some (.int .u64 (v : Int)) := keep_cell hb1 (HR2.out 3 _ rfl)
          have r4 : W1.cell? ⟨b, o + k * 9 + 4, none⟩ = some (.int .i64 sg) := keep_cell hb1 (HR2.out 4 _ rfl)
          have r5 : W1.cell? ⟨b, o + k * 9 + 5, none⟩ = some (.int .i64 uh) := keep_cell hb1 (HR2.out 5 _ rfl)
          have r6 : W1.cell? ⟨b, o + k * 9 + 6, none⟩ = some (.int .i64 ul) := keep_cell hb1 (HR2.out 6 _ rfl)
          have r7 : W1.cell? ⟨b, o + k * 9 + 7, none⟩ = some (.int .i64 xn) := keep_cell hb1 (HR2.out 7 _ rfl)
          have r8 : W1.cell? ⟨b, o + k * 9 + 8, none⟩ = some (.slice xa xl.length xc) := keep_cell hb1 (HR2.out 8 _ rfl)
          have c2 := refDeep_any (.mk op wd v sg uh ul xn xa xc xl) (by have := HSZ.out; omega) n0 W1 (Nat.le_trans hn0 HB2.out.1.size) (ET.In.keep (Below.keptTo hb1 (Nat.le_trans hn0 HBW.out.1.size)) _ HXX.out)
          rw [HH.out] at c2
          have c2K := Lib.hid c2
          clear c2 hb1
          simp only [ET.val, ET.cells] at c2K
          go_wp2_with fail
          refine c2K.out.mono ?_
          clear c2K z0 z1 z2 r1 r2 r3 r4 r5 r6 r7 r8
          rintro e W2 ⟨rfl, hb2⟩
          have HB3 := Lib.hid (And.intro (HB2.out.1.trans (hb2.mono HB2.out.1.size)) (block_kept HB2.out.2 hb2))
          clear hb2
          obtain ⟨gg, rfl⟩ : ∃ gg, gk = gg + 1 := ⟨gk - 1, by omega⟩
          by_cases hse : D ≤ H
          all_goals
            go_wp2
            all_goals
              go_roundg gg
              case rel => exact ⟨k + 1, rfl, by omega, by rw [HT.out.1]; first | rfl | simp, by rw [HT.out.2]; congr 1; omega, HB3.out.1, HB3.out.2⟩
              case measure => omega
        · have d1 : decide (k < kl.length) = false := by simpa using hlt
          have d2 : decide ((k : Int) < (kl.length : Int)) = false := by rw [decide_eq_false_iff_not]; omega
          have HE : Hid (nodesQ ql + nodesK (kl.take k) = measN ⟨ga, gc, gl, qa, qc, ql, ka, kc, kl⟩ ∧ max (deepQ ql) (deepK (kl.take k)) = measD ⟨ga, gc, gl, qa, qc, ql, ka, kc, kl⟩) := Lib.hid (by rw [show k = kl.length by omega, List.take_length]; exact ⟨rfl, rfl⟩)
          rw [HE.out.1, HE.out.2]
          have HWK := Lib.hid (And.intro hbw hbx)
          clear hlt hbw hbx hkt hle hld hBS
          go_wp2
          exact bodyPost_ret (v := .tuple #[.int .i64 ((measN ⟨ga, gc, gl, qa, qc, ql, ka, kc, kl⟩ : Nat) : Int), .int .i64 ((measD ⟨ga, gc, gl, qa, qc, ql, ka, kc, kl⟩ : Nat) : Int)]) (by simp [results, Tryd.results25, go_sem]) rfl (by exact ⟨rfl, HWK.out.1⟩)

/-- Is a design small? -/
def smallD (d : DT) : Bool := decide (measN d ≤ 2000) && (decide (measD d ≤ 100) && (decide (d.gl.length ≤ 100) && (decide (d.ql.length ≤ 200) && decide (d.kl.length ≤ 100))))
/-- Has an expression few nodes? -/
def fewE (x : ET) : Bool := decide (x.sz ≤ 1000) && decide (x.dp ≤ 100)
set_option maxHeartbeats 8000000 in
set_option maxRecDepth 100000 in
theorem few_any (x : ET) (hsz : x.sz ≤ 6000000) (n0 : Nat) (w : World) (hn0 : n0 ≤ w.heap.size) (hin : x.In n0 w) : Calls Tryd.prog 7 #[x.val] w fun e w' => e = .returned (.bool (fewE x)) ∧ Below w.heap.size w w' := by
  have cn := fun (W : World) (h : Below w.heap.size w W) => refNodes_any x hsz n0 W (Nat.le_trans hn0 h.size) (hin.keep (Below.keptTo h hn0))
  have cd := fun (W : World) (h : Below w.heap.size w W) => refDeep_any x hsz n0 W (Nat.le_trans hn0 h.size) (hin.keep (Below.keptTo h hn0))
  have hd := x.dp_sz
  obtain ⟨R, hR⟩ : ∃ R, fewE x = R := ⟨_, rfl⟩
  obtain ⟨N, hN⟩ : ∃ N, x.sz = N := ⟨_, rfl⟩
  obtain ⟨D, hD⟩ : ∃ D, x.dp = D := ⟨_, rfl⟩
  have HR : Hid (R = (decide (N ≤ 1000) && decide (D ≤ 100))) := Lib.hid (by rw [← hR, fewE, hN, hD])
  rw [hR]
  rw [hN] at cn hsz
  rw [hD] at cd hd
  obtain ⟨op, wd, v, sg, uh, ul, xn, xa, xc, xl⟩ := x
  simp only [ET.val, ET.cells] at cn cd ⊢
  have HN := Lib.hid cn
  have HD := Lib.hid cd
  obtain ⟨gx, hgx⟩ : ∃ gx, w.heap.size = gx := ⟨_, rfl⟩
  obtain ⟨wa, hwa⟩ : ∃ wa, w.alloc (.cells #[.int .i64 op, .int .i64 wd, .int .u64 (v : Int), .int .i64 sg, .int .i64 uh, .int .i64 ul, .int .i64 xn, .slice xa xl.length xc] 30) = wa := ⟨_, rfl⟩
  have hba : Below w.heap.size w wa := by rw [← hwa]; exact (Below.refl _ _).alloc (Nat.le_refl _) _
  have BX : wa.heap[gx]? = some (.cells #[.int .i64 op, .int .i64 wd, .int .u64 (v : Int), .int .i64 sg, .int .i64 uh, .int .i64 ul, .int .i64 xn, .slice xa xl.length xc] 30 (0, 0)) := by rw [← hwa, ← hgx]; exact World.alloc_heap_new w _
  have HW := Lib.hid (And.intro hba BX)
  obtain ⟨z0, z1, z2, z3, z4, z5, z6, z7⟩ := ope8 BX
  have c0 := HN.out wa hba
  have c0K := Lib.hid c0
  clear c0 cn cd hR hN hD hba BX hin
  go_enter Tryd.func7, Tryd.ntmps7
  go_upto_region 1 with (fail)
  (try rw [hwa])
  (try rw [hgx])
  clear hwa hgx
  go_wp2_with fail
  refine c0K.out.mono ?_
  clear c0K z0 z1 z2 z3 z4 z5 z6 z7
  rintro e W1 ⟨rfl, hb1⟩
  have HW1 := Lib.hid (And.intro (HW.out.1.trans (hb1.mono HW.out.1.size)) (block_kept HW.out.2 hb1))
  obtain ⟨z0, z1, z2, z3, z4, z5, z6, z7⟩ := ope8 HW1.out.2
  clear hb1
  by_cases t1 : N ≤ 1000
  · have e1 : decide (N ≤ 1000) = true := by rw [decide_eq_true_eq]; exact t1
    have e2 : decide ((N : Int) ≤ 1000) = true := by rw [decide_eq_true_eq]; omega
    have c1K := Lib.hid (HD.out W1 HW1.out.1)
    have HR2 : Hid (R = decide (D ≤ 100)) := Lib.hid (by rw [HR.out, e1]; rfl)
    go_wp2_with fail
    refine c1K.out.mono ?_
    clear c1K z0 z1 z2 z3 z4 z5 z6 z7
    rintro e W2 ⟨rfl, hb2⟩
    have HB := Lib.hid (HW1.out.1.trans (hb2.mono HW1.out.1.size))
    by_cases t2 : D ≤ 100
    · have e3 : decide ((D : Int) ≤ 100) = true := by rw [decide_eq_true_eq]; omega
      have HR3 : Hid (R = true) := Lib.hid (by rw [HR2.out, decide_eq_true_eq]; exact t2)
      go_wp2
      go_ret
      exact ⟨by rw [HR3.out]; rfl, HB.out⟩
    · have e3 : decide ((D : Int) ≤ 100) = false := by rw [decide_eq_false_iff_not]; omega
      have HR3 : Hid (R = false) := Lib.hid (by rw [HR2.out, decide_eq_false_iff_not]; exact t2)
      go_wp2
      go_ret
      exact ⟨by rw [HR3.out]; rfl, HB.out⟩
  · have e2 : decide ((N : Int) ≤ 1000) = false := by rw [decide_eq_false_iff_not]; omega
    have HR3 : Hid (R = false) := Lib.hid (by rw [HR.out, show decide (N ≤ 1000) = false by rw [decide_eq_false_iff_not]; exact t1]; rfl)
    go_wp2
    go_ret
    exact ⟨by rw [HR3.out]; rfl, HW1.out.1⟩
end Go.Proofs.YtbcgeglkmpcnpaaDoor
