/-
  The reference: statements.
-/
import Derived.Test.YtlbjmnakiflfpaaGreatDoorAsP
namespace Go.Proofs.YtlbjmnakiflfpaaGreatDoor
open Go Go.RowKit
set_option linter.unusedVariables false
set_option linter.unusedSimpArgs false
open Go.Sort

set_option maxHeartbeats 8000000 in
set_option maxRecDepth 3000000 in
theorem refsizeS_of (n0 : Nat) (l : List ST) (hsz2 : ST.szL l ≤ 2000000) (hc0 : ∀ x ∈ l, ∀ (a : Option Addr) (c : Nat) (w : World), n0 ≤ w.heap.size → InRow 4 ST.cells (ST.In n0 w) n0 w x.sl a → Calls Tryz.prog 37 #[.slice a (x.sl).length c] w fun e w' => e = .returned (.int .i64 (ST.szL (x.sl) : Int)) ∧ Below w.heap.size w w') (la0 : Option Addr) (lc0 : Nat) (w : World) (hn0 : n0 ≤ w.heap.size) (hin : InRow 4 ST.cells (ST.In n0 w) n0 w l la0) : Calls Tryz.prog 37 #[.slice la0 l.length lc0] w fun e w' => e = .returned (.int .i64 (ST.szL l : Int)) ∧ Below w.heap.size w w' := by
  have hll := ST.szL_len l
  obtain ⟨R, hR⟩ : ∃ R, ST.szL l = R := ⟨_, rfl⟩
  have HR := Lib.hid hR
  rw [hR]
  clear hR
  obtain ⟨w1, hw1⟩ : ∃ w1, w = w1 := ⟨_, rfl⟩
  have hB : Below w.heap.size w w1 := by rw [← hw1]; exact Below.refl _ _
  go_enter Tryz.func37, Tryz.ntmps37
  go_wp2
  subst hw1
  obtain ⟨w1, hw1⟩ : ∃ w1, w1 = w := ⟨_, rfl⟩
  rw [← hw1] at hB ⊢
  subst hw1

  go_loopw [3, 4] (fun v u wr => ∃ k : Nat, u = .int .i64 k ∧ k ≤ l.length ∧ v = .int .i64 ((ST.szL (l.take k) : Nat) : Int) ∧ Below w1.heap.size w1 wr) (fun _ u _ => l.length - (intOf u).toNat)
  case atStart => exact ⟨0, rfl, Nat.zero_le _, rfl, Below.refl _ _⟩
  case round =>
    obtain ⟨k, rfl, hk, rfl, hb0⟩ := hrel
    have hbw := hB.trans (hb0.mono hB.size)
    by_cases hlt : k < l.length
    · have d1 : decide (k < l.length) = true := by simpa using hlt
      have d2 : decide ((k : Int) < (l.length : Int)) = true := by rw [decide_eq_true_eq]; omega
      have x1 : (k : Int) < (l.length : Int) := by omega
      obtain ⟨b, o, rfl, hb, hr, hx⟩ := hin.kept (Below.keptTo hbw hn0) hlt
      have hxw := ST.In.keep (Below.keptTo hbw hn0) _ hx
      have ht1 := ST.szL_take l k hlt
      have ht2 := ST.szL_take_le l k
      have ht3 := ST.szL_take_le l (k + 1)
      have ht4 := ST.szL_take l k hlt
      have ht5 := ST.dpL_sz (l.take k)
      have hmem := List.getElem_mem hlt
      have hcx0 := hc0 l[k] hmem
      have zz := hbw.size
      have hnr : n0 ≤ wr.heap.size := by omega
      obtain ⟨Sm, hS⟩ : ∃ S, ST.szL (l.take k) = S := ⟨_, rfl⟩
      rw [hS]
      generalize hgx : l[k] = x at *
      obtain ⟨op2, nm2, xa2, xc2, xl2, sa2, sc2, sl2⟩ := x
      rw [ST.In_mk] at hxw
      obtain ⟨i0, i1⟩ := hxw
      obtain ⟨E0, hE0⟩ : ∃ E, XT.szL xl2 = E := ⟨_, rfl⟩
      obtain ⟨E1, hE1⟩ : ∃ E, ST.szL sl2 = E := ⟨_, rfl⟩
      simp only [ST.sz, ST.dp] at ht1 ht4
      have HT : Hid (ST.szL (l.take (k + 1)) = Sm + (1 + E0 + E1)) := Lib.hid (by rw [ht1, hS, hE0, hE1])
      have hS2 : Sm ≤ 2000000 := by omega
      have hb0E : E0 ≤ 2000000 := by omega
      have hb1E : E1 ≤ 2000000 := by omega
      have r0 : wr.cell? ⟨b, o + k * 4, none⟩ = some (.int .i64 op2) := hr 0 _ rfl
      have r1 : wr.cell? ⟨b, o + k * 4 + 1, none⟩ = some (.string (bs nm2)) := hr 1 _ rfl
      have r2 : wr.cell? ⟨b, o + k * 4 + 2, none⟩ = some (.slice xa2 xl2.length xc2) := hr 2 _ rfl
      have r3 : wr.cell? ⟨b, o + k * 4 + 3, none⟩ = some (.slice sa2 sl2.length sc2) := hr 3 _ rfl
      have hb1 := hb0
      go_upto_region 5 with (fail)
      have bq := fun (dq : Nat) (os : Array Obj) => below_regrown wr dq os
      have q0 := fun (dq : Nat) (os : Array Obj) => refsizeL_any xl2 (by omega) xa2 xc2 n0 (grow (redrawn wr dq) os) (Nat.le_trans hnr (bq dq os).size) (i0.keep (Below.keptTo (bq dq os) hnr) (fun x _ => XT.In.keep (Below.keptTo (bq dq os) hnr) x))
      simp only [ST.sl, hE0] at q0
      have Q0 := Lib.hid q0
      have q1 := fun (dq : Nat) (os : Array Obj) => hcx0 sa2 sc2 (grow (redrawn wr dq) os) (Nat.le_trans hnr (bq dq os).size) (i1.keep (Below.keptTo (bq dq os) hnr) (fun x _ => ST.In.keep (Below.keptTo (bq dq os) hnr) x))
      simp only [ST.sl, hE1] at q1
      have Q1 := Lib.hid q1
      have HH := Lib.hid (And.intro hS (And.intro hgx (And.intro ht1 ht4)))
      have r0R := cell_regrown r0
      have r1R := cell_regrown r1
      have r2R := cell_regrown r2
      have r3R := cell_regrown r3
      clear bq hin hr hx hgx ht1 ht2 ht3 ht4 ht5 hS hmem q0 q1 hE0 hE1 i0 i1  hcx0 hc0 
      refine wp_region_quiet_below (by kernel_rfl) (by kernel_rfl) ?_
      repeat (go_big_quiet_step (first | (go_at_call_of 75 (Value.slice xa2 (List.length xl2) xc2); exact Calls.regrown_of (Q0.out _ _)) | (go_at_call_of 37 (Value.slice sa2 (List.length sl2) sc2); exact Calls.regrown_of (Q1.out _ _))))
      refine wpQuiet_nil ?_
      intro _ hw'
      obtain ⟨⟨dq, osq⟩, hw''⟩ := hw'
      subst hw''
      have hb2 := hb1.trans ((below_regrown wr dq osq).mono hb1.size)
      clear r0R r1R r2R r3R
      generalize grow (redrawn wr dq) osq = w3 at *
      go_wp2
      all_goals
        go_roundw
        case rel => exact ⟨k + 1, by simp; first | done | rfl | omega, by omega, by rw [HT.out]; congr 1; first | done | rfl | omega | (simp; omega), hb2⟩
        case measure => simp [intOf]; omega
    · have d1 : decide (k < l.length) = false := by simpa using hlt
      have d2 : decide ((k : Int) < (l.length : Int)) = false := by rw [decide_eq_false_iff_not]; omega
      have HE : Hid (ST.szL (l.take k) = R) := Lib.hid (by rw [show k = l.length by omega, List.take_length]; exact HR.out)
      rw [HE.out]
      clear hlt
      go_wp2
      go_ret
      exact ⟨rfl, hbw⟩

set_option maxHeartbeats 8000000 in
set_option maxRecDepth 3000000 in
theorem refdeepS_of (n0 : Nat) (l : List ST) (hsz2 : ST.szL l ≤ 1900000) (hc0 : ∀ x ∈ l, ∀ (a : Option Addr) (c : Nat) (w : World), n0 ≤ w.heap.size → InRow 4 ST.cells (ST.In n0 w) n0 w x.sl a → Calls Tryz.prog 38 #[.slice a (x.sl).length c] w fun e w' => e = .returned (.int .i64 (ST.dpL (x.sl) : Int)) ∧ Below w.heap.size w w') (la0 : Option Addr) (lc0 : Nat) (w : World) (hn0 : n0 ≤ w.heap.size) (hin : InRow 4 ST.cells (ST.In n0 w) n0 w l la0) : Calls Tryz.prog 38 #[.slice la0 l.length lc0] w fun e w' => e = .returned (.int .i64 (ST.dpL l : Int)) ∧ Below w.heap.size w w' := by
  have hll := ST.szL_len l
  obtain ⟨R, hR⟩ : ∃ R, ST.dpL l = R := ⟨_, rfl⟩
  have HR := Lib.hid hR
  rw [hR]
  clear hR
  obtain ⟨w1, hw1⟩ : ∃ w1, w = w1 := ⟨_, rfl⟩
  have hB : Below w.heap.size w w1 := by rw [← hw1]; exact Below.refl _ _
  go_enter Tryz.func38, Tryz.ntmps38
  go_wp2
  subst hw1
  obtain ⟨w1, hw1⟩ : ∃ w1, w1 = w := ⟨_, rfl⟩
  rw [← hw1] at hB ⊢
  subst hw1

  go_loopw [3, 4] (fun v u wr => ∃ k : Nat, u = .int .i64 k ∧ k ≤ l.length ∧ v = .int .i64 ((ST.dpL (l.take k) : Nat) : Int) ∧ Below w1.heap.size w1 wr) (fun _ u _ => l.length - (intOf u).toNat)
  case atStart => exact ⟨0, rfl, Nat.zero_le _, rfl, Below.refl _ _⟩
  case round =>
    obtain ⟨k, rfl, hk, rfl, hb0⟩ := hrel
    have hbw := hB.trans (hb0.mono hB.size)
    by_cases hlt : k < l.length
    · have d1 : decide (k < l.length) = true := by simpa using hlt
      have d2 : decide ((k : Int) < (l.length : Int)) = true := by rw [decide_eq_true_eq]; omega
      have x1 : (k : Int) < (l.length : Int) := by omega
      obtain ⟨b, o, rfl, hb, hr, hx⟩ := hin.kept (Below.keptTo hbw hn0) hlt
      have hxw := ST.In.keep (Below.keptTo hbw hn0) _ hx
      have ht1 := ST.dpL_take l k hlt
      have ht2 := ST.szL_take_le l k
      have ht3 := ST.szL_take_le l (k + 1)
      have ht4 := ST.szL_take l k hlt
      have ht5 := ST.dpL_sz (l.take k)
      have hmem := List.getElem_mem hlt
      have hcx0 := hc0 l[k] hmem
      have zz := hbw.size
      have hnr : n0 ≤ wr.heap.size := by omega
      obtain ⟨Sm, hS⟩ : ∃ S, ST.dpL (l.take k) = S := ⟨_, rfl⟩
      rw [hS]
      generalize hgx : l[k] = x at *
      obtain ⟨op2, nm2, xa2, xc2, xl2, sa2, sc2, sl2⟩ := x
      rw [ST.In_mk] at hxw
      obtain ⟨i0, i1⟩ := hxw
      obtain ⟨E0, hE0⟩ : ∃ E, XT.dpL xl2 = E := ⟨_, rfl⟩
      have hds0 := XT.dpL_sz xl2
      obtain ⟨E1, hE1⟩ : ∃ E, ST.dpL sl2 = E := ⟨_, rfl⟩
      have hds1 := ST.dpL_sz sl2
      simp only [ST.sz, ST.dp] at ht1 ht4
      have HT : Hid (ST.dpL (l.take (k + 1)) = max Sm (1 + (max E0 (E1)))) := Lib.hid (by rw [ht1, hS, hE0, hE1])
      have hS2 : Sm ≤ 2000000 := by omega
      have hb0E : E0 ≤ 2000000 := by omega
      have hb1E : E1 ≤ 2000000 := by omega
      have r0 : wr.cell? ⟨b, o + k * 4, none⟩ = some (.int .i64 op2) := hr 0 _ rfl
      have r1 : wr.cell? ⟨b, o + k * 4 + 1, none⟩ = some (.string (bs nm2)) := hr 1 _ rfl
      have r2 : wr.cell? ⟨b, o + k * 4 + 2, none⟩ = some (.slice xa2 xl2.length xc2) := hr 2 _ rfl
      have r3 : wr.cell? ⟨b, o + k * 4 + 3, none⟩ = some (.slice sa2 sl2.length sc2) := hr 3 _ rfl
      have hb1 := hb0
      go_upto_region 5 with (fail)
      have bq := fun (dq : Nat) (os : Array Obj) => below_regrown wr dq os
      have q0 := fun (dq : Nat) (os : Array Obj) => refdeepL_any xl2 (by omega) xa2 xc2 n0 (grow (redrawn wr dq) os) (Nat.le_trans hnr (bq dq os).size) (i0.keep (Below.keptTo (bq dq os) hnr) (fun x _ => XT.In.keep (Below.keptTo (bq dq os) hnr) x))
      simp only [ST.sl, hE0] at q0
      have Q0 := Lib.hid q0
      have q1 := fun (dq : Nat) (os : Array Obj) => hcx0 sa2 sc2 (grow (redrawn wr dq) os) (Nat.le_trans hnr (bq dq os).size) (i1.keep (Below.keptTo (bq dq os) hnr) (fun x _ => ST.In.keep (Below.keptTo (bq dq os) hnr) x))
      simp only [ST.sl, hE1] at q1
      have Q1 := Lib.hid q1
      have HH := Lib.hid (And.intro hS (And.intro hgx (And.intro ht1 ht4)))
      have r0R := cell_regrown r0
      have r1R := cell_regrown r1
      have r2R := cell_regrown r2
      have r3R := cell_regrown r3
      clear bq hin hr hx hgx ht1 ht2 ht3 ht4 ht5 hS hmem q0 q1 hE0 hE1 i0 i1 hds0 hds1 hcx0 hc0 
      refine wp_region_quiet_below (by kernel_rfl) (by kernel_rfl) ?_
      repeat (go_big_quiet_step (first | (go_at_call_of 74 (Value.slice xa2 (List.length xl2) xc2); exact Calls.regrown_of (Q0.out _ _)) | (go_at_call_of 38 (Value.slice sa2 (List.length sl2) sc2); exact Calls.regrown_of (Q1.out _ _))))
      refine wpQuiet_nil ?_
      intro _ hw'
      obtain ⟨⟨dq, osq⟩, hw''⟩ := hw'
      subst hw''
      have hb2 := hb1.trans ((below_regrown wr dq osq).mono hb1.size)
      clear r0R r1R r2R r3R
      generalize grow (redrawn wr dq) osq = w3 at *
      go_wp2
      all_goals
        go_roundw
        case rel => exact ⟨k + 1, by simp; first | done | rfl | omega, by omega, by rw [HT.out]; congr 1; first | done | rfl | omega | (simp; omega), hb2⟩
        case measure => simp [intOf]; omega
    · have d1 : decide (k < l.length) = false := by simpa using hlt
      have d2 : decide ((k : Int) < (l.length : Int)) = false := by rw [decide_eq_false_iff_not]; omega
      have HE : Hid (ST.dpL (l.take k) = R) := Lib.hid (by rw [show k = l.length by omega, List.take_length]; exact HR.out)
      rw [HE.out]
      clear hlt
      go_wp2
      go_ret
      exact ⟨rfl, hbw⟩

theorem refsizeS_in : ∀ x : ST, ST.szL x.sl ≤ 2000000 → ∀ (n0 : Nat) (a : Option Addr) (c : Nat) (w : World), n0 ≤ w.heap.size → InRow 4 ST.cells (ST.In n0 w) n0 w x.sl a → Calls Tryz.prog 37 #[.slice a x.sl.length c] w fun e w' => e = .returned (.int .i64 (ST.szL x.sl : Int)) ∧ Below w.heap.size w w' := by
  refine ST.ind ?_
  intro op nm xa xc xl sa sc sl ih hsz n0 a c w hn0 hin
  exact refsizeS_of n0 sl hsz (fun y hy a' c' w' h1 h2 => ih y hy (by have h3 := ST.szL_mem hy; have h4 : ST.szL y.sl ≤ y.sz := by { obtain ⟨op', nm', xa', xc', xl', sa', sc', sl'⟩ := y; simp only [ST.sl, ST.sz]; omega }; simp only [ST.sl] at hsz; omega) n0 a' c' w' h1 h2) a c w hn0 hin
theorem refsizeS_any (l : List ST) (hsz : ST.szL l ≤ 2000000) (a : Option Addr) (c : Nat) (n0 : Nat) (w : World) (hn0 : n0 ≤ w.heap.size) (hin : InRow 4 ST.cells (ST.In n0 w) n0 w l a) : Calls Tryz.prog 37 #[.slice a l.length c] w fun e w' => e = .returned (.int .i64 (ST.szL l : Int)) ∧ Below w.heap.size w w' :=
  refsizeS_in (.mk 0 [] none 0 [] none 0 l) hsz n0 a c w hn0 hin

theorem refdeepS_in : ∀ x : ST, ST.szL x.sl ≤ 1900000 → ∀ (n0 : Nat) (a : Option Addr) (c : Nat) (w : World), n0 ≤ w.heap.size → InRow 4 ST.cells (ST.In n0 w) n0 w x.sl a → Calls Tryz.prog 38 #[.slice a x.sl.length c] w fun e w' => e = .returned (.int .i64 (ST.dpL x.sl : Int)) ∧ Below w.heap.size w w' := by
  refine ST.ind ?_
  intro op nm xa xc xl sa sc sl ih hsz n0 a c w hn0 hin
  exact refdeepS_of n0 sl hsz (fun y hy a' c' w' h1 h2 => ih y hy (by have h3 := ST.szL_mem hy; have h4 : ST.szL y.sl ≤ y.sz := by { obtain ⟨op', nm', xa', xc', xl', sa', sc', sl'⟩ := y; simp only [ST.sl, ST.sz]; omega }; simp only [ST.sl] at hsz; omega) n0 a' c' w' h1 h2) a c w hn0 hin
theorem refdeepS_any (l : List ST) (hsz : ST.szL l ≤ 1900000) (a : Option Addr) (c : Nat) (n0 : Nat) (w : World) (hn0 : n0 ≤ w.heap.size) (hin : InRow 4 ST.cells (ST.In n0 w) n0 w l a) : Calls Tryz.prog 38 #[.slice a l.length c] w fun e w' => e = .returned (.int .i64 (ST.dpL l : Int)) ∧ Below w.heap.size w w' :=
  refdeepS_in (.mk 0 [] none 0 [] none 0 l) hsz n0 a c w hn0 hin
end Go.Proofs.YtlbjmnakiflfpaaGreatDoor
