/-
  The reference: items.
-/
import Derived.Test.YtlbjmnakiflfpaaGreatDoorAsPs
namespace Go.Proofs.YtlbjmnakiflfpaaGreatDoor
open Go Go.RowKit
set_option linter.unusedVariables false
set_option linter.unusedSimpArgs false
open Go.Sort

theorem mx_if (x y : Int) : (if y > x then y else x) = max x y := by split <;> omega
theorem mx_if' (x y : Int) : (if x < y then y else x) = max x y := by split <;> omega
theorem run_max_int6 {P : Program} {w : World} (ts : Array TypeId) (t : TypeId) (k k1 k2 k3 k4 k5 : IntKind) (x0 x1 x2 x3 x4 x5 : Int) : (Builtin.max_ ts t #[.int k x0, .int k1 x1, .int k2 x2, .int k3 x3, .int k4 x4, .int k5 x5]).run P w = .ok (.int k (max (max (max (max (max x0 x1) x2) x3) x4) x5)) w := by
  simp [Builtin.max_, Builtin.max2, mx_if']
attribute [local go_sem] run_max_int6
def IT.ll : IT → List IT | .mk _ _ _ _ _ _ _ _ _ _ _ ll _ _ _ _ _ _ _ _ _ => ll
def IT.el : IT → List IT | .mk _ _ _ _ _ _ _ _ _ _ _ _ _ _ el _ _ _ _ _ _ => el

set_option maxHeartbeats 8000000 in
set_option maxRecDepth 3000000 in
theorem refsizeI_of (n0 : Nat) (l : List IT) (hsz2 : IT.szL l ≤ 2000000) (hc0 : ∀ x ∈ l, ∀ (a : Option Addr) (c : Nat) (w : World), n0 ≤ w.heap.size → InRow 9 IT.cells (IT.In n0 w) n0 w x.ll a → Calls Tryz.prog 98 #[.slice a (x.ll).length c] w fun e w' => e = .returned (.int .i64 (IT.szL (x.ll) : Int)) ∧ Below w.heap.size w w') (hc1 : ∀ x ∈ l, ∀ (a : Option Addr) (c : Nat) (w : World), n0 ≤ w.heap.size → InRow 9 IT.cells (IT.In n0 w) n0 w x.el a → Calls Tryz.prog 98 #[.slice a (x.el).length c] w fun e w' => e = .returned (.int .i64 (IT.szL (x.el) : Int)) ∧ Below w.heap.size w w') (la0 : Option Addr) (lc0 : Nat) (w : World) (hn0 : n0 ≤ w.heap.size) (hin : InRow 9 IT.cells (IT.In n0 w) n0 w l la0) : Calls Tryz.prog 98 #[.slice la0 l.length lc0] w fun e w' => e = .returned (.int .i64 (IT.szL l : Int)) ∧ Below w.heap.size w w' := by
  have hll := IT.szL_len l
  obtain ⟨R, hR⟩ : ∃ R, IT.szL l = R := ⟨_, rfl⟩
  have HR := Lib.hid hR
  rw [hR]
  clear hR
  obtain ⟨w1, hw1⟩ : ∃ w1, w = w1 := ⟨_, rfl⟩
  have hB : Below w.heap.size w w1 := by rw [← hw1]; exact Below.refl _ _
  go_enter Tryz.func98, Tryz.ntmps98
  go_wp2
  subst hw1
  obtain ⟨w1, hw1⟩ : ∃ w1, w1 = w := ⟨_, rfl⟩
  rw [← hw1] at hB ⊢
  subst hw1

  go_loopw [3, 4] (fun v u wr => ∃ k : Nat, u = .int .i64 k ∧ k ≤ l.length ∧ v = .int .i64 ((IT.szL (l.take k) : Nat) : Int) ∧ Below w1.heap.size w1 wr) (fun _ u _ => l.length - (intOf u).toNat)
  case atStart => exact ⟨0, rfl, Nat.zero_le _, rfl, Below.refl _ _⟩
  case round =>
    obtain ⟨k, rfl, hk, rfl, hb0⟩ := hrel
    have hbw := hB.trans (hb0.mono hB.size)
    by_cases hlt : k < l.length
    · have d1 : decide (k < l.length) = true := by simpa using hlt
      have d2 : decide ((k : Int) < (l.length : Int)) = true := by rw [decide_eq_true_eq]; omega
      have x1 : (k : Int) < (l.length : Int) := by omega
      obtain ⟨b, o, rfl, hb, hr, hx⟩ := hin.kept (Below.keptTo hbw hn0) hlt
      have hxw := IT.In.keep (Below.keptTo hbw hn0) _ hx
      have ht1 := IT.szL_take l k hlt
      have ht2 := IT.szL_take_le l k
      have ht3 := IT.szL_take_le l (k + 1)
      have ht4 := IT.szL_take l k hlt
      have ht5 := IT.dpL_sz (l.take k)
      have hmem := List.getElem_mem hlt
      have hcx0 := hc0 l[k] hmem
      have hcx1 := hc1 l[k] hmem
      have zz := hbw.size
      have hnr : n0 ≤ wr.heap.size := by omega
      obtain ⟨Sm, hS⟩ : ∃ S, IT.szL (l.take k) = S := ⟨_, rfl⟩
      rw [hS]
      generalize hgx : l[k] = x at *
      obtain ⟨op2, nm2, nf2, xa2, xc2, xl2, sa2, sc2, sl2, la2, lc2, ll2, ea2, ec2, el2, pa2, pc2, pl2, ba2, bc2, bl2⟩ := x
      rw [IT.In_mk] at hxw
      obtain ⟨i0, i1, i2, i3, i4, i5⟩ := hxw
      obtain ⟨E0, hE0⟩ : ∃ E, XT.szL xl2 = E := ⟨_, rfl⟩
      obtain ⟨E1, hE1⟩ : ∃ E, ST.szL sl2 = E := ⟨_, rfl⟩
      obtain ⟨E2, hE2⟩ : ∃ E, IT.szL ll2 = E := ⟨_, rfl⟩
      obtain ⟨E3, hE3⟩ : ∃ E, IT.szL el2 = E := ⟨_, rfl⟩
      obtain ⟨E4, hE4⟩ : ∃ E, BT.szL pl2 = E := ⟨_, rfl⟩
      obtain ⟨E5, hE5⟩ : ∃ E, BT.szL bl2 = E := ⟨_, rfl⟩
      simp only [IT.sz, IT.dp] at ht1 ht4
      have HT : Hid (IT.szL (l.take (k + 1)) = Sm + (1 + E0 + E1 + E2 + E3 + E4 + E5)) := Lib.hid (by rw [ht1, hS, hE0, hE1, hE2, hE3, hE4, hE5])
      have hS2 : Sm ≤ 2000000 := by omega
      have hb0E : E0 ≤ 2000000 := by omega
      have hb1E : E1 ≤ 2000000 := by omega
      have hb2E : E2 ≤ 2000000 := by omega
      have hb3E : E3 ≤ 2000000 := by omega
      have hb4E : E4 ≤ 2000000 := by omega
      have hb5E : E5 ≤ 2000000 := by omega
      have r0 : wr.cell? ⟨b, o + k * 9, none⟩ = some (.int .i64 op2) := hr 0 _ rfl
      have r1 : wr.cell? ⟨b, o + k * 9 + 1, none⟩ = some (.string (bs nm2)) := hr 1 _ rfl
      have r2 : wr.cell? ⟨b, o + k * 9 + 2, none⟩ = some (.string (bs nf2)) := hr 2 _ rfl
      have r3 : wr.cell? ⟨b, o + k * 9 + 3, none⟩ = some (.slice xa2 xl2.length xc2) := hr 3 _ rfl
      have r4 : wr.cell? ⟨b, o + k * 9 + 4, none⟩ = some (.slice sa2 sl2.length sc2) := hr 4 _ rfl
      have r5 : wr.cell? ⟨b, o + k * 9 + 5, none⟩ = some (.slice la2 ll2.length lc2) := hr 5 _ rfl
      have r6 : wr.cell? ⟨b, o + k * 9 + 6, none⟩ = some (.slice ea2 el2.length ec2) := hr 6 _ rfl
      have r7 : wr.cell? ⟨b, o + k * 9 + 7, none⟩ = some (.slice pa2 pl2.length pc2) := hr 7 _ rfl
      have r8 : wr.cell? ⟨b, o + k * 9 + 8, none⟩ = some (.slice ba2 bl2.length bc2) := hr 8 _ rfl
      go_upto_region 6 with (fail)
      have BX : (wr.alloc (.cells #[.int .i64 op2, .string (bs nm2), .string (bs nf2), .slice xa2 xl2.length xc2, .slice sa2 sl2.length sc2, .slice la2 ll2.length lc2, .slice ea2 el2.length ec2, .slice pa2 pl2.length pc2, .slice ba2 bl2.length bc2] 60)).heap[wr.heap.size]? = some (.cells #[.int .i64 op2, .string (bs nm2), .string (bs nf2), .slice xa2 xl2.length xc2, .slice sa2 sl2.length sc2, .slice la2 ll2.length lc2, .slice ea2 el2.length ec2, .slice pa2 pl2.length pc2, .slice ba2 bl2.length bc2] 60) := World.alloc_heap_new wr _
      have kk : Below wr.heap.size wr (wr.alloc (.cells #[.int .i64 op2, .string (bs nm2), .string (bs nf2), .slice xa2 xl2.length xc2, .slice sa2 sl2.length sc2, .slice la2 ll2.length lc2, .slice ea2 el2.length ec2, .slice pa2 pl2.length pc2, .slice ba2 bl2.length bc2] 60)) := (Below.refl _ _).alloc (Nat.le_refl _) _
      have hb1 := hb0.trans (kk.mono hb0.size)
      have hk8 := Below.keptTo kk hnr
      replace i0 := i0.keep hk8 (fun x _ => XT.In.keep hk8 x)
      replace i1 := i1.keep hk8 (fun x _ => ST.In.keep hk8 x)
      replace i2 := i2.keep hk8 (fun x _ => IT.In.keep hk8 x)
      replace i3 := i3.keep hk8 (fun x _ => IT.In.keep hk8 x)
      replace i4 := i4.keep hk8 (fun x _ => BT.In.keep hk8 x)
      replace i5 := i5.keep hk8 (fun x _ => BT.In.keep hk8 x)
      replace hnr : n0 ≤ (wr.alloc (.cells #[.int .i64 op2, .string (bs nm2), .string (bs nf2), .slice xa2 xl2.length xc2, .slice sa2 sl2.length sc2, .slice la2 ll2.length lc2, .slice ea2 el2.length ec2, .slice pa2 pl2.length pc2, .slice ba2 bl2.length bc2] 60)).heap.size := Nat.le_trans hnr kk.size
      clear hk8 kk r0 r1 r2 r3 r4 r5 r6 r7 r8
      generalize wr.alloc (.cells #[.int .i64 op2, .string (bs nm2), .string (bs nf2), .slice xa2 xl2.length xc2, .slice sa2 sl2.length sc2, .slice la2 ll2.length lc2, .slice ea2 el2.length ec2, .slice pa2 pl2.length pc2, .slice ba2 bl2.length bc2] 60) = w2 at *
      obtain ⟨r0, r1, r2, r3, r4, r5, r6, r7, r8⟩ := open9 BX
      have bq := fun (dq : Nat) (os : Array Obj) => below_regrown w2 dq os
      have q0 := fun (dq : Nat) (os : Array Obj) => refsizeL_any xl2 (by omega) xa2 xc2 n0 (grow (redrawn w2 dq) os) (Nat.le_trans hnr (bq dq os).size) (i0.keep (Below.keptTo (bq dq os) hnr) (fun x _ => XT.In.keep (Below.keptTo (bq dq os) hnr) x))
      simp only [IT.ll, IT.el, hE0] at q0
      have Q0 := Lib.hid q0
      have q1 := fun (dq : Nat) (os : Array Obj) => refsizeS_any sl2 (by omega) sa2 sc2 n0 (grow (redrawn w2 dq) os) (Nat.le_trans hnr (bq dq os).size) (i1.keep (Below.keptTo (bq dq os) hnr) (fun x _ => ST.In.keep (Below.keptTo (bq dq os) hnr) x))
      simp only [IT.ll, IT.el, hE1] at q1
      have Q1 := Lib.hid q1
      have q2 := fun (dq : Nat) (os : Array Obj) => hcx0 la2 lc2 (grow (redrawn w2 dq) os) (Nat.le_trans hnr (bq dq os).size) (i2.keep (Below.keptTo (bq dq os) hnr) (fun x _ => IT.In.keep (Below.keptTo (bq dq os) hnr) x))
      simp only [IT.ll, IT.el, hE2] at q2
      have Q2 := Lib.hid q2
      have q3 := fun (dq : Nat) (os : Array Obj) => hcx1 ea2 ec2 (grow (redrawn w2 dq) os) (Nat.le_trans hnr (bq dq os).size) (i3.keep (Below.keptTo (bq dq os) hnr) (fun x _ => IT.In.keep (Below.keptTo (bq dq os) hnr) x))
      simp only [IT.ll, IT.el, hE3] at q3
      have Q3 := Lib.hid q3
      have q4 := fun (dq : Nat) (os : Array Obj) => refsizeB_of n0 pl2 (by omega) pa2 pc2 (grow (redrawn w2 dq) os) (Nat.le_trans hnr (bq dq os).size) (i4.keep (Below.keptTo (bq dq os) hnr) (fun x _ => BT.In.keep (Below.keptTo (bq dq os) hnr) x))
      simp only [IT.ll, IT.el, hE4] at q4
      have Q4 := Lib.hid q4
      have q5 := fun (dq : Nat) (os : Array Obj) => refsizeB_of n0 bl2 (by omega) ba2 bc2 (grow (redrawn w2 dq) os) (Nat.le_trans hnr (bq dq os).size) (i5.keep (Below.keptTo (bq dq os) hnr) (fun x _ => BT.In.keep (Below.keptTo (bq dq os) hnr) x))
      simp only [IT.ll, IT.el, hE5] at q5
      have Q5 := Lib.hid q5
      have HH := Lib.hid (And.intro hS (And.intro hgx (And.intro ht1 ht4)))
      have r0R := cell_regrown r0
      have r1R := cell_regrown r1
      have r2R := cell_regrown r2
      have r3R := cell_regrown r3
      have r4R := cell_regrown r4
      have r5R := cell_regrown r5
      have r6R := cell_regrown r6
      have r7R := cell_regrown r7
      have r8R := cell_regrown r8
      clear bq hin hr hx hgx ht1 ht2 ht3 ht4 ht5 hS hmem q0 q1 q2 q3 q4 q5 hE0 hE1 hE2 hE3 hE4 hE5 i0 i1 i2 i3 i4 i5  hcx0 hcx1 hc0 hc1 
      refine wp_region_quiet_below (by kernel_rfl) (by kernel_rfl) ?_
      repeat (go_big_quiet_step (first | (go_at_call_of 75 (Value.slice xa2 (List.length xl2) xc2); exact Calls.regrown_of (Q0.out _ _)) | (go_at_call_of 37 (Value.slice sa2 (List.length sl2) sc2); exact Calls.regrown_of (Q1.out _ _)) | (go_at_call_of 98 (Value.slice la2 (List.length ll2) lc2); exact Calls.regrown_of (Q2.out _ _)) | (go_at_call_of 98 (Value.slice ea2 (List.length el2) ec2); exact Calls.regrown_of (Q3.out _ _)) | (go_at_call_of 97 (Value.slice pa2 (List.length pl2) pc2); exact Calls.regrown_of (Q4.out _ _)) | (go_at_call_of 97 (Value.slice ba2 (List.length bl2) bc2); exact Calls.regrown_of (Q5.out _ _))))
      refine wpQuiet_nil ?_
      intro _ hw'
      obtain ⟨⟨dq, osq⟩, hw''⟩ := hw'
      subst hw''
      have hb2 := hb1.trans ((below_regrown w2 dq osq).mono hb1.size)
      clear r0R r1R r2R r3R r4R r5R r6R r7R r8R
      generalize grow (redrawn w2 dq) osq = w3 at *
      go_wp2
      all_goals
        go_roundw
        case rel => exact ⟨k + 1, by simp; first | done | rfl | omega, by omega, by rw [HT.out]; congr 1; first | done | rfl | omega | (simp; omega), hb2⟩
        case measure => simp [intOf]; omega
    · have d1 : decide (k < l.length) = false := by simpa using hlt
      have d2 : decide ((k : Int) < (l.length : Int)) = false := by rw [decide_eq_false_iff_not]; omega
      have HE : Hid (IT.szL (l.take k) = R) := Lib.hid (by rw [show k = l.length by omega, List.take_length]; exact HR.out)
      rw [HE.out]
      clear hlt
      go_wp2
      go_ret
      exact ⟨rfl, hbw⟩

set_option maxHeartbeats 8000000 in
set_option maxRecDepth 3000000 in
theorem refdeepI_of (n0 : Nat) (l : List IT) (hsz2 : IT.szL l ≤ 1900000) (hc0 : ∀ x ∈ l, ∀ (a : Option Addr) (c : Nat) (w : World), n0 ≤ w.heap.size → InRow 9 IT.cells (IT.In n0 w) n0 w x.ll a → Calls Tryz.prog 100 #[.slice a (x.ll).length c] w fun e w' => e = .returned (.int .i64 (IT.dpL (x.ll) : Int)) ∧ Below w.heap.size w w') (hc1 : ∀ x ∈ l, ∀ (a : Option Addr) (c : Nat) (w : World), n0 ≤ w.heap.size → InRow 9 IT.cells (IT.In n0 w) n0 w x.el a → Calls Tryz.prog 100 #[.slice a (x.el).length c] w fun e w' => e = .returned (.int .i64 (IT.dpL (x.el) : Int)) ∧ Below w.heap.size w w') (la0 : Option Addr) (lc0 : Nat) (w : World) (hn0 : n0 ≤ w.heap.size) (hin : InRow 9 IT.cells (IT.In n0 w) n0 w l la0) : Calls Tryz.prog 100 #[.slice la0 l.length lc0] w fun e w' => e = .returned (.int .i64 (IT.dpL l : Int)) ∧ Below w.heap.size w w' := by
  have hll := IT.szL_len l
  obtain ⟨R, hR⟩ : ∃ R, IT.dpL l = R := ⟨_, rfl⟩
  have HR := Lib.hid hR
  rw [hR]
  clear hR
  obtain ⟨w1, hw1⟩ : ∃ w1, w = w1 := ⟨_, rfl⟩
  have hB : Below w.heap.size w w1 := by rw [← hw1]; exact Below.refl _ _
  go_enter Tryz.func100, Tryz.ntmps100
  go_wp2
  subst hw1
  obtain ⟨w1, hw1⟩ : ∃ w1, w1 = w := ⟨_, rfl⟩
  rw [← hw1] at hB ⊢
  subst hw1

  go_loopw [3, 4] (fun v u wr => ∃ k : Nat, u = .int .i64 k ∧ k ≤ l.length ∧ v = .int .i64 ((IT.dpL (l.take k) : Nat) : Int) ∧ Below w1.heap.size w1 wr) (fun _ u _ => l.length - (intOf u).toNat)
  case atStart => exact ⟨0, rfl, Nat.zero_le _, rfl, Below.refl _ _⟩
  case round =>
    obtain ⟨k, rfl, hk, rfl, hb0⟩ := hrel
    have hbw := hB.trans (hb0.mono hB.size)
    by_cases hlt : k < l.length
    · have d1 : decide (k < l.length) = true := by simpa using hlt
      have d2 : decide ((k : Int) < (l.length : Int)) = true := by rw [decide_eq_true_eq]; omega
      have x1 : (k : Int) < (l.length : Int) := by omega
      obtain ⟨b, o, rfl, hb, hr, hx⟩ := hin.kept (Below.keptTo hbw hn0) hlt
      have hxw := IT.In.keep (Below.keptTo hbw hn0) _ hx
      have ht1 := IT.dpL_take l k hlt
      have ht2 := IT.szL_take_le l k
      have ht3 := IT.szL_take_le l (k + 1)
      have ht4 := IT.szL_take l k hlt
      have ht5 := IT.dpL_sz (l.take k)
      have hmem := List.getElem_mem hlt
      have hcx0 := hc0 l[k] hmem
      have hcx1 := hc1 l[k] hmem
      have zz := hbw.size
      have hnr : n0 ≤ wr.heap.size := by omega
      obtain ⟨Sm, hS⟩ : ∃ S, IT.dpL (l.take k) = S := ⟨_, rfl⟩
      rw [hS]
      generalize hgx : l[k] = x at *
      obtain ⟨op2, nm2, nf2, xa2, xc2, xl2, sa2, sc2, sl2, la2, lc2, ll2, ea2, ec2, el2, pa2, pc2, pl2, ba2, bc2, bl2⟩ := x
      rw [IT.In_mk] at hxw
      obtain ⟨i0, i1, i2, i3, i4, i5⟩ := hxw
      obtain ⟨E0, hE0⟩ : ∃ E, XT.dpL xl2 = E := ⟨_, rfl⟩
      have hds0 := XT.dpL_sz xl2
      obtain ⟨E1, hE1⟩ : ∃ E, ST.dpL sl2 = E := ⟨_, rfl⟩
      have hds1 := ST.dpL_sz sl2
      obtain ⟨E2, hE2⟩ : ∃ E, IT.dpL ll2 = E := ⟨_, rfl⟩
      have hds2 := IT.dpL_sz ll2
      obtain ⟨E3, hE3⟩ : ∃ E, IT.dpL el2 = E := ⟨_, rfl⟩
      have hds3 := IT.dpL_sz el2
      obtain ⟨E4, hE4⟩ : ∃ E, BT.dpL pl2 = E := ⟨_, rfl⟩
      have hds4 := BT.dpL_sz pl2
      obtain ⟨E5, hE5⟩ : ∃ E, BT.dpL bl2 = E := ⟨_, rfl⟩
      have hds5 := BT.dpL_sz bl2
      simp only [IT.sz, IT.dp] at ht1 ht4
      have HT : Hid (IT.dpL (l.take (k + 1)) = max Sm (1 + (max E0 (max E1 (max E2 (max E3 (max E4 (E5)))))))) := Lib.hid (by rw [ht1, hS, hE0, hE1, hE2, hE3, hE4, hE5])
      have hS2 : Sm ≤ 2000000 := by omega
      have hb0E : E0 ≤ 2000000 := by omega
      have hb1E : E1 ≤ 2000000 := by omega
      have hb2E : E2 ≤ 2000000 := by omega
      have hb3E : E3 ≤ 2000000 := by omega
      have hb4E : E4 ≤ 2000000 := by omega
      have hb5E : E5 ≤ 2000000 := by omega
      have r0 : wr.cell? ⟨b, o + k * 9, none⟩ = some (.int .i64 op2) := hr 0 _ rfl
      have r1 : wr.cell? ⟨b, o + k * 9 + 1, none⟩ = some (.string (bs nm2)) := hr 1 _ rfl
      have r2 : wr.cell? ⟨b, o + k * 9 + 2, none⟩ = some (.string (bs nf2)) := hr 2 _ rfl
      have r3 : wr.cell? ⟨b, o + k * 9 + 3, none⟩ = some (.slice xa2 xl2.length xc2) := hr 3 _ rfl
      have r4 : wr.cell? ⟨b, o + k * 9 + 4, none⟩ = some (.slice sa2 sl2.length sc2) := hr 4 _ rfl
      have r5 : wr.cell? ⟨b, o + k * 9 + 5, none⟩ = some (.slice la2 ll2.length lc2) := hr 5 _ rfl
      have r6 : wr.cell? ⟨b, o + k * 9 + 6, none⟩ = some (.slice ea2 el2.length ec2) := hr 6 _ rfl
      have r7 : wr.cell? ⟨b, o + k * 9 + 7, none⟩ = some (.slice pa2 pl2.length pc2) := hr 7 _ rfl
      have r8 : wr.cell? ⟨b, o + k * 9 + 8, none⟩ = some (.slice ba2 bl2.length bc2) := hr 8 _ rfl
      go_upto_region 6 with (fail)
      have BX : (wr.alloc (.cells #[.int .i64 op2, .string (bs nm2), .string (bs nf2), .slice xa2 xl2.length xc2, .slice sa2 sl2.length sc2, .slice la2 ll2.length lc2, .slice ea2 el2.length ec2, .slice pa2 pl2.length pc2, .slice ba2 bl2.length bc2] 60)).heap[wr.heap.size]? = some (.cells #[.int .i64 op2, .string (bs nm2), .string (bs nf2), .slice xa2 xl2.length xc2, .slice sa2 sl2.length sc2, .slice la2 ll2.length lc2, .slice ea2 el2.length ec2, .slice pa2 pl2.length pc2, .slice ba2 bl2.length bc2] 60) := World.alloc_heap_new wr _
      have kk : Below wr.heap.size wr (wr.alloc (.cells #[.int .i64 op2, .string (bs nm2), .string (bs nf2), .slice xa2 xl2.length xc2, .slice sa2 sl2.length sc2, .slice la2 ll2.length lc2, .slice ea2 el2.length ec2, .slice pa2 pl2.length pc2, .slice ba2 bl2.length bc2] 60)) := (Below.refl _ _).alloc (Nat.le_refl _) _
      have hb1 := hb0.trans (kk.mono hb0.size)
      have hk8 := Below.keptTo kk hnr
      replace i0 := i0.keep hk8 (fun x _ => XT.In.keep hk8 x)
      replace i1 := i1.keep hk8 (fun x _ => ST.In.keep hk8 x)
      replace i2 := i2.keep hk8 (fun x _ => IT.In.keep hk8 x)
      replace i3 := i3.keep hk8 (fun x _ => IT.In.keep hk8 x)
      replace i4 := i4.keep hk8 (fun x _ => BT.In.keep hk8 x)
      replace i5 := i5.keep hk8 (fun x _ => BT.In.keep hk8 x)
      replace hnr : n0 ≤ (wr.alloc (.cells #[.int .i64 op2, .string (bs nm2), .string (bs nf2), .slice xa2 xl2.length xc2, .slice sa2 sl2.length sc2, .slice la2 ll2.length lc2, .slice ea2 el2.length ec2, .slice pa2 pl2.length pc2, .slice ba2 bl2.length bc2] 60)).heap.size := Nat.le_trans hnr kk.size
      clear hk8 kk r0 r1 r2 r3 r4 r5 r6 r7 r8
      generalize wr.alloc (.cells #[.int .i64 op2, .string (bs nm2), .string (bs nf2), .slice xa2 xl2.length xc2, .slice sa2 sl2.length sc2, .slice la2 ll2.length lc2, .slice ea2 el2.length ec2, .slice pa2 pl2.length pc2, .slice ba2 bl2.length bc2] 60) = w2 at *
      obtain ⟨r0, r1, r2, r3, r4, r5, r6, r7, r8⟩ := open9 BX
      have bq := fun (dq : Nat) (os : Array Obj) => below_regrown w2 dq os
      have q0 := fun (dq : Nat) (os : Array Obj) => refdeepL_any xl2 (by omega) xa2 xc2 n0 (grow (redrawn w2 dq) os) (Nat.le_trans hnr (bq dq os).size) (i0.keep (Below.keptTo (bq dq os) hnr) (fun x _ => XT.In.keep (Below.keptTo (bq dq os) hnr) x))
      simp only [IT.ll, IT.el, hE0] at q0
      have Q0 := Lib.hid q0
      have q1 := fun (dq : Nat) (os : Array Obj) => refdeepS_any sl2 (by omega) sa2 sc2 n0 (grow (redrawn w2 dq) os) (Nat.le_trans hnr (bq dq os).size) (i1.keep (Below.keptTo (bq dq os) hnr) (fun x _ => ST.In.keep (Below.keptTo (bq dq os) hnr) x))
      simp only [IT.ll, IT.el, hE1] at q1
      have Q1 := Lib.hid q1
      have q2 := fun (dq : Nat) (os : Array Obj) => hcx0 la2 lc2 (grow (redrawn w2 dq) os) (Nat.le_trans hnr (bq dq os).size) (i2.keep (Below.keptTo (bq dq os) hnr) (fun x _ => IT.In.keep (Below.keptTo (bq dq os) hnr) x))
      simp only [IT.ll, IT.el, hE2] at q2
      have Q2 := Lib.hid q2
      have q3 := fun (dq : Nat) (os : Array Obj) => hcx1 ea2 ec2 (grow (redrawn w2 dq) os) (Nat.le_trans hnr (bq dq os).size) (i3.keep (Below.keptTo (bq dq os) hnr) (fun x _ => IT.In.keep (Below.keptTo (bq dq os) hnr) x))
      simp only [IT.ll, IT.el, hE3] at q3
      have Q3 := Lib.hid q3
      have q4 := fun (dq : Nat) (os : Array Obj) => refdeepB_of n0 pl2 (by omega) pa2 pc2 (grow (redrawn w2 dq) os) (Nat.le_trans hnr (bq dq os).size) (i4.keep (Below.keptTo (bq dq os) hnr) (fun x _ => BT.In.keep (Below.keptTo (bq dq os) hnr) x))
      simp only [IT.ll, IT.el, hE4] at q4
      have Q4 := Lib.hid q4
      have q5 := fun (dq : Nat) (os : Array Obj) => refdeepB_of n0 bl2 (by omega) ba2 bc2 (grow (redrawn w2 dq) os) (Nat.le_trans hnr (bq dq os).size) (i5.keep (Below.keptTo (bq dq os) hnr) (fun x _ => BT.In.keep (Below.keptTo (bq dq os) hnr) x))
      simp only [IT.ll, IT.el, hE5] at q5
      have Q5 := Lib.hid q5
      have HH := Lib.hid (And.intro hS (And.intro hgx (And.intro ht1 ht4)))
      have r0R := cell_regrown r0
      have r1R := cell_regrown r1
      have r2R := cell_regrown r2
      have r3R := cell_regrown r3
      have r4R := cell_regrown r4
      have r5R := cell_regrown r5
      have r6R := cell_regrown r6
      have r7R := cell_regrown r7
      have r8R := cell_regrown r8
      clear bq hin hr hx hgx ht1 ht2 ht3 ht4 ht5 hS hmem q0 q1 q2 q3 q4 q5 hE0 hE1 hE2 hE3 hE4 hE5 i0 i1 i2 i3 i4 i5 hds0 hds1 hds2 hds3 hds4 hds5 hcx0 hcx1 hc0 hc1 
      refine wp_region_quiet_below (by kernel_rfl) (by kernel_rfl) ?_
      repeat (go_big_quiet_step (first | (go_at_call_of 74 (Value.slice xa2 (List.length xl2) xc2); exact Calls.regrown_of (Q0.out _ _)) | (go_at_call_of 38 (Value.slice sa2 (List.length sl2) sc2); exact Calls.regrown_of (Q1.out _ _)) | (go_at_call_of 100 (Value.slice la2 (List.length ll2) lc2); exact Calls.regrown_of (Q2.out _ _)) | (go_at_call_of 100 (Value.slice ea2 (List.length el2) ec2); exact Calls.regrown_of (Q3.out _ _)) | (go_at_call_of 99 (Value.slice pa2 (List.length pl2) pc2); exact Calls.regrown_of (Q4.out _ _)) | (go_at_call_of 99 (Value.slice ba2 (List.length bl2) bc2); exact Calls.regrown_of (Q5.out _ _))))
      refine wpQuiet_nil ?_
      intro _ hw'
      obtain ⟨⟨dq, osq⟩, hw''⟩ := hw'
      subst hw''
      have hb2 := hb1.trans ((below_regrown w2 dq osq).mono hb1.size)
      clear r0R r1R r2R r3R r4R r5R r6R r7R r8R
      generalize grow (redrawn w2 dq) osq = w3 at *
      go_wp2
      all_goals
        go_roundw
        case rel => exact ⟨k + 1, by simp; first | done | rfl | omega, by omega, by rw [HT.out]; congr 1; first | done | rfl | omega | (simp; omega), hb2⟩
        case measure => simp [intOf]; omega
    · have d1 : decide (k < l.length) = false := by simpa using hlt
      have d2 : decide ((k : Int) < (l.length : Int)) = false := by rw [decide_eq_false_iff_not]; omega
      have HE : Hid (IT.dpL (l.take k) = R) := Lib.hid (by rw [show k = l.length by omega, List.take_length]; exact HR.out)
      rw [HE.out]
      clear hlt
      go_wp2
      go_ret
      exact ⟨rfl, hbw⟩

theorem refsizeI_in : ∀ x : IT, IT.szL x.ll + IT.szL x.el ≤ 2000000 → (∀ (n0 : Nat) (a : Option Addr) (c : Nat) (w : World), n0 ≤ w.heap.size → InRow 9 IT.cells (IT.In n0 w) n0 w x.ll a → Calls Tryz.prog 98 #[.slice a (x.ll).length c] w fun e w' => e = .returned (.int .i64 (IT.szL (x.ll) : Int)) ∧ Below w.heap.size w w') ∧ (∀ (n0 : Nat) (a : Option Addr) (c : Nat) (w : World), n0 ≤ w.heap.size → InRow 9 IT.cells (IT.In n0 w) n0 w x.el a → Calls Tryz.prog 98 #[.slice a (x.el).length c] w fun e w' => e = .returned (.int .i64 (IT.szL (x.el) : Int)) ∧ Below w.heap.size w w') := by
  refine IT.ind ?_
  intro op nm nf xa xc xl sa sc sl la lc ll ea ec el pa pc pl ba bc bl ih0 ih1 hsz
  refine ⟨fun n0 a c w hn0 hin => ?_, fun n0 a c w hn0 hin => ?_⟩
  · exact refsizeI_of n0 ll (by simp only [IT.ll, IT.el] at hsz; omega) (fun y hy a' c' w' h1 h2 => (ih0 y hy (by { have h3 := IT.szL_mem hy; have h4 : IT.szL y.ll + IT.szL y.el ≤ y.sz := (by { obtain ⟨a0, a1, a2, a3, a4, a5, a6, a7, a8, a9, a10, a11, a12, a13, a14, a15, a16, a17, a18, a19, a20⟩ := y; simp only [IT.ll, IT.el, IT.sz]; omega }); simp only [IT.ll, IT.el] at hsz; omega })).1 n0 a' c' w' h1 h2) (fun y hy a' c' w' h1 h2 => (ih0 y hy (by { have h3 := IT.szL_mem hy; have h4 : IT.szL y.ll + IT.szL y.el ≤ y.sz := (by { obtain ⟨a0, a1, a2, a3, a4, a5, a6, a7, a8, a9, a10, a11, a12, a13, a14, a15, a16, a17, a18, a19, a20⟩ := y; simp only [IT.ll, IT.el, IT.sz]; omega }); simp only [IT.ll, IT.el] at hsz; omega })).2 n0 a' c' w' h1 h2) a c w hn0 hin
  · exact refsizeI_of n0 el (by simp only [IT.ll, IT.el] at hsz; omega) (fun y hy a' c' w' h1 h2 => (ih1 y hy (by { have h3 := IT.szL_mem hy; have h4 : IT.szL y.ll + IT.szL y.el ≤ y.sz := (by { obtain ⟨a0, a1, a2, a3, a4, a5, a6, a7, a8, a9, a10, a11, a12, a13, a14, a15, a16, a17, a18, a19, a20⟩ := y; simp only [IT.ll, IT.el, IT.sz]; omega }); simp only [IT.ll, IT.el] at hsz; omega })).1 n0 a' c' w' h1 h2) (fun y hy a' c' w' h1 h2 => (ih1 y hy (by { have h3 := IT.szL_mem hy; have h4 : IT.szL y.ll + IT.szL y.el ≤ y.sz := (by { obtain ⟨a0, a1, a2, a3, a4, a5, a6, a7, a8, a9, a10, a11, a12, a13, a14, a15, a16, a17, a18, a19, a20⟩ := y; simp only [IT.ll, IT.el, IT.sz]; omega }); simp only [IT.ll, IT.el] at hsz; omega })).2 n0 a' c' w' h1 h2) a c w hn0 hin
theorem refsizeI_any (l : List IT) (hsz : IT.szL l ≤ 2000000) (a : Option Addr) (c : Nat) (n0 : Nat) (w : World) (hn0 : n0 ≤ w.heap.size) (hin : InRow 9 IT.cells (IT.In n0 w) n0 w l a) : Calls Tryz.prog 98 #[.slice a l.length c] w fun e w' => e = .returned (.int .i64 (IT.szL l : Int)) ∧ Below w.heap.size w w' :=
  (refsizeI_in (.mk 0 [] [] none 0 [] none 0 [] none 0 l none 0 [] none 0 [] none 0 []) (by simp only [IT.ll, IT.el, IT.szL]; omega)).1 n0 a c w hn0 hin

theorem refdeepI_in : ∀ x : IT, IT.szL x.ll + IT.szL x.el ≤ 1900000 → (∀ (n0 : Nat) (a : Option Addr) (c : Nat) (w : World), n0 ≤ w.heap.size → InRow 9 IT.cells (IT.In n0 w) n0 w x.ll a → Calls Tryz.prog 100 #[.slice a (x.ll).length c] w fun e w' => e = .returned (.int .i64 (IT.dpL (x.ll) : Int)) ∧ Below w.heap.size w w') ∧ (∀ (n0 : Nat) (a : Option Addr) (c : Nat) (w : World), n0 ≤ w.heap.size → InRow 9 IT.cells (IT.In n0 w) n0 w x.el a → Calls Tryz.prog 100 #[.slice a (x.el).length c] w fun e w' => e = .returned (.int .i64 (IT.dpL (x.el) : Int)) ∧ Below w.heap.size w w') := by
  refine IT.ind ?_
  intro op nm nf xa xc xl sa sc sl la lc ll ea ec el pa pc pl ba bc bl ih0 ih1 hsz
  refine ⟨fun n0 a c w hn0 hin => ?_, fun n0 a c w hn0 hin => ?_⟩
  · exact refdeepI_of n0 ll (by simp only [IT.ll, IT.el] at hsz; omega) (fun y hy a' c' w' h1 h2 => (ih0 y hy (by { have h3 := IT.szL_mem hy; have h4 : IT.szL y.ll + IT.szL y.el ≤ y.sz := (by { obtain ⟨a0, a1, a2, a3, a4, a5, a6, a7, a8, a9, a10, a11, a12, a13, a14, a15, a16, a17, a18, a19, a20⟩ := y; simp only [IT.ll, IT.el, IT.sz]; omega }); simp only [IT.ll, IT.el] at hsz; omega })).1 n0 a' c' w' h1 h2) (fun y hy a' c' w' h1 h2 => (ih0 y hy (by { have h3 := IT.szL_mem hy; have h4 : IT.szL y.ll + IT.szL y.el ≤ y.sz := (by { obtain ⟨a0, a1, a2, a3, a4, a5, a6, a7, a8, a9, a10, a11, a12, a13, a14, a15, a16, a17, a18, a19, a20⟩ := y; simp only [IT.ll, IT.el, IT.sz]; omega }); simp only [IT.ll, IT.el] at hsz; omega })).2 n0 a' c' w' h1 h2) a c w hn0 hin
  · exact refdeepI_of n0 el (by simp only [IT.ll, IT.el] at hsz; omega) (fun y hy a' c' w' h1 h2 => (ih1 y hy (by { have h3 := IT.szL_mem hy; have h4 : IT.szL y.ll + IT.szL y.el ≤ y.sz := (by { obtain ⟨a0, a1, a2, a3, a4, a5, a6, a7, a8, a9, a10, a11, a12, a13, a14, a15, a16, a17, a18, a19, a20⟩ := y; simp only [IT.ll, IT.el, IT.sz]; omega }); simp only [IT.ll, IT.el] at hsz; omega })).1 n0 a' c' w' h1 h2) (fun y hy a' c' w' h1 h2 => (ih1 y hy (by { have h3 := IT.szL_mem hy; have h4 : IT.szL y.ll + IT.szL y.el ≤ y.sz := (by { obtain ⟨a0, a1, a2, a3, a4, a5, a6, a7, a8, a9, a10, a11, a12, a13, a14, a15, a16, a17, a18, a19, a20⟩ := y; simp only [IT.ll, IT.el, IT.sz]; omega }); simp only [IT.ll, IT.el] at hsz; omega })).2 n0 a' c' w' h1 h2) a c w hn0 hin
theorem refdeepI_any (l : List IT) (hsz : IT.szL l ≤ 1900000) (a : Option Addr) (c : Nat) (n0 : Nat) (w : World) (hn0 : n0 ≤ w.heap.size) (hin : InRow 9 IT.cells (IT.In n0 w) n0 w l a) : Calls Tryz.prog 100 #[.slice a l.length c] w fun e w' => e = .returned (.int .i64 (IT.dpL l : Int)) ∧ Below w.heap.size w w' :=
  (refdeepI_in (.mk 0 [] [] none 0 [] none 0 [] none 0 l none 0 [] none 0 [] none 0 []) (by simp only [IT.ll, IT.el, IT.szL]; omega)).1 n0 a c w hn0 hin
end Go.Proofs.YtlbjmnakiflfpaaGreatDoor
