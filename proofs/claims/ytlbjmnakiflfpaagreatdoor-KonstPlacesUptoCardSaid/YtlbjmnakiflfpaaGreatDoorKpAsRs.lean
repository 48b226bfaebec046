/-
  The reference: are expressions, and statements, the same.
-/
import Derived.Test.YtlbjmnakiflfpaaGreatDoorKpAsT
import Derived.Lib.QuietBelow
import Derived.BigQuiet
import Derived.Test.YtlbjmnakiflfpaaGreatDoorKpAsU
namespace Go.Proofs.YtlbjmnakiflfpaaGreatDoor
open Go Go.RowKit
set_option linter.unusedVariables false
set_option linter.unusedSimpArgs false
open Go.Sort

set_option maxHeartbeats 8000000 in
set_option maxRecDepth 3000000 in
theorem refeqX_any (p : XT → XT → Bool) (n0 : Nat) (l m : List XT) (hll : l.length ≤ 4000000) (hmm : m.length ≤ 4000000) (hc : ∀ x ∈ l, ∀ y ∈ m, ∀ w, n0 ≤ w.heap.size → x.In n0 w → y.In n0 w → Calls Tryz.prog 20 #[x.val, y.val] w fun e w' => e = .returned (.bool (p x y)) ∧ Below w.heap.size w w') (a : Option Addr) (c : Nat) (a2 : Option Addr) (c2 : Nat) (w : World) (hn0 : n0 ≤ w.heap.size) (hi1 : InRow 6 XT.cells (XT.In n0 w) n0 w l a) (hi2 : InRow 6 XT.cells (XT.In n0 w) n0 w m a2) :
    Calls Tryz.prog 60 #[.slice a l.length c, .slice a2 m.length c2] w fun e w' => e = .returned (.bool (eqList p l m)) ∧ Below w.heap.size w w' := by
  by_cases hlen : l.length = m.length
  · have e1 : ((l.length : Int) != (m.length : Int)) = false := by rw [hlen]; simp
    have e2 : ((l.length : Int) == (m.length : Int)) = true := by rw [hlen]; simp
    have e3 : (l.length == m.length) = true := by rw [hlen]; simp
    have HLEN := Lib.hid hlen
    obtain ⟨R, hR⟩ : ∃ R, eqList p l m = R := ⟨_, rfl⟩
    have HR := Lib.hid hR
    rw [hR]
    clear hR hlen
    go_enter Tryz.func60, Tryz.ntmps60
    go_wp2
    go_loopg [5] l.length (fun g u wr => ∃ (k : Nat), u = .int .i64 k ∧ k + g = l.length ∧ eqList p (l.drop k) (m.drop k) = R ∧ Below w.heap.size w wr)
    case atStart => exact ⟨0, rfl, by omega, by rw [List.drop_zero, List.drop_zero]; exact HR.out, Below.refl _ _⟩
    case round =>
      obtain ⟨k, rfl, hk, hkk, hb0⟩ := hrel
      have HK := Lib.hid hkk
      clear hkk
      by_cases hlt : k < l.length
      · have hlt2 : k < m.length := by have := HLEN.out; omega
        have d1 : decide (k < l.length) = true := by simpa using hlt
        have d2 : decide ((k : Int) < (l.length : Int)) = true := by rw [decide_eq_true_eq]; omega
        have x1 : (k : Int) < (l.length : Int) := by omega
        have x2 : (k : Int) < (m.length : Int) := by omega
        obtain ⟨b, q, rfl, hb, hr, hx⟩ := hi1.kept (Below.keptTo hb0 hn0) hlt
        obtain ⟨b', q', rfl, hb', hs, hy⟩ := hi2.kept (Below.keptTo hb0 hn0) hlt2
        have HD := Lib.hid (eqList_drop p l m k hlt hlt2)
        have hcx := hc l[k] (List.getElem_mem hlt) m[k] (List.getElem_mem hlt2)
        have hxin := hx.keep (Below.keptTo hb0 hn0)
        have hyin := hy.keep (Below.keptTo hb0 hn0)
        have zz := hb0.size
        generalize p l[k] m[k] = bp at *
        generalize hgx : l[k] = x at *
        generalize hgy : m[k] = y at *
        obtain ⟨op, nm, xn, wd, v, xa, xc, xl⟩ := x
        obtain ⟨op2, nm2, xn2, wd2, v2, xa2, xc2, xl2⟩ := y
        have r0 : wr.cell? ⟨b, q + k * 6, none⟩ = some (.int .i64 op) := hr 0 _ rfl
        have r1 : wr.cell? ⟨b, q + k * 6 + 1, none⟩ = some (.string (bs nm)) := hr 1 _ rfl
        have r2 : wr.cell? ⟨b, q + k * 6 + 2, none⟩ = some (.int .i64 xn) := hr 2 _ rfl
        have r3 : wr.cell? ⟨b, q + k * 6 + 3, none⟩ = some (.int .i64 wd) := hr 3 _ rfl
        have r4 : wr.cell? ⟨b, q + k * 6 + 4, none⟩ = some (.int .u64 (v : Int)) := hr 4 _ rfl
        have r5 : wr.cell? ⟨b, q + k * 6 + 5, none⟩ = some (.slice xa xl.length xc) := hr 5 _ rfl
        have s0 : wr.cell? ⟨b', q' + k * 6, none⟩ = some (.int .i64 op2) := hs 0 _ rfl
        have s1 : wr.cell? ⟨b', q' + k * 6 + 1, none⟩ = some (.string (bs nm2)) := hs 1 _ rfl
        have s2 : wr.cell? ⟨b', q' + k * 6 + 2, none⟩ = some (.int .i64 xn2) := hs 2 _ rfl
        have s3 : wr.cell? ⟨b', q' + k * 6 + 3, none⟩ = some (.int .i64 wd2) := hs 3 _ rfl
        have s4 : wr.cell? ⟨b', q' + k * 6 + 4, none⟩ = some (.int .u64 (v2 : Int)) := hs 4 _ rfl
        have s5 : wr.cell? ⟨b', q' + k * 6 + 5, none⟩ = some (.slice xa2 xl2.length xc2) := hs 5 _ rfl
        have hnr : n0 ≤ wr.heap.size := by omega
        have bq := fun (dq : Nat) (os : Array Obj) => below_regrown wr dq os
        have q0 := fun (dq : Nat) (os : Array Obj) => hcx (grow (redrawn wr dq) os) (Nat.le_trans hnr (bq dq os).size) (hxin.keep (Below.keptTo (bq dq os) hnr)) (hyin.keep (Below.keptTo (bq dq os) hnr))
        simp only [XT.val, XT.cells] at q0
        have Q0 := Lib.hid q0
        have r0R := cell_regrown r0
        have r1R := cell_regrown r1
        have r2R := cell_regrown r2
        have r3R := cell_regrown r3
        have r4R := cell_regrown r4
        have r5R := cell_regrown r5
        have s0R := cell_regrown s0
        have s1R := cell_regrown s1
        have s2R := cell_regrown s2
        have s3R := cell_regrown s3
        have s4R := cell_regrown s4
        have s5R := cell_regrown s5
        have HH := Lib.hid (And.intro hk (And.intro hgx hgy))
        have hkg : k < l.length := hlt
        clear hi1 hi2 hc hcx hr hs hx hy hxin hyin hgx hgy q0 bq
        cases gk with
        | zero => omega
        | succ gg =>
          cases bp
          all_goals
            go_wp2_with fail
            refine wp_region_quiet_below (by kernel_rfl) (by kernel_rfl) ?_
            repeat (go_big_quiet_step (first | (go_at_call_of 20 (Value.agg #[.int .i64 op, .string (bs nm), .int .i64 xn, .int .i64 wd, .int .u64 (v : Int), .slice xa xl.length xc]); exact Calls.regrown_of (Q0.out _ _))))
            refine wpQuiet_nil ?_
            intro _ hw'
            obtain ⟨⟨dq, osq⟩, hw''⟩ := hw'
            subst hw''
            have hb3 := hb0.trans ((below_regrown wr dq osq).mono hb0.size)
            clear r0R s0R r1R s1R r2R s2R r3R s3R r4R s4R r5R s5R
            generalize grow (redrawn wr dq) osq = w3 at *
            go_wp2
            first
            | (go_ret
               exact ⟨by rw [← HK.out, HD.out]; rfl, hb3⟩)
            | (go_roundg gg
               case rel => exact ⟨k + 1, by simp; first | done | rfl | omega, by omega, by rw [← HK.out, HD.out]; rfl, hb3⟩
               case measure => omega)
      · have d1 : decide (k < l.length) = false := by simpa using hlt
        have d2 : decide ((k : Int) < (l.length : Int)) = false := by rw [decide_eq_false_iff_not]; omega
        have HE : Hid (R = true) := Lib.hid (by have := HK.out; have := HLEN.out; rw [List.drop_eq_nil_of_le (by omega), List.drop_eq_nil_of_le (by omega)] at *; rw [← HK.out]; rfl)
        go_wp2
        go_ret
        exact ⟨by rw [HE.out]; rfl, hb0⟩
  · have e1 : ((l.length : Int) != (m.length : Int)) = true := by rw [bne_iff_ne]; omega
    have e2 : (l.length != m.length) = true := by rw [bne_iff_ne]; exact hlen
    have e3 : (l.length == m.length) = false := by rw [beq_eq_false_iff_ne]; exact hlen
    have HE := Lib.hid (eqList_len p l m hlen)
    clear hlen
    go_enter Tryz.func60, Tryz.ntmps60
    go_wp2
    go_ret
    exact ⟨by rw [HE.out]; rfl, Below.refl _ _⟩

set_option maxHeartbeats 16000000 in
set_option maxRecDepth 3000000 in
theorem refsameX_any : ∀ x : XT, x.bk ≤ 1500000 → ∀ y : XT, y.bk ≤ 1500000 → ∀ (n0 : Nat) (w : World), n0 ≤ w.heap.size → x.In n0 w → y.In n0 w → Calls Tryz.prog 20 #[x.val, y.val] w fun e w' => e = .returned (.bool (sameX x y)) ∧ Below w.heap.size w w' := by
  refine XT.ind ?_
  intro op nm xn wd v xa xc xl ih0 hbk y hbk2 n0 w hn0 hin hin2
  obtain ⟨op2, nm2, xn2, wd2, v2, xa2, xc2, xl2⟩ := y
  rw [XT.In_mk] at hin hin2
  simp only [XT.bk] at hbk hbk2
  have i0 := hin
  have j0 := hin2
  have l0 := XT.bkL_len xl
  have l0b := XT.bkL_len xl2
  have c0 := fun (w' : World) h1 h2 h3 => refeqX_any sameX n0 xl xl2 (by omega) (by omega) (fun u hu v' hv w2 e1 e2 e3 => ih0 u hu (by have := XT.bkL_mem hu; omega) v' (by have := XT.bkL_mem hv; omega) n0 w2 e1 e2 e3) xa xc xa2 xc2 w' h1 h2 h3
  have HI : Hid (sameX (.mk op nm xn wd v xa xc xl) (.mk op2 nm2 xn2 wd2 v2 xa2 xc2 xl2) = ((op == op2) && ((nm == nm2) && ((xn == xn2) && ((wd == wd2) && (((v : Int) == (v2 : Int)) && (eqList sameX xl xl2))))))) := Lib.hid (by rw [sameX, sameXL_eq])
  generalize sameX (.mk op nm xn wd v xa xc xl) (.mk op2 nm2 xn2 wd2 v2 xa2 xc2 xl2) = R at *
  clear ih0
  obtain ⟨b1, hb1⟩ : ∃ b, (op == op2) = b := ⟨_, rfl⟩
  obtain ⟨b2, hb2⟩ : ∃ b, (nm == nm2) = b := ⟨_, rfl⟩
  obtain ⟨b3, hb3⟩ : ∃ b, (xn == xn2) = b := ⟨_, rfl⟩
  obtain ⟨b4, hb4⟩ : ∃ b, (wd == wd2) = b := ⟨_, rfl⟩
  obtain ⟨b5, hb5⟩ : ∃ b, ((v : Int) == (v2 : Int)) = b := ⟨_, rfl⟩
  have hb5n : (v == v2) = b5 := by rw [← hb5, Bool.eq_iff_iff, beq_iff_eq, beq_iff_eq]; omega
  obtain ⟨b6, hb6⟩ : ∃ b, eqList sameX xl xl2 = b := ⟨_, rfl⟩
  rw [hb1, hb2, hb3, hb4, hb5, hb6] at HI
  rw [hb6] at c0
  clear hb6
  simp only [XT.val, XT.cells]
  go_enter Tryz.func20, Tryz.ntmps20
  go_upto_region 1 with (fail)
  have BX : (w.alloc (.cells #[.int .i64 op, .string (bs nm), .int .i64 xn, .int .i64 wd, .int .u64 (v : Int), .slice xa xl.length xc] 25)).heap[w.heap.size]? = some (.cells #[.int .i64 op, .string (bs nm), .int .i64 xn, .int .i64 wd, .int .u64 (v : Int), .slice xa xl.length xc] 25) := World.alloc_heap_new w _
  have BY0 := World.alloc_heap_new (w.alloc (.cells #[.int .i64 op, .string (bs nm), .int .i64 xn, .int .i64 wd, .int .u64 (v : Int), .slice xa xl.length xc] 25)) (.cells #[.int .i64 op2, .string (bs nm2), .int .i64 xn2, .int .i64 wd2, .int .u64 (v2 : Int), .slice xa2 xl2.length xc2] 25)
  have BX2 := block_alloc BX (.cells #[.int .i64 op2, .string (bs nm2), .int .i64 xn2, .int .i64 wd2, .int .u64 (v2 : Int), .slice xa2 xl2.length xc2] 25)
  rw [World.size_alloc] at BY0
  have hB2 : Below w.heap.size w ((w.alloc (.cells #[.int .i64 op, .string (bs nm), .int .i64 xn, .int .i64 wd, .int .u64 (v : Int), .slice xa xl.length xc] 25)).alloc (.cells #[.int .i64 op2, .string (bs nm2), .int .i64 xn2, .int .i64 wd2, .int .u64 (v2 : Int), .slice xa2 xl2.length xc2] 25)) := ((Below.refl _ _).alloc (Nat.le_refl _) _).alloc (by simp) _
  have hk8 := Below.keptTo hB2 hn0
  replace i0 := i0.keep hk8 (fun x _ => XT.In.keep hk8 x)
  replace j0 := j0.keep hk8 (fun x _ => XT.In.keep hk8 x)
  clear hk8 BX
  have hn1 : n0 ≤ ((w.alloc (.cells #[.int .i64 op, .string (bs nm), .int .i64 xn, .int .i64 wd, .int .u64 (v : Int), .slice xa xl.length xc] 25)).alloc (.cells #[.int .i64 op2, .string (bs nm2), .int .i64 xn2, .int .i64 wd2, .int .u64 (v2 : Int), .slice xa2 xl2.length xc2] 25)).heap.size := by simp; omega
  generalize (w.alloc (.cells #[.int .i64 op, .string (bs nm), .int .i64 xn, .int .i64 wd, .int .u64 (v : Int), .slice xa xl.length xc] 25)).alloc (.cells #[.int .i64 op2, .string (bs nm2), .int .i64 xn2, .int .i64 wd2, .int .u64 (v2 : Int), .slice xa2 xl2.length xc2] 25) = w1 at *
  cases b1 with
  | false =>
    obtain ⟨x0, x1, x2, x3, x4, x5⟩ := open6 BX2
    obtain ⟨y0, y1, y2, y3, y4, y5⟩ := open6 BY0
    go_wp2
    go_ret
    exact ⟨by rw [HI.out]; rfl, hB2⟩
  | true =>
    cases b2 with
    | false =>
      obtain ⟨x0, x1, x2, x3, x4, x5⟩ := open6 BX2
      obtain ⟨y0, y1, y2, y3, y4, y5⟩ := open6 BY0
      go_wp2
      go_ret
      exact ⟨by rw [HI.out]; rfl, hB2⟩
    | true =>
      cases b3 with
      | false =>
        obtain ⟨x0, x1, x2, x3, x4, x5⟩ := open6 BX2
        obtain ⟨y0, y1, y2, y3, y4, y5⟩ := open6 BY0
        go_wp2
        go_ret
        exact ⟨by rw [HI.out]; rfl, hB2⟩
      | true =>
        cases b4 with
        | false =>
          obtain ⟨x0, x1, x2, x3, x4, x5⟩ := open6 BX2
          obtain ⟨y0, y1, y2, y3, y4, y5⟩ := open6 BY0
          go_wp2
          go_ret
          exact ⟨by rw [HI.out]; rfl, hB2⟩
        | true =>
          cases b5 with
          | false =>
            obtain ⟨x0, x1, x2, x3, x4, x5⟩ := open6 BX2
            obtain ⟨y0, y1, y2, y3, y4, y5⟩ := open6 BY0
            go_wp2
            go_ret
            exact ⟨by rw [HI.out]; rfl, hB2⟩
          | true =>
            obtain ⟨x0, x1, x2, x3, x4, x5⟩ := open6 BX2
            obtain ⟨y0, y1, y2, y3, y4, y5⟩ := open6 BY0
            go_wp2_with fail
            refine (c0 _ hn1 i0 j0).mono ?_
            rintro e1 w1 ⟨rfl, hb⟩
            clear x0 x1 x2 x3 x4 x5 y0 y1 y2 y3 y4 y5
            replace BX2 := block_kept BX2 hb
            replace BY0 := block_kept BY0 hb
            have hk9 := Below.keptTo hb hn1
            replace i0 := i0.keep hk9 (fun x _ => XT.In.keep hk9 x)
            replace j0 := j0.keep hk9 (fun x _ => XT.In.keep hk9 x)
            replace hn1 := Nat.le_trans hn1 hb.size
            clear hk9
            replace hB2 := hB2.trans (hb.mono hB2.size)
            clear hb
            obtain ⟨x0, x1, x2, x3, x4, x5⟩ := open6 BX2
            obtain ⟨y0, y1, y2, y3, y4, y5⟩ := open6 BY0
            go_wp2
            go_ret
            exact ⟨by rw [HI.out]; rfl, hB2⟩

theorem reflX (n0 : Nat) (l m : List XT) (hl : XT.bkL l ≤ 1500000) (hm : XT.bkL m ≤ 1500000) (a : Option Addr) (c : Nat) (a2 : Option Addr) (c2 : Nat) (w : World) (hn0 : n0 ≤ w.heap.size) (hi1 : InRow 6 XT.cells (XT.In n0 w) n0 w l a) (hi2 : InRow 6 XT.cells (XT.In n0 w) n0 w m a2) : Calls Tryz.prog 60 #[.slice a l.length c, .slice a2 m.length c2] w fun e w' => e = .returned (.bool (eqList sameX l m)) ∧ Below w.heap.size w w' := by
  have l1 := XT.bkL_len l
  have l2 := XT.bkL_len m
  exact refeqX_any sameX n0 l m (by omega) (by omega) (fun u hu v hv w2 e1 e2 e3 => refsameX_any u (by have := XT.bkL_mem hu; omega) v (by have := XT.bkL_mem hv; omega) n0 w2 e1 e2 e3) a c a2 c2 w hn0 hi1 hi2

end Go.Proofs.YtlbjmnakiflfpaaGreatDoor
