/-
  AsS, AsT, AsLs, RsZ, in one text.
-/
import Derived.Test.YtbfhbblbjgkolaaGreatDoorAsM
import Derived.Deep.LoopGhost
import Derived.Deep.DeepCutAuto
import Derived.Lib.QuietBelow
import Derived.BigQuiet
import Derived.Test.YtbfhbblbjgkolaaGreatDoorAsPz
import Derived.Deep.QuietTactic
import Derived.WalkKit
import Derived.Lib.Hide
namespace Go.Proofs.YtbfhbblbjgkolaaGreatDoor
open Go Go.RowKit
set_option linter.unusedVariables false
set_option linter.unusedSimpArgs false
open Go.Sort

/-- Are two lists the same, element by element? -/
def eqList {α : Type} (p : α → α → Bool) : List α → List α → Bool
  | [], [] => true
  | x :: r, y :: t => p x y && eqList p r t
  | _, _ => false
theorem eqList_len {α : Type} (p : α → α → Bool) : ∀ l m : List α, l.length ≠ m.length → eqList p l m = false
  | [], [], h => absurd rfl h
  | [], _ :: _, _ => rfl
  | _ :: _, [], _ => rfl
  | x :: r, y :: t, h => by rw [eqList, eqList_len p r t (by simpa using h), Bool.and_false]
theorem eqList_drop {α : Type} (p : α → α → Bool) (l m : List α) (k : Nat) (h : k < l.length) (h2 : k < m.length) : eqList p (l.drop k) (m.drop k) = (p l[k] m[k] && eqList p (l.drop (k + 1)) (m.drop (k + 1))) := by
  rw [← List.getElem_cons_drop h, ← List.getElem_cons_drop h2]; rfl

end Go.Proofs.YtbfhbblbjgkolaaGreatDoor
namespace Go.Proofs.YtbfhbblbjgkolaaGreatDoor
open Go Go.RowKit
set_option linter.unusedVariables false
set_option linter.unusedSimpArgs false
open Go.Sort
mutual
def sameX : XT → XT → Bool
  | .mk op nm xn wd v _ _ xl, .mk op2 nm2 xn2 wd2 v2 _ _ xl2 => (op == op2) && ((nm == nm2) && ((xn == xn2) && ((wd == wd2) && (((v : Int) == (v2 : Int)) && (sameXL xl xl2)))))
def sameXL : List XT → List XT → Bool
  | [], [] => true
  | x :: r, y :: q => sameX x y && sameXL r q
  | [], _ :: _ => false
  | _ :: _, [] => false
end
theorem sameXL_eq : ∀ l m : List XT, sameXL l m = eqList sameX l m
  | [], [] => rfl
  | x :: r, y :: q => by rw [sameXL, sameXL_eq r q]; rfl
  | [], _ :: _ => rfl
  | _ :: _, [] => rfl
mutual
def sameS : ST → ST → Bool
  | .mk op nm _ _ xl _ _ sl, .mk op2 nm2 _ _ xl2 _ _ sl2 => (op == op2) && ((nm == nm2) && (eqList sameX xl xl2 && (sameSL sl sl2)))
def sameSL : List ST → List ST → Bool
  | [], [] => true
  | x :: r, y :: q => sameS x y && sameSL r q
  | [], _ :: _ => false
  | _ :: _, [] => false
end
theorem sameSL_eq : ∀ l m : List ST, sameSL l m = eqList sameS l m
  | [], [] => rfl
  | x :: r, y :: q => by rw [sameSL, sameSL_eq r q]; rfl
  | [], _ :: _ => rfl
  | _ :: _, [] => rfl
def sameB : BT → BT → Bool
  | ⟨bn, x⟩, ⟨bn2, x2⟩ => (bn == bn2) && (sameX x x2)
def sameP : PT → PT → Bool
  | ⟨bn, po, x⟩, ⟨bn2, po2, x2⟩ => (bn == bn2) && ((po == po2) && (sameX x x2))
mutual
def sameI : IT → IT → Bool
  | .mk op nm nf _ _ xl _ _ sl _ _ ll _ _ el _ _ pl _ _ bl, .mk op2 nm2 nf2 _ _ xl2 _ _ sl2 _ _ ll2 _ _ el2 _ _ pl2 _ _ bl2 => (op == op2) && ((nm == nm2) && ((nf == nf2) && (eqList sameX xl xl2 && (eqList sameS sl sl2 && (sameIL ll ll2 && (sameIL el el2 && (eqList sameB pl pl2 && (eqList sameB bl bl2))))))))
def sameIL : List IT → List IT → Bool
  | [], [] => true
  | x :: r, y :: q => sameI x y && sameIL r q
  | [], _ :: _ => false
  | _ :: _, [] => false
end
theorem sameIL_eq : ∀ l m : List IT, sameIL l m = eqList sameI l m
  | [], [] => rfl
  | x :: r, y :: q => by rw [sameIL, sameIL_eq r q]; rfl
  | [], _ :: _ => rfl
  | _ :: _, [] => rfl
def sameM : MT → MT → Bool
  | ⟨nm, _, _, pl, _, _, tl, _, _, il⟩, ⟨nm2, _, _, pl2, _, _, tl2, _, _, il2⟩ => (nm == nm2) && (eqList sameB pl pl2 && (eqList sameP tl tl2 && (eqList sameI il il2)))
theorem opn9 {w : World} {g : Nat} {v0 v1 v2 v3 v4 v5 v6 v7 v8 : Value} {t : TypeId} (h : w.heap[g]? = some (.cells #[v0, v1, v2, v3, v4, v5, v6, v7, v8] t (0, 0))) : w.cell? ⟨g, 0, none⟩ = some v0 ∧ w.cell? ⟨g, 1, none⟩ = some v1 ∧ w.cell? ⟨g, 2, none⟩ = some v2 ∧ w.cell? ⟨g, 3, none⟩ = some v3 ∧ w.cell? ⟨g, 4, none⟩ = some v4 ∧ w.cell? ⟨g, 5, none⟩ = some v5 ∧ w.cell? ⟨g, 6, none⟩ = some v6 ∧ w.cell? ⟨g, 7, none⟩ = some v7 ∧ w.cell? ⟨g, 8, none⟩ = some v8 := by
  simp [World.cell?, h]

end Go.Proofs.YtbfhbblbjgkolaaGreatDoor
namespace Go.Proofs.YtbfhbblbjgkolaaGreatDoor
def sameF (x y : FT) : Bool := eqList sameM x.ml y.ml
end Go.Proofs.YtbfhbblbjgkolaaGreatDoor
namespace Go.Proofs.YtbfhbblbjgkolaaGreatDoor
open Go Go.RowKit
set_option linter.unusedVariables false
set_option linter.unusedSimpArgs false
open Go.Sort

set_option maxHeartbeats 8000000 in
set_option maxRecDepth 3000000 in
theorem refeqX_any (p : XT → XT → Bool) (n0 : Nat) (l m : List XT) (hll : l.length ≤ 4000000) (hmm : m.length ≤ 4000000) (hc : ∀ x ∈ l, ∀ y ∈ m, ∀ w, n0 ≤ w.heap.size → x.In n0 w → y.In n0 w → Calls Tryz.prog 82 #[x.val, y.val] w fun e w' => e = .returned (.bool (p x y)) ∧ Below w.heap.size w w') (a : Option Addr) (c : Nat) (a2 : Option Addr) (c2 : Nat) (w : World) (hn0 : n0 ≤ w.heap.size) (hi1 : InRow 6 XT.cells (XT.In n0 w) n0 w l a) (hi2 : InRow 6 XT.cells (XT.In n0 w) n0 w m a2) :
    Calls Tryz.prog 83 #[.slice a l.length c, .slice a2 m.length c2] w fun e w' => e = .returned (.bool (eqList p l m)) ∧ Below w.heap.size w w' := by
  by_cases hlen : l.length = m.length
  · have e1 : ((l.length : Int) != (m.length : Int)) = false := by rw [hlen]; simp
    have e2 : ((l.length : Int) == (m.length : Int)) = true := by rw [hlen]; simp
    have e3 : (l.length == m.length) = true := by rw [hlen]; simp
    have HLEN := Lib.hid hlen
    obtain ⟨R, hR⟩ : ∃ R, eqList p l m = R := ⟨_, rfl⟩
    have HR := Lib.hid hR
    rw [hR]
    clear hR hlen
    go_enter Tryz.func83, Tryz.ntmps83
    go_wp2
    go_loopg [5] l.length (fun g u wr => ∃ (k : Nat), u = .int .i64 k ∧ k + g = l.length ∧ eqList p (l.drop k) (m.drop k) = R ∧ Below w.heap.size w wr)
    case atStart => exact ⟨0, rfl, by omega, by rw [List.drop_zero, List.drop_zero]; exact HR.out, Below.refl _ _⟩
    case round =>
      obtain ⟨k, rfl, hk, hkk, hb0⟩ := hrel
      have HK := Lib.hid hkk
      clear hkk
      by_cases hlt : k < l.length
      · have hlt2 : k < m.length := by have := HLEN.out; omega
        have d1 : decide (k < l.length) = true := by simpa using hlt
        have d2 : decide ((k : Int) < (l.length : Int)) = true := by rw [decide_eq_true_eq]; omega
        have x1 : (k : Int) < (l.length : Int) := by omega
        have x2 : (k : Int) < (m.length : Int) := by omega
        obtain ⟨b, q, rfl, hb, hr, hx⟩ := hi1.kept (Below.keptTo hb0 hn0) hlt
        obtain ⟨b', q', rfl, hb', hs, hy⟩ := hi2.kept (Below.keptTo hb0 hn0) hlt2
        have HD := Lib.hid (eqList_drop p l m k hlt hlt2)
        have hcx := hc l[k] (List.getElem_mem hlt) m[k] (List.getElem_mem hlt2)
        have hxin := hx.keep (Below.keptTo hb0 hn0)
        have hyin := hy.keep (Below.keptTo hb0 hn0)
        have zz := hb0.size
        generalize p l[k] m[k] = bp at *
        generalize hgx : l[k] = x at *
        generalize hgy : m[k] = y at *
        obtain ⟨op, nm, xn, wd, v, xa, xc, xl⟩ := x
        obtain ⟨op2, nm2, xn2, wd2, v2, xa2, xc2, xl2⟩ := y
        have r0 : wr.cell? ⟨b, q + k * 6, none⟩ = some (.int .i64 op) := hr 0 _ rfl
        have r1 : wr.cell? ⟨b, q + k * 6 + 1, none⟩ = some (.string (bs nm)) := hr 1 _ rfl
        have r2 : wr.cell? ⟨b, q + k * 6 + 2, none⟩ = some (.int .i64 xn) := hr 2 _ rfl
        have r3 : wr.cell? ⟨b, q + k * 6 + 3, none⟩ = some (.int .i64 wd) := hr 3 _ rfl
        have r4 : wr.cell? ⟨b, q + k * 6 + 4, none⟩ = some (.int .u64 (v : Int)) := hr 4 _ rfl
        have r5 : wr.cell? ⟨b, q + k * 6 + 5, none⟩ = some (.slice xa xl.length xc) := hr 5 _ rfl
        have s0 : wr.cell? ⟨b', q' + k * 6, none⟩ = some (.int .i64 op2) := hs 0 _ rfl
        have s1 : wr.cell? ⟨b', q' + k * 6 + 1, none⟩ = some (.string (bs nm2)) := hs 1 _ rfl
        have s2 : wr.cell? ⟨b', q' + k * 6 + 2, none⟩ = some (.int .i64 xn2) := hs 2 _ rfl
        have s3 : wr.cell? ⟨b', q' + k * 6 + 3, none⟩ = some (.int .i64 wd2) := hs 3 _ rfl
        have s4 : wr.cell? ⟨b', q' + k * 6 + 4, none⟩ = some (.int .u64 (v2 : Int)) := hs 4 _ rfl
        have s5 : wr.cell? ⟨b', q' + k * 6 + 5, none⟩ = some (.slice xa2 xl2.length xc2) := hs 5 _ rfl
        have hnr : n0 ≤ wr.heap.size := by omega
        have bq := fun (dq : Nat) (os : Array Obj) => below_regrown wr dq os
        have q0 := fun (dq : Nat) (os : Array Obj) => hcx (grow (redrawn wr dq) os) (Nat.le_trans hnr (bq dq os).size) (hxin.keep (Below.keptTo (bq dq os) hnr)) (hyin.keep (Below.keptTo (bq dq os) hnr))
        simp only [XT.val, XT.cells] at q0
        have Q0 := Lib.hid q0
        have r0R := cell_regrown r0
        have r1R := cell_regrown r1
        have r2R := cell_regrown r2
        have r3R := cell_regrown r3
        have r4R := cell_regrown r4
        have r5R := cell_regrown r5
        have s0R := cell_regrown s0
        have s1R := cell_regrown s1
        have s2R := cell_regrown s2
        have s3R := cell_regrown s3
        have s4R := cell_regrown s4
        have s5R := cell_regrown s5
        have HH := Lib.hid (And.intro hk (And.intro hgx hgy))
        have hkg : k < l.length := hlt
        clear hi1 hi2 hc hcx hr hs hx hy hxin hyin hgx hgy q0 bq
        cases gk with
        | zero => omega
        | succ gg =>
          cases bp
          all_goals
            go_wp2_with fail
            refine wp_region_quiet_below (by kernel_rfl) (by kernel_rfl) ?_
            repeat (go_big_quiet_step (first | (go_at_call_of 82 (Value.agg #[.int .i64 op, .string (bs nm), .int .i64 xn, .int .i64 wd, .int .u64 (v : Int), .slice xa xl.length xc]); exact Calls.regrown_of (Q0.out _ _))))
            refine wpQuiet_nil ?_
            intro _ hw'
            obtain ⟨⟨dq, osq⟩, hw''⟩ := hw'
            subst hw''
            have hb3 := hb0.trans ((below_regrown wr dq osq).mono hb0.size)
            clear r0R s0R r1R s1R r2R s2R r3R s3R r4R s4R r5R s5R
            generalize grow (redrawn wr dq) osq = w3 at *
            go_wp2
            first
            | (go_ret
               exact ⟨by rw [← HK.out, HD.out]; rfl, hb3⟩)
            | (go_roundg gg
               case rel => exact ⟨k + 1, by simp; first | done | rfl | omega, by omega, by rw [← HK.out, HD.out]; rfl, hb3⟩
               case measure => omega)
      · have d1 : decide (k < l.length) = false := by simpa using hlt
        have d2 : decide ((k : Int) < (l.length : Int)) = false := by rw [decide_eq_false_iff_not]; omega
        have HE : Hid (R = true) := Lib.hid (by have := HK.out; have := HLEN.out; rw [List.drop_eq_nil_of_le (by omega), List.drop_eq_nil_of_le (by omega)] at *; rw [← HK.out]; rfl)
        go_wp2
        go_ret
        exact ⟨by rw [HE.out]; rfl, hb0⟩
  · have e1 : ((l.length : Int) != (m.length : Int)) = true := by rw [bne_iff_ne]; omega
    have e2 : (l.length != m.length) = true := by rw [bne_iff_ne]; exact hlen
    have e3 : (l.length == m.length) = false := by rw [beq_eq_false_iff_ne]; exact hlen
    have HE := Lib.hid (eqList_len p l m hlen)
    clear hlen
    go_enter Tryz.func83, Tryz.ntmps83
    go_wp2
    go_ret
    exact ⟨by rw [HE.out]; rfl, Below.refl _ _⟩

set_option maxHeartbeats 16000000 in
set_option maxRecDepth 3000000 in
theorem refsameX_any : ∀ x : XT, x.bk ≤ 1500000 → ∀ y : XT, y.bk ≤ 1500000 → ∀ (n0 : Nat) (w : World), n0 ≤ w.heap.size → x.In n0 w → y.In n0 w → Calls Tryz.prog 82 #[x.val, y.val] w fun e w' => e = .returned (.bool (sameX x y)) ∧ Below w.heap.size w w' := by
  refine XT.ind ?_
  intro op nm xn wd v xa xc xl ih0 hbk y hbk2 n0 w hn0 hin hin2
  obtain ⟨op2, nm2, xn2, wd2, v2, xa2, xc2, xl2⟩ := y
  rw [XT.In_mk] at hin hin2
  simp only [XT.bk] at hbk hbk2
  have i0 := hin
  have j0 := hin2
  have l0 := XT.bkL_len xl
  have l0b := XT.bkL_len xl2
  have c0 := fun (w' : World) h1 h2 h3 => refeqX_any sameX n0 xl xl2 (by omega) (by omega) (fun u hu v' hv w2 e1 e2 e3 => ih0 u hu (by have := XT.bkL_mem hu; omega) v' (by have := XT.bkL_mem hv; omega) n0 w2 e1 e2 e3) xa xc xa2 xc2 w' h1 h2 h3
  have HI : Hid (sameX (.mk op nm xn wd v xa xc xl) (.mk op2 nm2 xn2 wd2 v2 xa2 xc2 xl2) = ((op == op2) && ((nm == nm2) && ((xn == xn2) && ((wd == wd2) && (((v : Int) == (v2 : Int)) && (eqList sameX xl xl2))))))) := Lib.hid (by rw [sameX, sameXL_eq])
  generalize sameX (.mk op nm xn wd v xa xc xl) (.mk op2 nm2 xn2 wd2 v2 xa2 xc2 xl2) = R at *
  clear ih0
  obtain ⟨b1, hb1⟩ : ∃ b, (op == op2) = b := ⟨_, rfl⟩
  obtain ⟨b2, hb2⟩ : ∃ b, (nm == nm2) = b := ⟨_, rfl⟩
  obtain ⟨b3, hb3⟩ : ∃ b, (xn == xn2) = b := ⟨_, rfl⟩
  obtain ⟨b4, hb4⟩ : ∃ b, (wd == wd2) = b := ⟨_, rfl⟩
  obtain ⟨b5, hb5⟩ : ∃ b, ((v : Int) == (v2 : Int)) = b := ⟨_, rfl⟩
  have hb5n : (v == v2) = b5 := by rw [← hb5, Bool.eq_iff_iff, beq_iff_eq, beq_iff_eq]; omega
  obtain ⟨b6, hb6⟩ : ∃ b, eqList sameX xl xl2 = b := ⟨_, rfl⟩
  rw [hb1, hb2, hb3, hb4, hb5, hb6] at HI
  rw [hb6] at c0
  clear hb6
  simp only [XT.val, XT.cells]
  go_enter Tryz.func82, Tryz.ntmps82
  go_upto_region 1 with (fail)
  have BX : (w.alloc (.cells #[.int .i64 op, .string (bs nm), .int .i64 xn, .int .i64 wd, .int .u64 (v : Int), .slice xa xl.length xc] 60)).heap[w.heap.size]? = some (.cells #[.int .i64 op, .string (bs nm), .int .i64 xn, .int .i64 wd, .int .u64 (v : Int), .slice xa xl.length xc] 60) := World.alloc_heap_new w _
  have BY0 := World.alloc_heap_new (w.alloc (.cells #[.int .i64 op, .string (bs nm), .int .i64 xn, .int .i64 wd, .int .u64 (v : Int), .slice xa xl.length xc] 60)) (.cells #[.int .i64 op2, .string (bs nm2), .int .i64 xn2, .int .i64 wd2, .int .u64 (v2 : Int), .slice xa2 xl2.length xc2] 60)
  have BX2 := block_alloc BX (.cells #[.int .i64 op2, .string (bs nm2), .int .i64 xn2, .int .i64 wd2, .int .u64 (v2 : Int), .slice xa2 xl2.length xc2] 60)
  rw [World.size_alloc] at BY0
  have hB2 : Below w.heap.size w ((w.alloc (.cells #[.int .i64 op, .string (bs nm), .int .i64 xn, .int .i64 wd, .int .u64 (v : Int), .slice xa xl.length xc] 60)).alloc (.cells #[.int .i64 op2, .string (bs nm2), .int .i64 xn2, .int .i64 wd2, .int .u64 (v2 : Int), .slice xa2 xl2.length xc2] 60)) := ((Below.refl _ _).alloc (Nat.le_refl _) _).alloc (by simp) _
  have hk8 := Below.keptTo hB2 hn0
  replace i0 := i0.keep hk8 (fun x _ => XT.In.keep hk8 x)
  replace j0 := j0.keep hk8 (fun x _ => XT.In.keep hk8 x)
  clear hk8 BX
  have hn1 : n0 ≤ ((w.alloc (.cells #[.int .i64 op, .string (bs nm), .int .i64 xn, .int .i64 wd, .int .u64 (v : Int), .slice xa xl.length xc] 60)).alloc (.cells #[.int .i64 op2, .string (bs nm2), .int .i64 xn2, .int .i64 wd2, .int .u64 (v2 : Int), .slice xa2 xl2.length xc2] 60)).heap.size := by simp; omega
  generalize (w.alloc (.cells #[.int .i64 op, .string (bs nm), .int .i64 xn, .int .i64 wd, .int .u64 (v : Int), .slice xa xl.length xc] 60)).alloc (.cells #[.int .i64 op2, .string (bs nm2), .int .i64 xn2, .int .i64 wd2, .int .u64 (v2 : Int), .slice xa2 xl2.length xc2] 60) = w1 at *
  cases b1 with
  | false =>
    obtain ⟨x0, x1, x2, x3, x4, x5⟩ := open6 BX2
    obtain ⟨y0, y1, y2, y3, y4, y5⟩ := open6 BY0
    go_wp2
    go_ret
    exact ⟨by rw [HI.out]; rfl, hB2⟩
  | true =>
    cases b2 with
    | false =>
      obtain ⟨x0, x1, x2, x3, x4, x5⟩ := open6 BX2
      obtain ⟨y0, y1, y2, y3, y4, y5⟩ := open6 BY0
      go_wp2
      go_ret
      exact ⟨by rw [HI.out]; rfl, hB2⟩
    | true =>
      cases b3 with
      | false =>
        obtain ⟨x0, x1, x2, x3, x4, x5⟩ := open6 BX2
        obtain ⟨y0, y1, y2, y3, y4, y5⟩ := open6 BY0
        go_wp2
        go_ret
        exact ⟨by rw [HI.out]; rfl, hB2⟩
      | true =>
        cases b4 with
        | false =>
          obtain ⟨x0, x1, x2, x3, x4, x5⟩ := open6 BX2
          obtain ⟨y0, y1, y2, y3, y4, y5⟩ := open6 BY0
          go_wp2
          go_ret
          exact ⟨by rw [HI.out]; rfl, hB2⟩
        | true =>
          cases b5 with
          | false =>
            obtain ⟨x0, x1, x2, x3, x4, x5⟩ := open6 BX2
            obtain ⟨y0, y1, y2, y3, y4, y5⟩ := open6 BY0
            go_wp2
            go_ret
            exact ⟨by rw [HI.out]; rfl, hB2⟩
          | true =>
            obtain ⟨x0, x1, x2, x3, x4, x5⟩ := open6 BX2
            obtain ⟨y0, y1, y2, y3, y4, y5⟩ := open6 BY0
            go_wp2_with fail
            refine (c0 _ hn1 i0 j0).mono ?_
            rintro e1 w1 ⟨rfl, hb⟩
            clear x0 x1 x2 x3 x4 x5 y0 y1 y2 y3 y4 y5
            replace BX2 := block_kept BX2 hb
            replace BY0 := block_kept BY0 hb
            have hk9 := Below.keptTo hb hn1
            replace i0 := i0.keep hk9 (fun x _ => XT.In.keep hk9 x)
            replace j0 := j0.keep hk9 (fun x _ => XT.In.keep hk9 x)
            replace hn1 := Nat.le_trans hn1 hb.size
            clear hk9
            replace hB2 := hB2.trans (hb.mono hB2.size)
            clear hb
            obtain ⟨x0, x1, x2, x3, x4, x5⟩ := open6 BX2
            obtain ⟨y0, y1, y2, y3, y4, y5⟩ := open6 BY0
            go_wp2
            go_ret
            exact ⟨by rw [HI.out]; rfl, hB2⟩

theorem reflX (n0 : Nat) (l m : List XT) (hl : XT.bkL l ≤ 1500000) (hm : XT.bkL m ≤ 1500000) (a : Option Addr) (c : Nat) (a2 : Option Addr) (c2 : Nat) (w : World) (hn0 : n0 ≤ w.heap.size) (hi1 : InRow 6 XT.cells (XT.In n0 w) n0 w l a) (hi2 : InRow 6 XT.cells (XT.In n0 w) n0 w m a2) : Calls Tryz.prog 83 #[.slice a l.length c, .slice a2 m.length c2] w fun e w' => e = .returned (.bool (eqList sameX l m)) ∧ Below w.heap.size w w' := by
  have l1 := XT.bkL_len l
  have l2 := XT.bkL_len m
  exact refeqX_any sameX n0 l m (by omega) (by omega) (fun u hu v hv w2 e1 e2 e3 => refsameX_any u (by have := XT.bkL_mem hu; omega) v (by have := XT.bkL_mem hv; omega) n0 w2 e1 e2 e3) a c a2 c2 w hn0 hi1 hi2

set_option maxHeartbeats 8000000 in
set_option maxRecDepth 3000000 in
theorem refeqS_any (p : ST → ST → Bool) (n0 : Nat) (l m : List ST) (hll : l.length ≤ 4000000) (hmm : m.length ≤ 4000000) (hc : ∀ x ∈ l, ∀ y ∈ m, ∀ w, n0 ≤ w.heap.size → x.In n0 w → y.In n0 w → Calls Tryz.prog 130 #[x.val, y.val] w fun e w' => e = .returned (.bool (p x y)) ∧ Below w.heap.size w w') (a : Option Addr) (c : Nat) (a2 : Option Addr) (c2 : Nat) (w : World) (hn0 : n0 ≤ w.heap.size) (hi1 : InRow 4 ST.cells (ST.In n0 w) n0 w l a) (hi2 : InRow 4 ST.cells (ST.In n0 w) n0 w m a2) :
    Calls Tryz.prog 84 #[.slice a l.length c, .slice a2 m.length c2] w fun e w' => e = .returned (.bool (eqList p l m)) ∧ Below w.heap.size w w' := by
  by_cases hlen : l.length = m.length
  · have e1 : ((l.length : Int) != (m.length : Int)) = false := by rw [hlen]; simp
    have e2 : ((l.length : Int) == (m.length : Int)) = true := by rw [hlen]; simp
    have e3 : (l.length == m.length) = true := by rw [hlen]; simp
    have HLEN := Lib.hid hlen
    obtain ⟨R, hR⟩ : ∃ R, eqList p l m = R := ⟨_, rfl⟩
    have HR := Lib.hid hR
    rw [hR]
    clear hR hlen
    go_enter Tryz.func84, Tryz.ntmps84
    go_wp2
    go_loopg [5] l.length (fun g u wr => ∃ (k : Nat), u = .int .i64 k ∧ k + g = l.length ∧ eqList p (l.drop k) (m.drop k) = R ∧ Below w.heap.size w wr)
    case atStart => exact ⟨0, rfl, by omega, by rw [List.drop_zero, List.drop_zero]; exact HR.out, Below.refl _ _⟩
    case round =>
      obtain ⟨k, rfl, hk, hkk, hb0⟩ := hrel
      have HK := Lib.hid hkk
      clear hkk
      by_cases hlt : k < l.length
      · have hlt2 : k < m.length := by have := HLEN.out; omega
        have d1 : decide (k < l.length) = true := by simpa using hlt
        have d2 : decide ((k : Int) < (l.length : Int)) = true := by rw [decide_eq_true_eq]; omega
        have x1 : (k : Int) < (l.length : Int) := by omega
        have x2 : (k : Int) < (m.length : Int) := by omega
        obtain ⟨b, q, rfl, hb, hr, hx⟩ := hi1.kept (Below.keptTo hb0 hn0) hlt
        obtain ⟨b', q', rfl, hb', hs, hy⟩ := hi2.kept (Below.keptTo hb0 hn0) hlt2
        have HD := Lib.hid (eqList_drop p l m k hlt hlt2)
        have hcx := hc l[k] (List.getElem_mem hlt) m[k] (List.getElem_mem hlt2)
        have hxin := hx.keep (Below.keptTo hb0 hn0)
        have hyin := hy.keep (Below.keptTo hb0 hn0)
        have zz := hb0.size
        generalize p l[k] m[k] = bp at *
        generalize hgx : l[k] = x at *
        generalize hgy : m[k] = y at *
        obtain ⟨op, nm, xa, xc, xl, sa, sc, sl⟩ := x
        obtain ⟨op2, nm2, xa2, xc2, xl2, sa2, sc2, sl2⟩ := y
        have r0 : wr.cell? ⟨b, q + k * 4, none⟩ = some (.int .i64 op) := hr 0 _ rfl
        have r1 : wr.cell? ⟨b, q + k * 4 + 1, none⟩ = some (.string (bs nm)) := hr 1 _ rfl
        have r2 : wr.cell? ⟨b, q + k * 4 + 2, none⟩ = some (.slice xa xl.length xc) := hr 2 _ rfl
        have r3 : wr.cell? ⟨b, q + k * 4 + 3, none⟩ = some (.slice sa sl.length sc) := hr 3 _ rfl
        have s0 : wr.cell? ⟨b', q' + k * 4, none⟩ = some (.int .i64 op2) := hs 0 _ rfl
        have s1 : wr.cell? ⟨b', q' + k * 4 + 1, none⟩ = some (.string (bs nm2)) := hs 1 _ rfl
        have s2 : wr.cell? ⟨b', q' + k * 4 + 2, none⟩ = some (.slice xa2 xl2.length xc2) := hs 2 _ rfl
        have s3 : wr.cell? ⟨b', q' + k * 4 + 3, none⟩ = some (.slice sa2 sl2.length sc2) := hs 3 _ rfl
        have hnr : n0 ≤ wr.heap.size := by omega
        have bq := fun (dq : Nat) (os : Array Obj) => below_regrown wr dq os
        have q0 := fun (dq : Nat) (os : Array Obj) => hcx (grow (redrawn wr dq) os) (Nat.le_trans hnr (bq dq os).size) (hxin.keep (Below.keptTo (bq dq os) hnr)) (hyin.keep (Below.keptTo (bq dq os) hnr))
        simp only [ST.val, ST.cells] at q0
        have Q0 := Lib.hid q0
        have r0R := cell_regrown r0
        have r1R := cell_regrown r1
        have r2R := cell_regrown r2
        have r3R := cell_regrown r3
        have s0R := cell_regrown s0
        have s1R := cell_regrown s1
        have s2R := cell_regrown s2
        have s3R := cell_regrown s3
        have HH := Lib.hid (And.intro hk (And.intro hgx hgy))
        have hkg : k < l.length := hlt
        clear hi1 hi2 hc hcx hr hs hx hy hxin hyin hgx hgy q0 bq
        cases gk with
        | zero => omega
        | succ gg =>
          cases bp
          all_goals
            go_wp2_with fail
            refine wp_region_quiet_below (by kernel_rfl) (by kernel_rfl) ?_
            repeat (go_big_quiet_step (first | (go_at_call_of 130 (Value.agg #[.int .i64 op, .string (bs nm), .slice xa xl.length xc, .slice sa sl.length sc]); exact Calls.regrown_of (Q0.out _ _))))
            refine wpQuiet_nil ?_
            intro _ hw'
            obtain ⟨⟨dq, osq⟩, hw''⟩ := hw'
            subst hw''
            have hb3 := hb0.trans ((below_regrown wr dq osq).mono hb0.size)
            clear r0R s0R r1R s1R r2R s2R r3R s3R
            generalize grow (redrawn wr dq) osq = w3 at *
            go_wp2
            first
            | (go_ret
               exact ⟨by rw [← HK.out, HD.out]; rfl, hb3⟩)
            | (go_roundg gg
               case rel => exact ⟨k + 1, by simp; first | done | rfl | omega, by omega, by rw [← HK.out, HD.out]; rfl, hb3⟩
               case measure => omega)
      · have d1 : decide (k < l.length) = false := by simpa using hlt
        have d2 : decide ((k : Int) < (l.length : Int)) = false := by rw [decide_eq_false_iff_not]; omega
        have HE : Hid (R = true) := Lib.hid (by have := HK.out; have := HLEN.out; rw [List.drop_eq_nil_of_le (by omega), List.drop_eq_nil_of_le (by omega)] at *; rw [← HK.out]; rfl)
        go_wp2
        go_ret
        exact ⟨by rw [HE.out]; rfl, hb0⟩
  · have e1 : ((l.length : Int) != (m.length : Int)) = true := by rw [bne_iff_ne]; omega
    have e2 : (l.length != m.length) = true := by rw [bne_iff_ne]; exact hlen
    have e3 : (l.length == m.length) = false := by rw [beq_eq_false_iff_ne]; exact hlen
    have HE := Lib.hid (eqList_len p l m hlen)
    clear hlen
    go_enter Tryz.func84, Tryz.ntmps84
    go_wp2
    go_ret
    exact ⟨by rw [HE.out]; rfl, Below.refl _ _⟩

set_option maxHeartbeats 16000000 in
set_option maxRecDepth 3000000 in
theorem refsameS_any : ∀ x : ST, x.bk ≤ 1500000 → ∀ y : ST, y.bk ≤ 1500000 → ∀ (n0 : Nat) (w : World), n0 ≤ w.heap.size → x.In n0 w → y.In n0 w → Calls Tryz.prog 130 #[x.val, y.val] w fun e w' => e = .returned (.bool (sameS x y)) ∧ Below w.heap.size w w' := by
  refine ST.ind ?_
  intro op nm xa xc xl sa sc sl ih0 hbk y hbk2 n0 w hn0 hin hin2
  obtain ⟨op2, nm2, xa2, xc2, xl2, sa2, sc2, sl2⟩ := y
  rw [ST.In_mk] at hin hin2
  simp only [ST.bk] at hbk hbk2
  obtain ⟨i0, i1⟩ := hin
  obtain ⟨j0, j1⟩ := hin2
  have l0 := XT.bkL_len xl
  have l0b := XT.bkL_len xl2
  have l1 := ST.bkL_len sl
  have l1b := ST.bkL_len sl2
  have c0 := fun (w' : World) h1 h2 h3 => refeqX_any sameX n0 xl xl2 (by omega) (by omega) (fun u hu v' hv w2 e1 e2 e3 => refsameX_any u (by have := XT.bkL_mem hu; omega) v' (by have := XT.bkL_mem hv; omega) n0 w2 e1 e2 e3) xa xc xa2 xc2 w' h1 h2 h3
  have c1 := fun (w' : World) h1 h2 h3 => refeqS_any sameS n0 sl sl2 (by omega) (by omega) (fun u hu v' hv w2 e1 e2 e3 => ih0 u hu (by have := ST.bkL_mem hu; omega) v' (by have := ST.bkL_mem hv; omega) n0 w2 e1 e2 e3) sa sc sa2 sc2 w' h1 h2 h3
  have HI : Hid (sameS (.mk op nm xa xc xl sa sc sl) (.mk op2 nm2 xa2 xc2 xl2 sa2 sc2 sl2) = ((op == op2) && ((nm == nm2) && (eqList sameX xl xl2 && (eqList sameS sl sl2))))) := Lib.hid (by rw [sameS, sameSL_eq])
  generalize sameS (.mk op nm xa xc xl sa sc sl) (.mk op2 nm2 xa2 xc2 xl2 sa2 sc2 sl2) = R at *
  clear ih0
  obtain ⟨b1, hb1⟩ : ∃ b, (op == op2) = b := ⟨_, rfl⟩
  obtain ⟨b2, hb2⟩ : ∃ b, (nm == nm2) = b := ⟨_, rfl⟩
  obtain ⟨b3, hb3⟩ : ∃ b, eqList sameX xl xl2 = b := ⟨_, rfl⟩
  obtain ⟨b4, hb4⟩ : ∃ b, eqList sameS sl sl2 = b := ⟨_, rfl⟩
  rw [hb1, hb2, hb3, hb4] at HI
  rw [hb3] at c0
  rw [hb4] at c1
  clear hb3 hb4
  simp only [ST.val, ST.cells]
  go_enter Tryz.func130, Tryz.ntmps130
  go_upto_region 1 with (fail)
  have BX : (w.alloc (.cells #[.int .i64 op, .string (bs nm), .slice xa xl.length xc, .slice sa sl.length sc] 159)).heap[w.heap.size]? = some (.cells #[.int .i64 op, .string (bs nm), .slice xa xl.length xc, .slice sa sl.length sc] 159) := World.alloc_heap_new w _
  have BY0 := World.alloc_heap_new (w.alloc (.cells #[.int .i64 op, .string (bs nm), .slice xa xl.length xc, .slice sa sl.length sc] 159)) (.cells #[.int .i64 op2, .string (bs nm2), .slice xa2 xl2.length xc2, .slice sa2 sl2.length sc2] 159)
  have BX2 := block_alloc BX (.cells #[.int .i64 op2, .string (bs nm2), .slice xa2 xl2.length xc2, .slice sa2 sl2.length sc2] 159)
  rw [World.size_alloc] at BY0
  have hB2 : Below w.heap.size w ((w.alloc (.cells #[.int .i64 op, .string (bs nm), .slice xa xl.length xc, .slice sa sl.length sc] 159)).alloc (.cells #[.int .i64 op2, .string (bs nm2), .slice xa2 xl2.length xc2, .slice sa2 sl2.length sc2] 159)) := ((Below.refl _ _).alloc (Nat.le_refl _) _).alloc (by simp) _
  have hk8 := Below.keptTo hB2 hn0
  replace i0 := i0.keep hk8 (fun x _ => XT.In.keep hk8 x)
  replace j0 := j0.keep hk8 (fun x _ => XT.In.keep hk8 x)
  replace i1 := i1.keep hk8 (fun x _ => ST.In.keep hk8 x)
  replace j1 := j1.keep hk8 (fun x _ => ST.In.keep hk8 x)
  clear hk8 BX
  have hn1 : n0 ≤ ((w.alloc (.cells #[.int .i64 op, .string (bs nm), .slice xa xl.length xc, .slice sa sl.length sc] 159)).alloc (.cells #[.int .i64 op2, .string (bs nm2), .slice xa2 xl2.length xc2, .slice sa2 sl2.length sc2] 159)).heap.size := by simp; omega
  generalize (w.alloc (.cells #[.int .i64 op, .string (bs nm), .slice xa xl.length xc, .slice sa sl.length sc] 159)).alloc (.cells #[.int .i64 op2, .string (bs nm2), .slice xa2 xl2.length xc2, .slice sa2 sl2.length sc2] 159) = w1 at *
  cases b1 with
  | false =>
    obtain ⟨x0, x1, x2, x3⟩ := open4 BX2
    obtain ⟨y0, y1, y2, y3⟩ := open4 BY0
    go_wp2
    go_ret
    exact ⟨by rw [HI.out]; rfl, hB2⟩
  | true =>
    cases b2 with
    | false =>
      obtain ⟨x0, x1, x2, x3⟩ := open4 BX2
      obtain ⟨y0, y1, y2, y3⟩ := open4 BY0
      go_wp2
      go_ret
      exact ⟨by rw [HI.out]; rfl, hB2⟩
    | true =>
      obtain ⟨x0, x1, x2, x3⟩ := open4 BX2
      obtain ⟨y0, y1, y2, y3⟩ := open4 BY0
      go_wp2_with fail
      refine (c0 _ hn1 i0 j0).mono ?_
      rintro e1 w1 ⟨rfl, hb⟩
      clear x0 x1 x2 x3 y0 y1 y2 y3
      replace BX2 := block_kept BX2 hb
      replace BY0 := block_kept BY0 hb
      have hk9 := Below.keptTo hb hn1
      replace i0 := i0.keep hk9 (fun x _ => XT.In.keep hk9 x)
      replace j0 := j0.keep hk9 (fun x _ => XT.In.keep hk9 x)
      replace i1 := i1.keep hk9 (fun x _ => ST.In.keep hk9 x)
      replace j1 := j1.keep hk9 (fun x _ => ST.In.keep hk9 x)
      replace hn1 := Nat.le_trans hn1 hb.size
      clear hk9
      replace hB2 := hB2.trans (hb.mono hB2.size)
      clear hb
      cases b3 with
      | false =>
        obtain ⟨x0, x1, x2, x3⟩ := open4 BX2
        obtain ⟨y0, y1, y2, y3⟩ := open4 BY0
        go_wp2
        go_ret
        exact ⟨by rw [HI.out]; rfl, hB2⟩
      | true =>
        obtain ⟨x0, x1, x2, x3⟩ := open4 BX2
        obtain ⟨y0, y1, y2, y3⟩ := open4 BY0
        go_wp2_with fail
        refine (c1 _ hn1 i1 j1).mono ?_
        rintro e1 w1 ⟨rfl, hb⟩
        clear x0 x1 x2 x3 y0 y1 y2 y3
        replace BX2 := block_kept BX2 hb
        replace BY0 := block_kept BY0 hb
        have hk9 := Below.keptTo hb hn1
        replace i0 := i0.keep hk9 (fun x _ => XT.In.keep hk9 x)
        replace j0 := j0.keep hk9 (fun x _ => XT.In.keep hk9 x)
        replace i1 := i1.keep hk9 (fun x _ => ST.In.keep hk9 x)
        replace j1 := j1.keep hk9 (fun x _ => ST.In.keep hk9 x)
        replace hn1 := Nat.le_trans hn1 hb.size
        clear hk9
        replace hB2 := hB2.trans (hb.mono hB2.size)
        clear hb
        obtain ⟨x0, x1, x2, x3⟩ := open4 BX2
        obtain ⟨y0, y1, y2, y3⟩ := open4 BY0
        go_wp2
        go_ret
        exact ⟨by rw [HI.out]; rfl, hB2⟩

theorem reflS (n0 : Nat) (l m : List ST) (hl : ST.bkL l ≤ 1500000) (hm : ST.bkL m ≤ 1500000) (a : Option Addr) (c : Nat) (a2 : Option Addr) (c2 : Nat) (w : World) (hn0 : n0 ≤ w.heap.size) (hi1 : InRow 4 ST.cells (ST.In n0 w) n0 w l a) (hi2 : InRow 4 ST.cells (ST.In n0 w) n0 w m a2) : Calls Tryz.prog 84 #[.slice a l.length c, .slice a2 m.length c2] w fun e w' => e = .returned (.bool (eqList sameS l m)) ∧ Below w.heap.size w w' := by
  have l1 := ST.bkL_len l
  have l2 := ST.bkL_len m
  exact refeqS_any sameS n0 l m (by omega) (by omega) (fun u hu v hv w2 e1 e2 e3 => refsameS_any u (by have := ST.bkL_mem hu; omega) v (by have := ST.bkL_mem hv; omega) n0 w2 e1 e2 e3) a c a2 c2 w hn0 hi1 hi2
end Go.Proofs.YtbfhbblbjgkolaaGreatDoor
namespace Go.Proofs.YtbfhbblbjgkolaaGreatDoor
open Go Go.RowKit
set_option linter.unusedVariables false
set_option linter.unusedSimpArgs false
open Go.Sort
theorem below_drawn {n : Nat} {w w' : World} (h : Below n w w') (k : Nat) : Below n w (w'.drewN k) := ⟨h.os, h.tape, h.output, h.size, h.block⟩

set_option maxHeartbeats 8000000 in
set_option maxRecDepth 3000000 in
theorem reflB (n0 : Nat) (l m : List BT) (hbl : BT.bkL l ≤ 1500000) (hbm : BT.bkL m ≤ 1500000) (a : Option Addr) (c : Nat) (a2 : Option Addr) (c2 : Nat) (w : World) (hn0 : n0 ≤ w.heap.size) (hi1 : InRow 7 BT.cells (BT.In n0 w) n0 w l a) (hi2 : InRow 7 BT.cells (BT.In n0 w) n0 w m a2) :
    Calls Tryz.prog 47 #[.slice a l.length c, .slice a2 m.length c2] w fun e w' => e = .returned (.bool (eqList sameB l m)) ∧ Below w.heap.size w w' := by
  have hll := BT.bkL_len l
  have hmm := BT.bkL_len m
  by_cases hlen : l.length = m.length
  · have e1 : ((l.length : Int) != (m.length : Int)) = false := by rw [hlen]; simp
    have e2 : ((l.length : Int) == (m.length : Int)) = true := by rw [hlen]; simp
    have e3 : (l.length == m.length) = true := by rw [hlen]; simp
    have HLEN := Lib.hid hlen
    obtain ⟨R, hR⟩ : ∃ R, eqList sameB l m = R := ⟨_, rfl⟩
    have HR := Lib.hid hR
    rw [hR]
    clear hR hlen
    go_enter Tryz.func47, Tryz.ntmps47
    go_wp2
    go_loopg [5] l.length (fun g u wr => ∃ (k : Nat), u = .int .i64 k ∧ k + g = l.length ∧ eqList sameB (l.drop k) (m.drop k) = R ∧ Below w.heap.size w wr)
    case atStart => exact ⟨0, rfl, by omega, by rw [List.drop_zero, List.drop_zero]; exact HR.out, Below.refl _ _⟩
    case round =>
      obtain ⟨k, rfl, hk, hkk, hb0⟩ := hrel
      have HK := Lib.hid hkk
      clear hkk
      by_cases hlt : k < l.length
      · have hlt2 : k < m.length := by have := HLEN.out; omega
        have d1 : decide (k < l.length) = true := by simpa using hlt
        have d2 : decide ((k : Int) < (l.length : Int)) = true := by rw [decide_eq_true_eq]; omega
        have x1 : (k : Int) < (l.length : Int) := by omega
        have x2 : (k : Int) < (m.length : Int) := by omega
        obtain ⟨b, q, rfl, hb, hr, hx⟩ := hi1.kept (Below.keptTo hb0 hn0) hlt
        obtain ⟨b', q', rfl, hb', hs, hy⟩ := hi2.kept (Below.keptTo hb0 hn0) hlt2
        have HD := Lib.hid (eqList_drop sameB l m k hlt hlt2)
        have hbx := BT.bkL_mem (List.getElem_mem hlt)
        have hby := BT.bkL_mem (List.getElem_mem hlt2)
        have hxin := hx.keep (Below.keptTo hb0 hn0)
        have hyin := hy.keep (Below.keptTo hb0 hn0)
        have zz := hb0.size
        have hnr : n0 ≤ wr.heap.size := by omega
        generalize hgx : l[k] = x at *
        generalize hgy : m[k] = y at *
        obtain ⟨bn, ⟨op, nm, xn, wd, v, xa, xc, xl⟩⟩ := x
        obtain ⟨bn2, ⟨op2, nm2, xn2, wd2, v2, xa2, xc2, xl2⟩⟩ := y
        simp only [BT.bk] at hbx hby
        replace hxin : XT.In n0 wr (.mk op nm xn wd v xa xc xl) := hxin
        replace hyin : XT.In n0 wr (.mk op2 nm2 xn2 wd2 v2 xa2 xc2 xl2) := hyin
        have c0 := fun (w' : World) h1 h2 h3 => refsameX_any (.mk op nm xn wd v xa xc xl) (by omega) (.mk op2 nm2 xn2 wd2 v2 xa2 xc2 xl2) (by omega) n0 w' h1 h2 h3
        simp only [XT.val, XT.cells] at c0
        obtain ⟨bp, hbp⟩ : ∃ b, sameX (.mk op nm xn wd v xa xc xl) (.mk op2 nm2 xn2 wd2 v2 xa2 xc2 xl2) = b := ⟨_, rfl⟩
        rw [hbp] at c0
        obtain ⟨n1, hn1⟩ : ∃ b, (bn != bn2) = b := ⟨_, rfl⟩
        have hm1 : (bn == bn2) = !n1 := by rw [← hn1, bne, Bool.not_not]
        have HP : Hid (sameB ⟨bn, (.mk op nm xn wd v xa xc xl)⟩ ⟨bn2, (.mk op2 nm2 xn2 wd2 v2 xa2 xc2 xl2)⟩ = (!n1 && (bp))) := Lib.hid (by rw [sameB, hbp, hm1])
        have r0 : wr.cell? ⟨b, q + k * 7, none⟩ = some (.string (bs bn)) := hr 0 _ rfl
        have r1 : wr.cell? ⟨b, q + k * 7 + 1, none⟩ = some (.int .i64 op) := hr 1 _ rfl
        have r2 : wr.cell? ⟨b, q + k * 7 + 2, none⟩ = some (.string (bs nm)) := hr 2 _ rfl
        have r3 : wr.cell? ⟨b, q + k * 7 + 3, none⟩ = some (.int .i64 xn) := hr 3 _ rfl
        have r4 : wr.cell? ⟨b, q + k * 7 + 4, none⟩ = some (.int .i64 wd) := hr 4 _ rfl
        have r5 : wr.cell? ⟨b, q + k * 7 + 5, none⟩ = some (.int .u64 (v : Int)) := hr 5 _ rfl
        have r6 : wr.cell? ⟨b, q + k * 7 + 6, none⟩ = some (.slice xa xl.length xc) := hr 6 _ rfl
        have s0 : wr.cell? ⟨b', q' + k * 7, none⟩ = some (.string (bs bn2)) := hs 0 _ rfl
        have s1 : wr.cell? ⟨b', q' + k * 7 + 1, none⟩ = some (.int .i64 op2) := hs 1 _ rfl
        have s2 : wr.cell? ⟨b', q' + k * 7 + 2, none⟩ = some (.string (bs nm2)) := hs 2 _ rfl
        have s3 : wr.cell? ⟨b', q' + k * 7 + 3, none⟩ = some (.int .i64 xn2) := hs 3 _ rfl
        have s4 : wr.cell? ⟨b', q' + k * 7 + 4, none⟩ = some (.int .i64 wd2) := hs 4 _ rfl
        have s5 : wr.cell? ⟨b', q' + k * 7 + 5, none⟩ = some (.int .u64 (v2 : Int)) := hs 5 _ rfl
        have s6 : wr.cell? ⟨b', q' + k * 7 + 6, none⟩ = some (.slice xa2 xl2.length xc2) := hs 6 _ rfl
        have HH := Lib.hid (And.intro hk (And.intro hgx (And.intro hgy hbp)))
        have hkg : k < l.length := hlt
        have HC0 := Lib.hid c0
        clear hi1 hi2 hr hs hx hy hgx hgy hbp c0
        cases gk with
        | zero => omega
        | succ gg =>
          cases n1 with
          | true =>
            replace hm1 : (bn == bn2) = false := hm1
            go_wp2
            go_quiet (fail)
            go_wp2
            go_ret
            exact ⟨by rw [← HK.out, HD.out, HP.out]; rfl, below_drawn hb0 _⟩
          | false =>
            replace hm1 : (bn == bn2) = true := hm1
            have bq := fun (dq : Nat) (os : Array Obj) => below_regrown wr dq os
            have q0 := fun (dq : Nat) (os : Array Obj) => HC0.out (grow (redrawn wr dq) os) (Nat.le_trans hnr (bq dq os).size) (XT.In.keep (Below.keptTo (bq dq os) hnr) _ hxin) (XT.In.keep (Below.keptTo (bq dq os) hnr) _ hyin)
            have Q0 := Lib.hid q0
            have r0R := cell_regrown r0
            have r1R := cell_regrown r1
            have r2R := cell_regrown r2
            have r3R := cell_regrown r3
            have r4R := cell_regrown r4
            have r5R := cell_regrown r5
            have r6R := cell_regrown r6
            have s0R := cell_regrown s0
            have s1R := cell_regrown s1
            have s2R := cell_regrown s2
            have s3R := cell_regrown s3
            have s4R := cell_regrown s4
            have s5R := cell_regrown s5
            have s6R := cell_regrown s6
            clear q0 bq hxin hyin HC0
            cases bp
            all_goals
              go_wp2_with fail
              refine wp_region_quiet_below (by kernel_rfl) (by kernel_rfl) ?_
              repeat (go_big_quiet_step (first | (go_at_call_of 82 (Value.agg #[.int .i64 op, .string (bs nm), .int .i64 xn, .int .i64 wd, .int .u64 (v : Int), .slice xa xl.length xc]); exact Calls.regrown_of (Q0.out _ _))))
              refine wpQuiet_nil ?_
              intro _ hw'
              obtain ⟨⟨dq, osq⟩, hw''⟩ := hw'
              subst hw''
              have hb3 := hb0.trans ((below_regrown wr dq osq).mono hb0.size)
              clear r0R s0R r1R s1R r2R s2R r3R s3R r4R s4R r5R s5R r6R s6R
              generalize grow (redrawn wr dq) osq = w3 at *
              go_wp2
              first
              | (go_ret
                 exact ⟨by rw [← HK.out, HD.out, HP.out]; rfl, hb3⟩)
              | (go_roundg gg
                 case rel => exact ⟨k + 1, by simp; first | done | rfl | omega, by omega, by rw [← HK.out, HD.out, HP.out]; rfl, hb3⟩
                 case measure => omega)
      · have d1 : decide (k < l.length) = false := by simpa using hlt
        have d2 : decide ((k : Int) < (l.length : Int)) = false := by rw [decide_eq_false_iff_not]; omega
        have HE : Hid (R = true) := Lib.hid (by have := HK.out; have := HLEN.out; rw [List.drop_eq_nil_of_le (by omega), List.drop_eq_nil_of_le (by omega)] at *; rw [← HK.out]; rfl)
        go_wp2
        go_ret
        exact ⟨by rw [HE.out]; rfl, hb0⟩
  · have e1 : ((l.length : Int) != (m.length : Int)) = true := by rw [bne_iff_ne]; omega
    have e2 : (l.length != m.length) = true := by rw [bne_iff_ne]; exact hlen
    have e3 : (l.length == m.length) = false := by rw [beq_eq_false_iff_ne]; exact hlen
    have HE := Lib.hid (eqList_len sameB l m hlen)
    clear hlen
    go_enter Tryz.func47, Tryz.ntmps47
    go_wp2
    go_ret
    exact ⟨by rw [HE.out]; rfl, Below.refl _ _⟩

set_option maxHeartbeats 8000000 in
set_option maxRecDepth 3000000 in
theorem reflP (n0 : Nat) (l m : List PT) (hbl : PT.bkL l ≤ 1500000) (hbm : PT.bkL m ≤ 1500000) (a : Option Addr) (c : Nat) (a2 : Option Addr) (c2 : Nat) (w : World) (hn0 : n0 ≤ w.heap.size) (hi1 : InRow 8 PT.cells (PT.In n0 w) n0 w l a) (hi2 : InRow 8 PT.cells (PT.In n0 w) n0 w m a2) :
    Calls Tryz.prog 48 #[.slice a l.length c, .slice a2 m.length c2] w fun e w' => e = .returned (.bool (eqList sameP l m)) ∧ Below w.heap.size w w' := by
  have hll := PT.bkL_len l
  have hmm := PT.bkL_len m
  by_cases hlen : l.length = m.length
  · have e1 : ((l.length : Int) != (m.length : Int)) = false := by rw [hlen]; simp
    have e2 : ((l.length : Int) == (m.length : Int)) = true := by rw [hlen]; simp
    have e3 : (l.length == m.length) = true := by rw [hlen]; simp
    have HLEN := Lib.hid hlen
    obtain ⟨R, hR⟩ : ∃ R, eqList sameP l m = R := ⟨_, rfl⟩
    have HR := Lib.hid hR
    rw [hR]
    clear hR hlen
    go_enter Tryz.func48, Tryz.ntmps48
    go_wp2
    go_loopg [5] l.length (fun g u wr => ∃ (k : Nat), u = .int .i64 k ∧ k + g = l.length ∧ eqList sameP (l.drop k) (m.drop k) = R ∧ Below w.heap.size w wr)
    case atStart => exact ⟨0, rfl, by omega, by rw [List.drop_zero, List.drop_zero]; exact HR.out, Below.refl _ _⟩
    case round =>
      obtain ⟨k, rfl, hk, hkk, hb0⟩ := hrel
      have HK := Lib.hid hkk
      clear hkk
      by_cases hlt : k < l.length
      · have hlt2 : k < m.length := by have := HLEN.out; omega
        have d1 : decide (k < l.length) = true := by simpa using hlt
        have d2 : decide ((k : Int) < (l.length : Int)) = true := by rw [decide_eq_true_eq]; omega
        have x1 : (k : Int) < (l.length : Int) := by omega
        have x2 : (k : Int) < (m.length : Int) := by omega
        obtain ⟨b, q, rfl, hb, hr, hx⟩ := hi1.kept (Below.keptTo hb0 hn0) hlt
        obtain ⟨b', q', rfl, hb', hs, hy⟩ := hi2.kept (Below.keptTo hb0 hn0) hlt2
        have HD := Lib.hid (eqList_drop sameP l m k hlt hlt2)
        have hbx := PT.bkL_mem (List.getElem_mem hlt)
        have hby := PT.bkL_mem (List.getElem_mem hlt2)
        have hxin := hx.keep (Below.keptTo hb0 hn0)
        have hyin := hy.keep (Below.keptTo hb0 hn0)
        have zz := hb0.size
        have hnr : n0 ≤ wr.heap.size := by omega
        generalize hgx : l[k] = x at *
        generalize hgy : m[k] = y at *
        obtain ⟨bn, po, ⟨op, nm, xn, wd, v, xa, xc, xl⟩⟩ := x
        obtain ⟨bn2, po2, ⟨op2, nm2, xn2, wd2, v2, xa2, xc2, xl2⟩⟩ := y
        simp only [PT.bk] at hbx hby
        replace hxin : XT.In n0 wr (.mk op nm xn wd v xa xc xl) := hxin
        replace hyin : XT.In n0 wr (.mk op2 nm2 xn2 wd2 v2 xa2 xc2 xl2) := hyin
        have c0 := fun (w' : World) h1 h2 h3 => refsameX_any (.mk op nm xn wd v xa xc xl) (by omega) (.mk op2 nm2 xn2 wd2 v2 xa2 xc2 xl2) (by omega) n0 w' h1 h2 h3
        simp only [XT.val, XT.cells] at c0
        obtain ⟨bp, hbp⟩ : ∃ b, sameX (.mk op nm xn wd v xa xc xl) (.mk op2 nm2 xn2 wd2 v2 xa2 xc2 xl2) = b := ⟨_, rfl⟩
        rw [hbp] at c0
        obtain ⟨n1, hn1⟩ : ∃ b, (bn != bn2) = b := ⟨_, rfl⟩
        have hm1 : (bn == bn2) = !n1 := by rw [← hn1, bne, Bool.not_not]
        obtain ⟨n2, hn2⟩ : ∃ b, (po != po2) = b := ⟨_, rfl⟩
        have hm2 : (po == po2) = !n2 := by rw [← hn2, bne, Bool.not_not]
        have HP : Hid (sameP ⟨bn, po, (.mk op nm xn wd v xa xc xl)⟩ ⟨bn2, po2, (.mk op2 nm2 xn2 wd2 v2 xa2 xc2 xl2)⟩ = (!n1 && (!n2 && (bp)))) := Lib.hid (by rw [sameP, hbp, hm1, hm2])
        have r0 : wr.cell? ⟨b, q + k * 8, none⟩ = some (.string (bs bn)) := hr 0 _ rfl
        have r1 : wr.cell? ⟨b, q + k * 8 + 1, none⟩ = some (.bool po) := hr 1 _ rfl
        have r2 : wr.cell? ⟨b, q + k * 8 + 2, none⟩ = some (.int .i64 op) := hr 2 _ rfl
        have r3 : wr.cell? ⟨b, q + k * 8 + 3, none⟩ = some (.string (bs nm)) := hr 3 _ rfl
        have r4 : wr.cell? ⟨b, q + k * 8 + 4, none⟩ = some (.int .i64 xn) := hr 4 _ rfl
        have r5 : wr.cell? ⟨b, q + k * 8 + 5, none⟩ = some (.int .i64 wd) := hr 5 _ rfl
        have r6 : wr.cell? ⟨b, q + k * 8 + 6, none⟩ = some (.int .u64 (v : Int)) := hr 6 _ rfl
        have r7 : wr.cell? ⟨b, q + k * 8 + 7, none⟩ = some (.slice xa xl.length xc) := hr 7 _ rfl
        have s0 : wr.cell? ⟨b', q' + k * 8, none⟩ = some (.string (bs bn2)) := hs 0 _ rfl
        have s1 : wr.cell? ⟨b', q' + k * 8 + 1, none⟩ = some (.bool po2) := hs 1 _ rfl
        have s2 : wr.cell? ⟨b', q' + k * 8 + 2, none⟩ = some (.int .i64 op2) := hs 2 _ rfl
        have s3 : wr.cell? ⟨b', q' + k * 8 + 3, none⟩ = some (.string (bs nm2)) := hs 3 _ rfl
        have s4 : wr.cell? ⟨b', q' + k * 8 + 4, none⟩ = some (.int .i64 xn2) := hs 4 _ rfl
        have s5 : wr.cell? ⟨b', q' + k * 8 + 5, none⟩ = some (.int .i64 wd2) := hs 5 _ rfl
        have s6 : wr.cell? ⟨b', q' + k * 8 + 6, none⟩ = some (.int .u64 (v2 : Int)) := hs 6 _ rfl
        have s7 : wr.cell? ⟨b', q' + k * 8 + 7, none⟩ = some (.slice xa2 xl2.length xc2) := hs 7 _ rfl
        have HH := Lib.hid (And.intro hk (And.intro hgx (And.intro hgy hbp)))
        have hkg : k < l.length := hlt
        have HC0 := Lib.hid c0
        clear hi1 hi2 hr hs hx hy hgx hgy hbp c0
        cases gk with
        | zero => omega
        | succ gg =>
          cases n1 with
          | true =>
            replace hm1 : (bn == bn2) = false := hm1
            clear hm2 hn2
            go_wp2
            go_quiet (fail)
            go_wp2
            go_ret
            exact ⟨by rw [← HK.out, HD.out, HP.out]; rfl, below_drawn hb0 _⟩
          | false =>
            replace hm1 : (bn == bn2) = true := hm1
            cases n2 with
            | true =>
              replace hm2 : (po == po2) = false := hm2
              go_wp2
              go_quiet (fail)
              go_wp2
              go_ret
              exact ⟨by rw [← HK.out, HD.out, HP.out]; rfl, below_drawn hb0 _⟩
            | false =>
              replace hm2 : (po == po2) = true := hm2
              have bq := fun (dq : Nat) (os : Array Obj) => below_regrown wr dq os
              have q0 := fun (dq : Nat) (os : Array Obj) => HC0.out (grow (redrawn wr dq) os) (Nat.le_trans hnr (bq dq os).size) (XT.In.keep (Below.keptTo (bq dq os) hnr) _ hxin) (XT.In.keep (Below.keptTo (bq dq os) hnr) _ hyin)
              have Q0 := Lib.hid q0
              have r0R := cell_regrown r0
              have r1R := cell_regrown r1
              have r2R := cell_regrown r2
              have r3R := cell_regrown r3
              have r4R := cell_regrown r4
              have r5R := cell_regrown r5
              have r6R := cell_regrown r6
              have r7R := cell_regrown r7
              have s0R := cell_regrown s0
              have s1R := cell_regrown s1
              have s2R := cell_regrown s2
              have s3R := cell_regrown s3
              have s4R := cell_regrown s4
              have s5R := cell_regrown s5
              have s6R := cell_regrown s6
              have s7R := cell_regrown s7
              clear q0 bq hxin hyin HC0
              cases bp
              all_goals
                go_wp2_with fail
                refine wp_region_quiet_below (by kernel_rfl) (by kernel_rfl) ?_
                repeat (go_big_quiet_step (first | (go_at_call_of 82 (Value.agg #[.int .i64 op, .string (bs nm), .int .i64 xn, .int .i64 wd, .int .u64 (v : Int), .slice xa xl.length xc]); exact Calls.regrown_of (Q0.out _ _))))
                refine wpQuiet_nil ?_
                intro _ hw'
                obtain ⟨⟨dq, osq⟩, hw''⟩ := hw'
                subst hw''
                have hb3 := hb0.trans ((below_regrown wr dq osq).mono hb0.size)
                clear r0R s0R r1R s1R r2R s2R r3R s3R r4R s4R r5R s5R r6R s6R r7R s7R
                generalize grow (redrawn wr dq) osq = w3 at *
                go_wp2
                first
                | (go_ret
                   exact ⟨by rw [← HK.out, HD.out, HP.out]; rfl, hb3⟩)
                | (go_roundg gg
                   case rel => exact ⟨k + 1, by simp; first | done | rfl | omega, by omega, by rw [← HK.out, HD.out, HP.out]; rfl, hb3⟩
                   case measure => omega)
      · have d1 : decide (k < l.length) = false := by simpa using hlt
        have d2 : decide ((k : Int) < (l.length : Int)) = false := by rw [decide_eq_false_iff_not]; omega
        have HE : Hid (R = true) := Lib.hid (by have := HK.out; have := HLEN.out; rw [List.drop_eq_nil_of_le (by omega), List.drop_eq_nil_of_le (by omega)] at *; rw [← HK.out]; rfl)
        go_wp2
        go_ret
        exact ⟨by rw [HE.out]; rfl, hb0⟩
  · have e1 : ((l.length : Int) != (m.length : Int)) = true := by rw [bne_iff_ne]; omega
    have e2 : (l.length != m.length) = true := by rw [bne_iff_ne]; exact hlen
    have e3 : (l.length == m.length) = false := by rw [beq_eq_false_iff_ne]; exact hlen
    have HE := Lib.hid (eqList_len sameP l m hlen)
    clear hlen
    go_enter Tryz.func48, Tryz.ntmps48
    go_wp2
    go_ret
    exact ⟨by rw [HE.out]; rfl, Below.refl _ _⟩
end Go.Proofs.YtbfhbblbjgkolaaGreatDoor
namespace Go.Proofs.YtbfhbblbjgkolaaGreatDoor
open Go Go.RowKit
/-- What is known of slots: (slot, true): it holds 'true'; (slot, false): it holds nothing. -/
def tkRun (lo hi : Nat) (ops : Array Oper) : List Oper → List (Nat × Bool) → Option (List (Nat × Bool))
  | [], K => some K
  | o :: rest, K =>
    match o.dst with
    | none => none
    | some d =>
      if Nat.ble lo d && Nat.blt d hi then
        match o.guard with
        | some (j, want) =>
          match (ops[j]?).bind (·.dst) with
          | none => none
          | some s => match K.lookup s with
            | none => none
            | some b => if b && want then none else tkRun lo hi ops rest ((d, false) :: K)
        | none => match o.op with
          | .move (.tmp t) => match K.lookup t with
            | some true => tkRun lo hi ops rest ((d, true) :: K)
            | _ => none
          | .pick (.tmp c) (.const (.bool true)) _ => match K.lookup c with
            | some true => tkRun lo hi ops rest ((d, true) :: K)
            | _ => none
          | _ => none
      else none
def TInv (K : List (Nat × Bool)) (t : Array Value) : Prop := ∀ s b, K.lookup s = some b → t.getD s undef = if b then .bool true else undef
theorem TInv.one {s : Nat} {t : Array Value} (h : t.getD s undef = .bool true) : TInv [(s, true)] t := by
  intro s' b hb
  simp only [List.lookup] at hb
  split at hb
  · rename_i e
    have : s' = s := by simpa using e
    subst this
    cases hb
    exact h
  · cases hb
theorem TInv.cons {K : List (Nat × Bool)} {t : Array Value} (h : TInv K t) {d : Nat} (hd : d < t.size) (b : Bool) : TInv ((d, b) :: K) (t.setIfInBounds d (if b then .bool true else undef)) := by
  intro s c hc
  simp only [List.lookup] at hc
  split at hc
  · rename_i e
    have : s = d := by simpa using e
    subst this
    cases hc
    simp [Array.getD, hd]
  · rename_i e
    have hne : s ≠ d := by intro q; subst q; simp at e
    have := h s c hc
    simp only [Array.getD_eq_getD_getElem?] at this ⊢
    rw [Array.getElem?_setIfInBounds_ne (Ne.symm hne)]
    exact this
theorem tk_not_wanted {ops : Array Oper} {K : List (Nat × Bool)} {t : Array Value} (h : TInv K t) {o : Oper} {j s : Nat} {want b : Bool} (hg : o.guard = some (j, want)) (hs : (ops[j]?).bind (·.dst) = some s) (hl : K.lookup s = some b) (hb : (b && want) = false) : Region.wanted o (yielded ops t) = false := by
  have := h s b hl
  unfold Region.wanted
  rw [hg]
  simp only [yielded, hs, Option.bind_some]
  rw [Array.getD_eq_getD_getElem?] at this
  cases hq : t[s]? with
  | none => rfl
  | some v =>
    rw [hq] at this
    simp only [Option.getD_some] at this
    subst this
    cases b with
    | false => rfl
    | true => cases want with
      | true => simp at hb
      | false => rfl
theorem tk_sound {P : Program} {ops : Array Oper} {Q : Exit → Act → World → Prop} (lo hi : Nat) (R : List Oper) : ∀ (l : List Oper) (K K' : List (Nat × Bool)) (a : Act) (w : World), tkRun lo hi ops l K = some K' → TInv K a.tmps → a.tmps.size = hi →
    (∀ a' : Act, a'.tmps.size = hi → a'.defers = a.defers → (∀ i, i < lo → a'.tmps[i]? = a.tmps[i]?) → TInv K' a'.tmps → wpList P ops Q R a' w) → wpList P ops Q (l ++ R) a w
  | [], K, K', a, w, hr, hi', hs, hQ => by
    simp only [tkRun, Option.some.injEq] at hr
    subst hr
    exact hQ a hs rfl (fun _ _ => rfl) hi'
  | o :: rest, K, K', a, w, hr, hi', hs, hQ => by
    rw [tkRun] at hr
    rw [List.cons_append]
    split at hr
    · cases hr
    rename_i d hd
    split at hr
    case isFalse => cases hr
    rename_i hb
    simp only [Bool.and_eq_true, Nat.ble_eq, Nat.blt_eq] at hb
    have hdt : d < a.tmps.size := Nat.lt_of_lt_of_eq hb.2 hs.symm
    have step : ∀ b, TInv ((d, b) :: K) (a.put (some d) (if b then .bool true else undef)).tmps → tkRun lo hi ops rest ((d, b) :: K) = some K' → wpList P ops Q (rest ++ R) (a.put (some d) (if b then .bool true else undef)) w := fun b hI hR =>
      tk_sound lo hi R rest _ K' _ w hR hI (by simp [Act.put, hs]) (fun a' h1 h2 h3 h4 => hQ a' h1 h2 (fun i hi2 => by
        rw [h3 i hi2]
        simp only [Act.put]
        rw [Array.getElem?_setIfInBounds_ne (fun q => absurd hi2 (by rw [← q]; exact Nat.not_lt.2 hb.1))]) h4)
    have hc := fun b => TInv.cons hi' hdt b
    split at hr
    · rename_i j want hg
      split at hr
      · cases hr
      rename_i s hsl
      split at hr
      · cases hr
      rename_i b hl
      split at hr
      · cases hr
      rename_i hbw
      refine wpList_skip (tk_not_wanted hi' hg hsl hl (by simpa using hbw)) ?_
      rw [hd]
      exact step false (hc false) hr
    · rename_i hg
      split at hr
      · rename_i t ho
        split at hr
        · rename_i hl
          refine wpList_plain hg fun K2 hK => ?_
          unfold Oper.wp
          simp only [execOp, ho]
          have hv : a.eval (.tmp t) = .bool true := hi' t true hl
          have := step true (hc true) hr
          rw [← hd] at this
          simp only [hv]
          exact hK _ _ this
        · cases hr
      · rename_i c x ho
        split at hr
        · rename_i hl
          refine wpList_plain hg fun K2 hK => ?_
          unfold Oper.wp
          have hv : a.eval (.tmp c) = .bool true := hi' c true hl
          have := step true (hc true) hr
          rw [← hd] at this
          simp only [execOp, ho, hv]
          exact hK _ _ this
        · cases hr
      · cases hr
/-- The frame behind it, written out: what lies below 'lo' is as it was; what the operations laid is f's, and 'last' holds true. -/
theorem tk_exit {P : Program} {ops : Array Oper} {Q : Exit → Act → World → Prop} {l : List Oper} {L : List Value} {D : List Deferred} {w : World} (lo hi s last m : Nat) (hL : L.length = hi) (hs : (L.toArray).getD s undef = .bool true)
    (hrun : (tkRun lo hi ops (l.take m) [(s, true)]).map (fun K => K.lookup last) = some (some true)) (hlo : lo ≤ hi)
    (h : ∀ f : Nat → Value, f last = .bool true → wpList P ops Q (l.drop m) ⟨(L.take lo ++ (List.range' lo (hi - lo)).map f).toArray, D⟩ w) : wpList P ops Q l ⟨L.toArray, D⟩ w := by
  cases hr : tkRun lo hi ops (l.take m) [(s, true)] with
  | none => rw [hr] at hrun; cases hrun
  | some K' =>
    rw [hr] at hrun
    simp only [Option.map_some, Option.some.injEq] at hrun
    rw [← List.take_append_drop m l]
    refine tk_sound lo hi (l.drop m) (l.take m) _ K' _ w hr (TInv.one hs) (by simpa using hL) (fun a' h1 h2 h3 h4 => ?_)
    obtain ⟨t, D'⟩ := a'
    simp only at h1 h2 h3 h4
    subst h2
    have := h (fun i => t.getD i undef) (h4 last true hrun)
    refine cast ?_ this
    congr 2
    apply Array.ext'
    apply List.ext_getElem?
    intro i
    by_cases hi2 : i < lo
    · have e := h3 i hi2
      simp only [List.getElem?_toArray] at e
      rw [List.getElem?_append_left (by simp; omega), List.getElem?_take_of_lt hi2]
      exact e.symm.trans Array.getElem?_toList.symm
    · have hlen : (L.take lo).length = lo := by simp; omega
      rw [List.getElem?_append_right (by omega), hlen]
      refine Eq.trans ?_ Array.getElem?_toList.symm
      by_cases hi3 : i < hi
      · rw [List.getElem?_map, List.getElem?_range' (by omega)]
        simp only [Option.map_some, Array.getD_eq_getD_getElem?]
        rw [show lo + 1 * (i - lo) = i by omega]
        rw [Array.getElem?_eq_getElem (by omega)]
        rfl
      · rw [List.getElem?_eq_none (by simp; omega), Array.getElem?_eq_none (by omega)]
end Go.Proofs.YtbfhbblbjgkolaaGreatDoor
namespace Go.Proofs.YtbfhbblbjgkolaaGreatDoor
open Go Go.RowKit
set_option linter.unusedVariables false
set_option linter.unusedSimpArgs false
open Go.Sort
theorem IT.bkL_ll (x : IT) : IT.bkL x.ll ≤ x.bk := by obtain ⟨op, nm, nf, xa, xc, xl, sa, sc, sl, la, lc, ll, ea, ec, el, pa, pc, pl, ba, bc, bl⟩ := x; simp only [IT.bk, IT.ll]; omega
theorem IT.bkL_el (x : IT) : IT.bkL x.el ≤ x.bk := by obtain ⟨op, nm, nf, xa, xc, xl, sa, sc, sl, la, lc, ll, ea, ec, el, pa, pc, pl, ba, bc, bl⟩ := x; simp only [IT.bk, IT.el]; omega

set_option maxHeartbeats 8000000 in
set_option maxRecDepth 3000000 in
theorem reflI_of (n0 : Nat) (l m : List IT) (hbl : IT.bkL l ≤ 1500000) (hbm : IT.bkL m ≤ 1500000) (hcL : ∀ x ∈ l, ∀ y ∈ m, ∀ (a : Option Addr) (c : Nat) (a2 : Option Addr) (c2 : Nat) (w : World), n0 ≤ w.heap.size → InRow 9 IT.cells (IT.In n0 w) n0 w x.ll a → InRow 9 IT.cells (IT.In n0 w) n0 w y.ll a2 → Calls Tryz.prog 49 #[.slice a x.ll.length c, .slice a2 y.ll.length c2] w fun e w' => e = .returned (.bool (eqList sameI x.ll y.ll)) ∧ Below w.heap.size w w') (hcE : ∀ x ∈ l, ∀ y ∈ m, ∀ (a : Option Addr) (c : Nat) (a2 : Option Addr) (c2 : Nat) (w : World), n0 ≤ w.heap.size → InRow 9 IT.cells (IT.In n0 w) n0 w x.el a → InRow 9 IT.cells (IT.In n0 w) n0 w y.el a2 → Calls Tryz.prog 49 #[.slice a x.el.length c, .slice a2 y.el.length c2] w fun e w' => e = .returned (.bool (eqList sameI x.el y.el)) ∧ Below w.heap.size w w') (a : Option Addr) (c : Nat) (a2 : Option Addr) (c2 : Nat) (w : World) (hn0 : n0 ≤ w.heap.size) (hi1 : InRow 9 IT.cells (IT.In n0 w) n0 w l a) (hi2 : InRow 9 IT.cells (IT.In n0 w) n0 w m a2) :
    Calls Tryz.prog 49 #[.slice a l.length c, .slice a2 m.length c2] w fun e w' => e = .returned (.bool (eqList sameI l m)) ∧ Below w.heap.size w w' := by
  have hll := IT.bkL_len l
  have hmm := IT.bkL_len m
  by_cases hlen : l.length = m.length
  · have e1 : ((l.length : Int) != (m.length : Int)) = false := by rw [hlen]; simp
    have e2 : ((l.length : Int) == (m.length : Int)) = true := by rw [hlen]; simp
    have e3 : (l.length == m.length) = true := by rw [hlen]; simp
    have HLEN := Lib.hid hlen
    obtain ⟨R, hR⟩ : ∃ R, eqList sameI l m = R := ⟨_, rfl⟩
    have HR := Lib.hid hR
    rw [hR]
    clear hR hlen
    go_enter Tryz.func49, Tryz.ntmps49
    go_wp2
    go_loopg [5] l.length (fun g u wr => ∃ (k : Nat), u = .int .i64 k ∧ k + g = l.length ∧ eqList sameI (l.drop k) (m.drop k) = R ∧ Below w.heap.size w wr)
    case atStart => exact ⟨0, rfl, by omega, by rw [List.drop_zero, List.drop_zero]; exact HR.out, Below.refl _ _⟩
    case round =>
      obtain ⟨k, rfl, hk, hkk, hb0⟩ := hrel
      have HK := Lib.hid hkk
      clear hkk
      by_cases hlt : k < l.length
      · have hlt2 : k < m.length := by have := HLEN.out; omega
        have d1 : decide (k < l.length) = true := by simpa using hlt
        have d2 : decide ((k : Int) < (l.length : Int)) = true := by rw [decide_eq_true_eq]; omega
        have x1 : (k : Int) < (l.length : Int) := by omega
        have x2 : (k : Int) < (m.length : Int) := by omega
        obtain ⟨b, q, rfl, hb, hr, hx⟩ := hi1.kept (Below.keptTo hb0 hn0) hlt
        obtain ⟨b', q', rfl, hb', hs, hy⟩ := hi2.kept (Below.keptTo hb0 hn0) hlt2
        have HD := Lib.hid (eqList_drop sameI l m k hlt hlt2)
        have hbx := IT.bkL_mem (List.getElem_mem hlt)
        have hby := IT.bkL_mem (List.getElem_mem hlt2)
        have hcl := hcL l[k] (List.getElem_mem hlt) m[k] (List.getElem_mem hlt2)
        have hce := hcE l[k] (List.getElem_mem hlt) m[k] (List.getElem_mem hlt2)
        have hxin := hx.keep (Below.keptTo hb0 hn0)
        have hyin := hy.keep (Below.keptTo hb0 hn0)
        have zz := hb0.size
        have hnr : n0 ≤ wr.heap.size := by omega
        generalize hgx : l[k] = x at *
        generalize hgy : m[k] = y at *
        obtain ⟨op, nm, nf, xa, xc, xl, sa, sc, sl, la, lc, ll, ea, ec, el, pa, pc, pl, ba, bc, bl⟩ := x
        obtain ⟨op2, nm2, nf2, xa2, xc2, xl2, sa2, sc2, sl2, la2, lc2, ll2, ea2, ec2, el2, pa2, pc2, pl2, ba2, bc2, bl2⟩ := y
        simp only [IT.bk] at hbx hby
        rw [IT.In_mk] at hxin hyin
        obtain ⟨i0, i1, i2, i3, i4, i5⟩ : InRow 6 XT.cells (XT.In n0 wr) n0 wr xl xa ∧ InRow 4 ST.cells (ST.In n0 wr) n0 wr sl sa ∧ InRow 9 IT.cells (IT.In n0 wr) n0 wr ll la ∧ InRow 9 IT.cells (IT.In n0 wr) n0 wr el ea ∧ InRow 7 BT.cells (BT.In n0 wr) n0 wr pl pa ∧ InRow 7 BT.cells (BT.In n0 wr) n0 wr bl ba := hxin
        obtain ⟨j0, j1, j2, j3, j4, j5⟩ : InRow 6 XT.cells (XT.In n0 wr) n0 wr xl2 xa2 ∧ InRow 4 ST.cells (ST.In n0 wr) n0 wr sl2 sa2 ∧ InRow 9 IT.cells (IT.In n0 wr) n0 wr ll2 la2 ∧ InRow 9 IT.cells (IT.In n0 wr) n0 wr el2 ea2 ∧ InRow 7 BT.cells (BT.In n0 wr) n0 wr pl2 pa2 ∧ InRow 7 BT.cells (BT.In n0 wr) n0 wr bl2 ba2 := hyin
        have c0 := fun (w' : World) h1 h2 h3 => reflX n0 xl xl2 (by omega) (by omega) xa xc xa2 xc2 w' h1 h2 h3
        have c1 := fun (w' : World) h1 h2 h3 => reflS n0 sl sl2 (by omega) (by omega) sa sc sa2 sc2 w' h1 h2 h3
        have c2 := fun (w' : World) h1 h2 h3 => hcl la lc la2 lc2 w' h1 h2 h3
        simp only [IT.ll] at c2
        have c3 := fun (w' : World) h1 h2 h3 => hce ea ec ea2 ec2 w' h1 h2 h3
        simp only [IT.el] at c3
        have c4 := fun (w' : World) h1 h2 h3 => reflB n0 pl pl2 (by omega) (by omega) pa pc pa2 pc2 w' h1 h2 h3
        have c5 := fun (w' : World) h1 h2 h3 => reflB n0 bl bl2 (by omega) (by omega) ba bc ba2 bc2 w' h1 h2 h3
        clear hcl hce hcL hcE
        obtain ⟨n1, hn1⟩ : ∃ b, (op != op2) = b := ⟨_, rfl⟩
        have hm1 : (op == op2) = !n1 := by rw [← hn1, bne, Bool.not_not]
        obtain ⟨n2, hn2⟩ : ∃ b, (nm != nm2) = b := ⟨_, rfl⟩
        have hm2 : (nm == nm2) = !n2 := by rw [← hn2, bne, Bool.not_not]
        obtain ⟨n3, hn3⟩ : ∃ b, (nf != nf2) = b := ⟨_, rfl⟩
        have hm3 : (nf == nf2) = !n3 := by rw [← hn3, bne, Bool.not_not]
        obtain ⟨b0, he0⟩ : ∃ b, eqList sameX xl xl2 = b := ⟨_, rfl⟩
        rw [he0] at c0
        obtain ⟨b1, he1⟩ : ∃ b, eqList sameS sl sl2 = b := ⟨_, rfl⟩
        rw [he1] at c1
        obtain ⟨b2, he2⟩ : ∃ b, eqList sameI ll ll2 = b := ⟨_, rfl⟩
        rw [he2] at c2
        obtain ⟨b3, he3⟩ : ∃ b, eqList sameI el el2 = b := ⟨_, rfl⟩
        rw [he3] at c3
        obtain ⟨b4, he4⟩ : ∃ b, eqList sameB pl pl2 = b := ⟨_, rfl⟩
        rw [he4] at c4
        obtain ⟨b5, he5⟩ : ∃ b, eqList sameB bl bl2 = b := ⟨_, rfl⟩
        rw [he5] at c5
        have HP : Hid (sameI (.mk op nm nf xa xc xl sa sc sl la lc ll ea ec el pa pc pl ba bc bl) (.mk op2 nm2 nf2 xa2 xc2 xl2 sa2 sc2 sl2 la2 lc2 ll2 ea2 ec2 el2 pa2 pc2 pl2 ba2 bc2 bl2) = (!n1 && (!n2 && (!n3 && (b0 && (b1 && (b2 && (b3 && (b4 && (b5)))))))))) := Lib.hid (by rw [sameI, sameIL_eq, sameIL_eq, hm1, hm2, hm3, he0, he1, he2, he3, he4, he5])
        have r0 : wr.cell? ⟨b, q + k * 9, none⟩ = some (.int .i64 op) := hr 0 _ rfl
        have r1 : wr.cell? ⟨b, q + k * 9 + 1, none⟩ = some (.string (bs nm)) := hr 1 _ rfl
        have r2 : wr.cell? ⟨b, q + k * 9 + 2, none⟩ = some (.string (bs nf)) := hr 2 _ rfl
        have r3 : wr.cell? ⟨b, q + k * 9 + 3, none⟩ = some (.slice xa xl.length xc) := hr 3 _ rfl
        have r4 : wr.cell? ⟨b, q + k * 9 + 4, none⟩ = some (.slice sa sl.length sc) := hr 4 _ rfl
        have r5 : wr.cell? ⟨b, q + k * 9 + 5, none⟩ = some (.slice la ll.length lc) := hr 5 _ rfl
        have r6 : wr.cell? ⟨b, q + k * 9 + 6, none⟩ = some (.slice ea el.length ec) := hr 6 _ rfl
        have r7 : wr.cell? ⟨b, q + k * 9 + 7, none⟩ = some (.slice pa pl.length pc) := hr 7 _ rfl
        have r8 : wr.cell? ⟨b, q + k * 9 + 8, none⟩ = some (.slice ba bl.length bc) := hr 8 _ rfl
        have s0 : wr.cell? ⟨b', q' + k * 9, none⟩ = some (.int .i64 op2) := hs 0 _ rfl
        have s1 : wr.cell? ⟨b', q' + k * 9 + 1, none⟩ = some (.string (bs nm2)) := hs 1 _ rfl
        have s2 : wr.cell? ⟨b', q' + k * 9 + 2, none⟩ = some (.string (bs nf2)) := hs 2 _ rfl
        have s3 : wr.cell? ⟨b', q' + k * 9 + 3, none⟩ = some (.slice xa2 xl2.length xc2) := hs 3 _ rfl
        have s4 : wr.cell? ⟨b', q' + k * 9 + 4, none⟩ = some (.slice sa2 sl2.length sc2) := hs 4 _ rfl
        have s5 : wr.cell? ⟨b', q' + k * 9 + 5, none⟩ = some (.slice la2 ll2.length lc2) := hs 5 _ rfl
        have s6 : wr.cell? ⟨b', q' + k * 9 + 6, none⟩ = some (.slice ea2 el2.length ec2) := hs 6 _ rfl
        have s7 : wr.cell? ⟨b', q' + k * 9 + 7, none⟩ = some (.slice pa2 pl2.length pc2) := hs 7 _ rfl
        have s8 : wr.cell? ⟨b', q' + k * 9 + 8, none⟩ = some (.slice ba2 bl2.length bc2) := hs 8 _ rfl
        have s0A := fun O => alloc_cell s0 O
        have s1A := fun O => alloc_cell s1 O
        have s2A := fun O => alloc_cell s2 O
        have s3A := fun O => alloc_cell s3 O
        have s4A := fun O => alloc_cell s4 O
        have s5A := fun O => alloc_cell s5 O
        have s6A := fun O => alloc_cell s6 O
        have s7A := fun O => alloc_cell s7 O
        have s8A := fun O => alloc_cell s8 O
        have kk : Below wr.heap.size wr ((wr.alloc (.cells #[.int .i64 op, .string (bs nm), .string (bs nf), .slice xa xl.length xc, .slice sa sl.length sc, .slice la ll.length lc, .slice ea el.length ec, .slice pa pl.length pc, .slice ba bl.length bc] 54)).alloc (.cells #[.int .i64 op2, .string (bs nm2), .string (bs nf2), .slice xa2 xl2.length xc2, .slice sa2 sl2.length sc2, .slice la2 ll2.length lc2, .slice ea2 el2.length ec2, .slice pa2 pl2.length pc2, .slice ba2 bl2.length bc2] 54)) := ((Below.refl _ _).alloc (Nat.le_refl _) _).alloc (by simp) _
        have hb1 := hb0.trans (kk.mono hb0.size)
        have hk8 := Below.keptTo kk hnr
        replace i0 := i0.keep hk8 (fun x _ => XT.In.keep hk8 x)
        replace j0 := j0.keep hk8 (fun x _ => XT.In.keep hk8 x)
        replace i1 := i1.keep hk8 (fun x _ => ST.In.keep hk8 x)
        replace j1 := j1.keep hk8 (fun x _ => ST.In.keep hk8 x)
        replace i2 := i2.keep hk8 (fun x _ => IT.In.keep hk8 x)
        replace j2 := j2.keep hk8 (fun x _ => IT.In.keep hk8 x)
        replace i3 := i3.keep hk8 (fun x _ => IT.In.keep hk8 x)
        replace j3 := j3.keep hk8 (fun x _ => IT.In.keep hk8 x)
        replace i4 := i4.keep hk8 (fun x _ => BT.In.keep hk8 x)
        replace j4 := j4.keep hk8 (fun x _ => BT.In.keep hk8 x)
        replace i5 := i5.keep hk8 (fun x _ => BT.In.keep hk8 x)
        replace j5 := j5.keep hk8 (fun x _ => BT.In.keep hk8 x)
        have hnr1 : n0 ≤ ((wr.alloc (.cells #[.int .i64 op, .string (bs nm), .string (bs nf), .slice xa xl.length xc, .slice sa sl.length sc, .slice la ll.length lc, .slice ea el.length ec, .slice pa pl.length pc, .slice ba bl.length bc] 54)).alloc (.cells #[.int .i64 op2, .string (bs nm2), .string (bs nf2), .slice xa2 xl2.length xc2, .slice sa2 sl2.length sc2, .slice la2 ll2.length lc2, .slice ea2 el2.length ec2, .slice pa2 pl2.length pc2, .slice ba2 bl2.length bc2] 54)).heap.size := Nat.le_trans hnr kk.size
        have BX := Lib.hid (block_alloc (World.alloc_heap_new wr (.cells #[.int .i64 op, .string (bs nm), .string (bs nf), .slice xa xl.length xc, .slice sa sl.length sc, .slice la ll.length lc, .slice ea el.length ec, .slice pa pl.length pc, .slice ba bl.length bc] 54)) (.cells #[.int .i64 op2, .string (bs nm2), .string (bs nf2), .slice xa2 xl2.length xc2, .slice sa2 sl2.length sc2, .slice la2 ll2.length lc2, .slice ea2 el2.length ec2, .slice pa2 pl2.length pc2, .slice ba2 bl2.length bc2] 54))
        have BY := Lib.hid (World.alloc_heap_new (wr.alloc (.cells #[.int .i64 op, .string (bs nm), .string (bs nf), .slice xa xl.length xc, .slice sa sl.length sc, .slice la ll.length lc, .slice ea el.length ec, .slice pa pl.length pc, .slice ba bl.length bc] 54)) (.cells #[.int .i64 op2, .string (bs nm2), .string (bs nf2), .slice xa2 xl2.length xc2, .slice sa2 sl2.length sc2, .slice la2 ll2.length lc2, .slice ea2 el2.length ec2, .slice pa2 pl2.length pc2, .slice ba2 bl2.length bc2] 54))
        have HH := Lib.hid (And.intro hk (And.intro hgx hgy))
        have hkg : k < l.length := hlt
        clear hi1 hi2 hr hs hx hy hgx hgy hk8 kk he0 he1 he2 he3 he4 he5
        go_upto_region 8 with (fail)
        replace BX := BX.out
        replace BY := BY.out
        rw [World.size_alloc] at BY
        clear r0 s0 s0A r1 s1 s1A r2 s2 s2A r3 s3 s3A r4 s4 s4A r5 s5 s5A r6 s6 s6A r7 s7 s7A r8 s8 s8A
        generalize ((wr.alloc (.cells #[.int .i64 op, .string (bs nm), .string (bs nf), .slice xa xl.length xc, .slice sa sl.length sc, .slice la ll.length lc, .slice ea el.length ec, .slice pa pl.length pc, .slice ba bl.length bc] 54)).alloc (.cells #[.int .i64 op2, .string (bs nm2), .string (bs nf2), .slice xa2 xl2.length xc2, .slice sa2 sl2.length sc2, .slice la2 ll2.length lc2, .slice ea2 el2.length ec2, .slice pa2 pl2.length pc2, .slice ba2 bl2.length bc2] 54)) = w2 at *
        cases gk with
        | zero => omega
        | succ gg =>
          cases n1 with
          | true =>
            replace hm1 : (op == op2) = false := hm1
            obtain ⟨x0, x1, x2, x3, x4, x5, x6, x7, x8⟩ := opn9 BX
            obtain ⟨y0, y1, y2, y3, y4, y5, y6, y7, y8⟩ := opn9 BY
            first | ((iterate 11 (first | go_values | go_guarded | go_step | go_upon | (simp only [Int.not_lt, Int.not_le] at *; go_simp) | go_simp)); (with_reducible refine tk_exit 32 94 31 93 62 ?_ ?_ ?_ ?_ ?_); (case refine_2 => exact rfl))
            · simp
            · decide
            · decide
            intro f9 hf9
            simp only [List.append_eq, List.cons_append, List.nil_append, List.take_succ_cons, List.take_zero, List.drop_succ_cons, List.drop_zero, List.range'_succ, List.range'_zero, List.map_cons, List.map_nil, List.cons_append, List.nil_append, Nat.reduceSub, Nat.reduceAdd, hf9]
            clear hf9
            go_wp2
            go_ret
            exact ⟨by rw [← HK.out, HD.out, HP.out]; rfl, hb1⟩
          | false =>
            replace hm1 : (op == op2) = true := hm1
            cases n2 with
            | true =>
              replace hm2 : (nm == nm2) = false := hm2
              obtain ⟨x0, x1, x2, x3, x4, x5, x6, x7, x8⟩ := opn9 BX
              obtain ⟨y0, y1, y2, y3, y4, y5, y6, y7, y8⟩ := opn9 BY
              first | ((iterate 25 (first | go_values | go_guarded | go_step | go_upon | (simp only [Int.not_lt, Int.not_le] at *; go_simp) | go_simp)); (with_reducible refine tk_exit 39 94 38 93 55 ?_ ?_ ?_ ?_ ?_); (case refine_2 => exact rfl))
              · simp
              · decide
              · decide
              intro f9 hf9
              simp only [List.append_eq, List.cons_append, List.nil_append, List.take_succ_cons, List.take_zero, List.drop_succ_cons, List.drop_zero, List.range'_succ, List.range'_zero, List.map_cons, List.map_nil, List.cons_append, List.nil_append, Nat.reduceSub, Nat.reduceAdd, hf9]
              clear hf9
              go_wp2
              go_ret
              exact ⟨by rw [← HK.out, HD.out, HP.out]; rfl, hb1⟩
            | false =>
              replace hm2 : (nm == nm2) = true := hm2
              cases n3 with
              | true =>
                replace hm3 : (nf == nf2) = false := hm3
                obtain ⟨x0, x1, x2, x3, x4, x5, x6, x7, x8⟩ := opn9 BX
                obtain ⟨y0, y1, y2, y3, y4, y5, y6, y7, y8⟩ := opn9 BY
                first | ((iterate 39 (first | go_values | go_guarded | go_step | go_upon | (simp only [Int.not_lt, Int.not_le] at *; go_simp) | go_simp)); (with_reducible refine tk_exit 46 94 45 93 48 ?_ ?_ ?_ ?_ ?_); (case refine_2 => exact rfl))
                · simp
                · decide
                · decide
                intro f9 hf9
                simp only [List.append_eq, List.cons_append, List.nil_append, List.take_succ_cons, List.take_zero, List.drop_succ_cons, List.drop_zero, List.range'_succ, List.range'_zero, List.map_cons, List.map_nil, List.cons_append, List.nil_append, Nat.reduceSub, Nat.reduceAdd, hf9]
                clear hf9
                go_wp2
                go_ret
                exact ⟨by rw [← HK.out, HD.out, HP.out]; rfl, hb1⟩
              | false =>
                replace hm3 : (nf == nf2) = true := hm3
                obtain ⟨x0, x1, x2, x3, x4, x5, x6, x7, x8⟩ := opn9 BX
                obtain ⟨y0, y1, y2, y3, y4, y5, y6, y7, y8⟩ := opn9 BY
                go_wp2_with fail
                refine (c0 _ hnr1 i0 j0).mono ?_
                rintro e W1 ⟨rfl, hb⟩
                clear x0 x1 x2 x3 x4 x5 x6 x7 x8 y0 y1 y2 y3 y4 y5 y6 y7 y8
                replace BX := block_kept BX hb
                replace BY := block_kept BY hb
                have hk9 := Below.keptTo hb hnr1
                replace i0 := i0.keep hk9 (fun x _ => XT.In.keep hk9 x)
                replace j0 := j0.keep hk9 (fun x _ => XT.In.keep hk9 x)
                replace i1 := i1.keep hk9 (fun x _ => ST.In.keep hk9 x)
                replace j1 := j1.keep hk9 (fun x _ => ST.In.keep hk9 x)
                replace i2 := i2.keep hk9 (fun x _ => IT.In.keep hk9 x)
                replace j2 := j2.keep hk9 (fun x _ => IT.In.keep hk9 x)
                replace i3 := i3.keep hk9 (fun x _ => IT.In.keep hk9 x)
                replace j3 := j3.keep hk9 (fun x _ => IT.In.keep hk9 x)
                replace i4 := i4.keep hk9 (fun x _ => BT.In.keep hk9 x)
                replace j4 := j4.keep hk9 (fun x _ => BT.In.keep hk9 x)
                replace i5 := i5.keep hk9 (fun x _ => BT.In.keep hk9 x)
                replace j5 := j5.keep hk9 (fun x _ => BT.In.keep hk9 x)
                replace hnr1 := Nat.le_trans hnr1 hb.size
                clear hk9
                replace hb1 := hb1.trans (hb.mono hb1.size)
                clear hb
                cases b0 with
                | false =>
                  obtain ⟨x0, x1, x2, x3, x4, x5, x6, x7, x8⟩ := opn9 BX
                  obtain ⟨y0, y1, y2, y3, y4, y5, y6, y7, y8⟩ := opn9 BY
                  go_wp2
                  go_ret
                  exact ⟨by rw [← HK.out, HD.out, HP.out]; rfl, hb1⟩
                | true =>
                  obtain ⟨x0, x1, x2, x3, x4, x5, x6, x7, x8⟩ := opn9 BX
                  obtain ⟨y0, y1, y2, y3, y4, y5, y6, y7, y8⟩ := opn9 BY
                  go_wp2_with fail
                  refine (c1 _ hnr1 i1 j1).mono ?_
                  rintro e W1 ⟨rfl, hb⟩
                  clear x0 x1 x2 x3 x4 x5 x6 x7 x8 y0 y1 y2 y3 y4 y5 y6 y7 y8
                  replace BX := block_kept BX hb
                  replace BY := block_kept BY hb
                  have hk9 := Below.keptTo hb hnr1
                  replace i0 := i0.keep hk9 (fun x _ => XT.In.keep hk9 x)
                  replace j0 := j0.keep hk9 (fun x _ => XT.In.keep hk9 x)
                  replace i1 := i1.keep hk9 (fun x _ => ST.In.keep hk9 x)
                  replace j1 := j1.keep hk9 (fun x _ => ST.In.keep hk9 x)
                  replace i2 := i2.keep hk9 (fun x _ => IT.In.keep hk9 x)
                  replace j2 := j2.keep hk9 (fun x _ => IT.In.keep hk9 x)
                  replace i3 := i3.keep hk9 (fun x _ => IT.In.keep hk9 x)
                  replace j3 := j3.keep hk9 (fun x _ => IT.In.keep hk9 x)
                  replace i4 := i4.keep hk9 (fun x _ => BT.In.keep hk9 x)
                  replace j4 := j4.keep hk9 (fun x _ => BT.In.keep hk9 x)
                  replace i5 := i5.keep hk9 (fun x _ => BT.In.keep hk9 x)
                  replace j5 := j5.keep hk9 (fun x _ => BT.In.keep hk9 x)
                  replace hnr1 := Nat.le_trans hnr1 hb.size
                  clear hk9
                  replace hb1 := hb1.trans (hb.mono hb1.size)
                  clear hb
                  cases b1 with
                  | false =>
                    obtain ⟨x0, x1, x2, x3, x4, x5, x6, x7, x8⟩ := opn9 BX
                    obtain ⟨y0, y1, y2, y3, y4, y5, y6, y7, y8⟩ := opn9 BY
                    go_wp2
                    go_ret
                    exact ⟨by rw [← HK.out, HD.out, HP.out]; rfl, hb1⟩
                  | true =>
                    obtain ⟨x0, x1, x2, x3, x4, x5, x6, x7, x8⟩ := opn9 BX
                    obtain ⟨y0, y1, y2, y3, y4, y5, y6, y7, y8⟩ := opn9 BY
                    go_wp2_with fail
                    refine (c2 _ hnr1 i2 j2).mono ?_
                    rintro e W1 ⟨rfl, hb⟩
                    clear x0 x1 x2 x3 x4 x5 x6 x7 x8 y0 y1 y2 y3 y4 y5 y6 y7 y8
                    replace BX := block_kept BX hb
                    replace BY := block_kept BY hb
                    have hk9 := Below.keptTo hb hnr1
                    replace i0 := i0.keep hk9 (fun x _ => XT.In.keep hk9 x)
                    replace j0 := j0.keep hk9 (fun x _ => XT.In.keep hk9 x)
                    replace i1 := i1.keep hk9 (fun x _ => ST.In.keep hk9 x)
                    replace j1 := j1.keep hk9 (fun x _ => ST.In.keep hk9 x)
                    replace i2 := i2.keep hk9 (fun x _ => IT.In.keep hk9 x)
                    replace j2 := j2.keep hk9 (fun x _ => IT.In.keep hk9 x)
                    replace i3 := i3.keep hk9 (fun x _ => IT.In.keep hk9 x)
                    replace j3 := j3.keep hk9 (fun x _ => IT.In.keep hk9 x)
                    replace i4 := i4.keep hk9 (fun x _ => BT.In.keep hk9 x)
                    replace j4 := j4.keep hk9 (fun x _ => BT.In.keep hk9 x)
                    replace i5 := i5.keep hk9 (fun x _ => BT.In.keep hk9 x)
                    replace j5 := j5.keep hk9 (fun x _ => BT.In.keep hk9 x)
                    replace hnr1 := Nat.le_trans hnr1 hb.size
                    clear hk9
                    replace hb1 := hb1.trans (hb.mono hb1.size)
                    clear hb
                    cases b2 with
                    | false =>
                      obtain ⟨x0, x1, x2, x3, x4, x5, x6, x7, x8⟩ := opn9 BX
                      obtain ⟨y0, y1, y2, y3, y4, y5, y6, y7, y8⟩ := opn9 BY
                      go_wp2
                      go_ret
                      exact ⟨by rw [← HK.out, HD.out, HP.out]; rfl, hb1⟩
                    | true =>
                      obtain ⟨x0, x1, x2, x3, x4, x5, x6, x7, x8⟩ := opn9 BX
                      obtain ⟨y0, y1, y2, y3, y4, y5, y6, y7, y8⟩ := opn9 BY
                      go_wp2_with fail
                      refine (c3 _ hnr1 i3 j3).mono ?_
                      rintro e W1 ⟨rfl, hb⟩
                      clear x0 x1 x2 x3 x4 x5 x6 x7 x8 y0 y1 y2 y3 y4 y5 y6 y7 y8
                      replace BX := block_kept BX hb
                      replace BY := block_kept BY hb
                      have hk9 := Below.keptTo hb hnr1
                      replace i0 := i0.keep hk9 (fun x _ => XT.In.keep hk9 x)
                      replace j0 := j0.keep hk9 (fun x _ => XT.In.keep hk9 x)
                      replace i1 := i1.keep hk9 (fun x _ => ST.In.keep hk9 x)
                      replace j1 := j1.keep hk9 (fun x _ => ST.In.keep hk9 x)
                      replace i2 := i2.keep hk9 (fun x _ => IT.In.keep hk9 x)
                      replace j2 := j2.keep hk9 (fun x _ => IT.In.keep hk9 x)
                      replace i3 := i3.keep hk9 (fun x _ => IT.In.keep hk9 x)
                      replace j3 := j3.keep hk9 (fun x _ => IT.In.keep hk9 x)
                      replace i4 := i4.keep hk9 (fun x _ => BT.In.keep hk9 x)
                      replace j4 := j4.keep hk9 (fun x _ => BT.In.keep hk9 x)
                      replace i5 := i5.keep hk9 (fun x _ => BT.In.keep hk9 x)
                      replace j5 := j5.keep hk9 (fun x _ => BT.In.keep hk9 x)
                      replace hnr1 := Nat.le_trans hnr1 hb.size
                      clear hk9
                      replace hb1 := hb1.trans (hb.mono hb1.size)
                      clear hb
                      cases b3 with
                      | false =>
                        obtain ⟨x0, x1, x2, x3, x4, x5, x6, x7, x8⟩ := opn9 BX
                        obtain ⟨y0, y1, y2, y3, y4, y5, y6, y7, y8⟩ := opn9 BY
                        go_wp2
                        go_ret
                        exact ⟨by rw [← HK.out, HD.out, HP.out]; rfl, hb1⟩
                      | true =>
                        obtain ⟨x0, x1, x2, x3, x4, x5, x6, x7, x8⟩ := opn9 BX
                        obtain ⟨y0, y1, y2, y3, y4, y5, y6, y7, y8⟩ := opn9 BY
                        go_wp2_with fail
                        refine (c4 _ hnr1 i4 j4).mono ?_
                        rintro e W1 ⟨rfl, hb⟩
                        clear x0 x1 x2 x3 x4 x5 x6 x7 x8 y0 y1 y2 y3 y4 y5 y6 y7 y8
                        replace BX := block_kept BX hb
                        replace BY := block_kept BY hb
                        have hk9 := Below.keptTo hb hnr1
                        replace i0 := i0.keep hk9 (fun x _ => XT.In.keep hk9 x)
                        replace j0 := j0.keep hk9 (fun x _ => XT.In.keep hk9 x)
                        replace i1 := i1.keep hk9 (fun x _ => ST.In.keep hk9 x)
                        replace j1 := j1.keep hk9 (fun x _ => ST.In.keep hk9 x)
                        replace i2 := i2.keep hk9 (fun x _ => IT.In.keep hk9 x)
                        replace j2 := j2.keep hk9 (fun x _ => IT.In.keep hk9 x)
                        replace i3 := i3.keep hk9 (fun x _ => IT.In.keep hk9 x)
                        replace j3 := j3.keep hk9 (fun x _ => IT.In.keep hk9 x)
                        replace i4 := i4.keep hk9 (fun x _ => BT.In.keep hk9 x)
                        replace j4 := j4.keep hk9 (fun x _ => BT.In.keep hk9 x)
                        replace i5 := i5.keep hk9 (fun x _ => BT.In.keep hk9 x)
                        replace j5 := j5.keep hk9 (fun x _ => BT.In.keep hk9 x)
                        replace hnr1 := Nat.le_trans hnr1 hb.size
                        clear hk9
                        replace hb1 := hb1.trans (hb.mono hb1.size)
                        clear hb
                        cases b4 with
                        | false =>
                          obtain ⟨x0, x1, x2, x3, x4, x5, x6, x7, x8⟩ := opn9 BX
                          obtain ⟨y0, y1, y2, y3, y4, y5, y6, y7, y8⟩ := opn9 BY
                          go_wp2
                          go_ret
                          exact ⟨by rw [← HK.out, HD.out, HP.out]; rfl, hb1⟩
                        | true =>
                          obtain ⟨x0, x1, x2, x3, x4, x5, x6, x7, x8⟩ := opn9 BX
                          obtain ⟨y0, y1, y2, y3, y4, y5, y6, y7, y8⟩ := opn9 BY
                          go_wp2_with fail
                          refine (c5 _ hnr1 i5 j5).mono ?_
                          rintro e W1 ⟨rfl, hb⟩
                          clear x0 x1 x2 x3 x4 x5 x6 x7 x8 y0 y1 y2 y3 y4 y5 y6 y7 y8
                          replace BX := block_kept BX hb
                          replace BY := block_kept BY hb
                          have hk9 := Below.keptTo hb hnr1
                          replace i0 := i0.keep hk9 (fun x _ => XT.In.keep hk9 x)
                          replace j0 := j0.keep hk9 (fun x _ => XT.In.keep hk9 x)
                          replace i1 := i1.keep hk9 (fun x _ => ST.In.keep hk9 x)
                          replace j1 := j1.keep hk9 (fun x _ => ST.In.keep hk9 x)
                          replace i2 := i2.keep hk9 (fun x _ => IT.In.keep hk9 x)
                          replace j2 := j2.keep hk9 (fun x _ => IT.In.keep hk9 x)
                          replace i3 := i3.keep hk9 (fun x _ => IT.In.keep hk9 x)
                          replace j3 := j3.keep hk9 (fun x _ => IT.In.keep hk9 x)
                          replace i4 := i4.keep hk9 (fun x _ => BT.In.keep hk9 x)
                          replace j4 := j4.keep hk9 (fun x _ => BT.In.keep hk9 x)
                          replace i5 := i5.keep hk9 (fun x _ => BT.In.keep hk9 x)
                          replace j5 := j5.keep hk9 (fun x _ => BT.In.keep hk9 x)
                          replace hnr1 := Nat.le_trans hnr1 hb.size
                          clear hk9
                          replace hb1 := hb1.trans (hb.mono hb1.size)
                          clear hb
                          cases b5 with
                          | false =>
                            obtain ⟨x0, x1, x2, x3, x4, x5, x6, x7, x8⟩ := opn9 BX
                            obtain ⟨y0, y1, y2, y3, y4, y5, y6, y7, y8⟩ := opn9 BY
                            go_wp2
                            go_ret
                            exact ⟨by rw [← HK.out, HD.out, HP.out]; rfl, hb1⟩
                          | true =>
                            obtain ⟨x0, x1, x2, x3, x4, x5, x6, x7, x8⟩ := opn9 BX
                            obtain ⟨y0, y1, y2, y3, y4, y5, y6, y7, y8⟩ := opn9 BY
                            go_wp2
                            go_roundg gg
                            case rel => exact ⟨k + 1, by simp; first | done | rfl | omega, by omega, by rw [← HK.out, HD.out, HP.out]; rfl, hb1⟩
                            case measure => omega
      · have d1 : decide (k < l.length) = false := by simpa using hlt
        have d2 : decide ((k : Int) < (l.length : Int)) = false := by rw [decide_eq_false_iff_not]; omega
        have HE : Hid (R = true) := Lib.hid (by have := HK.out; have := HLEN.out; rw [List.drop_eq_nil_of_le (by omega), List.drop_eq_nil_of_le (by omega)] at *; rw [← HK.out]; rfl)
        go_wp2
        go_ret
        exact ⟨by rw [HE.out]; rfl, hb0⟩
  · have e1 : ((l.length : Int) != (m.length : Int)) = true := by rw [bne_iff_ne]; omega
    have e2 : (l.length != m.length) = true := by rw [bne_iff_ne]; exact hlen
    have e3 : (l.length == m.length) = false := by rw [beq_eq_false_iff_ne]; exact hlen
    have HE := Lib.hid (eqList_len sameI l m hlen)
    clear hlen
    go_enter Tryz.func49, Tryz.ntmps49
    go_wp2
    go_ret
    exact ⟨by rw [HE.out]; rfl, Below.refl _ _⟩

theorem reflI_in : ∀ x : IT, (∀ (n0 : Nat) (m : List IT), IT.bkL x.ll ≤ 1500000 → IT.bkL m ≤ 1500000 → ∀ (a : Option Addr) (c : Nat) (a2 : Option Addr) (c2 : Nat) (w : World), n0 ≤ w.heap.size → InRow 9 IT.cells (IT.In n0 w) n0 w x.ll a → InRow 9 IT.cells (IT.In n0 w) n0 w m a2 → Calls Tryz.prog 49 #[.slice a x.ll.length c, .slice a2 m.length c2] w fun e w' => e = .returned (.bool (eqList sameI x.ll m)) ∧ Below w.heap.size w w') ∧ (∀ (n0 : Nat) (m : List IT), IT.bkL x.el ≤ 1500000 → IT.bkL m ≤ 1500000 → ∀ (a : Option Addr) (c : Nat) (a2 : Option Addr) (c2 : Nat) (w : World), n0 ≤ w.heap.size → InRow 9 IT.cells (IT.In n0 w) n0 w x.el a → InRow 9 IT.cells (IT.In n0 w) n0 w m a2 → Calls Tryz.prog 49 #[.slice a x.el.length c, .slice a2 m.length c2] w fun e w' => e = .returned (.bool (eqList sameI x.el m)) ∧ Below w.heap.size w w') := IT.ind fun op nm nf xa xc xl sa sc sl la lc ll ea ec el pa pc pl ba bc bl ih0 ih1 =>
  ⟨fun n0 m hl0 hm a c a2 c2 w h1 h2 h3 => have hl : IT.bkL ll ≤ 1500000 := hl0; reflI_of n0 ll m hl hm (fun z hz y hy a c a2 c2 w h1 h2 h3 => (ih0 z hz).1 n0 y.ll (by have := IT.bkL_mem hz; have := z.bkL_ll; omega) (by have := IT.bkL_mem hy; have := y.bkL_ll; omega) a c a2 c2 w h1 h2 h3) (fun z hz y hy a c a2 c2 w h1 h2 h3 => (ih0 z hz).2 n0 y.el (by have := IT.bkL_mem hz; have := z.bkL_el; omega) (by have := IT.bkL_mem hy; have := y.bkL_el; omega) a c a2 c2 w h1 h2 h3) a c a2 c2 w h1 h2 h3,
   fun n0 m hl0 hm a c a2 c2 w h1 h2 h3 => have hl : IT.bkL el ≤ 1500000 := hl0; reflI_of n0 el m hl hm (fun z hz y hy a c a2 c2 w h1 h2 h3 => (ih1 z hz).1 n0 y.ll (by have := IT.bkL_mem hz; have := z.bkL_ll; omega) (by have := IT.bkL_mem hy; have := y.bkL_ll; omega) a c a2 c2 w h1 h2 h3) (fun z hz y hy a c a2 c2 w h1 h2 h3 => (ih1 z hz).2 n0 y.el (by have := IT.bkL_mem hz; have := z.bkL_el; omega) (by have := IT.bkL_mem hy; have := y.bkL_el; omega) a c a2 c2 w h1 h2 h3) a c a2 c2 w h1 h2 h3⟩
theorem reflI (n0 : Nat) (l m : List IT) (hl : IT.bkL l ≤ 1500000) (hm : IT.bkL m ≤ 1500000) (a : Option Addr) (c : Nat) (a2 : Option Addr) (c2 : Nat) (w : World) (h1 : n0 ≤ w.heap.size) (h2 : InRow 9 IT.cells (IT.In n0 w) n0 w l a) (h3 : InRow 9 IT.cells (IT.In n0 w) n0 w m a2) : Calls Tryz.prog 49 #[.slice a l.length c, .slice a2 m.length c2] w fun e w' => e = .returned (.bool (eqList sameI l m)) ∧ Below w.heap.size w w' :=
  reflI_of n0 l m hl hm (fun z hz y hy a c a2 c2 w h1 h2 h3 => (reflI_in z).1 n0 y.ll (by have := IT.bkL_mem hz; have := z.bkL_ll; omega) (by have := IT.bkL_mem hy; have := y.bkL_ll; omega) a c a2 c2 w h1 h2 h3) (fun z hz y hy a c a2 c2 w h1 h2 h3 => (reflI_in z).2 n0 y.el (by have := IT.bkL_mem hz; have := z.bkL_el; omega) (by have := IT.bkL_mem hy; have := y.bkL_el; omega) a c a2 c2 w h1 h2 h3) a c a2 c2 w h1 h2 h3
end Go.Proofs.YtbfhbblbjgkolaaGreatDoor
namespace Go.Proofs.YtbfhbblbjgkolaaGreatDoor
open Go Go.RowKit
set_option linter.unusedVariables false
set_option linter.unusedSimpArgs false
open Go.Sort

set_option maxHeartbeats 8000000 in
set_option maxRecDepth 3000000 in
theorem refsame_any (f g : FT) (hf : f.bk ≤ 1500000) (hg : g.bk ≤ 1500000) (n0 : Nat) (w : World) (hn00 : n0 ≤ w.heap.size) (if0 : f.In n0 w) (ig0 : g.In n0 w) : Calls Tryz.prog 20 #[f.val, g.val] w fun e w' => e = .returned (.bool (sameF f g)) ∧ Below w.heap.size w w' := by
  obtain ⟨a, c, l⟩ := f
  obtain ⟨a2, c2, m⟩ := g
  have hbl : MT.bkL l ≤ 1500000 := by have h : 1 + MT.bkL l ≤ 1500000 := hf; omega
  have hbm : MT.bkL m ≤ 1500000 := by have h : 1 + MT.bkL m ≤ 1500000 := hg; omega
  have hll := MT.bkL_len l
  have hmm := MT.bkL_len m
  have HV : Hid (sameF ⟨a, c, l⟩ ⟨a2, c2, m⟩ = eqList sameM l m) := Lib.hid rfl
  rw [HV.out]
  simp only [FT.val, FT.cells]
  have hB0 : Below w.heap.size w ((w.alloc (.cells #[.slice a l.length c] 24)).alloc (.cells #[.slice a2 m.length c2] 24)) := ((Below.refl _ _).alloc (Nat.le_refl _) _).alloc (by simp) _
  have i1 : InRow 4 MT.cells (MT.In n0 w) n0 w l a := if0
  have i2 : InRow 4 MT.cells (MT.In n0 w) n0 w m a2 := ig0
  have hi1 := i1.keep (Below.keptTo hB0 hn00) (fun x _ => MT.In.keep (Below.keptTo hB0 hn00) x)
  have hi2 := i2.keep (Below.keptTo hB0 hn00) (fun x _ => MT.In.keep (Below.keptTo hB0 hn00) x)
  have BF0 := Lib.hid (block_alloc (World.alloc_heap_new w (.cells #[.slice a l.length c] 24)) (.cells #[.slice a2 m.length c2] 24))
  have BG0 := Lib.hid (World.alloc_heap_new (w.alloc (.cells #[.slice a l.length c] 24)) (.cells #[.slice a2 m.length c2] 24))
  have hn0 := Nat.le_trans hn00 hB0.size
  clear i1 i2 if0 ig0 hf hg hn00
  by_cases hlen : l.length = m.length
  · have e1 : ((l.length : Int) != (m.length : Int)) = false := by rw [hlen]; simp
    have e2 : ((l.length : Int) == (m.length : Int)) = true := by rw [hlen]; simp
    have e3 : (l.length == m.length) = true := by rw [hlen]; simp
    have HLEN := Lib.hid hlen
    obtain ⟨R, hR⟩ : ∃ R, eqList sameM l m = R := ⟨_, rfl⟩
    have HR := Lib.hid hR
    rw [hR]
    clear hR hlen
    go_enter Tryz.func20, Tryz.ntmps20
    go_wp2
    have BF := BF0.out
    have BG := BG0.out
    rw [World.size_alloc] at BG
    clear BF0 BG0
    generalize ((w.alloc (.cells #[.slice a l.length c] 24)).alloc (.cells #[.slice a2 m.length c2] 24)) = uu at *
    go_loopg [5] l.length (fun g u wr => ∃ (k : Nat), u = .int .i64 k ∧ k + g = l.length ∧ eqList sameM (l.drop k) (m.drop k) = R ∧ Below uu.heap.size uu wr)
    case atStart => exact ⟨0, rfl, by omega, by rw [List.drop_zero, List.drop_zero]; exact HR.out, Below.refl _ _⟩
    case round =>
      obtain ⟨k, rfl, hk, hkk, hb0⟩ := hrel
      have HK := Lib.hid hkk
      have BFr := block_kept BF hb0
      have BGr := block_kept BG hb0
      have f0 := (cell_of_box_1 BFr).1
      have g0 := (cell_of_box_1 BGr).1
      have g0A := fun O => alloc_cell g0 O
      clear hkk
      by_cases hlt : k < l.length
      · have hlt2 : k < m.length := by have := HLEN.out; omega
        have d1 : decide (k < l.length) = true := by simpa using hlt
        have d2 : decide ((k : Int) < (l.length : Int)) = true := by rw [decide_eq_true_eq]; omega
        have x1 : (k : Int) < (l.length : Int) := by omega
        have x2 : (k : Int) < (m.length : Int) := by omega
        obtain ⟨b, q, rfl, hb, hr, hx⟩ := hi1.kept (Below.keptTo hb0 hn0) hlt
        obtain ⟨b', q', rfl, hb', hs, hy⟩ := hi2.kept (Below.keptTo hb0 hn0) hlt2
        have HD := Lib.hid (eqList_drop sameM l m k hlt hlt2)
        have hbx := MT.bkL_mem (List.getElem_mem hlt)
        have hby := MT.bkL_mem (List.getElem_mem hlt2)
        have hxin := hx.keep (Below.keptTo hb0 hn0)
        have hyin := hy.keep (Below.keptTo hb0 hn0)
        have zz := hb0.size
        have hnr : n0 ≤ wr.heap.size := by omega
        generalize hgx : l[k] = x at *
        generalize hgy : m[k] = y at *
        obtain ⟨nm, pa, pc, pl, ta, tc, tl, ia, ic, il⟩ := x
        obtain ⟨nm2, pa2, pc2, pl2, ta2, tc2, tl2, ia2, ic2, il2⟩ := y
        simp only [MT.bk] at hbx hby
        obtain ⟨i0, i1, i2⟩ : InRow 7 BT.cells (BT.In n0 wr) n0 wr pl pa ∧ InRow 8 PT.cells (PT.In n0 wr) n0 wr tl ta ∧ InRow 9 IT.cells (IT.In n0 wr) n0 wr il ia := hxin
        obtain ⟨j0, j1, j2⟩ : InRow 7 BT.cells (BT.In n0 wr) n0 wr pl2 pa2 ∧ InRow 8 PT.cells (PT.In n0 wr) n0 wr tl2 ta2 ∧ InRow 9 IT.cells (IT.In n0 wr) n0 wr il2 ia2 := hyin
        have c0 := fun (w' : World) h1 h2 h3 => reflB n0 pl pl2 (by omega) (by omega) pa pc pa2 pc2 w' h1 h2 h3
        have c1 := fun (w' : World) h1 h2 h3 => reflP n0 tl tl2 (by omega) (by omega) ta tc ta2 tc2 w' h1 h2 h3
        have c2 := fun (w' : World) h1 h2 h3 => reflI n0 il il2 (by omega) (by omega) ia ic ia2 ic2 w' h1 h2 h3
        obtain ⟨n1, hn1⟩ : ∃ b, (nm != nm2) = b := ⟨_, rfl⟩
        have hm1 : (nm == nm2) = !n1 := by rw [← hn1, bne, Bool.not_not]
        obtain ⟨b0, he0⟩ : ∃ b, eqList sameB pl pl2 = b := ⟨_, rfl⟩
        rw [he0] at c0
        obtain ⟨b1, he1⟩ : ∃ b, eqList sameP tl tl2 = b := ⟨_, rfl⟩
        rw [he1] at c1
        obtain ⟨b2, he2⟩ : ∃ b, eqList sameI il il2 = b := ⟨_, rfl⟩
        rw [he2] at c2
        have HP : Hid (sameM ⟨nm, pa, pc, pl, ta, tc, tl, ia, ic, il⟩ ⟨nm2, pa2, pc2, pl2, ta2, tc2, tl2, ia2, ic2, il2⟩ = (!n1 && (b0 && (b1 && (b2))))) := Lib.hid (by rw [sameM, hm1, he0, he1, he2])
        have r0 : wr.cell? ⟨b, q + k * 4, none⟩ = some (.string (bs nm)) := hr 0 _ rfl
        have r1 : wr.cell? ⟨b, q + k * 4 + 1, none⟩ = some (.slice pa pl.length pc) := hr 1 _ rfl
        have r2 : wr.cell? ⟨b, q + k * 4 + 2, none⟩ = some (.slice ta tl.length tc) := hr 2 _ rfl
        have r3 : wr.cell? ⟨b, q + k * 4 + 3, none⟩ = some (.slice ia il.length ic) := hr 3 _ rfl
        have s0 : wr.cell? ⟨b', q' + k * 4, none⟩ = some (.string (bs nm2)) := hs 0 _ rfl
        have s1 : wr.cell? ⟨b', q' + k * 4 + 1, none⟩ = some (.slice pa2 pl2.length pc2) := hs 1 _ rfl
        have s2 : wr.cell? ⟨b', q' + k * 4 + 2, none⟩ = some (.slice ta2 tl2.length tc2) := hs 2 _ rfl
        have s3 : wr.cell? ⟨b', q' + k * 4 + 3, none⟩ = some (.slice ia2 il2.length ic2) := hs 3 _ rfl
        have s0A := fun O => alloc_cell s0 O
        have s1A := fun O => alloc_cell s1 O
        have s2A := fun O => alloc_cell s2 O
        have s3A := fun O => alloc_cell s3 O
        have kk : Below wr.heap.size wr ((wr.alloc (.cells #[.string (bs nm), .slice pa pl.length pc, .slice ta tl.length tc, .slice ia il.length ic] 33)).alloc (.cells #[.string (bs nm2), .slice pa2 pl2.length pc2, .slice ta2 tl2.length tc2, .slice ia2 il2.length ic2] 33)) := ((Below.refl _ _).alloc (Nat.le_refl _) _).alloc (by simp) _
        have hb1 := hb0.trans (kk.mono hb0.size)
        have hk8 := Below.keptTo kk hnr
        replace i0 := i0.keep hk8 (fun x _ => BT.In.keep hk8 x)
        replace j0 := j0.keep hk8 (fun x _ => BT.In.keep hk8 x)
        replace i1 := i1.keep hk8 (fun x _ => PT.In.keep hk8 x)
        replace j1 := j1.keep hk8 (fun x _ => PT.In.keep hk8 x)
        replace i2 := i2.keep hk8 (fun x _ => IT.In.keep hk8 x)
        replace j2 := j2.keep hk8 (fun x _ => IT.In.keep hk8 x)
        have hnr1 : n0 ≤ ((wr.alloc (.cells #[.string (bs nm), .slice pa pl.length pc, .slice ta tl.length tc, .slice ia il.length ic] 33)).alloc (.cells #[.string (bs nm2), .slice pa2 pl2.length pc2, .slice ta2 tl2.length tc2, .slice ia2 il2.length ic2] 33)).heap.size := Nat.le_trans hnr kk.size
        have BX := Lib.hid (block_alloc (World.alloc_heap_new wr (.cells #[.string (bs nm), .slice pa pl.length pc, .slice ta tl.length tc, .slice ia il.length ic] 33)) (.cells #[.string (bs nm2), .slice pa2 pl2.length pc2, .slice ta2 tl2.length tc2, .slice ia2 il2.length ic2] 33))
        have BY := Lib.hid (World.alloc_heap_new (wr.alloc (.cells #[.string (bs nm), .slice pa pl.length pc, .slice ta tl.length tc, .slice ia il.length ic] 33)) (.cells #[.string (bs nm2), .slice pa2 pl2.length pc2, .slice ta2 tl2.length tc2, .slice ia2 il2.length ic2] 33))
        have HH := Lib.hid (And.intro hk (And.intro hgx hgy))
        have hkg : k < l.length := hlt
        clear hi1 hi2 hr hs hx hy hgx hgy hk8 kk he0 he1 he2
        go_upto_region 8 with (fail)
        replace BX := BX.out
        replace BY := BY.out
        rw [World.size_alloc] at BY
        clear r0 s0 s0A r1 s1 s1A r2 s2 s2A r3 s3 s3A
        generalize ((wr.alloc (.cells #[.string (bs nm), .slice pa pl.length pc, .slice ta tl.length tc, .slice ia il.length ic] 33)).alloc (.cells #[.string (bs nm2), .slice pa2 pl2.length pc2, .slice ta2 tl2.length tc2, .slice ia2 il2.length ic2] 33)) = w2 at *
        cases gk with
        | zero => omega
        | succ gg =>
          cases n1 with
          | true =>
            replace hm1 : (nm == nm2) = false := hm1
            obtain ⟨x0, x1, x2, x3⟩ := open4 BX
            obtain ⟨y0, y1, y2, y3⟩ := open4 BY
            go_wp2
            go_ret
            exact ⟨by rw [← HK.out, HD.out, HP.out]; rfl, hB0.trans (hb1.mono hB0.size)⟩
          | false =>
            replace hm1 : (nm == nm2) = true := hm1
            obtain ⟨x0, x1, x2, x3⟩ := open4 BX
            obtain ⟨y0, y1, y2, y3⟩ := open4 BY
            go_wp2_with fail
            refine (c0 _ hnr1 i0 j0).mono ?_
            rintro e W1 ⟨rfl, hb⟩
            clear x0 x1 x2 x3 y0 y1 y2 y3
            replace BX := block_kept BX hb
            replace BY := block_kept BY hb
            have hk9 := Below.keptTo hb hnr1
            replace i0 := i0.keep hk9 (fun x _ => BT.In.keep hk9 x)
            replace j0 := j0.keep hk9 (fun x _ => BT.In.keep hk9 x)
            replace i1 := i1.keep hk9 (fun x _ => PT.In.keep hk9 x)
            replace j1 := j1.keep hk9 (fun x _ => PT.In.keep hk9 x)
            replace i2 := i2.keep hk9 (fun x _ => IT.In.keep hk9 x)
            replace j2 := j2.keep hk9 (fun x _ => IT.In.keep hk9 x)
            replace hnr1 := Nat.le_trans hnr1 hb.size
            clear hk9
            replace hb1 := hb1.trans (hb.mono hb1.size)
            clear hb
            cases b0 with
            | false =>
              obtain ⟨x0, x1, x2, x3⟩ := open4 BX
              obtain ⟨y0, y1, y2, y3⟩ := open4 BY
              go_wp2
              go_ret
              exact ⟨by rw [← HK.out, HD.out, HP.out]; rfl, hB0.trans (hb1.mono hB0.size)⟩
            | true =>
              obtain ⟨x0, x1, x2, x3⟩ := open4 BX
              obtain ⟨y0, y1, y2, y3⟩ := open4 BY
              go_wp2_with fail
              refine (c1 _ hnr1 i1 j1).mono ?_
              rintro e W1 ⟨rfl, hb⟩
              clear x0 x1 x2 x3 y0 y1 y2 y3
              replace BX := block_kept BX hb
              replace BY := block_kept BY hb
              have hk9 := Below.keptTo hb hnr1
              replace i0 := i0.keep hk9 (fun x _ => BT.In.keep hk9 x)
              replace j0 := j0.keep hk9 (fun x _ => BT.In.keep hk9 x)
              replace i1 := i1.keep hk9 (fun x _ => PT.In.keep hk9 x)
              replace j1 := j1.keep hk9 (fun x _ => PT.In.keep hk9 x)
              replace i2 := i2.keep hk9 (fun x _ => IT.In.keep hk9 x)
              replace j2 := j2.keep hk9 (fun x _ => IT.In.keep hk9 x)
              replace hnr1 := Nat.le_trans hnr1 hb.size
              clear hk9
              replace hb1 := hb1.trans (hb.mono hb1.size)
              clear hb
              cases b1 with
              | false =>
                obtain ⟨x0, x1, x2, x3⟩ := open4 BX
                obtain ⟨y0, y1, y2, y3⟩ := open4 BY
                go_wp2
                go_ret
                exact ⟨by rw [← HK.out, HD.out, HP.out]; rfl, hB0.trans (hb1.mono hB0.size)⟩
              | true =>
                obtain ⟨x0, x1, x2, x3⟩ := open4 BX
                obtain ⟨y0, y1, y2, y3⟩ := open4 BY
                go_wp2_with fail
                refine (c2 _ hnr1 i2 j2).mono ?_
                rintro e W1 ⟨rfl, hb⟩
                clear x0 x1 x2 x3 y0 y1 y2 y3
                replace BX := block_kept BX hb
                replace BY := block_kept BY hb
                have hk9 := Below.keptTo hb hnr1
                replace i0 := i0.keep hk9 (fun x _ => BT.In.keep hk9 x)
                replace j0 := j0.keep hk9 (fun x _ => BT.In.keep hk9 x)
                replace i1 := i1.keep hk9 (fun x _ => PT.In.keep hk9 x)
                replace j1 := j1.keep hk9 (fun x _ => PT.In.keep hk9 x)
                replace i2 := i2.keep hk9 (fun x _ => IT.In.keep hk9 x)
                replace j2 := j2.keep hk9 (fun x _ => IT.In.keep hk9 x)
                replace hnr1 := Nat.le_trans hnr1 hb.size
                clear hk9
                replace hb1 := hb1.trans (hb.mono hb1.size)
                clear hb
                cases b2 with
                | false =>
                  obtain ⟨x0, x1, x2, x3⟩ := open4 BX
                  obtain ⟨y0, y1, y2, y3⟩ := open4 BY
                  go_wp2
                  go_ret
                  exact ⟨by rw [← HK.out, HD.out, HP.out]; rfl, hB0.trans (hb1.mono hB0.size)⟩
                | true =>
                  obtain ⟨x0, x1, x2, x3⟩ := open4 BX
                  obtain ⟨y0, y1, y2, y3⟩ := open4 BY
                  go_wp2
                  go_roundg gg
                  case rel => exact ⟨k + 1, by simp; first | done | rfl | omega, by omega, by rw [← HK.out, HD.out, HP.out]; rfl, hb1⟩
                  case measure => omega
      · have d1 : decide (k < l.length) = false := by simpa using hlt
        have d2 : decide ((k : Int) < (l.length : Int)) = false := by rw [decide_eq_false_iff_not]; omega
        have HE : Hid (R = true) := Lib.hid (by have := HK.out; have := HLEN.out; rw [List.drop_eq_nil_of_le (by omega), List.drop_eq_nil_of_le (by omega)] at *; rw [← HK.out]; rfl)
        go_wp2
        go_ret
        exact ⟨by rw [HE.out]; rfl, hB0.trans (hb0.mono hB0.size)⟩
  · have e1 : ((l.length : Int) != (m.length : Int)) = true := by rw [bne_iff_ne]; omega
    have e2 : (l.length != m.length) = true := by rw [bne_iff_ne]; exact hlen
    have e3 : (l.length == m.length) = false := by rw [beq_eq_false_iff_ne]; exact hlen
    have HE := Lib.hid (eqList_len sameM l m hlen)
    clear hlen
    go_enter Tryz.func20, Tryz.ntmps20
    go_wp2
    go_ret
    exact ⟨by rw [HE.out]; rfl, hB0⟩
end Go.Proofs.YtbfhbblbjgkolaaGreatDoor
