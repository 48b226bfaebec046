/-
  Are trees the same: SameX, SameS, Same, and what they are made of.
-/
import Derived.Test.YtlhcnbgllgodoaaDoorAsS
namespace Go.Proofs.YtlhcnbgllgodoaaDoor
open Go Go.RowKit
set_option linter.unusedVariables false
set_option linter.unusedSimpArgs false
open Go.Sort
mutual
def sameX : XT → XT → Bool
  | .mk op nm xn wd v _ _ xl, .mk op2 nm2 xn2 wd2 v2 _ _ xl2 => (op == op2) && ((nm == nm2) && ((xn == xn2) && ((wd == wd2) && (((v : Int) == (v2 : Int)) && (sameXL xl xl2)))))
def sameXL : List XT → List XT → Bool
  | [], [] => true
  | x :: r, y :: q => sameX x y && sameXL r q
  | [], _ :: _ => false
  | _ :: _, [] => false
end
theorem sameXL_eq : ∀ l m : List XT, sameXL l m = eqList sameX l m
  | [], [] => rfl
  | x :: r, y :: q => by rw [sameXL, sameXL_eq r q]; rfl
  | [], _ :: _ => rfl
  | _ :: _, [] => rfl
mutual
def sameS : ST → ST → Bool
  | .mk op nm _ _ xl _ _ sl, .mk op2 nm2 _ _ xl2 _ _ sl2 => (op == op2) && ((nm == nm2) && (eqList sameX xl xl2 && (sameSL sl sl2)))
def sameSL : List ST → List ST → Bool
  | [], [] => true
  | x :: r, y :: q => sameS x y && sameSL r q
  | [], _ :: _ => false
  | _ :: _, [] => false
end
theorem sameSL_eq : ∀ l m : List ST, sameSL l m = eqList sameS l m
  | [], [] => rfl
  | x :: r, y :: q => by rw [sameSL, sameSL_eq r q]; rfl
  | [], _ :: _ => rfl
  | _ :: _, [] => rfl
def sameB : BT → BT → Bool
  | ⟨bn, x⟩, ⟨bn2, x2⟩ => (bn == bn2) && (sameX x x2)
def sameP : PT → PT → Bool
  | ⟨bn, po, x⟩, ⟨bn2, po2, x2⟩ => (bn == bn2) && ((po == po2) && (sameX x x2))
mutual
def sameI : IT → IT → Bool
  | .mk op nm nf _ _ xl _ _ sl _ _ ll _ _ el _ _ pl _ _ bl, .mk op2 nm2 nf2 _ _ xl2 _ _ sl2 _ _ ll2 _ _ el2 _ _ pl2 _ _ bl2 => (op == op2) && ((nm == nm2) && ((nf == nf2) && (eqList sameX xl xl2 && (eqList sameS sl sl2 && (sameIL ll ll2 && (sameIL el el2 && (eqList sameB pl pl2 && (eqList sameB bl bl2))))))))
def sameIL : List IT → List IT → Bool
  | [], [] => true
  | x :: r, y :: q => sameI x y && sameIL r q
  | [], _ :: _ => false
  | _ :: _, [] => false
end
theorem sameIL_eq : ∀ l m : List IT, sameIL l m = eqList sameI l m
  | [], [] => rfl
  | x :: r, y :: q => by rw [sameIL, sameIL_eq r q]; rfl
  | [], _ :: _ => rfl
  | _ :: _, [] => rfl
def sameM : MT → MT → Bool
  | ⟨nm, _, _, pl, _, _, tl, _, _, il⟩, ⟨nm2, _, _, pl2, _, _, tl2, _, _, il2⟩ => (nm == nm2) && (eqList sameB pl pl2 && (eqList sameP tl tl2 && (eqList sameI il il2)))
theorem opn7 {w : World} {g : Nat} {v0 v1 v2 v3 v4 v5 v6 : Value} {t : TypeId} (h : w.heap[g]? = some (.cells #[v0, v1, v2, v3, v4, v5, v6] t (0, 0))) : w.cell? ⟨g, 0, none⟩ = some v0 ∧ w.cell? ⟨g, 1, none⟩ = some v1 ∧ w.cell? ⟨g, 2, none⟩ = some v2 ∧ w.cell? ⟨g, 3, none⟩ = some v3 ∧ w.cell? ⟨g, 4, none⟩ = some v4 ∧ w.cell? ⟨g, 5, none⟩ = some v5 ∧ w.cell? ⟨g, 6, none⟩ = some v6 := by
  simp [World.cell?, h]
theorem opn8 {w : World} {g : Nat} {v0 v1 v2 v3 v4 v5 v6 v7 : Value} {t : TypeId} (h : w.heap[g]? = some (.cells #[v0, v1, v2, v3, v4, v5, v6, v7] t (0, 0))) : w.cell? ⟨g, 0, none⟩ = some v0 ∧ w.cell? ⟨g, 1, none⟩ = some v1 ∧ w.cell? ⟨g, 2, none⟩ = some v2 ∧ w.cell? ⟨g, 3, none⟩ = some v3 ∧ w.cell? ⟨g, 4, none⟩ = some v4 ∧ w.cell? ⟨g, 5, none⟩ = some v5 ∧ w.cell? ⟨g, 6, none⟩ = some v6 ∧ w.cell? ⟨g, 7, none⟩ = some v7 := by
  simp [World.cell?, h]
theorem opn9 {w : World} {g : Nat} {v0 v1 v2 v3 v4 v5 v6 v7 v8 : Value} {t : TypeId} (h : w.heap[g]? = some (.cells #[v0, v1, v2, v3, v4, v5, v6, v7, v8] t (0, 0))) : w.cell? ⟨g, 0, none⟩ = some v0 ∧ w.cell? ⟨g, 1, none⟩ = some v1 ∧ w.cell? ⟨g, 2, none⟩ = some v2 ∧ w.cell? ⟨g, 3, none⟩ = some v3 ∧ w.cell? ⟨g, 4, none⟩ = some v4 ∧ w.cell? ⟨g, 5, none⟩ = some v5 ∧ w.cell? ⟨g, 6, none⟩ = some v6 ∧ w.cell? ⟨g, 7, none⟩ = some v7 ∧ w.cell? ⟨g, 8, none⟩ = some v8 := by
  simp [World.cell?, h]

set_option maxHeartbeats 16000000 in
set_option maxRecDepth 3000000 in
theorem sameX_any : ∀ x : XT, x.bk ≤ 1500000 → ∀ y : XT, y.bk ≤ 1500000 → ∀ (n0 : Nat) (w : World), n0 ≤ w.heap.size → x.In n0 w → y.In n0 w → Calls Tryd.prog 20 #[x.val, y.val] w fun e w' => e = .returned (.bool (sameX x y)) ∧ Below w.heap.size w w' := by
  refine XT.ind ?_
  intro op nm xn wd v xa xc xl ih0 hbk y hbk2 n0 w hn0 hin hin2
  obtain ⟨op2, nm2, xn2, wd2, v2, xa2, xc2, xl2⟩ := y
  rw [XT.In_mk] at hin hin2
  simp only [XT.bk] at hbk hbk2
  have i0 := hin
  have j0 := hin2
  have l0 := XT.bkL_len xl
  have l0b := XT.bkL_len xl2
  have c0 := fun (w' : World) h1 h2 h3 => eqX_any sameX n0 xl xl2 (by omega) (by omega) (fun u hu v' hv w2 e1 e2 e3 => ih0 u hu (by have := XT.bkL_mem hu; omega) v' (by have := XT.bkL_mem hv; omega) n0 w2 e1 e2 e3) xa xc xa2 xc2 w' h1 h2 h3
  have HI : Hid (sameX (.mk op nm xn wd v xa xc xl) (.mk op2 nm2 xn2 wd2 v2 xa2 xc2 xl2) = ((op == op2) && ((nm == nm2) && ((xn == xn2) && ((wd == wd2) && (((v : Int) == (v2 : Int)) && (eqList sameX xl xl2))))))) := Lib.hid (by rw [sameX, sameXL_eq])
  generalize sameX (.mk op nm xn wd v xa xc xl) (.mk op2 nm2 xn2 wd2 v2 xa2 xc2 xl2) = R at *
  clear ih0
  obtain ⟨b1, hb1⟩ : ∃ b, (op == op2) = b := ⟨_, rfl⟩
  obtain ⟨b2, hb2⟩ : ∃ b, (nm == nm2) = b := ⟨_, rfl⟩
  obtain ⟨b3, hb3⟩ : ∃ b, (xn == xn2) = b := ⟨_, rfl⟩
  obtain ⟨b4, hb4⟩ : ∃ b, (wd == wd2) = b := ⟨_, rfl⟩
  obtain ⟨b5, hb5⟩ : ∃ b, ((v : Int) == (v2 : Int)) = b := ⟨_, rfl⟩
  have hb5n : (v == v2) = b5 := by rw [← hb5, Bool.eq_iff_iff, beq_iff_eq, beq_iff_eq]; omega
  obtain ⟨b6, hb6⟩ : ∃ b, eqList sameX xl xl2 = b := ⟨_, rfl⟩
  rw [hb1, hb2, hb3, hb4, hb5, hb6] at HI
  rw [hb6] at c0
  clear hb6
  simp only [XT.val, XT.cells]
  go_enter Tryd.func20, Tryd.ntmps20
  go_upto_region 1 with (fail)
  have BX : (w.alloc (.cells #[.int .i64 op, .string (bs nm), .int .i64 xn, .int .i64 wd, .int .u64 (v : Int), .slice xa xl.length xc] 25)).heap[w.heap.size]? = some (.cells #[.int .i64 op, .string (bs nm), .int .i64 xn, .int .i64 wd, .int .u64 (v : Int), .slice xa xl.length xc] 25) := World.alloc_heap_new w _
  have BY0 := World.alloc_heap_new (w.alloc (.cells #[.int .i64 op, .string (bs nm), .int .i64 xn, .int .i64 wd, .int .u64 (v : Int), .slice xa xl.length xc] 25)) (.cells #[.int .i64 op2, .string (bs nm2), .int .i64 xn2, .int .i64 wd2, .int .u64 (v2 : Int), .slice xa2 xl2.length xc2] 25)
  have BX2 := block_alloc BX (.cells #[.int .i64 op2, .string (bs nm2), .int .i64 xn2, .int .i64 wd2, .int .u64 (v2 : Int), .slice xa2 xl2.length xc2] 25)
  rw [World.size_alloc] at BY0
  have hB2 : Below w.heap.size w ((w.alloc (.cells #[.int .i64 op, .string (bs nm), .int .i64 xn, .int .i64 wd, .int .u64 (v : Int), .slice xa xl.length xc] 25)).alloc (.cells #[.int .i64 op2, .string (bs nm2), .int .i64 xn2, .int .i64 wd2, .int .u64 (v2 : Int), .slice xa2 xl2.length xc2] 25)) := ((Below.refl _ _).alloc (Nat.le_refl _) _).alloc (by simp) _
  have hk8 := Below.keptTo hB2 hn0
  replace i0 := i0.keep hk8 (fun x _ => XT.In.keep hk8 x)
  replace j0 := j0.keep hk8 (fun x _ => XT.In.keep hk8 x)
  clear hk8 BX
  have hn1 : n0 ≤ ((w.alloc (.cells #[.int .i64 op, .string (bs nm), .int .i64 xn, .int .i64 wd, .int .u64 (v : Int), .slice xa xl.length xc] 25)).alloc (.cells #[.int .i64 op2, .string (bs nm2), .int .i64 xn2, .int .i64 wd2, .int .u64 (v2 : Int), .slice xa2 xl2.length xc2] 25)).heap.size := by simp; omega
  generalize (w.alloc (.cells #[.int .i64 op, .string (bs nm), .int .i64 xn, .int .i64 wd, .int .u64 (v : Int), .slice xa xl.length xc] 25)).alloc (.cells #[.int .i64 op2, .string (bs nm2), .int .i64 xn2, .int .i64 wd2, .int .u64 (v2 : Int), .slice xa2 xl2.length xc2] 25) = w1 at *
  cases b1 with
  | false =>
    obtain ⟨x0, x1, x2, x3, x4, x5⟩ := open6 BX2
    obtain ⟨y0, y1, y2, y3, y4, y5⟩ := open6 BY0
    go_wp2
    go_ret
    exact ⟨by rw [HI.out]; rfl, hB2⟩
  | true =>
    cases b2 with
    | false =>
      obtain ⟨x0, x1, x2, x3, x4, x5⟩ := open6 BX2
      obtain ⟨y0, y1, y2, y3, y4, y5⟩ := open6 BY0
      go_wp2
      go_ret
      exact ⟨by rw [HI.out]; rfl, hB2⟩
    | true =>
      cases b3 with
      | false =>
        obtain ⟨x0, x1, x2, x3, x4, x5⟩ := open6 BX2
        obtain ⟨y0, y1, y2, y3, y4, y5⟩ := open6 BY0
        go_wp2
        go_ret
        exact ⟨by rw [HI.out]; rfl, hB2⟩
      | true =>
        cases b4 with
        | false =>
          obtain ⟨x0, x1, x2, x3, x4, x5⟩ := open6 BX2
          obtain ⟨y0, y1, y2, y3, y4, y5⟩ := open6 BY0
          go_wp2
          go_ret
          exact ⟨by rw [HI.out]; rfl, hB2⟩
        | true =>
          cases b5 with
          | false =>
            obtain ⟨x0, x1, x2, x3, x4, x5⟩ := open6 BX2
            obtain ⟨y0, y1, y2, y3, y4, y5⟩ := open6 BY0
            go_wp2
            go_ret
            exact ⟨by rw [HI.out]; rfl, hB2⟩
          | true =>
            obtain ⟨x0, x1, x2, x3, x4, x5⟩ := open6 BX2
            obtain ⟨y0, y1, y2, y3, y4, y5⟩ := open6 BY0
            go_wp2_with fail
            refine (c0 _ hn1 i0 j0).mono ?_
            rintro e1 w1 ⟨rfl, hb⟩
            clear x0 x1 x2 x3 x4 x5 y0 y1 y2 y3 y4 y5
            replace BX2 := block_kept BX2 hb
            replace BY0 := block_kept BY0 hb
            have hk9 := Below.keptTo hb hn1
            replace i0 := i0.keep hk9 (fun x _ => XT.In.keep hk9 x)
            replace j0 := j0.keep hk9 (fun x _ => XT.In.keep hk9 x)
            replace hn1 := Nat.le_trans hn1 hb.size
            clear hk9
            replace hB2 := hB2.trans (hb.mono hB2.size)
            clear hb
            obtain ⟨x0, x1, x2, x3, x4, x5⟩ := open6 BX2
            obtain ⟨y0, y1, y2, y3, y4, y5⟩ := open6 BY0
            go_wp2
            go_ret
            exact ⟨by rw [HI.out]; rfl, hB2⟩

end Go.Proofs.YtlhcnbgllgodoaaDoor
