/-
  Are trees the same: SameX, SameS, Same, and what they are made of.
-/
import Derived.Test.YtlbjmnakiflfpaaGreatDoorAsS
namespace Go.Proofs.YtlbjmnakiflfpaaGreatDoor
open Go Go.RowKit
set_option linter.unusedVariables false
set_option linter.unusedSimpArgs false
open Go.Sort
mutual
def sameX : XT → XT → Bool
  | .mk op nm xn wd v _ _ xl, .mk op2 nm2 xn2 wd2 v2 _ _ xl2 => (op == op2) && ((nm == nm2) && ((xn == xn2) && ((wd == wd2) && (((v : Int) == (v2 : Int)) && (sameXL xl xl2)))))
def sameXL : List XT → List XT → Bool
  | [], [] => true
  | x :: r, y :: q => sameX x y && sameXL r q
  | [], _ :: _ => false
  | _ :: _, [] => false
end
theorem sameXL_eq : ∀ l m : List XT, sameXL l m = eqList sameX l m
  | [], [] => rfl
  | x :: r, y :: q => by rw [sameXL, sameXL_eq r q]; rfl
  | [], _ :: _ => rfl
  | _ :: _, [] => rfl
mutual
def sameS : ST → ST → Bool
  | .mk op nm _ _ xl _ _ sl, .mk op2 nm2 _ _ xl2 _ _ sl2 => (op == op2) && ((nm == nm2) && (eqList sameX xl xl2 && (sameSL sl sl2)))
def sameSL : List ST → List ST → Bool
  | [], [] => true
  | x :: r, y :: q => sameS x y && sameSL r q
  | [], _ :: _ => false
  | _ :: _, [] => false
end
theorem sameSL_eq : ∀ l m : List ST, sameSL l m = eqList sameS l m
  | [], [] => rfl
  | x :: r, y :: q => by rw [sameSL, sameSL_eq r q]; rfl
  | [], _ :: _ => rfl
  | _ :: _, [] => rfl
def sameB : BT → BT → Bool
  | ⟨bn, x⟩, ⟨bn2, x2⟩ => (bn == bn2) && (sameX x x2)
def sameP : PT → PT → Bool
  | ⟨bn, po, x⟩, ⟨bn2, po2, x2⟩ => (bn == bn2) && ((po == po2) && (sameX x x2))
mutual
def sameI : IT → IT → Bool
  | .mk op nm nf _ _ xl _ _ sl _ _ ll _ _ el _ _ pl _ _ bl, .mk op2 nm2 nf2 _ _ xl2 _ _ sl2 _ _ ll2 _ _ el2 _ _ pl2 _ _ bl2 => (op == op2) && ((nm == nm2) && ((nf == nf2) && (eqList sameX xl xl2 && (eqList sameS sl sl2 && (sameIL ll ll2 && (sameIL el el2 && (eqList sameB pl pl2 && (eqList sameB bl bl2))))))))
def sameIL : List IT → List IT → Bool
  | [], [] => true
  | x :: r, y :: q => sameI x y && sameIL r q
  | [], _ :: _ => false
  | _ :: _, [] => false
end
theorem sameIL_eq : ∀ l m : List IT, sameIL l m = eqList sameI l m
  | [], [] => rfl
  | x :: r, y :: q => by rw [sameIL, sameIL_eq r q]; rfl
  | [], _ :: _ => rfl
  | _ :: _, [] => rfl
def sameM : MT → MT → Bool
  | ⟨nm, _, _, pl, _, _, tl, _, _, il⟩, ⟨nm2, _, _, pl2, _, _, tl2, _, _, il2⟩ => (nm == nm2) && (eqList sameB pl pl2 && (eqList sameP tl tl2 && (eqList sameI il il2)))
theorem opn7 {w : World} {g : Nat} {v0 v1 v2 v3 v4 v5 v6 : Value} {t : TypeId} (h : w.heap[g]? = some (.cells #[v0, v1, v2, v3, v4, v5, v6] t (0, 0))) : w.cell? ⟨g, 0, none⟩ = some v0 ∧ w.cell? ⟨g, 1, none⟩ = some v1 ∧ w.cell? ⟨g, 2, none⟩ = some v2 ∧ w.cell? ⟨g, 3, none⟩ = some v3 ∧ w.cell? ⟨g, 4, none⟩ = some v4 ∧ w.cell? ⟨g, 5, none⟩ = some v5 ∧ w.cell? ⟨g, 6, none⟩ = some v6 := by
  simp [World.cell?, h]
theorem opn8 {w : World} {g : Nat} {v0 v1 v2 v3 v4 v5 v6 v7 : Value} {t : TypeId} (h : w.heap[g]? = some (.cells #[v0, v1, v2, v3, v4, v5, v6, v7] t (0, 0))) : w.cell? ⟨g, 0, none⟩ = some v0 ∧ w.cell? ⟨g, 1, none⟩ = some v1 ∧ w.cell? ⟨g, 2, none⟩ = some v2 ∧ w.cell? ⟨g, 3, none⟩ = some v3 ∧ w.cell? ⟨g, 4, none⟩ = some v4 ∧ w.cell? ⟨g, 5, none⟩ = some v5 ∧ w.cell? ⟨g, 6, none⟩ = some v6 ∧ w.cell? ⟨g, 7, none⟩ = some v7 := by
  simp [World.cell?, h]
theorem opn9 {w : World} {g : Nat} {v0 v1 v2 v3 v4 v5 v6 v7 v8 : Value} {t : TypeId} (h : w.heap[g]? = some (.cells #[v0, v1, v2, v3, v4, v5, v6, v7, v8] t (0, 0))) : w.cell? ⟨g, 0, none⟩ = some v0 ∧ w.cell? ⟨g, 1, none⟩ = some v1 ∧ w.cell? ⟨g, 2, none⟩ = some v2 ∧ w.cell? ⟨g, 3, none⟩ = some v3 ∧ w.cell? ⟨g, 4, none⟩ = some v4 ∧ w.cell? ⟨g, 5, none⟩ = some v5 ∧ w.cell? ⟨g, 6, none⟩ = some v6 ∧ w.cell? ⟨g, 7, none⟩ = some v7 ∧ w.cell? ⟨g, 8, none⟩ = some v8 := by
  simp [World.cell?, h]

set_option maxHeartbeats 16000000 in
set_option maxRecDepth 3000000 in
theorem sameX_any : ∀ x : XT, x.bk ≤ 1500000 → ∀ y : XT, y.bk ≤ 1500000 → ∀ (n0 : Nat) (w : World), n0 ≤ w.heap.size → x.In n0 w → y.In n0 w → Calls Tryz.prog 19 #[x.val, y.val] w fun e w' => e = .returned (.bool (sameX x y)) ∧ Below w.heap.size w w' := by
  refine XT.ind ?_
  intro op nm xn wd v xa xc xl ih0 hbk y hbk2 n0 w hn0 hin hin2
  obtain ⟨op2, nm2, xn2, wd2, v2, xa2, xc2, xl2⟩ := y
  rw [XT.In_mk] at hin hin2
  simp only [XT.bk] at hbk hbk2
  have i0 := hin
  have j0 := hin2
  have l0 := XT.bkL_len xl
  have l0b := XT.bkL_len xl2
  have c0 := fun (w' : World) h1 h2 h3 => eqX_any sameX n0 xl xl2 (by omega) (by omega) (fun u hu v' hv w2 e1 e2 e3 => ih0 u hu (by have := XT.bkL_mem hu; omega) v' (by have := XT.bkL_mem hv; omega) n0 w2 e1 e2 e3) xa xc xa2 xc2 w' h1 h2 h3
  have HI : Hid (sameX (.mk op nm xn wd v xa xc xl) (.mk op2 nm2 xn2 wd2 v2 xa2 xc2 xl2) = ((op == op2) && ((nm == nm2) && ((xn == xn2) && ((wd == wd2) && (((v : Int) == (v2 : Int)) && (eqList sameX xl xl2))))))) := Lib.hid (by rw [sameX, sameXL_eq])
  generalize sameX (.mk op nm xn wd v xa xc xl) (.mk op2 nm2 xn2 wd2 v2 xa2 xc2 xl2) = R at *
  clear ih0
  obtain ⟨b1, hb1⟩ : ∃ b, (op == op2) = b := ⟨_, rfl⟩
  obtain ⟨b2, hb2⟩ : ∃ b, (nm == nm2) = b := ⟨_, rfl⟩
  obtain ⟨b3, hb3⟩ : ∃ b, (xn == xn2) = b := ⟨_, rfl⟩
  obtain ⟨b4, hb4⟩ : ∃ b, (wd == wd2) = b := ⟨_, rfl⟩
  obtain ⟨b5, hb5⟩ : ∃ b, ((v : Int) == (v2 : Int)) = b := ⟨_, rfl⟩
  have hb5n : (v == v2) = b5 := by rw [← hb5, Bool.eq_iff_iff, beq_iff_eq, beq_iff_eq]; omega
  obtain ⟨b6, hb6⟩ : ∃ b, eqList sameX xl xl2 = b := ⟨_, rfl⟩
  rw [hb1, hb2, hb3, hb4, hb5, hb6] at HI
  rw [hb6] at c0
  clear hb6
  simp only [XT.val, XT.cells]
  go_enter Tryz.func19, Tryz.ntmps19
  go_upto_region 1 with (fail)
  have BX : (w.alloc (.cells #[.int .i64 op, .string (bs nm), .int .i64 xn, .int .i64 wd, .int .u64 (v : Int), .slice xa xl.length xc] 25)).heap[w.heap.size]? = some (.cells #[.int .i64 op, .string (bs nm), .int .i64 xn, .int .i64 wd, .int .u64 (v : Int), .slice xa xl.length xc] 25) := World.alloc_heap_new w _
  have BY0 := World.alloc_heap_new (w.alloc (.cells #[.int .i64 op, .string (bs nm), .int .i64 xn, .int .i64 wd, .int .u64 (v : Int), .slice xa xl.length xc] 25)) (.cells #[.int .i64 op2, .string (bs nm2), .int .i64 xn2, .int .i64 wd2, .int .u64 (v2 : Int), .slice xa2 xl2.length xc2] 25)
  have BX2 := block_alloc BX (.cells #[.int .i64 op2, .string (bs nm2), .int .i64 xn2, .int .i64 wd2, .int .u64 (v2 : Int), .slice xa2 xl2.length xc2] 25)
  rw [World.size_alloc] at BY0
  have hB2 : Below w.heap.size w ((w.alloc (.cells #[.int .i64 op, .string (bs nm), .int .i64 xn, .int .i64 wd, .int .u64 (v : Int), .slice xa xl.length xc] 25)).alloc (.cells #[.int .i64 op2, .string (bs nm2), .int .i64 xn2, .int .i64 wd2, .int .u64 (v2 : Int), .slice xa2 xl2.length xc2] 25)) := ((Below.refl _ _).alloc (Nat.le_refl _) _).alloc (by simp) _
  have hk8 := Below.keptTo hB2 hn0
  replace i0 := i0.keep hk8 (fun x _ => XT.In.keep hk8 x)
  replace j0 := j0.keep hk8 (fun x _ => XT.In.keep hk8 x)
  clear hk8 BX
  have hn1 : n0 ≤ ((w.alloc (.cells #[.int .i64 op, .string (bs nm), .int .i64 xn, .int .i64 wd, .int .u64 (v : Int), .slice xa xl.length xc] 25)).alloc (.cells #[.int .i64 op2, .string (bs nm2), .int .i64 xn2, .int .i64 wd2, .int .u64 (v2 : Int), .slice xa2 xl2.length xc2] 25)).heap.size := by simp; omega
  generalize (w.alloc (.cells #[.int .i64 op, .string (bs nm), .int .i64 xn, .int .i64 wd, .int .u64 (v : Int), .slice xa xl.length xc] 25)).alloc (.cells #[.int .i64 op2, .string (bs nm2), .int .i64 xn2, .int .i64 wd2, .int .u64 (v2 : Int), .slice xa2 xl2.length xc2] 25) = w1 at *
  cases b1 with
  | false =>
    obtain ⟨x0, x1, x2, x3, x4, x5⟩ := open6 BX2
    obtain ⟨y0, y1, y2, y3, y4, y5⟩ := open6 BY0
    go_wp2
    go_ret
    exact ⟨by rw [HI.out]; rfl, hB2⟩
  | true =>
    cases b2 with
    | false =>
      obtain ⟨x0, x1, x2, x3, x4, x5⟩ := open6 BX2
      obtain ⟨y0, y1, y2, y3, y4, y5⟩ := open6 BY0
      go_wp2
      go_ret
      exact ⟨by rw [HI.out]; rfl, hB2⟩
    | true =>
      cases b3 with
      | false =>
        obtain ⟨x0, x1, x2, x3, x4, x5⟩ := open6 BX2
        obtain ⟨y0, y1, y2, y3, y4, y5⟩ := open6 BY0
        go_wp2
        go_ret
        exact ⟨by rw [HI.out]; rfl, hB2⟩
      | true =>
        cases b4 with
        | false =>
          obtain ⟨x0, x1, x2, x3, x4, x5⟩ := open6 BX2
          obtain ⟨y0, y1, y2, y3, y4, y5⟩ := open6 BY0
          go_wp2
          go_ret
          exact ⟨by rw [HI.out]; rfl, hB2⟩
        | true =>
          cases b5 with
          | false =>
            obtain ⟨x0, x1, x2, x3, x4, x5⟩ := open6 BX2
            obtain ⟨y0, y1, y2, y3, y4, y5⟩ := open6 BY0
            go_wp2
            go_ret
            exact ⟨by rw [HI.out]; rfl, hB2⟩
          | true =>
            obtain ⟨x0, x1, x2, x3, x4, x5⟩ := open6 BX2
            obtain ⟨y0, y1, y2, y3, y4, y5⟩ := open6 BY0
            go_wp2_with fail
            refine (c0 _ hn1 i0 j0).mono ?_
            rintro e1 w1 ⟨rfl, hb⟩
            clear x0 x1 x2 x3 x4 x5 y0 y1 y2 y3 y4 y5
            replace BX2 := block_kept BX2 hb
            replace BY0 := block_kept BY0 hb
            have hk9 := Below.keptTo hb hn1
            replace i0 := i0.keep hk9 (fun x _ => XT.In.keep hk9 x)
            replace j0 := j0.keep hk9 (fun x _ => XT.In.keep hk9 x)
            replace hn1 := Nat.le_trans hn1 hb.size
            clear hk9
            replace hB2 := hB2.trans (hb.mono hB2.size)
            clear hb
            obtain ⟨x0, x1, x2, x3, x4, x5⟩ := open6 BX2
            obtain ⟨y0, y1, y2, y3, y4, y5⟩ := open6 BY0
            go_wp2
            go_ret
            exact ⟨by rw [HI.out]; rfl, hB2⟩

set_option maxHeartbeats 16000000 in
set_option maxRecDepth 3000000 in
theorem sameS_any : ∀ x : ST, x.bk ≤ 1500000 → ∀ y : ST, y.bk ≤ 1500000 → ∀ (n0 : Nat) (w : World), n0 ≤ w.heap.size → x.In n0 w → y.In n0 w → Calls Tryz.prog 21 #[x.val, y.val] w fun e w' => e = .returned (.bool (sameS x y)) ∧ Below w.heap.size w w' := by
  refine ST.ind ?_
  intro op nm xa xc xl sa sc sl ih0 hbk y hbk2 n0 w hn0 hin hin2
  obtain ⟨op2, nm2, xa2, xc2, xl2, sa2, sc2, sl2⟩ := y
  rw [ST.In_mk] at hin hin2
  simp only [ST.bk] at hbk hbk2
  obtain ⟨i0, i1⟩ := hin
  obtain ⟨j0, j1⟩ := hin2
  have l0 := XT.bkL_len xl
  have l0b := XT.bkL_len xl2
  have l1 := ST.bkL_len sl
  have l1b := ST.bkL_len sl2
  have c0 := fun (w' : World) h1 h2 h3 => eqX_any sameX n0 xl xl2 (by omega) (by omega) (fun u hu v' hv w2 e1 e2 e3 => sameX_any u (by have := XT.bkL_mem hu; omega) v' (by have := XT.bkL_mem hv; omega) n0 w2 e1 e2 e3) xa xc xa2 xc2 w' h1 h2 h3
  have c1 := fun (w' : World) h1 h2 h3 => eqS_any sameS n0 sl sl2 (by omega) (by omega) (fun u hu v' hv w2 e1 e2 e3 => ih0 u hu (by have := ST.bkL_mem hu; omega) v' (by have := ST.bkL_mem hv; omega) n0 w2 e1 e2 e3) sa sc sa2 sc2 w' h1 h2 h3
  have HI : Hid (sameS (.mk op nm xa xc xl sa sc sl) (.mk op2 nm2 xa2 xc2 xl2 sa2 sc2 sl2) = ((op == op2) && ((nm == nm2) && (eqList sameX xl xl2 && (eqList sameS sl sl2))))) := Lib.hid (by rw [sameS, sameSL_eq])
  generalize sameS (.mk op nm xa xc xl sa sc sl) (.mk op2 nm2 xa2 xc2 xl2 sa2 sc2 sl2) = R at *
  clear ih0
  obtain ⟨b1, hb1⟩ : ∃ b, (op == op2) = b := ⟨_, rfl⟩
  obtain ⟨b2, hb2⟩ : ∃ b, (nm == nm2) = b := ⟨_, rfl⟩
  obtain ⟨b3, hb3⟩ : ∃ b, eqList sameX xl xl2 = b := ⟨_, rfl⟩
  obtain ⟨b4, hb4⟩ : ∃ b, eqList sameS sl sl2 = b := ⟨_, rfl⟩
  rw [hb1, hb2, hb3, hb4] at HI
  rw [hb3] at c0
  rw [hb4] at c1
  clear hb3 hb4
  simp only [ST.val, ST.cells]
  go_enter Tryz.func21, Tryz.ntmps21
  go_upto_region 1 with (fail)
  have BX : (w.alloc (.cells #[.int .i64 op, .string (bs nm), .slice xa xl.length xc, .slice sa sl.length sc] 28)).heap[w.heap.size]? = some (.cells #[.int .i64 op, .string (bs nm), .slice xa xl.length xc, .slice sa sl.length sc] 28) := World.alloc_heap_new w _
  have BY0 := World.alloc_heap_new (w.alloc (.cells #[.int .i64 op, .string (bs nm), .slice xa xl.length xc, .slice sa sl.length sc] 28)) (.cells #[.int .i64 op2, .string (bs nm2), .slice xa2 xl2.length xc2, .slice sa2 sl2.length sc2] 28)
  have BX2 := block_alloc BX (.cells #[.int .i64 op2, .string (bs nm2), .slice xa2 xl2.length xc2, .slice sa2 sl2.length sc2] 28)
  rw [World.size_alloc] at BY0
  have hB2 : Below w.heap.size w ((w.alloc (.cells #[.int .i64 op, .string (bs nm), .slice xa xl.length xc, .slice sa sl.length sc] 28)).alloc (.cells #[.int .i64 op2, .string (bs nm2), .slice xa2 xl2.length xc2, .slice sa2 sl2.length sc2] 28)) := ((Below.refl _ _).alloc (Nat.le_refl _) _).alloc (by simp) _
  have hk8 := Below.keptTo hB2 hn0
  replace i0 := i0.keep hk8 (fun x _ => XT.In.keep hk8 x)
  replace j0 := j0.keep hk8 (fun x _ => XT.In.keep hk8 x)
  replace i1 := i1.keep hk8 (fun x _ => ST.In.keep hk8 x)
  replace j1 := j1.keep hk8 (fun x _ => ST.In.keep hk8 x)
  clear hk8 BX
  have hn1 : n0 ≤ ((w.alloc (.cells #[.int .i64 op, .string (bs nm), .slice xa xl.length xc, .slice sa sl.length sc] 28)).alloc (.cells #[.int .i64 op2, .string (bs nm2), .slice xa2 xl2.length xc2, .slice sa2 sl2.length sc2] 28)).heap.size := by simp; omega
  generalize (w.alloc (.cells #[.int .i64 op, .string (bs nm), .slice xa xl.length xc, .slice sa sl.length sc] 28)).alloc (.cells #[.int .i64 op2, .string (bs nm2), .slice xa2 xl2.length xc2, .slice sa2 sl2.length sc2] 28) = w1 at *
  cases b1 with
  | false =>
    obtain ⟨x0, x1, x2, x3⟩ := open4 BX2
    obtain ⟨y0, y1, y2, y3⟩ := open4 BY0
    go_wp2
    go_ret
    exact ⟨by rw [HI.out]; rfl, hB2⟩
  | true =>
    cases b2 with
    | false =>
      obtain ⟨x0, x1, x2, x3⟩ := open4 BX2
      obtain ⟨y0, y1, y2, y3⟩ := open4 BY0
      go_wp2
      go_ret
      exact ⟨by rw [HI.out]; rfl, hB2⟩
    | true =>
      obtain ⟨x0, x1, x2, x3⟩ := open4 BX2
      obtain ⟨y0, y1, y2, y3⟩ := open4 BY0
      go_wp2_with fail
      refine (c0 _ hn1 i0 j0).mono ?_
      rintro e1 w1 ⟨rfl, hb⟩
      clear x0 x1 x2 x3 y0 y1 y2 y3
      replace BX2 := block_kept BX2 hb
      replace BY0 := block_kept BY0 hb
      have hk9 := Below.keptTo hb hn1
      replace i0 := i0.keep hk9 (fun x _ => XT.In.keep hk9 x)
      replace j0 := j0.keep hk9 (fun x _ => XT.In.keep hk9 x)
      replace i1 := i1.keep hk9 (fun x _ => ST.In.keep hk9 x)
      replace j1 := j1.keep hk9 (fun x _ => ST.In.keep hk9 x)
      replace hn1 := Nat.le_trans hn1 hb.size
      clear hk9
      replace hB2 := hB2.trans (hb.mono hB2.size)
      clear hb
      cases b3 with
      | false =>
        obtain ⟨x0, x1, x2, x3⟩ := open4 BX2
        obtain ⟨y0, y1, y2, y3⟩ := open4 BY0
        go_wp2
        go_ret
        exact ⟨by rw [HI.out]; rfl, hB2⟩
      | true =>
        obtain ⟨x0, x1, x2, x3⟩ := open4 BX2
        obtain ⟨y0, y1, y2, y3⟩ := open4 BY0
        go_wp2_with fail
        refine (c1 _ hn1 i1 j1).mono ?_
        rintro e1 w1 ⟨rfl, hb⟩
        clear x0 x1 x2 x3 y0 y1 y2 y3
        replace BX2 := block_kept BX2 hb
        replace BY0 := block_kept BY0 hb
        have hk9 := Below.keptTo hb hn1
        replace i0 := i0.keep hk9 (fun x _ => XT.In.keep hk9 x)
        replace j0 := j0.keep hk9 (fun x _ => XT.In.keep hk9 x)
        replace i1 := i1.keep hk9 (fun x _ => ST.In.keep hk9 x)
        replace j1 := j1.keep hk9 (fun x _ => ST.In.keep hk9 x)
        replace hn1 := Nat.le_trans hn1 hb.size
        clear hk9
        replace hB2 := hB2.trans (hb.mono hB2.size)
        clear hb
        obtain ⟨x0, x1, x2, x3⟩ := open4 BX2
        obtain ⟨y0, y1, y2, y3⟩ := open4 BY0
        go_wp2
        go_ret
        exact ⟨by rw [HI.out]; rfl, hB2⟩

set_option maxHeartbeats 16000000 in
set_option maxRecDepth 3000000 in
theorem sameB_any : ∀ x : BT, x.bk ≤ 1500000 → ∀ y : BT, y.bk ≤ 1500000 → ∀ (n0 : Nat) (w : World), n0 ≤ w.heap.size → x.In n0 w → y.In n0 w → Calls Tryz.prog 102 #[x.val, y.val] w fun e w' => e = .returned (.bool (sameB x y)) ∧ Below w.heap.size w w' := by
  rintro ⟨bn, x⟩ hbk ⟨bn2, x2⟩ hbk2 n0 w hn0 hin hin2
  simp only [BT.bk] at hbk hbk2
  have h0 : x.In n0 w := hin
  have h0b : x2.In n0 w := hin2
  have c0 := fun (w' : World) h1 h2 h3 => sameX_any x (by omega) x2 (by omega) n0 w' h1 h2 h3
  have HI : Hid (sameB ⟨bn, x⟩ ⟨bn2, x2⟩ = ((bn == bn2) && (sameX x x2))) := Lib.hid rfl
  generalize sameB ⟨bn, x⟩ ⟨bn2, x2⟩ = R at *
  obtain ⟨b1, hb1⟩ : ∃ b, (bn == bn2) = b := ⟨_, rfl⟩
  obtain ⟨b2, hb2⟩ : ∃ b, sameX x x2 = b := ⟨_, rfl⟩
  rw [hb1, hb2] at HI
  rw [hb2] at c0
  clear hb2
  obtain ⟨op, nm, xn, wd, v, xa, xc, xl⟩ := x
  obtain ⟨op2, nm2, xn2, wd2, v2, xa2, xc2, xl2⟩ := x2
  simp only [XT.val, XT.cells] at c0
  simp only [BT.val, BT.cells, XT.cells]
  go_enter Tryz.func102, Tryz.ntmps102
  go_upto_region 1 with (fail)
  have BX : (w.alloc (.cells #[.string (bs bn), .int .i64 op, .string (bs nm), .int .i64 xn, .int .i64 wd, .int .u64 (v : Int), .slice xa xl.length xc] 132)).heap[w.heap.size]? = some (.cells #[.string (bs bn), .int .i64 op, .string (bs nm), .int .i64 xn, .int .i64 wd, .int .u64 (v : Int), .slice xa xl.length xc] 132) := World.alloc_heap_new w _
  have BY0 := World.alloc_heap_new (w.alloc (.cells #[.string (bs bn), .int .i64 op, .string (bs nm), .int .i64 xn, .int .i64 wd, .int .u64 (v : Int), .slice xa xl.length xc] 132)) (.cells #[.string (bs bn2), .int .i64 op2, .string (bs nm2), .int .i64 xn2, .int .i64 wd2, .int .u64 (v2 : Int), .slice xa2 xl2.length xc2] 132)
  have BX2 := block_alloc BX (.cells #[.string (bs bn2), .int .i64 op2, .string (bs nm2), .int .i64 xn2, .int .i64 wd2, .int .u64 (v2 : Int), .slice xa2 xl2.length xc2] 132)
  rw [World.size_alloc] at BY0
  have hB2 : Below w.heap.size w ((w.alloc (.cells #[.string (bs bn), .int .i64 op, .string (bs nm), .int .i64 xn, .int .i64 wd, .int .u64 (v : Int), .slice xa xl.length xc] 132)).alloc (.cells #[.string (bs bn2), .int .i64 op2, .string (bs nm2), .int .i64 xn2, .int .i64 wd2, .int .u64 (v2 : Int), .slice xa2 xl2.length xc2] 132)) := ((Below.refl _ _).alloc (Nat.le_refl _) _).alloc (by simp) _
  have hk8 := Below.keptTo hB2 hn0
  replace h0 := XT.In.keep hk8 _ h0
  replace h0b := XT.In.keep hk8 _ h0b
  clear hk8 BX
  have hn1 : n0 ≤ ((w.alloc (.cells #[.string (bs bn), .int .i64 op, .string (bs nm), .int .i64 xn, .int .i64 wd, .int .u64 (v : Int), .slice xa xl.length xc] 132)).alloc (.cells #[.string (bs bn2), .int .i64 op2, .string (bs nm2), .int .i64 xn2, .int .i64 wd2, .int .u64 (v2 : Int), .slice xa2 xl2.length xc2] 132)).heap.size := by simp; omega
  generalize (w.alloc (.cells #[.string (bs bn), .int .i64 op, .string (bs nm), .int .i64 xn, .int .i64 wd, .int .u64 (v : Int), .slice xa xl.length xc] 132)).alloc (.cells #[.string (bs bn2), .int .i64 op2, .string (bs nm2), .int .i64 xn2, .int .i64 wd2, .int .u64 (v2 : Int), .slice xa2 xl2.length xc2] 132) = w1 at *
  cases b1 with
  | false =>
    obtain ⟨x0, x1, x2, x3, x4, x5, x6⟩ := opn7 BX2
    obtain ⟨y0, y1, y2, y3, y4, y5, y6⟩ := opn7 BY0
    go_wp2
    go_ret
    exact ⟨by rw [HI.out]; rfl, hB2⟩
  | true =>
    obtain ⟨x0, x1, x2, x3, x4, x5, x6⟩ := opn7 BX2
    obtain ⟨y0, y1, y2, y3, y4, y5, y6⟩ := opn7 BY0
    go_wp2_with fail
    refine (c0 _ hn1 h0 h0b).mono ?_
    rintro e1 w1 ⟨rfl, hb⟩
    clear x0 x1 x2 x3 x4 x5 x6 y0 y1 y2 y3 y4 y5 y6
    replace BX2 := block_kept BX2 hb
    replace BY0 := block_kept BY0 hb
    have hk9 := Below.keptTo hb hn1
    replace h0 := XT.In.keep hk9 _ h0
    replace h0b := XT.In.keep hk9 _ h0b
    replace hn1 := Nat.le_trans hn1 hb.size
    clear hk9
    replace hB2 := hB2.trans (hb.mono hB2.size)
    clear hb
    obtain ⟨x0, x1, x2, x3, x4, x5, x6⟩ := opn7 BX2
    obtain ⟨y0, y1, y2, y3, y4, y5, y6⟩ := opn7 BY0
    go_wp2
    go_ret
    exact ⟨by rw [HI.out]; rfl, hB2⟩

set_option maxHeartbeats 16000000 in
set_option maxRecDepth 3000000 in
theorem sameP_any : ∀ x : PT, x.bk ≤ 1500000 → ∀ y : PT, y.bk ≤ 1500000 → ∀ (n0 : Nat) (w : World), n0 ≤ w.heap.size → x.In n0 w → y.In n0 w → Calls Tryz.prog 104 #[x.val, y.val] w fun e w' => e = .returned (.bool (sameP x y)) ∧ Below w.heap.size w w' := by
  rintro ⟨bn, po, x⟩ hbk ⟨bn2, po2, x2⟩ hbk2 n0 w hn0 hin hin2
  simp only [PT.bk] at hbk hbk2
  have h0 : x.In n0 w := hin
  have h0b : x2.In n0 w := hin2
  have c0 := fun (w' : World) h1 h2 h3 => sameX_any x (by omega) x2 (by omega) n0 w' h1 h2 h3
  have HI : Hid (sameP ⟨bn, po, x⟩ ⟨bn2, po2, x2⟩ = ((bn == bn2) && ((po == po2) && (sameX x x2)))) := Lib.hid rfl
  generalize sameP ⟨bn, po, x⟩ ⟨bn2, po2, x2⟩ = R at *
  obtain ⟨b1, hb1⟩ : ∃ b, (bn == bn2) = b := ⟨_, rfl⟩
  obtain ⟨b2, hb2⟩ : ∃ b, (po == po2) = b := ⟨_, rfl⟩
  obtain ⟨b3, hb3⟩ : ∃ b, sameX x x2 = b := ⟨_, rfl⟩
  rw [hb1, hb2, hb3] at HI
  rw [hb3] at c0
  clear hb3
  obtain ⟨op, nm, xn, wd, v, xa, xc, xl⟩ := x
  obtain ⟨op2, nm2, xn2, wd2, v2, xa2, xc2, xl2⟩ := x2
  simp only [XT.val, XT.cells] at c0
  simp only [PT.val, PT.cells, XT.cells]
  go_enter Tryz.func104, Tryz.ntmps104
  go_upto_region 1 with (fail)
  have BX : (w.alloc (.cells #[.string (bs bn), .bool po, .int .i64 op, .string (bs nm), .int .i64 xn, .int .i64 wd, .int .u64 (v : Int), .slice xa xl.length xc] 129)).heap[w.heap.size]? = some (.cells #[.string (bs bn), .bool po, .int .i64 op, .string (bs nm), .int .i64 xn, .int .i64 wd, .int .u64 (v : Int), .slice xa xl.length xc] 129) := World.alloc_heap_new w _
  have BY0 := World.alloc_heap_new (w.alloc (.cells #[.string (bs bn), .bool po, .int .i64 op, .string (bs nm), .int .i64 xn, .int .i64 wd, .int .u64 (v : Int), .slice xa xl.length xc] 129)) (.cells #[.string (bs bn2), .bool po2, .int .i64 op2, .string (bs nm2), .int .i64 xn2, .int .i64 wd2, .int .u64 (v2 : Int), .slice xa2 xl2.length xc2] 129)
  have BX2 := block_alloc BX (.cells #[.string (bs bn2), .bool po2, .int .i64 op2, .string (bs nm2), .int .i64 xn2, .int .i64 wd2, .int .u64 (v2 : Int), .slice xa2 xl2.length xc2] 129)
  rw [World.size_alloc] at BY0
  have hB2 : Below w.heap.size w ((w.alloc (.cells #[.string (bs bn), .bool po, .int .i64 op, .string (bs nm), .int .i64 xn, .int .i64 wd, .int .u64 (v : Int), .slice xa xl.length xc] 129)).alloc (.cells #[.string (bs bn2), .bool po2, .int .i64 op2, .string (bs nm2), .int .i64 xn2, .int .i64 wd2, .int .u64 (v2 : Int), .slice xa2 xl2.length xc2] 129)) := ((Below.refl _ _).alloc (Nat.le_refl _) _).alloc (by simp) _
  have hk8 := Below.keptTo hB2 hn0
  replace h0 := XT.In.keep hk8 _ h0
  replace h0b := XT.In.keep hk8 _ h0b
  clear hk8 BX
  have hn1 : n0 ≤ ((w.alloc (.cells #[.string (bs bn), .bool po, .int .i64 op, .string (bs nm), .int .i64 xn, .int .i64 wd, .int .u64 (v : Int), .slice xa xl.length xc] 129)).alloc (.cells #[.string (bs bn2), .bool po2, .int .i64 op2, .string (bs nm2), .int .i64 xn2, .int .i64 wd2, .int .u64 (v2 : Int), .slice xa2 xl2.length xc2] 129)).heap.size := by simp; omega
  generalize (w.alloc (.cells #[.string (bs bn), .bool po, .int .i64 op, .string (bs nm), .int .i64 xn, .int .i64 wd, .int .u64 (v : Int), .slice xa xl.length xc] 129)).alloc (.cells #[.string (bs bn2), .bool po2, .int .i64 op2, .string (bs nm2), .int .i64 xn2, .int .i64 wd2, .int .u64 (v2 : Int), .slice xa2 xl2.length xc2] 129) = w1 at *
  cases b1 with
  | false =>
    obtain ⟨x0, x1, x2, x3, x4, x5, x6, x7⟩ := opn8 BX2
    obtain ⟨y0, y1, y2, y3, y4, y5, y6, y7⟩ := opn8 BY0
    go_wp2
    go_ret
    exact ⟨by rw [HI.out]; rfl, hB2⟩
  | true =>
    cases b2 with
    | false =>
      obtain ⟨x0, x1, x2, x3, x4, x5, x6, x7⟩ := opn8 BX2
      obtain ⟨y0, y1, y2, y3, y4, y5, y6, y7⟩ := opn8 BY0
      go_wp2
      go_ret
      exact ⟨by rw [HI.out]; rfl, hB2⟩
    | true =>
      obtain ⟨x0, x1, x2, x3, x4, x5, x6, x7⟩ := opn8 BX2
      obtain ⟨y0, y1, y2, y3, y4, y5, y6, y7⟩ := opn8 BY0
      go_wp2_with fail
      refine (c0 _ hn1 h0 h0b).mono ?_
      rintro e1 w1 ⟨rfl, hb⟩
      clear x0 x1 x2 x3 x4 x5 x6 x7 y0 y1 y2 y3 y4 y5 y6 y7
      replace BX2 := block_kept BX2 hb
      replace BY0 := block_kept BY0 hb
      have hk9 := Below.keptTo hb hn1
      replace h0 := XT.In.keep hk9 _ h0
      replace h0b := XT.In.keep hk9 _ h0b
      replace hn1 := Nat.le_trans hn1 hb.size
      clear hk9
      replace hB2 := hB2.trans (hb.mono hB2.size)
      clear hb
      obtain ⟨x0, x1, x2, x3, x4, x5, x6, x7⟩ := opn8 BX2
      obtain ⟨y0, y1, y2, y3, y4, y5, y6, y7⟩ := opn8 BY0
      go_wp2
      go_ret
      exact ⟨by rw [HI.out]; rfl, hB2⟩

set_option maxHeartbeats 16000000 in
set_option maxRecDepth 3000000 in
theorem sameI_any : ∀ x : IT, x.bk ≤ 1500000 → ∀ y : IT, y.bk ≤ 1500000 → ∀ (n0 : Nat) (w : World), n0 ≤ w.heap.size → x.In n0 w → y.In n0 w → Calls Tryz.prog 106 #[x.val, y.val] w fun e w' => e = .returned (.bool (sameI x y)) ∧ Below w.heap.size w w' := by
  refine IT.ind ?_
  intro op nm nf xa xc xl sa sc sl la lc ll ea ec el pa pc pl ba bc bl ih0 ih1 hbk y hbk2 n0 w hn0 hin hin2
  obtain ⟨op2, nm2, nf2, xa2, xc2, xl2, sa2, sc2, sl2, la2, lc2, ll2, ea2, ec2, el2, pa2, pc2, pl2, ba2, bc2, bl2⟩ := y
  rw [IT.In_mk] at hin hin2
  simp only [IT.bk] at hbk hbk2
  obtain ⟨i0, i1, i2, i3, i4, i5⟩ := hin
  obtain ⟨j0, j1, j2, j3, j4, j5⟩ := hin2
  have l0 := XT.bkL_len xl
  have l0b := XT.bkL_len xl2
  have l1 := ST.bkL_len sl
  have l1b := ST.bkL_len sl2
  have l2 := IT.bkL_len ll
  have l2b := IT.bkL_len ll2
  have l3 := IT.bkL_len el
  have l3b := IT.bkL_len el2
  have l4 := BT.bkL_len pl
  have l4b := BT.bkL_len pl2
  have l5 := BT.bkL_len bl
  have l5b := BT.bkL_len bl2
  have c0 := fun (w' : World) h1 h2 h3 => eqX_any sameX n0 xl xl2 (by omega) (by omega) (fun u hu v' hv w2 e1 e2 e3 => sameX_any u (by have := XT.bkL_mem hu; omega) v' (by have := XT.bkL_mem hv; omega) n0 w2 e1 e2 e3) xa xc xa2 xc2 w' h1 h2 h3
  have c1 := fun (w' : World) h1 h2 h3 => eqS_any sameS n0 sl sl2 (by omega) (by omega) (fun u hu v' hv w2 e1 e2 e3 => sameS_any u (by have := ST.bkL_mem hu; omega) v' (by have := ST.bkL_mem hv; omega) n0 w2 e1 e2 e3) sa sc sa2 sc2 w' h1 h2 h3
  have c2 := fun (w' : World) h1 h2 h3 => eqI_any sameI n0 ll ll2 (by omega) (by omega) (fun u hu v' hv w2 e1 e2 e3 => ih0 u hu (by have := IT.bkL_mem hu; omega) v' (by have := IT.bkL_mem hv; omega) n0 w2 e1 e2 e3) la lc la2 lc2 w' h1 h2 h3
  have c3 := fun (w' : World) h1 h2 h3 => eqI_any sameI n0 el el2 (by omega) (by omega) (fun u hu v' hv w2 e1 e2 e3 => ih1 u hu (by have := IT.bkL_mem hu; omega) v' (by have := IT.bkL_mem hv; omega) n0 w2 e1 e2 e3) ea ec ea2 ec2 w' h1 h2 h3
  have c4 := fun (w' : World) h1 h2 h3 => eqB_any sameB n0 pl pl2 (by omega) (by omega) (fun u hu v' hv w2 e1 e2 e3 => sameB_any u (by have := BT.bkL_mem hu; omega) v' (by have := BT.bkL_mem hv; omega) n0 w2 e1 e2 e3) pa pc pa2 pc2 w' h1 h2 h3
  have c5 := fun (w' : World) h1 h2 h3 => eqB_any sameB n0 bl bl2 (by omega) (by omega) (fun u hu v' hv w2 e1 e2 e3 => sameB_any u (by have := BT.bkL_mem hu; omega) v' (by have := BT.bkL_mem hv; omega) n0 w2 e1 e2 e3) ba bc ba2 bc2 w' h1 h2 h3
  have HI : Hid (sameI (.mk op nm nf xa xc xl sa sc sl la lc ll ea ec el pa pc pl ba bc bl) (.mk op2 nm2 nf2 xa2 xc2 xl2 sa2 sc2 sl2 la2 lc2 ll2 ea2 ec2 el2 pa2 pc2 pl2 ba2 bc2 bl2) = ((op == op2) && ((nm == nm2) && ((nf == nf2) && (eqList sameX xl xl2 && (eqList sameS sl sl2 && (eqList sameI ll ll2 && (eqList sameI el el2 && (eqList sameB pl pl2 && (eqList sameB bl bl2)))))))))) := Lib.hid (by rw [sameI, sameIL_eq, sameIL_eq])
  generalize sameI (.mk op nm nf xa xc xl sa sc sl la lc ll ea ec el pa pc pl ba bc bl) (.mk op2 nm2 nf2 xa2 xc2 xl2 sa2 sc2 sl2 la2 lc2 ll2 ea2 ec2 el2 pa2 pc2 pl2 ba2 bc2 bl2) = R at *
  clear ih0 ih1
  obtain ⟨b1, hb1⟩ : ∃ b, (op == op2) = b := ⟨_, rfl⟩
  obtain ⟨b2, hb2⟩ : ∃ b, (nm == nm2) = b := ⟨_, rfl⟩
  obtain ⟨b3, hb3⟩ : ∃ b, (nf == nf2) = b := ⟨_, rfl⟩
  obtain ⟨b4, hb4⟩ : ∃ b, eqList sameX xl xl2 = b := ⟨_, rfl⟩
  obtain ⟨b5, hb5⟩ : ∃ b, eqList sameS sl sl2 = b := ⟨_, rfl⟩
  obtain ⟨b6, hb6⟩ : ∃ b, eqList sameI ll ll2 = b := ⟨_, rfl⟩
  obtain ⟨b7, hb7⟩ : ∃ b, eqList sameI el el2 = b := ⟨_, rfl⟩
  obtain ⟨b8, hb8⟩ : ∃ b, eqList sameB pl pl2 = b := ⟨_, rfl⟩
  obtain ⟨b9, hb9⟩ : ∃ b, eqList sameB bl bl2 = b := ⟨_, rfl⟩
  rw [hb1, hb2, hb3, hb4, hb5, hb6, hb7, hb8, hb9] at HI
  rw [hb4] at c0
  rw [hb5] at c1
  rw [hb6] at c2
  rw [hb7] at c3
  rw [hb8] at c4
  rw [hb9] at c5
  clear hb4 hb5 hb6 hb7 hb8 hb9
  simp only [IT.val, IT.cells]
  go_enter Tryz.func106, Tryz.ntmps106
  go_upto_region 1 with (fail)
  have BX : (w.alloc (.cells #[.int .i64 op, .string (bs nm), .string (bs nf), .slice xa xl.length xc, .slice sa sl.length sc, .slice la ll.length lc, .slice ea el.length ec, .slice pa pl.length pc, .slice ba bl.length bc] 60)).heap[w.heap.size]? = some (.cells #[.int .i64 op, .string (bs nm), .string (bs nf), .slice xa xl.length xc, .slice sa sl.length sc, .slice la ll.length lc, .slice ea el.length ec, .slice pa pl.length pc, .slice ba bl.length bc] 60) := World.alloc_heap_new w _
  have BY0 := World.alloc_heap_new (w.alloc (.cells #[.int .i64 op, .string (bs nm), .string (bs nf), .slice xa xl.length xc, .slice sa sl.length sc, .slice la ll.length lc, .slice ea el.length ec, .slice pa pl.length pc, .slice ba bl.length bc] 60)) (.cells #[.int .i64 op2, .string (bs nm2), .string (bs nf2), .slice xa2 xl2.length xc2, .slice sa2 sl2.length sc2, .slice la2 ll2.length lc2, .slice ea2 el2.length ec2, .slice pa2 pl2.length pc2, .slice ba2 bl2.length bc2] 60)
  have BX2 := block_alloc BX (.cells #[.int .i64 op2, .string (bs nm2), .string (bs nf2), .slice xa2 xl2.length xc2, .slice sa2 sl2.length sc2, .slice la2 ll2.length lc2, .slice ea2 el2.length ec2, .slice pa2 pl2.length pc2, .slice ba2 bl2.length bc2] 60)
  rw [World.size_alloc] at BY0
  have hB2 : Below w.heap.size w ((w.alloc (.cells #[.int .i64 op, .string (bs nm), .string (bs nf), .slice xa xl.length xc, .slice sa sl.length sc, .slice la ll.length lc, .slice ea el.length ec, .slice pa pl.length pc, .slice ba bl.length bc] 60)).alloc (.cells #[.int .i64 op2, .string (bs nm2), .string (bs nf2), .slice xa2 xl2.length xc2, .slice sa2 sl2.length sc2, .slice la2 ll2.length lc2, .slice ea2 el2.length ec2, .slice pa2 pl2.length pc2, .slice ba2 bl2.length bc2] 60)) := ((Below.refl _ _).alloc (Nat.le_refl _) _).alloc (by simp) _
  have hk8 := Below.keptTo hB2 hn0
  replace i0 := i0.keep hk8 (fun x _ => XT.In.keep hk8 x)
  replace j0 := j0.keep hk8 (fun x _ => XT.In.keep hk8 x)
  replace i1 := i1.keep hk8 (fun x _ => ST.In.keep hk8 x)
  replace j1 := j1.keep hk8 (fun x _ => ST.In.keep hk8 x)
  replace i2 := i2.keep hk8 (fun x _ => IT.In.keep hk8 x)
  replace j2 := j2.keep hk8 (fun x _ => IT.In.keep hk8 x)
  replace i3 := i3.keep hk8 (fun x _ => IT.In.keep hk8 x)
  replace j3 := j3.keep hk8 (fun x _ => IT.In.keep hk8 x)
  replace i4 := i4.keep hk8 (fun x _ => BT.In.keep hk8 x)
  replace j4 := j4.keep hk8 (fun x _ => BT.In.keep hk8 x)
  replace i5 := i5.keep hk8 (fun x _ => BT.In.keep hk8 x)
  replace j5 := j5.keep hk8 (fun x _ => BT.In.keep hk8 x)
  clear hk8 BX
  have hn1 : n0 ≤ ((w.alloc (.cells #[.int .i64 op, .string (bs nm), .string (bs nf), .slice xa xl.length xc, .slice sa sl.length sc, .slice la ll.length lc, .slice ea el.length ec, .slice pa pl.length pc, .slice ba bl.length bc] 60)).alloc (.cells #[.int .i64 op2, .string (bs nm2), .string (bs nf2), .slice xa2 xl2.length xc2, .slice sa2 sl2.length sc2, .slice la2 ll2.length lc2, .slice ea2 el2.length ec2, .slice pa2 pl2.length pc2, .slice ba2 bl2.length bc2] 60)).heap.size := by simp; omega
  generalize (w.alloc (.cells #[.int .i64 op, .string (bs nm), .string (bs nf), .slice xa xl.length xc, .slice sa sl.length sc, .slice la ll.length lc, .slice ea el.length ec, .slice pa pl.length pc, .slice ba bl.length bc] 60)).alloc (.cells #[.int .i64 op2, .string (bs nm2), .string (bs nf2), .slice xa2 xl2.length xc2, .slice sa2 sl2.length sc2, .slice la2 ll2.length lc2, .slice ea2 el2.length ec2, .slice pa2 pl2.length pc2, .slice ba2 bl2.length bc2] 60) = w1 at *
  cases b1 with
  | false =>
    obtain ⟨x0, x1, x2, x3, x4, x5, x6, x7, x8⟩ := opn9 BX2
    obtain ⟨y0, y1, y2, y3, y4, y5, y6, y7, y8⟩ := opn9 BY0
    go_wp2
    go_ret
    exact ⟨by rw [HI.out]; rfl, hB2⟩
  | true =>
    cases b2 with
    | false =>
      obtain ⟨x0, x1, x2, x3, x4, x5, x6, x7, x8⟩ := opn9 BX2
      obtain ⟨y0, y1, y2, y3, y4, y5, y6, y7, y8⟩ := opn9 BY0
      go_wp2
      go_ret
      exact ⟨by rw [HI.out]; rfl, hB2⟩
    | true =>
      cases b3 with
      | false =>
        obtain ⟨x0, x1, x2, x3, x4, x5, x6, x7, x8⟩ := opn9 BX2
        obtain ⟨y0, y1, y2, y3, y4, y5, y6, y7, y8⟩ := opn9 BY0
        go_wp2
        go_ret
        exact ⟨by rw [HI.out]; rfl, hB2⟩
      | true =>
        obtain ⟨x0, x1, x2, x3, x4, x5, x6, x7, x8⟩ := opn9 BX2
        obtain ⟨y0, y1, y2, y3, y4, y5, y6, y7, y8⟩ := opn9 BY0
        go_wp2_with fail
        refine (c0 _ hn1 i0 j0).mono ?_
        rintro e1 w1 ⟨rfl, hb⟩
        clear x0 x1 x2 x3 x4 x5 x6 x7 x8 y0 y1 y2 y3 y4 y5 y6 y7 y8
        replace BX2 := block_kept BX2 hb
        replace BY0 := block_kept BY0 hb
        have hk9 := Below.keptTo hb hn1
        replace i0 := i0.keep hk9 (fun x _ => XT.In.keep hk9 x)
        replace j0 := j0.keep hk9 (fun x _ => XT.In.keep hk9 x)
        replace i1 := i1.keep hk9 (fun x _ => ST.In.keep hk9 x)
        replace j1 := j1.keep hk9 (fun x _ => ST.In.keep hk9 x)
        replace i2 := i2.keep hk9 (fun x _ => IT.In.keep hk9 x)
        replace j2 := j2.keep hk9 (fun x _ => IT.In.keep hk9 x)
        replace i3 := i3.keep hk9 (fun x _ => IT.In.keep hk9 x)
        replace j3 := j3.keep hk9 (fun x _ => IT.In.keep hk9 x)
        replace i4 := i4.keep hk9 (fun x _ => BT.In.keep hk9 x)
        replace j4 := j4.keep hk9 (fun x _ => BT.In.keep hk9 x)
        replace i5 := i5.keep hk9 (fun x _ => BT.In.keep hk9 x)
        replace j5 := j5.keep hk9 (fun x _ => BT.In.keep hk9 x)
        replace hn1 := Nat.le_trans hn1 hb.size
        clear hk9
        replace hB2 := hB2.trans (hb.mono hB2.size)
        clear hb
        cases b4 with
        | false =>
          obtain ⟨x0, x1, x2, x3, x4, x5, x6, x7, x8⟩ := opn9 BX2
          obtain ⟨y0, y1, y2, y3, y4, y5, y6, y7, y8⟩ := opn9 BY0
          go_wp2
          go_ret
          exact ⟨by rw [HI.out]; rfl, hB2⟩
        | true =>
          obtain ⟨x0, x1, x2, x3, x4, x5, x6, x7, x8⟩ := opn9 BX2
          obtain ⟨y0, y1, y2, y3, y4, y5, y6, y7, y8⟩ := opn9 BY0
          go_wp2_with fail
          refine (c1 _ hn1 i1 j1).mono ?_
          rintro e1 w1 ⟨rfl, hb⟩
          clear x0 x1 x2 x3 x4 x5 x6 x7 x8 y0 y1 y2 y3 y4 y5 y6 y7 y8
          replace BX2 := block_kept BX2 hb
          replace BY0 := block_kept BY0 hb
          have hk9 := Below.keptTo hb hn1
          replace i0 := i0.keep hk9 (fun x _ => XT.In.keep hk9 x)
          replace j0 := j0.keep hk9 (fun x _ => XT.In.keep hk9 x)
          replace i1 := i1.keep hk9 (fun x _ => ST.In.keep hk9 x)
          replace j1 := j1.keep hk9 (fun x _ => ST.In.keep hk9 x)
          replace i2 := i2.keep hk9 (fun x _ => IT.In.keep hk9 x)
          replace j2 := j2.keep hk9 (fun x _ => IT.In.keep hk9 x)
          replace i3 := i3.keep hk9 (fun x _ => IT.In.keep hk9 x)
          replace j3 := j3.keep hk9 (fun x _ => IT.In.keep hk9 x)
          replace i4 := i4.keep hk9 (fun x _ => BT.In.keep hk9 x)
          replace j4 := j4.keep hk9 (fun x _ => BT.In.keep hk9 x)
          replace i5 := i5.keep hk9 (fun x _ => BT.In.keep hk9 x)
          replace j5 := j5.keep hk9 (fun x _ => BT.In.keep hk9 x)
          replace hn1 := Nat.le_trans hn1 hb.size
          clear hk9
          replace hB2 := hB2.trans (hb.mono hB2.size)
          clear hb
          cases b5 with
          | false =>
            obtain ⟨x0, x1, x2, x3, x4, x5, x6, x7, x8⟩ := opn9 BX2
            obtain ⟨y0, y1, y2, y3, y4, y5, y6, y7, y8⟩ := opn9 BY0
            go_wp2
            go_ret
            exact ⟨by rw [HI.out]; rfl, hB2⟩
          | true =>
            obtain ⟨x0, x1, x2, x3, x4, x5, x6, x7, x8⟩ := opn9 BX2
            obtain ⟨y0, y1, y2, y3, y4, y5, y6, y7, y8⟩ := opn9 BY0
            go_wp2_with fail
            refine (c2 _ hn1 i2 j2).mono ?_
            rintro e1 w1 ⟨rfl, hb⟩
            clear x0 x1 x2 x3 x4 x5 x6 x7 x8 y0 y1 y2 y3 y4 y5 y6 y7 y8
            replace BX2 := block_kept BX2 hb
            replace BY0 := block_kept BY0 hb
            have hk9 := Below.keptTo hb hn1
            replace i0 := i0.keep hk9 (fun x _ => XT.In.keep hk9 x)
            replace j0 := j0.keep hk9 (fun x _ => XT.In.keep hk9 x)
            replace i1 := i1.keep hk9 (fun x _ => ST.In.keep hk9 x)
            replace j1 := j1.keep hk9 (fun x _ => ST.In.keep hk9 x)
            replace i2 := i2.keep hk9 (fun x _ => IT.In.keep hk9 x)
            replace j2 := j2.keep hk9 (fun x _ => IT.In.keep hk9 x)
            replace i3 := i3.keep hk9 (fun x _ => IT.In.keep hk9 x)
            replace j3 := j3.keep hk9 (fun x _ => IT.In.keep hk9 x)
            replace i4 := i4.keep hk9 (fun x _ => BT.In.keep hk9 x)
            replace j4 := j4.keep hk9 (fun x _ => BT.In.keep hk9 x)
            replace i5 := i5.keep hk9 (fun x _ => BT.In.keep hk9 x)
            replace j5 := j5.keep hk9 (fun x _ => BT.In.keep hk9 x)
            replace hn1 := Nat.le_trans hn1 hb.size
            clear hk9
            replace hB2 := hB2.trans (hb.mono hB2.size)
            clear hb
            cases b6 with
            | false =>
              obtain ⟨x0, x1, x2, x3, x4, x5, x6, x7, x8⟩ := opn9 BX2
              obtain ⟨y0, y1, y2, y3, y4, y5, y6, y7, y8⟩ := opn9 BY0
              go_wp2
              go_ret
              exact ⟨by rw [HI.out]; rfl, hB2⟩
            | true =>
              obtain ⟨x0, x1, x2, x3, x4, x5, x6, x7, x8⟩ := opn9 BX2
              obtain ⟨y0, y1, y2, y3, y4, y5, y6, y7, y8⟩ := opn9 BY0
              go_wp2_with fail
              refine (c3 _ hn1 i3 j3).mono ?_
              rintro e1 w1 ⟨rfl, hb⟩
              clear x0 x1 x2 x3 x4 x5 x6 x7 x8 y0 y1 y2 y3 y4 y5 y6 y7 y8
              replace BX2 := block_kept BX2 hb
              replace BY0 := block_kept BY0 hb
              have hk9 := Below.keptTo hb hn1
              replace i0 := i0.keep hk9 (fun x _ => XT.In.keep hk9 x)
              replace j0 := j0.keep hk9 (fun x _ => XT.In.keep hk9 x)
              replace i1 := i1.keep hk9 (fun x _ => ST.In.keep hk9 x)
              replace j1 := j1.keep hk9 (fun x _ => ST.In.keep hk9 x)
              replace i2 := i2.keep hk9 (fun x _ => IT.In.keep hk9 x)
              replace j2 := j2.keep hk9 (fun x _ => IT.In.keep hk9 x)
              replace i3 := i3.keep hk9 (fun x _ => IT.In.keep hk9 x)
              replace j3 := j3.keep hk9 (fun x _ => IT.In.keep hk9 x)
              replace i4 := i4.keep hk9 (fun x _ => BT.In.keep hk9 x)
              replace j4 := j4.keep hk9 (fun x _ => BT.In.keep hk9 x)
              replace i5 := i5.keep hk9 (fun x _ => BT.In.keep hk9 x)
              replace j5 := j5.keep hk9 (fun x _ => BT.In.keep hk9 x)
              replace hn1 := Nat.le_trans hn1 hb.size
              clear hk9
              replace hB2 := hB2.trans (hb.mono hB2.size)
              clear hb
              cases b7 with
              | false =>
                obtain ⟨x0, x1, x2, x3, x4, x5, x6, x7, x8⟩ := opn9 BX2
                obtain ⟨y0, y1, y2, y3, y4, y5, y6, y7, y8⟩ := opn9 BY0
                go_wp2
                go_ret
                exact ⟨by rw [HI.out]; rfl, hB2⟩
              | true =>
                obtain ⟨x0, x1, x2, x3, x4, x5, x6, x7, x8⟩ := opn9 BX2
                obtain ⟨y0, y1, y2, y3, y4, y5, y6, y7, y8⟩ := opn9 BY0
                go_wp2_with fail
                refine (c4 _ hn1 i4 j4).mono ?_
                rintro e1 w1 ⟨rfl, hb⟩
                clear x0 x1 x2 x3 x4 x5 x6 x7 x8 y0 y1 y2 y3 y4 y5 y6 y7 y8
                replace BX2 := block_kept BX2 hb
                replace BY0 := block_kept BY0 hb
                have hk9 := Below.keptTo hb hn1
                replace i0 := i0.keep hk9 (fun x _ => XT.In.keep hk9 x)
                replace j0 := j0.keep hk9 (fun x _ => XT.In.keep hk9 x)
                replace i1 := i1.keep hk9 (fun x _ => ST.In.keep hk9 x)
                replace j1 := j1.keep hk9 (fun x _ => ST.In.keep hk9 x)
                replace i2 := i2.keep hk9 (fun x _ => IT.In.keep hk9 x)
                replace j2 := j2.keep hk9 (fun x _ => IT.In.keep hk9 x)
                replace i3 := i3.keep hk9 (fun x _ => IT.In.keep hk9 x)
                replace j3 := j3.keep hk9 (fun x _ => IT.In.keep hk9 x)
                replace i4 := i4.keep hk9 (fun x _ => BT.In.keep hk9 x)
                replace j4 := j4.keep hk9 (fun x _ => BT.In.keep hk9 x)
                replace i5 := i5.keep hk9 (fun x _ => BT.In.keep hk9 x)
                replace j5 := j5.keep hk9 (fun x _ => BT.In.keep hk9 x)
                replace hn1 := Nat.le_trans hn1 hb.size
                clear hk9
                replace hB2 := hB2.trans (hb.mono hB2.size)
                clear hb
                cases b8 with
                | false =>
                  obtain ⟨x0, x1, x2, x3, x4, x5, x6, x7, x8⟩ := opn9 BX2
                  obtain ⟨y0, y1, y2, y3, y4, y5, y6, y7, y8⟩ := opn9 BY0
                  go_wp2
                  go_ret
                  exact ⟨by rw [HI.out]; rfl, hB2⟩
                | true =>
                  obtain ⟨x0, x1, x2, x3, x4, x5, x6, x7, x8⟩ := opn9 BX2
                  obtain ⟨y0, y1, y2, y3, y4, y5, y6, y7, y8⟩ := opn9 BY0
                  go_wp2_with fail
                  refine (c5 _ hn1 i5 j5).mono ?_
                  rintro e1 w1 ⟨rfl, hb⟩
                  clear x0 x1 x2 x3 x4 x5 x6 x7 x8 y0 y1 y2 y3 y4 y5 y6 y7 y8
                  replace BX2 := block_kept BX2 hb
                  replace BY0 := block_kept BY0 hb
                  have hk9 := Below.keptTo hb hn1
                  replace i0 := i0.keep hk9 (fun x _ => XT.In.keep hk9 x)
                  replace j0 := j0.keep hk9 (fun x _ => XT.In.keep hk9 x)
                  replace i1 := i1.keep hk9 (fun x _ => ST.In.keep hk9 x)
                  replace j1 := j1.keep hk9 (fun x _ => ST.In.keep hk9 x)
                  replace i2 := i2.keep hk9 (fun x _ => IT.In.keep hk9 x)
                  replace j2 := j2.keep hk9 (fun x _ => IT.In.keep hk9 x)
                  replace i3 := i3.keep hk9 (fun x _ => IT.In.keep hk9 x)
                  replace j3 := j3.keep hk9 (fun x _ => IT.In.keep hk9 x)
                  replace i4 := i4.keep hk9 (fun x _ => BT.In.keep hk9 x)
                  replace j4 := j4.keep hk9 (fun x _ => BT.In.keep hk9 x)
                  replace i5 := i5.keep hk9 (fun x _ => BT.In.keep hk9 x)
                  replace j5 := j5.keep hk9 (fun x _ => BT.In.keep hk9 x)
                  replace hn1 := Nat.le_trans hn1 hb.size
                  clear hk9
                  replace hB2 := hB2.trans (hb.mono hB2.size)
                  clear hb
                  obtain ⟨x0, x1, x2, x3, x4, x5, x6, x7, x8⟩ := opn9 BX2
                  obtain ⟨y0, y1, y2, y3, y4, y5, y6, y7, y8⟩ := opn9 BY0
                  go_wp2
                  go_ret
                  exact ⟨by rw [HI.out]; rfl, hB2⟩

set_option maxHeartbeats 16000000 in
set_option maxRecDepth 3000000 in
theorem sameM_any : ∀ x : MT, x.bk ≤ 1500000 → ∀ y : MT, y.bk ≤ 1500000 → ∀ (n0 : Nat) (w : World), n0 ≤ w.heap.size → x.In n0 w → y.In n0 w → Calls Tryz.prog 55 #[x.val, y.val] w fun e w' => e = .returned (.bool (sameM x y)) ∧ Below w.heap.size w w' := by
  rintro ⟨nm, pa, pc, pl, ta, tc, tl, ia, ic, il⟩ hbk ⟨nm2, pa2, pc2, pl2, ta2, tc2, tl2, ia2, ic2, il2⟩ hbk2 n0 w hn0 hin hin2
  simp only [MT.bk] at hbk hbk2
  simp only [MT.In] at hin hin2
  obtain ⟨i0, i1, i2⟩ := hin
  obtain ⟨j0, j1, j2⟩ := hin2
  have l0 := BT.bkL_len pl
  have l0b := BT.bkL_len pl2
  have l1 := PT.bkL_len tl
  have l1b := PT.bkL_len tl2
  have l2 := IT.bkL_len il
  have l2b := IT.bkL_len il2
  have c0 := fun (w' : World) h1 h2 h3 => eqB_any sameB n0 pl pl2 (by omega) (by omega) (fun u hu v' hv w2 e1 e2 e3 => sameB_any u (by have := BT.bkL_mem hu; omega) v' (by have := BT.bkL_mem hv; omega) n0 w2 e1 e2 e3) pa pc pa2 pc2 w' h1 h2 h3
  have c1 := fun (w' : World) h1 h2 h3 => eqP_any sameP n0 tl tl2 (by omega) (by omega) (fun u hu v' hv w2 e1 e2 e3 => sameP_any u (by have := PT.bkL_mem hu; omega) v' (by have := PT.bkL_mem hv; omega) n0 w2 e1 e2 e3) ta tc ta2 tc2 w' h1 h2 h3
  have c2 := fun (w' : World) h1 h2 h3 => eqI_any sameI n0 il il2 (by omega) (by omega) (fun u hu v' hv w2 e1 e2 e3 => sameI_any u (by have := IT.bkL_mem hu; omega) v' (by have := IT.bkL_mem hv; omega) n0 w2 e1 e2 e3) ia ic ia2 ic2 w' h1 h2 h3
  have HI : Hid (sameM ⟨nm, pa, pc, pl, ta, tc, tl, ia, ic, il⟩ ⟨nm2, pa2, pc2, pl2, ta2, tc2, tl2, ia2, ic2, il2⟩ = ((nm == nm2) && (eqList sameB pl pl2 && (eqList sameP tl tl2 && (eqList sameI il il2))))) := Lib.hid (by rfl)
  generalize sameM ⟨nm, pa, pc, pl, ta, tc, tl, ia, ic, il⟩ ⟨nm2, pa2, pc2, pl2, ta2, tc2, tl2, ia2, ic2, il2⟩ = R at *
  obtain ⟨b1, hb1⟩ : ∃ b, (nm == nm2) = b := ⟨_, rfl⟩
  obtain ⟨b2, hb2⟩ : ∃ b, eqList sameB pl pl2 = b := ⟨_, rfl⟩
  obtain ⟨b3, hb3⟩ : ∃ b, eqList sameP tl tl2 = b := ⟨_, rfl⟩
  obtain ⟨b4, hb4⟩ : ∃ b, eqList sameI il il2 = b := ⟨_, rfl⟩
  rw [hb1, hb2, hb3, hb4] at HI
  rw [hb2] at c0
  rw [hb3] at c1
  rw [hb4] at c2
  clear hb2 hb3 hb4
  simp only [MT.val, MT.cells]
  go_enter Tryz.func55, Tryz.ntmps55
  go_upto_region 1 with (fail)
  have BX : (w.alloc (.cells #[.string (bs nm), .slice pa pl.length pc, .slice ta tl.length tc, .slice ia il.length ic] 63)).heap[w.heap.size]? = some (.cells #[.string (bs nm), .slice pa pl.length pc, .slice ta tl.length tc, .slice ia il.length ic] 63) := World.alloc_heap_new w _
  have BY0 := World.alloc_heap_new (w.alloc (.cells #[.string (bs nm), .slice pa pl.length pc, .slice ta tl.length tc, .slice ia il.length ic] 63)) (.cells #[.string (bs nm2), .slice pa2 pl2.length pc2, .slice ta2 tl2.length tc2, .slice ia2 il2.length ic2] 63)
  have BX2 := block_alloc BX (.cells #[.string (bs nm2), .slice pa2 pl2.length pc2, .slice ta2 tl2.length tc2, .slice ia2 il2.length ic2] 63)
  rw [World.size_alloc] at BY0
  have hB2 : Below w.heap.size w ((w.alloc (.cells #[.string (bs nm), .slice pa pl.length pc, .slice ta tl.length tc, .slice ia il.length ic] 63)).alloc (.cells #[.string (bs nm2), .slice pa2 pl2.length pc2, .slice ta2 tl2.length tc2, .slice ia2 il2.length ic2] 63)) := ((Below.refl _ _).alloc (Nat.le_refl _) _).alloc (by simp) _
  have hk8 := Below.keptTo hB2 hn0
  replace i0 := i0.keep hk8 (fun x _ => BT.In.keep hk8 x)
  replace j0 := j0.keep hk8 (fun x _ => BT.In.keep hk8 x)
  replace i1 := i1.keep hk8 (fun x _ => PT.In.keep hk8 x)
  replace j1 := j1.keep hk8 (fun x _ => PT.In.keep hk8 x)
  replace i2 := i2.keep hk8 (fun x _ => IT.In.keep hk8 x)
  replace j2 := j2.keep hk8 (fun x _ => IT.In.keep hk8 x)
  clear hk8 BX
  have hn1 : n0 ≤ ((w.alloc (.cells #[.string (bs nm), .slice pa pl.length pc, .slice ta tl.length tc, .slice ia il.length ic] 63)).alloc (.cells #[.string (bs nm2), .slice pa2 pl2.length pc2, .slice ta2 tl2.length tc2, .slice ia2 il2.length ic2] 63)).heap.size := by simp; omega
  generalize (w.alloc (.cells #[.string (bs nm), .slice pa pl.length pc, .slice ta tl.length tc, .slice ia il.length ic] 63)).alloc (.cells #[.string (bs nm2), .slice pa2 pl2.length pc2, .slice ta2 tl2.length tc2, .slice ia2 il2.length ic2] 63) = w1 at *
  cases b1 with
  | false =>
    obtain ⟨x0, x1, x2, x3⟩ := open4 BX2
    obtain ⟨y0, y1, y2, y3⟩ := open4 BY0
    go_wp2
    go_ret
    exact ⟨by rw [HI.out]; rfl, hB2⟩
  | true =>
    obtain ⟨x0, x1, x2, x3⟩ := open4 BX2
    obtain ⟨y0, y1, y2, y3⟩ := open4 BY0
    go_wp2_with fail
    refine (c0 _ hn1 i0 j0).mono ?_
    rintro e1 w1 ⟨rfl, hb⟩
    clear x0 x1 x2 x3 y0 y1 y2 y3
    replace BX2 := block_kept BX2 hb
    replace BY0 := block_kept BY0 hb
    have hk9 := Below.keptTo hb hn1
    replace i0 := i0.keep hk9 (fun x _ => BT.In.keep hk9 x)
    replace j0 := j0.keep hk9 (fun x _ => BT.In.keep hk9 x)
    replace i1 := i1.keep hk9 (fun x _ => PT.In.keep hk9 x)
    replace j1 := j1.keep hk9 (fun x _ => PT.In.keep hk9 x)
    replace i2 := i2.keep hk9 (fun x _ => IT.In.keep hk9 x)
    replace j2 := j2.keep hk9 (fun x _ => IT.In.keep hk9 x)
    replace hn1 := Nat.le_trans hn1 hb.size
    clear hk9
    replace hB2 := hB2.trans (hb.mono hB2.size)
    clear hb
    cases b2 with
    | false =>
      obtain ⟨x0, x1, x2, x3⟩ := open4 BX2
      obtain ⟨y0, y1, y2, y3⟩ := open4 BY0
      go_wp2
      go_ret
      exact ⟨by rw [HI.out]; rfl, hB2⟩
    | true =>
      obtain ⟨x0, x1, x2, x3⟩ := open4 BX2
      obtain ⟨y0, y1, y2, y3⟩ := open4 BY0
      go_wp2_with fail
      refine (c1 _ hn1 i1 j1).mono ?_
      rintro e1 w1 ⟨rfl, hb⟩
      clear x0 x1 x2 x3 y0 y1 y2 y3
      replace BX2 := block_kept BX2 hb
      replace BY0 := block_kept BY0 hb
      have hk9 := Below.keptTo hb hn1
      replace i0 := i0.keep hk9 (fun x _ => BT.In.keep hk9 x)
      replace j0 := j0.keep hk9 (fun x _ => BT.In.keep hk9 x)
      replace i1 := i1.keep hk9 (fun x _ => PT.In.keep hk9 x)
      replace j1 := j1.keep hk9 (fun x _ => PT.In.keep hk9 x)
      replace i2 := i2.keep hk9 (fun x _ => IT.In.keep hk9 x)
      replace j2 := j2.keep hk9 (fun x _ => IT.In.keep hk9 x)
      replace hn1 := Nat.le_trans hn1 hb.size
      clear hk9
      replace hB2 := hB2.trans (hb.mono hB2.size)
      clear hb
      cases b3 with
      | false =>
        obtain ⟨x0, x1, x2, x3⟩ := open4 BX2
        obtain ⟨y0, y1, y2, y3⟩ := open4 BY0
        go_wp2
        go_ret
        exact ⟨by rw [HI.out]; rfl, hB2⟩
      | true =>
        obtain ⟨x0, x1, x2, x3⟩ := open4 BX2
        obtain ⟨y0, y1, y2, y3⟩ := open4 BY0
        go_wp2_with fail
        refine (c2 _ hn1 i2 j2).mono ?_
        rintro e1 w1 ⟨rfl, hb⟩
        clear x0 x1 x2 x3 y0 y1 y2 y3
        replace BX2 := block_kept BX2 hb
        replace BY0 := block_kept BY0 hb
        have hk9 := Below.keptTo hb hn1
        replace i0 := i0.keep hk9 (fun x _ => BT.In.keep hk9 x)
        replace j0 := j0.keep hk9 (fun x _ => BT.In.keep hk9 x)
        replace i1 := i1.keep hk9 (fun x _ => PT.In.keep hk9 x)
        replace j1 := j1.keep hk9 (fun x _ => PT.In.keep hk9 x)
        replace i2 := i2.keep hk9 (fun x _ => IT.In.keep hk9 x)
        replace j2 := j2.keep hk9 (fun x _ => IT.In.keep hk9 x)
        replace hn1 := Nat.le_trans hn1 hb.size
        clear hk9
        replace hB2 := hB2.trans (hb.mono hB2.size)
        clear hb
        obtain ⟨x0, x1, x2, x3⟩ := open4 BX2
        obtain ⟨y0, y1, y2, y3⟩ := open4 BY0
        go_wp2
        go_ret
        exact ⟨by rw [HI.out]; rfl, hB2⟩
end Go.Proofs.YtlbjmnakiflfpaaGreatDoor
