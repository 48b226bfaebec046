/-
  sized: what an expression is of its own: holds, haveBits, numberFits, bitsFit; noBits of statements; signals.
-/
import Derived.Test.YtbcgeglkmpcnpaaDoorEzC
import Derived.Test.YtbcgeglkmpcnpaaDoorScW
namespace Go.Proofs.YtbcgeglkmpcnpaaDoor
open Go Go.RowKit
set_option linter.unusedVariables false
set_option linter.unusedSimpArgs false
open Go.Sort

def holdsE (w : Int) (v : Nat) : Bool := decide ((Lib.bitLen v : Int) ≤ w)
def numFits (op wd : Int) (v : Nat) : Bool := if op = 1 then (wd == 0 || (isW wd && holdsE wd v)) else if op = 8 then (isW wd && ((v : Int) == 0)) else ((v : Int) == 0)
/-- The width of a signal. -/
def widthOf (gl : List GT) (k : Int) : Int := (gl[k.toNat]?.map GT.wd).getD 0
def haveBitsB (gl : List GT) (k hi lo : Int) : Bool := haveB gl.length k && (decide (0 ≤ lo) && (decide (lo ≤ hi) && decide (hi < widthOf gl k)))
def bitsFitB (gl : List GT) (op sg hi lo : Int) : Bool := if op = 2 then haveBitsB gl sg hi lo else if op = 3 then (haveB gl.length sg && ((hi == 0) && (lo == 0))) else ((sg == 0) && ((hi == 0) && (lo == 0)))
def sigMay (g : GT) : Bool := isW g.wd && (decide (1 ≤ g.kd) && (decide (g.kd ≤ 4) && (((g.ini : Int) == 0) || (g.kd == 4))))
def noBitsB (sg hi lo : Int) : Bool := (sg == 0) && ((hi == 0) && (lo == 0))
def GsIn (n0 : Nat) (w : World) (gl : List GT) (ga : Option Addr) : Prop := InRow 4 GT.cells (fun _ => True) n0 w gl ga
theorem GsIn.keep {n : Nat} {W W' : World} (hk : KeptTo n W W') {gl : List GT} {ga : Option Addr} : GsIn n W gl ga → GsIn n W' gl ga := fun h => InRow.keep hk (fun _ _ h => h) h
theorem ope4 {w : World} {g : Nat} {v0 v1 v2 v3 : Value} {t : TypeId} (h : w.heap[g]? = some (.cells #[v0, v1, v2, v3] t (0, 0))) : w.cell? ⟨g, 0, none⟩ = some v0 ∧ w.cell? ⟨g, 1, none⟩ = some v1 ∧ w.cell? ⟨g, 2, none⟩ = some v2 ∧ w.cell? ⟨g, 3, none⟩ = some v3 := by
  simp [World.cell?, h]
set_option maxHeartbeats 8000000 in
set_option maxRecDepth 100000 in
theorem holds_any (wd : Int) (v : Nat) (hv : v < 18446744073709551616) (W : World) : Calls Tryd.prog 58 #[.int .i64 wd, .int .u64 (v : Int)] W fun e W' => e = .returned (.bool (holdsE wd v)) ∧ W = W' := by
  have hc := Tryd.bits_Len64 (v : Int) W (by omega) (by omega)
  unfold holdsE
  rw [Int.toNat_natCast] at hc
  generalize Lib.bitLen v = L at *
  clear hv
  obtain ⟨b, hb⟩ : ∃ b, decide ((L : Int) ≤ wd) = b := ⟨_, rfl⟩
  rw [hb]
  go_enter Tryd.func58, Tryd.ntmps58
  go_wp2_with fail
  refine hc.mono ?_
  clear hc
  rintro e W1 ⟨rfl, rfl⟩
  go_wp2
  go_ret
  exact ⟨rfl, rfl⟩
set_option maxHeartbeats 8000000 in
set_option maxRecDepth 100000 in
theorem numberFits_any (op wd : Int) (v : Nat) (sg uh ul xn : Int) (xa : Option Addr) (xc : Nat) (xl : List ET) (w : World) (hv : v < 18446744073709551616) : Calls Tryd.prog 50 #[.agg #[.int .i64 op, .int .i64 wd, .int .u64 (v : Int), .int .i64 sg, .int .i64 uh, .int .i64 ul, .int .i64 xn, .slice xa xl.length xc]] w fun e w' => e = .returned (.bool (numFits op wd v)) ∧ Below w.heap.size w w' := by
  obtain ⟨gx, hgx⟩ : ∃ gx, w.heap.size = gx := ⟨_, rfl⟩
  obtain ⟨w1, hw1⟩ : ∃ w1, w.alloc (.cells #[.int .i64 op, .int .i64 wd, .int .u64 (v : Int), .int .i64 sg, .int .i64 uh, .int .i64 ul, .int .i64 xn, .slice xa xl.length xc] 30) = w1 := ⟨_, rfl⟩
  have hb0 : Below w.heap.size w w1 := by rw [← hw1]; exact (Below.refl _ _).alloc (Nat.le_refl _) _
  have BX : w1.heap[gx]? = some (.cells #[.int .i64 op, .int .i64 wd, .int .u64 (v : Int), .int .i64 sg, .int .i64 uh, .int .i64 ul, .int .i64 xn, .slice xa xl.length xc] 30 (0, 0)) := by rw [← hw1, ← hgx]; exact World.alloc_heap_new w _
  obtain ⟨z0, z1, z2, z3, z4, z5, z6, z7⟩ := ope8 BX
  clear BX
  by_cases topE1 : op = 1
  · have eopE10 : (op == 1) = true := by first | (rw [decide_eq_true_eq]; omega) | (rw [decide_eq_false_iff_not]; omega) | (rw [beq_iff_eq]; omega) | (rw [beq_eq_false_iff_ne]; omega)
    have hopE1 := Lib.hid topE1
    clear topE1
    by_cases twdE0 : wd = 0
    · have ewdE00 : (wd == 0) = true := by first | (rw [decide_eq_true_eq]; omega) | (rw [decide_eq_false_iff_not]; omega) | (rw [beq_iff_eq]; omega) | (rw [beq_eq_false_iff_ne]; omega)
      have hwdE0 := Lib.hid twdE0
      clear twdE0
      go_enter Tryd.func50, Tryd.ntmps50
      go_wp2
      (try rw [hw1])
      go_ret
      refine ⟨by simp [*, numFits, hopE1.out, hwdE0.out], ?_⟩
      first | exact hb0 | (rw [hgx] at hb0; exact hb0) | (rw [← hw1] at hb0; exact hb0)
    · have ewdE00 : (wd == 0) = false := by first | (rw [decide_eq_true_eq]; omega) | (rw [decide_eq_false_iff_not]; omega) | (rw [beq_iff_eq]; omega) | (rw [beq_eq_false_iff_ne]; omega)
      have hwdE0 := Lib.hid twdE0
      clear twdE0
      rcases Bool.eq_false_or_eq_true (isW wd) with i1 | i1
      · rcases Bool.eq_false_or_eq_true (holdsE wd v) with i2 | i2
        · go_enter Tryd.func50, Tryd.ntmps50
          go_wp2_with fail
          (try rw [hw1])
          (try rw [hgx])
          refine (isWidth_any wd w1).mono ?_
          rintro e W1 ⟨rfl, rfl⟩
          go_wp2_with fail
          (try rw [hw1])
          (try rw [hgx])
          refine (holds_any wd v hv w1).mono ?_
          rintro e W1 ⟨rfl, rfl⟩
          go_wp2
          go_ret
          refine ⟨by simp [*, numFits, hopE1.out, hwdE0.out], ?_⟩
          first | exact hb0 | (rw [hgx] at hb0; exact hb0) | (rw [← hw1] at hb0; exact hb0)
        · go_enter Tryd.func50, Tryd.ntmps50
          go_wp2_with fail
          (try rw [hw1])
          (try rw [hgx])
          refine (isWidth_any wd w1).mono ?_
          rintro e W1 ⟨rfl, rfl⟩
          go_wp2_with fail
          (try rw [hw1])
          (try rw [hgx])
          refine (holds_any wd v hv w1).mono ?_
          rintro e W1 ⟨rfl, rfl⟩
          go_wp2
          go_ret
          refine ⟨by simp [*, numFits, hopE1.out, hwdE0.out], ?_⟩
          first | exact hb0 | (rw [hgx] at hb0; exact hb0) | (rw [← hw1] at hb0; exact hb0)
      · go_enter Tryd.func50, Tryd.ntmps50
        go_wp2_with fail
        (try rw [hw1])
        (try rw [hgx])
        refine (isWidth_any wd w1).mono ?_
        rintro e W1 ⟨rfl, rfl⟩
        go_wp2
        go_ret
        refine ⟨by simp [*, numFits, hopE1.out, hwdE0.out], ?_⟩
        first | exact hb0 | (rw [hgx] at hb0; exact hb0) | (rw [← hw1] at hb0; exact hb0)
  · have eopE10 : (op == 1) = false := by first | (rw [decide_eq_true_eq]; omega) | (rw [decide_eq_false_iff_not]; omega) | (rw [beq_iff_eq]; omega) | (rw [beq_eq_false_iff_ne]; omega)
    have hopE1 := Lib.hid topE1
    clear topE1
    by_cases topE8 : op = 8
    · have eopE80 : (op == 8) = true := by first | (rw [decide_eq_true_eq]; omega) | (rw [decide_eq_false_iff_not]; omega) | (rw [beq_iff_eq]; omega) | (rw [beq_eq_false_iff_ne]; omega)
      have hopE8 := Lib.hid topE8
      clear topE8
      rcases Bool.eq_false_or_eq_true (isW wd) with i1 | i1
      · by_cases tvE0 : (v : Int) = 0
        · have evE00 : ((v : Int) == 0) = true := by first | (rw [decide_eq_true_eq]; omega) | (rw [decide_eq_false_iff_not]; omega) | (rw [beq_iff_eq]; omega) | (rw [beq_eq_false_iff_ne]; omega)
          have hvE0 := Lib.hid tvE0
          clear tvE0
          go_enter Tryd.func50, Tryd.ntmps50
          go_wp2_with fail
          (try rw [hw1])
          (try rw [hgx])
          refine (isWidth_any wd w1).mono ?_
          rintro e W1 ⟨rfl, rfl⟩
          go_wp2
          go_ret
          refine ⟨by simp [*, numFits, hopE1.out, hopE8.out, hvE0.out], ?_⟩
          first | exact hb0 | (rw [hgx] at hb0; exact hb0) | (rw [← hw1] at hb0; exact hb0)
        · have evE00 : ((v : Int) == 0) = false := by first | (rw [decide_eq_true_eq]; omega) | (rw [decide_eq_false_iff_not]; omega) | (rw [beq_iff_eq]; omega) | (rw [beq_eq_false_iff_ne]; omega)
          have hvE0 := Lib.hid tvE0
          clear tvE0
          go_enter Tryd.func50, Tryd.ntmps50
          go_wp2_with fail
          (try rw [hw1])
          (try rw [hgx])
          refine (isWidth_any wd w1).mono ?_
          rintro e W1 ⟨rfl, rfl⟩
          go_wp2
          go_ret
          refine ⟨by simp [*, numFits, hopE1.out, hopE8.out, hvE0.out], ?_⟩
          first | exact hb0 | (rw [hgx] at hb0; exact hb0) | (rw [← hw1] at hb0; exact hb0)
      · go_enter Tryd.func50, Tryd.ntmps50
        go_wp2_with fail
        (try rw [hw1])
        (try rw [hgx])
        refine (isWidth_any wd w1).mono ?_
        rintro e W1 ⟨rfl, rfl⟩
        go_wp2
        go_ret
        refine ⟨by simp [*, numFits, hopE1.out, hopE8.out], ?_⟩
        first | exact hb0 | (rw [hgx] at hb0; exact hb0) | (rw [← hw1] at hb0; exact hb0)
    · have eopE80 : (op == 8) = false := by first | (rw [decide_eq_true_eq]; omega) | (rw [decide_eq_false_iff_not]; omega) | (rw [beq_iff_eq]; omega) | (rw [beq_eq_false_iff_ne]; omega)
      have hopE8 := Lib.hid topE8
      clear topE8
      by_cases tvE0 : (v : Int) = 0
      · have evE00 : ((v : Int) == 0) = true := by first | (rw [decide_eq_true_eq]; omega) | (rw [decide_eq_false_iff_not]; omega) | (rw [beq_iff_eq]; omega) | (rw [beq_eq_false_iff_ne]; omega)
        have hvE0 := Lib.hid tvE0
        clear tvE0
        go_enter Tryd.func50, Tryd.ntmps50
        go_wp2
        (try rw [hw1])
        go_ret
        refine ⟨by simp [*, numFits, hopE1.out, hopE8.out, hvE0.out], ?_⟩
        first | exact hb0 | (rw [hgx] at hb0; exact hb0) | (rw [← hw1] at hb0; exact hb0)
      · have evE00 : ((v : Int) == 0) = false := by first | (rw [decide_eq_true_eq]; omega) | (rw [decide_eq_false_iff_not]; omega) | (rw [beq_iff_eq]; omega) | (rw [beq_eq_false_iff_ne]; omega)
        have hvE0 := Lib.hid tvE0
        clear tvE0
        go_enter Tryd.func50, Tryd.ntmps50
        go_wp2
        (try rw [hw1])
        go_ret
        refine ⟨by simp [*, numFits, hopE1.out, hopE8.out, hvE0.out], ?_⟩
        first | exact hb0 | (rw [hgx] at hb0; exact hb0) | (rw [← hw1] at hb0; exact hb0)
set_option maxHeartbeats 8000000 in
set_option maxRecDepth 100000 in
theorem noBits_any (op sg uh ul : Int) (xa : Option Addr) (xc : Nat) (xl : List ET) (sa : Option Addr) (sc : Nat) (sl : List TT) (w : World) : Calls Tryd.prog 99 #[.agg #[.int .i64 op, .int .i64 sg, .int .i64 uh, .int .i64 ul, .slice xa xl.length xc, .slice sa sl.length sc]] w fun e w' => e = .returned (.bool (noBitsB sg uh ul)) ∧ Below w.heap.size w w' := by
  obtain ⟨gx, hgx⟩ : ∃ gx, w.heap.size = gx := ⟨_, rfl⟩
  obtain ⟨w1, hw1⟩ : ∃ w1, w.alloc (.cells #[.int .i64 op, .int .i64 sg, .int .i64 uh, .int .i64 ul, .slice xa xl.length xc, .slice sa sl.length sc] 48) = w1 := ⟨_, rfl⟩
  have hb0 : Below w.heap.size w w1 := by rw [← hw1]; exact (Below.refl _ _).alloc (Nat.le_refl _) _
  have BX : w1.heap[gx]? = some (.cells #[.int .i64 op, .int .i64 sg, .int .i64 uh, .int .i64 ul, .slice xa xl.length xc, .slice sa sl.length sc] 48 (0, 0)) := by rw [← hw1, ← hgx]; exact World.alloc_heap_new w _
  obtain ⟨z0, z1, z2, z3, z4, z5⟩ := open6 BX
  clear BX
  by_cases tsgE0 : sg = 0
  · have esgE00 : (sg == 0) = true := by first | (rw [decide_eq_true_eq]; omega) | (rw [decide_eq_false_iff_not]; omega) | (rw [beq_iff_eq]; omega) | (rw [beq_eq_false_iff_ne]; omega)
    have hsgE0 := Lib.hid tsgE0
    clear tsgE0
    by_cases tuhE0 : uh = 0
    · have euhE00 : (uh == 0) = true := by first | (rw [decide_eq_true_eq]; omega) | (rw [decide_eq_false_iff_not]; omega) | (rw [beq_iff_eq]; omega) | (rw [beq_eq_false_iff_ne]; omega)
      have huhE0 := Lib.hid tuhE0
      clear tuhE0
      by_cases tulE0 : ul = 0
      · have eulE00 : (ul == 0) = true := by first | (rw [decide_eq_true_eq]; omega) | (rw [decide_eq_false_iff_not]; omega) | (rw [beq_iff_eq]; omega) | (rw [beq_eq_false_iff_ne]; omega)
        have hulE0 := Lib.hid tulE0
        clear tulE0
        go_enter Tryd.func99, Tryd.ntmps99
        go_wp2
        (try rw [hw1])
        go_ret
        refine ⟨by simp [*, noBitsB, hsgE0.out, huhE0.out, hulE0.out], ?_⟩
        first | exact hb0 | (rw [hgx] at hb0; exact hb0) | (rw [← hw1] at hb0; exact hb0)
      · have eulE00 : (ul == 0) = false := by first | (rw [decide_eq_true_eq]; omega) | (rw [decide_eq_false_iff_not]; omega) | (rw [beq_iff_eq]; omega) | (rw [beq_eq_false_iff_ne]; omega)
        have hulE0 := Lib.hid tulE0
        clear tulE0
        go_enter Tryd.func99, Tryd.ntmps99
        go_wp2
        (try rw [hw1])
        go_ret
        refine ⟨by simp [*, noBitsB, hsgE0.out, huhE0.out, hulE0.out], ?_⟩
        first | exact hb0 | (rw [hgx] at hb0; exact hb0) | (rw [← hw1] at hb0; exact hb0)
    · have euhE00 : (uh == 0) = false := by first | (rw [decide_eq_true_eq]; omega) | (rw [decide_eq_false_iff_not]; omega) | (rw [beq_iff_eq]; omega) | (rw [beq_eq_false_iff_ne]; omega)
      have huhE0 := Lib.hid tuhE0
      clear tuhE0
      go_enter Tryd.func99, Tryd.ntmps99
      go_wp2
      (try rw [hw1])
      go_ret
      refine ⟨by simp [*, noBitsB, hsgE0.out, huhE0.out], ?_⟩
      first | exact hb0 | (rw [hgx] at hb0; exact hb0) | (rw [← hw1] at hb0; exact hb0)
  · have esgE00 : (sg == 0) = false := by first | (rw [decide_eq_true_eq]; omega) | (rw [decide_eq_false_iff_not]; omega) | (rw [beq_iff_eq]; omega) | (rw [beq_eq_false_iff_ne]; omega)
    have hsgE0 := Lib.hid tsgE0
    clear tsgE0
    go_enter Tryd.func99, Tryd.ntmps99
    go_wp2
    (try rw [hw1])
    go_ret
    refine ⟨by simp [*, noBitsB, hsgE0.out], ?_⟩
    first | exact hb0 | (rw [hgx] at hb0; exact hb0) | (rw [← hw1] at hb0; exact hb0)
set_option maxHeartbeats 8000000 in
set_option maxRecDepth 100000 in
theorem mayBeSignal_any (nm : Bytes) (wd kd : Int) (ini : Nat) (w : World) : Calls Tryd.prog 49 #[.agg #[.string (bs nm), .int .i64 wd, .int .i64 kd, .int .u64 (ini : Int)]] w fun e w' => e = .returned (.bool (sigMay ⟨nm, wd, kd, ini⟩)) ∧ Below w.heap.size w w' := by
  obtain ⟨gx, hgx⟩ : ∃ gx, w.heap.size = gx := ⟨_, rfl⟩
  obtain ⟨w1, hw1⟩ : ∃ w1, w.alloc (.cells #[.string (bs nm), .int .i64 wd, .int .i64 kd, .int .u64 (ini : Int)] 71) = w1 := ⟨_, rfl⟩
  have hb0 : Below w.heap.size w w1 := by rw [← hw1]; exact (Below.refl _ _).alloc (Nat.le_refl _) _
  have BX : w1.heap[gx]? = some (.cells #[.string (bs nm), .int .i64 wd, .int .i64 kd, .int .u64 (ini : Int)] 71 (0, 0)) := by rw [← hw1, ← hgx]; exact World.alloc_heap_new w _
  obtain ⟨z0, z1, z2, z3⟩ := ope4 BX
  clear BX
  rcases Bool.eq_false_or_eq_true (isW wd) with i1 | i1
  · by_cases t1Lkd : 1 ≤ kd
    · have e1Lkd0 : decide (1 ≤ kd) = true := by first | (rw [decide_eq_true_eq]; omega) | (rw [decide_eq_false_iff_not]; omega) | (rw [beq_iff_eq]; omega) | (rw [beq_eq_false_iff_ne]; omega)
      have h1Lkd := Lib.hid t1Lkd
      clear t1Lkd
      by_cases tkdL4 : kd ≤ 4
      · have ekdL40 : decide (kd ≤ 4) = true := by first | (rw [decide_eq_true_eq]; omega) | (rw [decide_eq_false_iff_not]; omega) | (rw [beq_iff_eq]; omega) | (rw [beq_eq_false_iff_ne]; omega)
        have hkdL4 := Lib.hid tkdL4
        clear tkdL4
        by_cases tiniE0 : (ini : Int) = 0
        · have einiE00 : ((ini : Int) == 0) = true := by first | (rw [decide_eq_true_eq]; omega) | (rw [decide_eq_false_iff_not]; omega) | (rw [beq_iff_eq]; omega) | (rw [beq_eq_false_iff_ne]; omega)
          have hiniE0 := Lib.hid tiniE0
          clear tiniE0
          go_enter Tryd.func49, Tryd.ntmps49
          go_wp2_with fail
          (try rw [hw1])
          (try rw [hgx])
          refine (isWidth_any wd w1).mono ?_
          rintro e W1 ⟨rfl, rfl⟩
          go_wp2
          go_ret
          refine ⟨by simp [*, sigMay, h1Lkd.out, hkdL4.out, hiniE0.out], ?_⟩
          first | exact hb0 | (rw [hgx] at hb0; exact hb0) | (rw [← hw1] at hb0; exact hb0)
        · have einiE00 : ((ini : Int) == 0) = false := by first | (rw [decide_eq_true_eq]; omega) | (rw [decide_eq_false_iff_not]; omega) | (rw [beq_iff_eq]; omega) | (rw [beq_eq_false_iff_ne]; omega)
          have hiniE0 := Lib.hid tiniE0
          clear tiniE0
          by_cases tkdE4 : kd = 4
          · have ekdE40 : (kd == 4) = true := by first | (rw [decide_eq_true_eq]; omega) | (rw [decide_eq_false_iff_not]; omega) | (rw [beq_iff_eq]; omega) | (rw [beq_eq_false_iff_ne]; omega)
            have hkdE4 := Lib.hid tkdE4
            clear tkdE4
            go_enter Tryd.func49, Tryd.ntmps49
            go_wp2_with fail
            (try rw [hw1])
            (try rw [hgx])
            refine (isWidth_any wd w1).mono ?_
            rintro e W1 ⟨rfl, rfl⟩
            go_wp2
            go_ret
            refine ⟨by simp [*, sigMay, h1Lkd.out, hkdL4.out, hiniE0.out, hkdE4.out], ?_⟩
            first | exact hb0 | (rw [hgx] at hb0; exact hb0) | (rw [← hw1] at hb0; exact hb0)
          · have ekdE40 : (kd == 4) = false := by first | (rw [decide_eq_true_eq]; omega) | (rw [decide_eq_false_iff_not]; omega) | (rw [beq_iff_eq]; omega) | (rw [beq_eq_false_iff_ne]; omega)
            have hkdE4 := Lib.hid tkdE4
            clear tkdE4
            go_enter Tryd.func49, Tryd.ntmps49
            go_wp2_with fail
            (try rw [hw1])
            (try rw [hgx])
            refine (isWidth_any wd w1).mono ?_
            rintro e W1 ⟨rfl, rfl⟩
            go_wp2
            go_ret
            refine ⟨by simp [*, sigMay, h1Lkd.out, hkdL4.out, hiniE0.out, hkdE4.out], ?_⟩
            first | exact hb0 | (rw [hgx] at hb0; exact hb0) | (rw [← hw1] at hb0; exact hb0)
      · have ekdL40 : decide (kd ≤ 4) = false := by first | (rw [decide_eq_true_eq]; omega) | (rw [decide_eq_false_iff_not]; omega) | (rw [beq_iff_eq]; omega) | (rw [beq_eq_false_iff_ne]; omega)
        have hkdL4 := Lib.hid tkdL4
        clear tkdL4
        go_enter Tryd.func49, Tryd.ntmps49
        go_wp2_with fail
        (try rw [hw1])
        (try rw [hgx])
        refine (isWidth_any wd w1).mono ?_
        rintro e W1 ⟨rfl, rfl⟩
        go_wp2
        go_ret
        refine ⟨by simp [*, sigMay, h1Lkd.out, hkdL4.out], ?_⟩
        first | exact hb0 | (rw [hgx] at hb0; exact hb0) | (rw [← hw1] at hb0; exact hb0)
    · have e1Lkd0 : decide (1 ≤ kd) = false := by first | (rw [decide_eq_true_eq]; omega) | (rw [decide_eq_false_iff_not]; omega) | (rw [beq_iff_eq]; omega) | (rw [beq_eq_false_iff_ne]; omega)
      have h1Lkd := Lib.hid t1Lkd
      clear t1Lkd
      go_enter Tryd.func49, Tryd.ntmps49
      go_wp2_with fail
      (try rw [hw1])
      (try rw [hgx])
      refine (isWidth_any wd w1).mono ?_
      rintro e W1 ⟨rfl, rfl⟩
      go_wp2
      go_ret
      refine ⟨by simp [*, sigMay, h1Lkd.out], ?_⟩
      first | exact hb0 | (rw [hgx] at hb0; exact hb0) | (rw [← hw1] at hb0; exact hb0)
  · go_enter Tryd.func49, Tryd.ntmps49
    go_wp2_with fail
    (try rw [hw1])
    (try rw [hgx])
    refine (isWidth_any wd w1).mono ?_
    rintro e W1 ⟨rfl, rfl⟩
    go_wp2
    go_ret
    refine ⟨by simp [*, sigMay], ?_⟩
    first | exact hb0 | (rw [hgx] at hb0; exact hb0) | (rw [← hw1] at hb0; exact hb0)
set_option maxHeartbeats 8000000 in
set_option maxRecDepth 100000 in
theorem haveBits_any (n0 : Nat) (gl : List GT) (ga : Option Addr) (gc : Nat) (k hi lo : Int) (w : World) (hin : GsIn n0 w gl ga) : Calls Tryd.prog 87 #[.slice ga gl.length gc, .int .i64 k, .int .i64 hi, .int .i64 lo] w fun e w' => e = .returned (.bool (haveBitsB gl k hi lo)) ∧ w = w' := by
  have hc := have_any ga gl.length gc k w
  rcases Bool.eq_false_or_eq_true (haveB gl.length k) with i1 | i1
  case inr =>
    rw [i1] at hc
    go_enter Tryd.func87, Tryd.ntmps87
    go_wp2_with fail
    refine hc.mono ?_
    rintro e W1 ⟨rfl, rfl⟩
    go_wp2
    go_ret
    exact ⟨by simp [haveBitsB, i1], rfl⟩
  rw [i1] at hc
  have h1 := i1
  simp only [haveB, Bool.and_eq_true, decide_eq_true_eq] at h1
  obtain ⟨q, rfl⟩ : ∃ q : Nat, k = q := ⟨k.toNat, by omega⟩
  have hq : q < gl.length := by omega
  obtain ⟨b, o, rfl, hb, hr, _⟩ := InRow.at hin hq
  have hwd : widthOf gl (q : Int) = gl[q].wd := by simp [widthOf, hq]
  have HW := Lib.hid hwd
  generalize gl[q] = g at *
  obtain ⟨nm, wd, kd, ini⟩ := g
  have r1 : w.cell? ⟨b, o + q * 4 + 1, none⟩ = some (.int .i64 wd) := hr 1 _ rfl
  have x0 : (0 : Int) ≤ (q : Int) := by omega
  have x1 : (q : Int) < (gl.length : Int) := by omega
  clear hin hr hwd h1
  by_cases t3 : 0 ≤ lo
  · have e3 : decide (0 ≤ lo) = true := by rw [decide_eq_true_eq]; omega
    clear t3
    by_cases t2 : lo ≤ hi
    · have e2 : decide (lo ≤ hi) = true := by rw [decide_eq_true_eq]; omega
      clear t2
      by_cases t1 : hi < wd
      · have e1 : decide (hi < wd) = true := by rw [decide_eq_true_eq]; omega
        clear t1
        go_enter Tryd.func87, Tryd.ntmps87
        go_wp2_with fail
        refine hc.mono ?_
        clear hc
        rintro e W1 ⟨rfl, rfl⟩
        go_wp2
        go_ret
        exact ⟨by simp [haveBitsB, i1, HW.out, *], rfl⟩
      · have e1 : decide (hi < wd) = false := by rw [decide_eq_false_iff_not]; omega
        go_enter Tryd.func87, Tryd.ntmps87
        go_wp2_with fail
        refine hc.mono ?_
        clear hc
        rintro e W1 ⟨rfl, rfl⟩
        go_wp2
        go_ret
        exact ⟨by simp [haveBitsB, i1, HW.out, *], rfl⟩
    · have e2 : decide (lo ≤ hi) = false := by rw [decide_eq_false_iff_not]; omega
      go_enter Tryd.func87, Tryd.ntmps87
      go_wp2_with fail
      refine hc.mono ?_
      clear hc
      rintro e W1 ⟨rfl, rfl⟩
      go_wp2
      go_ret
      exact ⟨by simp [haveBitsB, i1, HW.out, *], rfl⟩
  · have e3 : decide (0 ≤ lo) = false := by rw [decide_eq_false_iff_not]; omega
    go_enter Tryd.func87, Tryd.ntmps87
    go_wp2_with fail
    refine hc.mono ?_
    clear hc
    rintro e W1 ⟨rfl, rfl⟩
    go_wp2
    go_ret
    exact ⟨by simp [haveBitsB, i1, HW.out, *], rfl⟩
set_option maxHeartbeats 8000000 in
set_option maxRecDepth 100000 in
theorem bitsFit_any (n0 : Nat) (gl : List GT) (ga : Option Addr) (gc : Nat) (op wd : Int) (v : Nat) (sg uh ul xn : Int) (xa : Option Addr) (xc : Nat) (xl : List ET) (w : World) (hn0 : n0 ≤ w.heap.size) (hin : GsIn n0 w gl ga) : Calls Tryd.prog 51 #[.slice ga gl.length gc, .agg #[.int .i64 op, .int .i64 wd, .int .u64 (v : Int), .int .i64 sg, .int .i64 uh, .int .i64 ul, .int .i64 xn, .slice xa xl.length xc]] w fun e w' => e = .returned (.bool (bitsFitB gl op sg uh ul)) ∧ Below w.heap.size w w' := by
  obtain ⟨gx, hgx⟩ : ∃ gx, w.heap.size = gx := ⟨_, rfl⟩
  obtain ⟨w1, hw1⟩ : ∃ w1, w.alloc (.cells #[.int .i64 op, .int .i64 wd, .int .u64 (v : Int), .int .i64 sg, .int .i64 uh, .int .i64 ul, .int .i64 xn, .slice xa xl.length xc] 30) = w1 := ⟨_, rfl⟩
  have hb0 : Below w.heap.size w w1 := by rw [← hw1]; exact (Below.refl _ _).alloc (Nat.le_refl _) _
  have BX : w1.heap[gx]? = some (.cells #[.int .i64 op, .int .i64 wd, .int .u64 (v : Int), .int .i64 sg, .int .i64 uh, .int .i64 ul, .int .i64 xn, .slice xa xl.length xc] 30 (0, 0)) := by rw [← hw1, ← hgx]; exact World.alloc_heap_new w _
  obtain ⟨z0, z1, z2, z3, z4, z5, z6, z7⟩ := ope8 BX
  clear BX
  by_cases topE2 : op = 2
  · have eopE20 : (op == 2) = true := by first | (rw [decide_eq_true_eq]; omega) | (rw [decide_eq_false_iff_not]; omega) | (rw [beq_iff_eq]; omega) | (rw [beq_eq_false_iff_ne]; omega)
    have hopE2 := Lib.hid topE2
    clear topE2
    rcases Bool.eq_false_or_eq_true (haveBitsB gl sg uh ul) with i1 | i1
    · go_enter Tryd.func51, Tryd.ntmps51
      go_wp2_with fail
      (try rw [hw1])
      (try rw [hgx])
      refine (haveBits_any n0 gl ga gc sg uh ul w1 (hin.keep (Below.keptTo hb0 hn0))).mono ?_
      rintro e W1 ⟨rfl, rfl⟩
      go_wp2
      go_ret
      refine ⟨by simp [*, bitsFitB, hopE2.out], ?_⟩
      first | exact hb0 | (rw [hgx] at hb0; exact hb0) | (rw [← hw1] at hb0; exact hb0)
    · go_enter Tryd.func51, Tryd.ntmps51
      go_wp2_with fail
      (try rw [hw1])
      (try rw [hgx])
      refine (haveBits_any n0 gl ga gc sg uh ul w1 (hin.keep (Below.keptTo hb0 hn0))).mono ?_
      rintro e W1 ⟨rfl, rfl⟩
      go_wp2
      go_ret
      refine ⟨by simp [*, bitsFitB, hopE2.out], ?_⟩
      first | exact hb0 | (rw [hgx] at hb0; exact hb0) | (rw [← hw1] at hb0; exact hb0)
  · have eopE20 : (op == 2) = false := by first | (rw [decide_eq_true_eq]; omega) | (rw [decide_eq_false_iff_not]; omega) | (rw [beq_iff_eq]; omega) | (rw [beq_eq_false_iff_ne]; omega)
    have hopE2 := Lib.hid topE2
    clear topE2
    by_cases topE3 : op = 3
    · have eopE30 : (op == 3) = true := by first | (rw [decide_eq_true_eq]; omega) | (rw [decide_eq_false_iff_not]; omega) | (rw [beq_iff_eq]; omega) | (rw [beq_eq_false_iff_ne]; omega)
      have hopE3 := Lib.hid topE3
      clear topE3
      rcases Bool.eq_false_or_eq_true (haveB gl.length sg) with i1 | i1
      · by_cases tuhE0 : uh = 0
        · have euhE00 : (uh == 0) = true := by first | (rw [decide_eq_true_eq]; omega) | (rw [decide_eq_false_iff_not]; omega) | (rw [beq_iff_eq]; omega) | (rw [beq_eq_false_iff_ne]; omega)
          have huhE0 := Lib.hid tuhE0
          clear tuhE0
          by_cases tulE0 : ul = 0
          · have eulE00 : (ul == 0) = true := by first | (rw [decide_eq_true_eq]; omega) | (rw [decide_eq_false_iff_not]; omega) | (rw [beq_iff_eq]; omega) | (rw [beq_eq_false_iff_ne]; omega)
            have hulE0 := Lib.hid tulE0
            clear tulE0
            go_enter Tryd.func51, Tryd.ntmps51
            go_wp2_with fail
            (try rw [hw1])
            (try rw [hgx])
            refine (have_any ga gl.length gc sg w1).mono ?_
            rintro e W1 ⟨rfl, rfl⟩
            go_wp2
            go_ret
            refine ⟨by simp [*, bitsFitB, hopE2.out, hopE3.out, huhE0.out, hulE0.out], ?_⟩
            first | exact hb0 | (rw [hgx] at hb0; exact hb0) | (rw [← hw1] at hb0; exact hb0)
          · have eulE00 : (ul == 0) = false := by first | (rw [decide_eq_true_eq]; omega) | (rw [decide_eq_false_iff_not]; omega) | (rw [beq_iff_eq]; omega) | (rw [beq_eq_false_iff_ne]; omega)
            have hulE0 := Lib.hid tulE0
            clear tulE0
            go_enter Tryd.func51, Tryd.ntmps51
            go_wp2_with fail
            (try rw [hw1])
            (try rw [hgx])
            refine (have_any ga gl.length gc sg w1).mono ?_
            rintro e W1 ⟨rfl, rfl⟩
            go_wp2
            go_ret
            refine ⟨by simp [*, bitsFitB, hopE2.out, hopE3.out, huhE0.out, hulE0.out], ?_⟩
            first | exact hb0 | (rw [hgx] at hb0; exact hb0) | (rw [← hw1] at hb0; exact hb0)
        · have euhE00 : (uh == 0) = false := by first | (rw [decide_eq_true_eq]; omega) | (rw [decide_eq_false_iff_not]; omega) | (rw [beq_iff_eq]; omega) | (rw [beq_eq_false_iff_ne]; omega)
          have huhE0 := Lib.hid tuhE0
          clear tuhE0
          go_enter Tryd.func51, Tryd.ntmps51
          go_wp2_with fail
          (try rw [hw1])
          (try rw [hgx])
          refine (have_any ga gl.length gc sg w1).mono ?_
          rintro e W1 ⟨rfl, rfl⟩
          go_wp2
          go_ret
          refine ⟨by simp [*, bitsFitB, hopE2.out, hopE3.out, huhE0.out], ?_⟩
          first | exact hb0 | (rw [hgx] at hb0; exact hb0) | (rw [← hw1] at hb0; exact hb0)
      · go_enter Tryd.func51, Tryd.ntmps51
        go_wp2_with fail
        (try rw [hw1])
        (try rw [hgx])
        refine (have_any ga gl.length gc sg w1).mono ?_
        rintro e W1 ⟨rfl, rfl⟩
        go_wp2
        go_ret
        refine ⟨by simp [*, bitsFitB, hopE2.out, hopE3.out], ?_⟩
        first | exact hb0 | (rw [hgx] at hb0; exact hb0) | (rw [← hw1] at hb0; exact hb0)
    · have eopE30 : (op == 3) = false := by first | (rw [decide_eq_true_eq]; omega) | (rw [decide_eq_false_iff_not]; omega) | (rw [beq_iff_eq]; omega) | (rw [beq_eq_false_iff_ne]; omega)
      have hopE3 := Lib.hid topE3
      clear topE3
      by_cases tsgE0 : sg = 0
      · have esgE00 : (sg == 0) = true := by first | (rw [decide_eq_true_eq]; omega) | (rw [decide_eq_false_iff_not]; omega) | (rw [beq_iff_eq]; omega) | (rw [beq_eq_false_iff_ne]; omega)
        have hsgE0 := Lib.hid tsgE0
        clear tsgE0
        by_cases tuhE0 : uh = 0
        · have euhE00 : (uh == 0) = true := by first | (rw [decide_eq_true_eq]; omega) | (rw [decide_eq_false_iff_not]; omega) | (rw [beq_iff_eq]; omega) | (rw [beq_eq_false_iff_ne]; omega)
          have huhE0 := Lib.hid tuhE0
          clear tuhE0
          by_cases tulE0 : ul = 0
          · have eulE00 : (ul == 0) = true := by first | (rw [decide_eq_true_eq]; omega) | (rw [decide_eq_false_iff_not]; omega) | (rw [beq_iff_eq]; omega) | (rw [beq_eq_false_iff_ne]; omega)
            have hulE0 := Lib.hid tulE0
            clear tulE0
            go_enter Tryd.func51, Tryd.ntmps51
            go_wp2
            (try rw [hw1])
            go_ret
            refine ⟨by simp [*, bitsFitB, hopE2.out, hopE3.out, hsgE0.out, huhE0.out, hulE0.out], ?_⟩
            first | exact hb0 | (rw [hgx] at hb0; exact hb0) | (rw [← hw1] at hb0; exact hb0)
          · have eulE00 : (ul == 0) = false := by first | (rw [decide_eq_true_eq]; omega) | (rw [decide_eq_false_iff_not]; omega) | (rw [beq_iff_eq]; omega) | (rw [beq_eq_false_iff_ne]; omega)
            have hulE0 := Lib.hid tulE0
            clear tulE0
            go_enter Tryd.func51, Tryd.ntmps51
            go_wp2
            (try rw [hw1])
            go_ret
            refine ⟨by simp [*, bitsFitB, hopE2.out, hopE3.out, hsgE0.out, huhE0.out, hulE0.out], ?_⟩
            first | exact hb0 | (rw [hgx] at hb0; exact hb0) | (rw [← hw1] at hb0; exact hb0)
        · have euhE00 : (uh == 0) = false := by first | (rw [decide_eq_true_eq]; omega) | (rw [decide_eq_false_iff_not]; omega) | (rw [beq_iff_eq]; omega) | (rw [beq_eq_false_iff_ne]; omega)
          have huhE0 := Lib.hid tuhE0
          clear tuhE0
          go_enter Tryd.func51, Tryd.ntmps51
          go_wp2
          (try rw [hw1])
          go_ret
          refine ⟨by simp [*, bitsFitB, hopE2.out, hopE3.out, hsgE0.out, huhE0.out], ?_⟩
          first | exact hb0 | (rw [hgx] at hb0; exact hb0) | (rw [← hw1] at hb0; exact hb0)
      · have esgE00 : (sg == 0) = false := by first | (rw [decide_eq_true_eq]; omega) | (rw [decide_eq_false_iff_not]; omega) | (rw [beq_iff_eq]; omega) | (rw [beq_eq_false_iff_ne]; omega)
        have hsgE0 := Lib.hid tsgE0
        clear tsgE0
        go_enter Tryd.func51, Tryd.ntmps51
        go_wp2
        (try rw [hw1])
        go_ret
        refine ⟨by simp [*, bitsFitB, hopE2.out, hopE3.out, hsgE0.out], ?_⟩
        first | exact hb0 | (rw [hgx] at hb0; exact hb0) | (rw [← hw1] at hb0; exact hb0)
end Go.Proofs.YtbcgeglkmpcnpaaDoor
