/-
  Contracts: bits, may, bin, un, masked of the laws, and what every law asks besides: the examples of the document.
-/
import Derived.Test.YtemolkkpigkanaaT
import Derived.Lib.QuietBelow
namespace Go.Proofs.Ytemolkkpigkanaa
open Go Go.RowKit Go.Sort

theorem wfi {n : Int} (h : 0 ≤ n ∧ n ≤ 1000) : (Lit.int .i64 n).wf = true := WalkArith.wf_i64 (by omega)
theorem bits_is (n : Int) (x : BitVec 64) (m : Int) (h : m = u x) (w : World) : Calls Try.prog 38 #[.int .i64 n, .int .u64 m] w fun e w' => e = .returned (.agg #[.int .i64 n, .int .u64 (u x)]) ∧ Below w.heap.size w w' := by
  subst h; exact law_bits n _ w
theorem check_is (W : Int) (hW : (Lit.int .i64 W).wf = true) (V : BitVec 64) (E : Int) (h : eno (ok W V) = E) (w : World) : Calls Try.prog 16 #[.agg #[.int .i64 W, .int .u64 (u V)]] w fun e w' => e = .returned (.int .i64 E) ∧ Below w.heap.size w w' := by
  subst h; exact bitv_check W hW V w
theorem mask_is (n : Int) (hn : (Lit.int .i64 n).wf = true) (m : Int) (h : u (msk n) = m) (w : World) : Calls Try.prog 18 #[.int .i64 n] w fun e w' => e = .returned (.int .u64 m) ∧ w = w' := by
  subst h; exact bitv_mask n hn w
theorem row_two (W : Int) (hW : (Lit.int .i64 W).wf = true) (V : BitVec 64) (W2 : Int) (hW2 : (Lit.int .i64 W2).wf = true) (V2 : BitVec 64) (b : Nat) (w : World) (h0 : w.cell? ⟨b, 0, none⟩ = some (.int .i64 W)) (h1 : w.cell? ⟨b, 1, none⟩ = some (.int .u64 (u V)))
    (h2 : w.cell? ⟨b, 2, none⟩ = some (.int .i64 W2)) (h3 : w.cell? ⟨b, 3, none⟩ = some (.int .u64 (u V2))) : Row w b 0 [(W, V), (W2, V2)] := by
  intro k W' V' h
  match k, h with
  | 0, h => obtain ⟨rfl, rfl⟩ : W = W' ∧ V = V' := by simpa using h
            exact ⟨h0, h1, hW⟩
  | 1, h => obtain ⟨rfl, rfl⟩ : W2 = W' ∧ V2 = V' := by simpa using h
            exact ⟨h2, h3, hW2⟩
  | k + 2, h => simp at h
theorem cat_two (W : Int) (hW : (Lit.int .i64 W).wf = true) (V : BitVec 64) (W2 : Int) (hW2 : (Lit.int .i64 W2).wf = true) (V2 : BitVec 64) (b : Nat) (w : World) (h0 : w.cell? ⟨b, 0, none⟩ = some (.int .i64 W)) (h1 : w.cell? ⟨b, 1, none⟩ = some (.int .u64 (u V)))
    (h2 : w.cell? ⟨b, 2, none⟩ = some (.int .i64 W2)) (h3 : w.cell? ⟨b, 3, none⟩ = some (.int .u64 (u V2))) (hbl : b < w.heap.size) : Calls Try.prog 22 #[.slice (some ⟨b, 0, none⟩) 2 2] w fun e w' => e = rv (sCat [(W, V), (W2, V2)]) ∧ Below w.heap.size w w' :=
  cat_any w [(W, V), (W2, V2)] b 0 2 (by simp) (by simp) (row_two W hW V W2 hW2 V2 b w h0 h1 h2 h3) hbl

/-- A callee that leaves the world alone, within such a region. -/
theorem regrown_same {P : Program} {f : FuncId} {args : Array Value} {w : World} {d : Nat} {os : Array Obj} {v : Value}
    (h : Calls P f args (grow (redrawn w d) os) fun e w' => e = .returned v ∧ grow (redrawn w d) os = w') : Calls P f args (grow (redrawn w d) os) fun e w'' => e = .returned v ∧ ∃ p : Regrown, w'' = grow (redrawn w p.d) p.os :=
  h.mono fun _ _ ⟨he, hw⟩ => ⟨he, ⟨⟨d, os⟩, hw.symm⟩⟩

def ckI (W m : Int) : Int := eno (ok W (BitVec.ofInt 64 m))
theorem chk_any (W m : Int) (hW : (Lit.int .i64 W).wf = true) (hm : (Lit.int .u64 m).wf = true) (w : World) : Calls Try.prog 16 #[.agg #[.int .i64 W, .int .u64 m]] w fun e w' => e = .returned (.int .i64 (ckI W m)) ∧ Below w.heap.size w w' := by
  obtain ⟨x, rfl⟩ := u_of m hm
  unfold ckI
  rw [ofInt_u]
  exact bitv_check W hW x w

set_option maxRecDepth 100000 in
set_option maxHeartbeats 4000000 in
theorem live_any  (w : World) : Calls Try.prog 15 #[] w fun e w' => e = .returned (.bool true) ∧ Below w.heap.size w w' := by
  go_enter Try.func15, Try.ntmps15
  have hB : Below w.heap.size w w := Below.refl _ _
  have hz := hB.size
  go_wp2_with fail
  refine (bits_is 4 9#64 _ (by decide) _).mono ?_
  rintro e1 w1 ⟨rfl, hb⟩
  replace hB : Below w.heap.size w w1 := by repeat (first | exact Below.refl _ _ | exact hB | (refine Below.setCell ?_ (by first | omega | (simp; omega) | (simp; done)) _) | (refine Below.alloc ?_ (by first | omega | (simp; omega) | (simp; done)) _) | (refine below_drewN ?_ _) | (refine Below.drew ?_) | (refine below_via hb ?_ (by first | omega | (simp; omega) | (simp; done))))
  replace hz := hB.size
  clear hb
  go_wp2_with fail
  refine (bits_is 4 8#64 _ (by decide) _).mono ?_
  rintro e2 w2 ⟨rfl, hb⟩
  replace hB : Below w.heap.size w w2 := by repeat (first | exact Below.refl _ _ | exact hB | (refine Below.setCell ?_ (by first | omega | (simp; omega) | (simp; done)) _) | (refine Below.alloc ?_ (by first | omega | (simp; omega) | (simp; done)) _) | (refine below_drewN ?_ _) | (refine Below.drew ?_) | (refine below_via hb ?_ (by first | omega | (simp; omega) | (simp; done))))
  replace hz := hB.size
  clear hb
  go_wp2_with fail
  refine (tolds 4 1#64 0 (by decide) (bin_any 14 4 (wfi (by decide)) 9#64 4 (wfi (by decide)) 8#64 _)).mono ?_
  rintro e3 w3 ⟨rfl, hb⟩
  replace hB : Below w.heap.size w w3 := by repeat (first | exact Below.refl _ _ | exact hB | (refine Below.setCell ?_ (by first | omega | (simp; omega) | (simp; done)) _) | (refine Below.alloc ?_ (by first | omega | (simp; omega) | (simp; done)) _) | (refine below_drewN ?_ _) | (refine Below.drew ?_) | (refine below_via hb ?_ (by first | omega | (simp; omega) | (simp; done))))
  replace hz := hB.size
  clear hb
  go_wp2_with fail
  refine (bits_is 4 9#64 _ (by decide) _).mono ?_
  rintro e4 w4 ⟨rfl, hb⟩
  have a0 : w4.cell? ⟨w3.heap.size, 0, none⟩ = some (.int .i64 4) := keep_cell hb (by simp [World.cell?_alloc_new])
  have a1 : w4.cell? ⟨w3.heap.size, 1, none⟩ = some (.int .u64 (u 1#64)) := keep_cell hb (by simp [World.cell?_alloc_new])
  replace hB : Below w.heap.size w w4 := by repeat (first | exact Below.refl _ _ | exact hB | (refine Below.setCell ?_ (by first | omega | (simp; omega) | (simp; done)) _) | (refine Below.alloc ?_ (by first | omega | (simp; omega) | (simp; done)) _) | (refine below_drewN ?_ _) | (refine Below.drew ?_) | (refine below_via hb ?_ (by first | omega | (simp; omega) | (simp; done))))
  replace hz := hB.size
  clear hb
  go_wp2_with fail
  refine (bits_is 2 1#64 _ (by decide) _).mono ?_
  rintro e5 w5 ⟨rfl, hb⟩
  replace a0 : w5.cell? ⟨w3.heap.size, 0, none⟩ = some (.int .i64 4) := by first | exact keep_cell hb a0 | exact keep_cell hb (alloc_cell a0 _) | exact keep_cell hb (alloc_cell (alloc_cell a0 _) _) | exact keep_cell hb (by go_simp)
  replace a1 : w5.cell? ⟨w3.heap.size, 1, none⟩ = some (.int .u64 (u 1#64)) := by first | exact keep_cell hb a1 | exact keep_cell hb (alloc_cell a1 _) | exact keep_cell hb (alloc_cell (alloc_cell a1 _) _) | exact keep_cell hb (by go_simp)
  replace hB : Below w.heap.size w w5 := by repeat (first | exact Below.refl _ _ | exact hB | (refine Below.setCell ?_ (by first | omega | (simp; omega) | (simp; done)) _) | (refine Below.alloc ?_ (by first | omega | (simp; omega) | (simp; done)) _) | (refine below_drewN ?_ _) | (refine Below.drew ?_) | (refine below_via hb ?_ (by first | omega | (simp; omega) | (simp; done))))
  replace hz := hB.size
  clear hb
  go_wp2_with fail
  refine (tolds 4 2#64 0 (by decide) (bin_any 17 4 (wfi (by decide)) 9#64 2 (wfi (by decide)) 1#64 _)).mono ?_
  rintro e6 w6 ⟨rfl, hb⟩
  replace a0 : w6.cell? ⟨w3.heap.size, 0, none⟩ = some (.int .i64 4) := by first | exact keep_cell hb a0 | exact keep_cell hb (alloc_cell a0 _) | exact keep_cell hb (alloc_cell (alloc_cell a0 _) _) | exact keep_cell hb (by go_simp)
  replace a1 : w6.cell? ⟨w3.heap.size, 1, none⟩ = some (.int .u64 (u 1#64)) := by first | exact keep_cell hb a1 | exact keep_cell hb (alloc_cell a1 _) | exact keep_cell hb (alloc_cell (alloc_cell a1 _) _) | exact keep_cell hb (by go_simp)
  replace hB : Below w.heap.size w w6 := by repeat (first | exact Below.refl _ _ | exact hB | (refine Below.setCell ?_ (by first | omega | (simp; omega) | (simp; done)) _) | (refine Below.alloc ?_ (by first | omega | (simp; omega) | (simp; done)) _) | (refine below_drewN ?_ _) | (refine Below.drew ?_) | (refine below_via hb ?_ (by first | omega | (simp; omega) | (simp; done))))
  replace hz := hB.size
  clear hb
  go_wp2_with fail
  refine (bits_is 3 5#64 _ (by decide) _).mono ?_
  rintro e7 w7 ⟨rfl, hb⟩
  replace a0 : w7.cell? ⟨w3.heap.size, 0, none⟩ = some (.int .i64 4) := by first | exact keep_cell hb a0 | exact keep_cell hb (alloc_cell a0 _) | exact keep_cell hb (alloc_cell (alloc_cell a0 _) _) | exact keep_cell hb (by go_simp)
  replace a1 : w7.cell? ⟨w3.heap.size, 1, none⟩ = some (.int .u64 (u 1#64)) := by first | exact keep_cell hb a1 | exact keep_cell hb (alloc_cell a1 _) | exact keep_cell hb (alloc_cell (alloc_cell a1 _) _) | exact keep_cell hb (by go_simp)
  have b0 : w7.cell? ⟨w6.heap.size, 0, none⟩ = some (.int .i64 4) := keep_cell hb (by simp [World.cell?_alloc_new])
  have b1 : w7.cell? ⟨w6.heap.size, 1, none⟩ = some (.int .u64 (u 2#64)) := keep_cell hb (by simp [World.cell?_alloc_new])
  replace hB : Below w.heap.size w w7 := by repeat (first | exact Below.refl _ _ | exact hB | (refine Below.setCell ?_ (by first | omega | (simp; omega) | (simp; done)) _) | (refine Below.alloc ?_ (by first | omega | (simp; omega) | (simp; done)) _) | (refine below_drewN ?_ _) | (refine Below.drew ?_) | (refine below_via hb ?_ (by first | omega | (simp; omega) | (simp; done))))
  replace hz := hB.size
  clear hb
  go_wp2_with fail
  refine (tolds 6 61#64 0 (by decide) (ext_any 32 6 (wfi (by decide)) 3 (wfi (by decide)) 5#64 _)).mono ?_
  rintro e8 w8 ⟨rfl, hb⟩
  replace a0 : w8.cell? ⟨w3.heap.size, 0, none⟩ = some (.int .i64 4) := by first | exact keep_cell hb a0 | exact keep_cell hb (alloc_cell a0 _) | exact keep_cell hb (alloc_cell (alloc_cell a0 _) _) | exact keep_cell hb (by go_simp)
  replace a1 : w8.cell? ⟨w3.heap.size, 1, none⟩ = some (.int .u64 (u 1#64)) := by first | exact keep_cell hb a1 | exact keep_cell hb (alloc_cell a1 _) | exact keep_cell hb (alloc_cell (alloc_cell a1 _) _) | exact keep_cell hb (by go_simp)
  replace b0 : w8.cell? ⟨w6.heap.size, 0, none⟩ = some (.int .i64 4) := by first | exact keep_cell hb b0 | exact keep_cell hb (alloc_cell b0 _) | exact keep_cell hb (alloc_cell (alloc_cell b0 _) _) | exact keep_cell hb (by go_simp)
  replace b1 : w8.cell? ⟨w6.heap.size, 1, none⟩ = some (.int .u64 (u 2#64)) := by first | exact keep_cell hb b1 | exact keep_cell hb (alloc_cell b1 _) | exact keep_cell hb (alloc_cell (alloc_cell b1 _) _) | exact keep_cell hb (by go_simp)
  replace hB : Below w.heap.size w w8 := by repeat (first | exact Below.refl _ _ | exact hB | (refine Below.setCell ?_ (by first | omega | (simp; omega) | (simp; done)) _) | (refine Below.alloc ?_ (by first | omega | (simp; omega) | (simp; done)) _) | (refine below_drewN ?_ _) | (refine Below.drew ?_) | (refine below_via hb ?_ (by first | omega | (simp; omega) | (simp; done))))
  replace hz := hB.size
  clear hb
  go_wp2_with fail
  refine (bits_is 2 2#64 _ (by decide) _).mono ?_
  rintro e9 w9 ⟨rfl, hb⟩
  replace a0 : w9.cell? ⟨w3.heap.size, 0, none⟩ = some (.int .i64 4) := by first | exact keep_cell hb a0 | exact keep_cell hb (alloc_cell a0 _) | exact keep_cell hb (alloc_cell (alloc_cell a0 _) _) | exact keep_cell hb (by go_simp)
  replace a1 : w9.cell? ⟨w3.heap.size, 1, none⟩ = some (.int .u64 (u 1#64)) := by first | exact keep_cell hb a1 | exact keep_cell hb (alloc_cell a1 _) | exact keep_cell hb (alloc_cell (alloc_cell a1 _) _) | exact keep_cell hb (by go_simp)
  replace b0 : w9.cell? ⟨w6.heap.size, 0, none⟩ = some (.int .i64 4) := by first | exact keep_cell hb b0 | exact keep_cell hb (alloc_cell b0 _) | exact keep_cell hb (alloc_cell (alloc_cell b0 _) _) | exact keep_cell hb (by go_simp)
  replace b1 : w9.cell? ⟨w6.heap.size, 1, none⟩ = some (.int .u64 (u 2#64)) := by first | exact keep_cell hb b1 | exact keep_cell hb (alloc_cell b1 _) | exact keep_cell hb (alloc_cell (alloc_cell b1 _) _) | exact keep_cell hb (by go_simp)
  have c0 : w9.cell? ⟨w8.heap.size, 0, none⟩ = some (.int .i64 6) := keep_cell hb (by simp [World.cell?_alloc_new])
  have c1 : w9.cell? ⟨w8.heap.size, 1, none⟩ = some (.int .u64 (u 61#64)) := keep_cell hb (by simp [World.cell?_alloc_new])
  replace hB : Below w.heap.size w w9 := by repeat (first | exact Below.refl _ _ | exact hB | (refine Below.setCell ?_ (by first | omega | (simp; omega) | (simp; done)) _) | (refine Below.alloc ?_ (by first | omega | (simp; omega) | (simp; done)) _) | (refine below_drewN ?_ _) | (refine Below.drew ?_) | (refine below_via hb ?_ (by first | omega | (simp; omega) | (simp; done))))
  replace hz := hB.size
  clear hb
  go_wp2_with fail
  refine (bits_is 3 5#64 _ (by decide) _).mono ?_
  rintro e10 w10 ⟨rfl, hb⟩
  replace a0 : w10.cell? ⟨w3.heap.size, 0, none⟩ = some (.int .i64 4) := by first | exact keep_cell hb a0 | exact keep_cell hb (alloc_cell a0 _) | exact keep_cell hb (alloc_cell (alloc_cell a0 _) _) | exact keep_cell hb (by go_simp)
  replace a1 : w10.cell? ⟨w3.heap.size, 1, none⟩ = some (.int .u64 (u 1#64)) := by first | exact keep_cell hb a1 | exact keep_cell hb (alloc_cell a1 _) | exact keep_cell hb (alloc_cell (alloc_cell a1 _) _) | exact keep_cell hb (by go_simp)
  replace b0 : w10.cell? ⟨w6.heap.size, 0, none⟩ = some (.int .i64 4) := by first | exact keep_cell hb b0 | exact keep_cell hb (alloc_cell b0 _) | exact keep_cell hb (alloc_cell (alloc_cell b0 _) _) | exact keep_cell hb (by go_simp)
  replace b1 : w10.cell? ⟨w6.heap.size, 1, none⟩ = some (.int .u64 (u 2#64)) := by first | exact keep_cell hb b1 | exact keep_cell hb (alloc_cell b1 _) | exact keep_cell hb (alloc_cell (alloc_cell b1 _) _) | exact keep_cell hb (by go_simp)
  replace c0 : w10.cell? ⟨w8.heap.size, 0, none⟩ = some (.int .i64 6) := by first | exact keep_cell hb c0 | exact keep_cell hb (alloc_cell c0 _) | exact keep_cell hb (alloc_cell (alloc_cell c0 _) _) | exact keep_cell hb (by go_simp)
  replace c1 : w10.cell? ⟨w8.heap.size, 1, none⟩ = some (.int .u64 (u 61#64)) := by first | exact keep_cell hb c1 | exact keep_cell hb (alloc_cell c1 _) | exact keep_cell hb (alloc_cell (alloc_cell c1 _) _) | exact keep_cell hb (by go_simp)
  replace hB : Below w.heap.size w w10 := by repeat (first | exact Below.refl _ _ | exact hB | (refine Below.setCell ?_ (by first | omega | (simp; omega) | (simp; done)) _) | (refine Below.alloc ?_ (by first | omega | (simp; omega) | (simp; done)) _) | (refine below_drewN ?_ _) | (refine Below.drew ?_) | (refine below_via hb ?_ (by first | omega | (simp; omega) | (simp; done))))
  replace hz := hB.size
  clear hb
  go_wp2_with fail
  refine (tolds 5 21#64 0 (by decide) (cat_two 2 (wfi (by decide)) 2#64 3 (wfi (by decide)) 5#64 _ _ ?_ ?_ ?_ ?_ ?_)).mono ?_
  · go_simp
  · go_simp
  · go_simp
  · go_simp
  · simp
  rintro e11 w11 ⟨rfl, hb⟩
  replace a0 : w11.cell? ⟨w3.heap.size, 0, none⟩ = some (.int .i64 4) := by first | exact keep_cell hb a0 | exact keep_cell hb (alloc_cell a0 _) | exact keep_cell hb (alloc_cell (alloc_cell a0 _) _) | exact keep_cell hb (by go_simp)
  replace a1 : w11.cell? ⟨w3.heap.size, 1, none⟩ = some (.int .u64 (u 1#64)) := by first | exact keep_cell hb a1 | exact keep_cell hb (alloc_cell a1 _) | exact keep_cell hb (alloc_cell (alloc_cell a1 _) _) | exact keep_cell hb (by go_simp)
  replace b0 : w11.cell? ⟨w6.heap.size, 0, none⟩ = some (.int .i64 4) := by first | exact keep_cell hb b0 | exact keep_cell hb (alloc_cell b0 _) | exact keep_cell hb (alloc_cell (alloc_cell b0 _) _) | exact keep_cell hb (by go_simp)
  replace b1 : w11.cell? ⟨w6.heap.size, 1, none⟩ = some (.int .u64 (u 2#64)) := by first | exact keep_cell hb b1 | exact keep_cell hb (alloc_cell b1 _) | exact keep_cell hb (alloc_cell (alloc_cell b1 _) _) | exact keep_cell hb (by go_simp)
  replace c0 : w11.cell? ⟨w8.heap.size, 0, none⟩ = some (.int .i64 6) := by first | exact keep_cell hb c0 | exact keep_cell hb (alloc_cell c0 _) | exact keep_cell hb (alloc_cell (alloc_cell c0 _) _) | exact keep_cell hb (by go_simp)
  replace c1 : w11.cell? ⟨w8.heap.size, 1, none⟩ = some (.int .u64 (u 61#64)) := by first | exact keep_cell hb c1 | exact keep_cell hb (alloc_cell c1 _) | exact keep_cell hb (alloc_cell (alloc_cell c1 _) _) | exact keep_cell hb (by go_simp)
  replace hB : Below w.heap.size w w11 := by repeat (first | exact Below.refl _ _ | exact hB | (refine Below.setCell ?_ (by first | omega | (simp; omega) | (simp; done)) _) | (refine Below.alloc ?_ (by first | omega | (simp; omega) | (simp; done)) _) | (refine below_drewN ?_ _) | (refine Below.drew ?_) | (refine below_via hb ?_ (by first | omega | (simp; omega) | (simp; done))))
  replace hz := hB.size
  clear hb
  go_wp2_with fail
  refine (bits_is 4 9#64 _ (by decide) _).mono ?_
  rintro e12 w12 ⟨rfl, hb⟩
  replace a0 : w12.cell? ⟨w3.heap.size, 0, none⟩ = some (.int .i64 4) := by first | exact keep_cell hb a0 | exact keep_cell hb (alloc_cell a0 _) | exact keep_cell hb (alloc_cell (alloc_cell a0 _) _) | exact keep_cell hb (by go_simp)
  replace a1 : w12.cell? ⟨w3.heap.size, 1, none⟩ = some (.int .u64 (u 1#64)) := by first | exact keep_cell hb a1 | exact keep_cell hb (alloc_cell a1 _) | exact keep_cell hb (alloc_cell (alloc_cell a1 _) _) | exact keep_cell hb (by go_simp)
  replace b0 : w12.cell? ⟨w6.heap.size, 0, none⟩ = some (.int .i64 4) := by first | exact keep_cell hb b0 | exact keep_cell hb (alloc_cell b0 _) | exact keep_cell hb (alloc_cell (alloc_cell b0 _) _) | exact keep_cell hb (by go_simp)
  replace b1 : w12.cell? ⟨w6.heap.size, 1, none⟩ = some (.int .u64 (u 2#64)) := by first | exact keep_cell hb b1 | exact keep_cell hb (alloc_cell b1 _) | exact keep_cell hb (alloc_cell (alloc_cell b1 _) _) | exact keep_cell hb (by go_simp)
  replace c0 : w12.cell? ⟨w8.heap.size, 0, none⟩ = some (.int .i64 6) := by first | exact keep_cell hb c0 | exact keep_cell hb (alloc_cell c0 _) | exact keep_cell hb (alloc_cell (alloc_cell c0 _) _) | exact keep_cell hb (by go_simp)
  replace c1 : w12.cell? ⟨w8.heap.size, 1, none⟩ = some (.int .u64 (u 61#64)) := by first | exact keep_cell hb c1 | exact keep_cell hb (alloc_cell c1 _) | exact keep_cell hb (alloc_cell (alloc_cell c1 _) _) | exact keep_cell hb (by go_simp)
  have d0 : w12.cell? ⟨w11.heap.size, 0, none⟩ = some (.int .i64 5) := keep_cell hb (by simp [World.cell?_alloc_new])
  have d1 : w12.cell? ⟨w11.heap.size, 1, none⟩ = some (.int .u64 (u 21#64)) := keep_cell hb (by simp [World.cell?_alloc_new])
  replace hB : Below w.heap.size w w12 := by repeat (first | exact Below.refl _ _ | exact hB | (refine Below.setCell ?_ (by first | omega | (simp; omega) | (simp; done)) _) | (refine Below.alloc ?_ (by first | omega | (simp; omega) | (simp; done)) _) | (refine below_drewN ?_ _) | (refine Below.drew ?_) | (refine below_via hb ?_ (by first | omega | (simp; omega) | (simp; done))))
  replace hz := hB.size
  clear hb
  go_wp2_with fail
  refine (bits_is 3 1#64 _ (by decide) _).mono ?_
  rintro e13 w13 ⟨rfl, hb⟩
  replace a0 : w13.cell? ⟨w3.heap.size, 0, none⟩ = some (.int .i64 4) := by first | exact keep_cell hb a0 | exact keep_cell hb (alloc_cell a0 _) | exact keep_cell hb (alloc_cell (alloc_cell a0 _) _) | exact keep_cell hb (by go_simp)
  replace a1 : w13.cell? ⟨w3.heap.size, 1, none⟩ = some (.int .u64 (u 1#64)) := by first | exact keep_cell hb a1 | exact keep_cell hb (alloc_cell a1 _) | exact keep_cell hb (alloc_cell (alloc_cell a1 _) _) | exact keep_cell hb (by go_simp)
  replace b0 : w13.cell? ⟨w6.heap.size, 0, none⟩ = some (.int .i64 4) := by first | exact keep_cell hb b0 | exact keep_cell hb (alloc_cell b0 _) | exact keep_cell hb (alloc_cell (alloc_cell b0 _) _) | exact keep_cell hb (by go_simp)
  replace b1 : w13.cell? ⟨w6.heap.size, 1, none⟩ = some (.int .u64 (u 2#64)) := by first | exact keep_cell hb b1 | exact keep_cell hb (alloc_cell b1 _) | exact keep_cell hb (alloc_cell (alloc_cell b1 _) _) | exact keep_cell hb (by go_simp)
  replace c0 : w13.cell? ⟨w8.heap.size, 0, none⟩ = some (.int .i64 6) := by first | exact keep_cell hb c0 | exact keep_cell hb (alloc_cell c0 _) | exact keep_cell hb (alloc_cell (alloc_cell c0 _) _) | exact keep_cell hb (by go_simp)
  replace c1 : w13.cell? ⟨w8.heap.size, 1, none⟩ = some (.int .u64 (u 61#64)) := by first | exact keep_cell hb c1 | exact keep_cell hb (alloc_cell c1 _) | exact keep_cell hb (alloc_cell (alloc_cell c1 _) _) | exact keep_cell hb (by go_simp)
  replace d0 : w13.cell? ⟨w11.heap.size, 0, none⟩ = some (.int .i64 5) := by first | exact keep_cell hb d0 | exact keep_cell hb (alloc_cell d0 _) | exact keep_cell hb (alloc_cell (alloc_cell d0 _) _) | exact keep_cell hb (by go_simp)
  replace d1 : w13.cell? ⟨w11.heap.size, 1, none⟩ = some (.int .u64 (u 21#64)) := by first | exact keep_cell hb d1 | exact keep_cell hb (alloc_cell d1 _) | exact keep_cell hb (alloc_cell (alloc_cell d1 _) _) | exact keep_cell hb (by go_simp)
  replace hB : Below w.heap.size w w13 := by repeat (first | exact Below.refl _ _ | exact hB | (refine Below.setCell ?_ (by first | omega | (simp; omega) | (simp; done)) _) | (refine Below.alloc ?_ (by first | omega | (simp; omega) | (simp; done)) _) | (refine below_drewN ?_ _) | (refine Below.drew ?_) | (refine below_via hb ?_ (by first | omega | (simp; omega) | (simp; done))))
  replace hz := hB.size
  clear hb
  go_wp2_with fail
  refine (tolds 0 0#64 1 (by decide) (bin_any 14 4 (wfi (by decide)) 9#64 3 (wfi (by decide)) 1#64 _)).mono ?_
  rintro e14 w14 ⟨rfl, hb⟩
  replace a0 : w14.cell? ⟨w3.heap.size, 0, none⟩ = some (.int .i64 4) := by first | exact keep_cell hb a0 | exact keep_cell hb (alloc_cell a0 _) | exact keep_cell hb (alloc_cell (alloc_cell a0 _) _) | exact keep_cell hb (by go_simp)
  replace a1 : w14.cell? ⟨w3.heap.size, 1, none⟩ = some (.int .u64 (u 1#64)) := by first | exact keep_cell hb a1 | exact keep_cell hb (alloc_cell a1 _) | exact keep_cell hb (alloc_cell (alloc_cell a1 _) _) | exact keep_cell hb (by go_simp)
  replace b0 : w14.cell? ⟨w6.heap.size, 0, none⟩ = some (.int .i64 4) := by first | exact keep_cell hb b0 | exact keep_cell hb (alloc_cell b0 _) | exact keep_cell hb (alloc_cell (alloc_cell b0 _) _) | exact keep_cell hb (by go_simp)
  replace b1 : w14.cell? ⟨w6.heap.size, 1, none⟩ = some (.int .u64 (u 2#64)) := by first | exact keep_cell hb b1 | exact keep_cell hb (alloc_cell b1 _) | exact keep_cell hb (alloc_cell (alloc_cell b1 _) _) | exact keep_cell hb (by go_simp)
  replace c0 : w14.cell? ⟨w8.heap.size, 0, none⟩ = some (.int .i64 6) := by first | exact keep_cell hb c0 | exact keep_cell hb (alloc_cell c0 _) | exact keep_cell hb (alloc_cell (alloc_cell c0 _) _) | exact keep_cell hb (by go_simp)
  replace c1 : w14.cell? ⟨w8.heap.size, 1, none⟩ = some (.int .u64 (u 61#64)) := by first | exact keep_cell hb c1 | exact keep_cell hb (alloc_cell c1 _) | exact keep_cell hb (alloc_cell (alloc_cell c1 _) _) | exact keep_cell hb (by go_simp)
  replace d0 : w14.cell? ⟨w11.heap.size, 0, none⟩ = some (.int .i64 5) := by first | exact keep_cell hb d0 | exact keep_cell hb (alloc_cell d0 _) | exact keep_cell hb (alloc_cell (alloc_cell d0 _) _) | exact keep_cell hb (by go_simp)
  replace d1 : w14.cell? ⟨w11.heap.size, 1, none⟩ = some (.int .u64 (u 21#64)) := by first | exact keep_cell hb d1 | exact keep_cell hb (alloc_cell d1 _) | exact keep_cell hb (alloc_cell (alloc_cell d1 _) _) | exact keep_cell hb (by go_simp)
  replace hB : Below w.heap.size w w14 := by repeat (first | exact Below.refl _ _ | exact hB | (refine Below.setCell ?_ (by first | omega | (simp; omega) | (simp; done)) _) | (refine Below.alloc ?_ (by first | omega | (simp; omega) | (simp; done)) _) | (refine below_drewN ?_ _) | (refine Below.drew ?_) | (refine below_via hb ?_ (by first | omega | (simp; omega) | (simp; done))))
  replace hz := hB.size
  clear hb
  go_wp2_with fail
  refine (bits_is 8 180#64 _ (by decide) _).mono ?_
  rintro e15 w15 ⟨rfl, hb⟩
  replace a0 : w15.cell? ⟨w3.heap.size, 0, none⟩ = some (.int .i64 4) := by first | exact keep_cell hb a0 | exact keep_cell hb (alloc_cell a0 _) | exact keep_cell hb (alloc_cell (alloc_cell a0 _) _) | exact keep_cell hb (by go_simp)
  replace a1 : w15.cell? ⟨w3.heap.size, 1, none⟩ = some (.int .u64 (u 1#64)) := by first | exact keep_cell hb a1 | exact keep_cell hb (alloc_cell a1 _) | exact keep_cell hb (alloc_cell (alloc_cell a1 _) _) | exact keep_cell hb (by go_simp)
  replace b0 : w15.cell? ⟨w6.heap.size, 0, none⟩ = some (.int .i64 4) := by first | exact keep_cell hb b0 | exact keep_cell hb (alloc_cell b0 _) | exact keep_cell hb (alloc_cell (alloc_cell b0 _) _) | exact keep_cell hb (by go_simp)
  replace b1 : w15.cell? ⟨w6.heap.size, 1, none⟩ = some (.int .u64 (u 2#64)) := by first | exact keep_cell hb b1 | exact keep_cell hb (alloc_cell b1 _) | exact keep_cell hb (alloc_cell (alloc_cell b1 _) _) | exact keep_cell hb (by go_simp)
  replace c0 : w15.cell? ⟨w8.heap.size, 0, none⟩ = some (.int .i64 6) := by first | exact keep_cell hb c0 | exact keep_cell hb (alloc_cell c0 _) | exact keep_cell hb (alloc_cell (alloc_cell c0 _) _) | exact keep_cell hb (by go_simp)
  replace c1 : w15.cell? ⟨w8.heap.size, 1, none⟩ = some (.int .u64 (u 61#64)) := by first | exact keep_cell hb c1 | exact keep_cell hb (alloc_cell c1 _) | exact keep_cell hb (alloc_cell (alloc_cell c1 _) _) | exact keep_cell hb (by go_simp)
  replace d0 : w15.cell? ⟨w11.heap.size, 0, none⟩ = some (.int .i64 5) := by first | exact keep_cell hb d0 | exact keep_cell hb (alloc_cell d0 _) | exact keep_cell hb (alloc_cell (alloc_cell d0 _) _) | exact keep_cell hb (by go_simp)
  replace d1 : w15.cell? ⟨w11.heap.size, 1, none⟩ = some (.int .u64 (u 21#64)) := by first | exact keep_cell hb d1 | exact keep_cell hb (alloc_cell d1 _) | exact keep_cell hb (alloc_cell (alloc_cell d1 _) _) | exact keep_cell hb (by go_simp)
  replace hB : Below w.heap.size w w15 := by repeat (first | exact Below.refl _ _ | exact hB | (refine Below.setCell ?_ (by first | omega | (simp; omega) | (simp; done)) _) | (refine Below.alloc ?_ (by first | omega | (simp; omega) | (simp; done)) _) | (refine below_drewN ?_ _) | (refine Below.drew ?_) | (refine below_via hb ?_ (by first | omega | (simp; omega) | (simp; done))))
  replace hz := hB.size
  clear hb
  go_wp2_with fail
  refine (tolds 4 13#64 0 (by decide) (slice_any 8 (wfi (by decide)) 180#64 5 2 _)).mono ?_
  rintro e16 w16 ⟨rfl, hb⟩
  replace a0 : w16.cell? ⟨w3.heap.size, 0, none⟩ = some (.int .i64 4) := by first | exact keep_cell hb a0 | exact keep_cell hb (alloc_cell a0 _) | exact keep_cell hb (alloc_cell (alloc_cell a0 _) _) | exact keep_cell hb (by go_simp)
  replace a1 : w16.cell? ⟨w3.heap.size, 1, none⟩ = some (.int .u64 (u 1#64)) := by first | exact keep_cell hb a1 | exact keep_cell hb (alloc_cell a1 _) | exact keep_cell hb (alloc_cell (alloc_cell a1 _) _) | exact keep_cell hb (by go_simp)
  replace b0 : w16.cell? ⟨w6.heap.size, 0, none⟩ = some (.int .i64 4) := by first | exact keep_cell hb b0 | exact keep_cell hb (alloc_cell b0 _) | exact keep_cell hb (alloc_cell (alloc_cell b0 _) _) | exact keep_cell hb (by go_simp)
  replace b1 : w16.cell? ⟨w6.heap.size, 1, none⟩ = some (.int .u64 (u 2#64)) := by first | exact keep_cell hb b1 | exact keep_cell hb (alloc_cell b1 _) | exact keep_cell hb (alloc_cell (alloc_cell b1 _) _) | exact keep_cell hb (by go_simp)
  replace c0 : w16.cell? ⟨w8.heap.size, 0, none⟩ = some (.int .i64 6) := by first | exact keep_cell hb c0 | exact keep_cell hb (alloc_cell c0 _) | exact keep_cell hb (alloc_cell (alloc_cell c0 _) _) | exact keep_cell hb (by go_simp)
  replace c1 : w16.cell? ⟨w8.heap.size, 1, none⟩ = some (.int .u64 (u 61#64)) := by first | exact keep_cell hb c1 | exact keep_cell hb (alloc_cell c1 _) | exact keep_cell hb (alloc_cell (alloc_cell c1 _) _) | exact keep_cell hb (by go_simp)
  replace d0 : w16.cell? ⟨w11.heap.size, 0, none⟩ = some (.int .i64 5) := by first | exact keep_cell hb d0 | exact keep_cell hb (alloc_cell d0 _) | exact keep_cell hb (alloc_cell (alloc_cell d0 _) _) | exact keep_cell hb (by go_simp)
  replace d1 : w16.cell? ⟨w11.heap.size, 1, none⟩ = some (.int .u64 (u 21#64)) := by first | exact keep_cell hb d1 | exact keep_cell hb (alloc_cell d1 _) | exact keep_cell hb (alloc_cell (alloc_cell d1 _) _) | exact keep_cell hb (by go_simp)
  replace hB : Below w.heap.size w w16 := by repeat (first | exact Below.refl _ _ | exact hB | (refine Below.setCell ?_ (by first | omega | (simp; omega) | (simp; done)) _) | (refine Below.alloc ?_ (by first | omega | (simp; omega) | (simp; done)) _) | (refine below_drewN ?_ _) | (refine Below.drew ?_) | (refine below_via hb ?_ (by first | omega | (simp; omega) | (simp; done))))
  replace hz := hB.size
  clear hb
  go_wp2_with fail
  refine (bits_is 8 180#64 _ (by decide) _).mono ?_
  rintro e17 w17 ⟨rfl, hb⟩
  replace a0 : w17.cell? ⟨w3.heap.size, 0, none⟩ = some (.int .i64 4) := by first | exact keep_cell hb a0 | exact keep_cell hb (alloc_cell a0 _) | exact keep_cell hb (alloc_cell (alloc_cell a0 _) _) | exact keep_cell hb (by go_simp)
  replace a1 : w17.cell? ⟨w3.heap.size, 1, none⟩ = some (.int .u64 (u 1#64)) := by first | exact keep_cell hb a1 | exact keep_cell hb (alloc_cell a1 _) | exact keep_cell hb (alloc_cell (alloc_cell a1 _) _) | exact keep_cell hb (by go_simp)
  replace b0 : w17.cell? ⟨w6.heap.size, 0, none⟩ = some (.int .i64 4) := by first | exact keep_cell hb b0 | exact keep_cell hb (alloc_cell b0 _) | exact keep_cell hb (alloc_cell (alloc_cell b0 _) _) | exact keep_cell hb (by go_simp)
  replace b1 : w17.cell? ⟨w6.heap.size, 1, none⟩ = some (.int .u64 (u 2#64)) := by first | exact keep_cell hb b1 | exact keep_cell hb (alloc_cell b1 _) | exact keep_cell hb (alloc_cell (alloc_cell b1 _) _) | exact keep_cell hb (by go_simp)
  replace c0 : w17.cell? ⟨w8.heap.size, 0, none⟩ = some (.int .i64 6) := by first | exact keep_cell hb c0 | exact keep_cell hb (alloc_cell c0 _) | exact keep_cell hb (alloc_cell (alloc_cell c0 _) _) | exact keep_cell hb (by go_simp)
  replace c1 : w17.cell? ⟨w8.heap.size, 1, none⟩ = some (.int .u64 (u 61#64)) := by first | exact keep_cell hb c1 | exact keep_cell hb (alloc_cell c1 _) | exact keep_cell hb (alloc_cell (alloc_cell c1 _) _) | exact keep_cell hb (by go_simp)
  replace d0 : w17.cell? ⟨w11.heap.size, 0, none⟩ = some (.int .i64 5) := by first | exact keep_cell hb d0 | exact keep_cell hb (alloc_cell d0 _) | exact keep_cell hb (alloc_cell (alloc_cell d0 _) _) | exact keep_cell hb (by go_simp)
  replace d1 : w17.cell? ⟨w11.heap.size, 1, none⟩ = some (.int .u64 (u 21#64)) := by first | exact keep_cell hb d1 | exact keep_cell hb (alloc_cell d1 _) | exact keep_cell hb (alloc_cell (alloc_cell d1 _) _) | exact keep_cell hb (by go_simp)
  have x0 : w17.cell? ⟨w16.heap.size, 0, none⟩ = some (.int .i64 4) := keep_cell hb (by simp [World.cell?_alloc_new])
  have x1 : w17.cell? ⟨w16.heap.size, 1, none⟩ = some (.int .u64 (u 13#64)) := keep_cell hb (by simp [World.cell?_alloc_new])
  replace hB : Below w.heap.size w w17 := by repeat (first | exact Below.refl _ _ | exact hB | (refine Below.setCell ?_ (by first | omega | (simp; omega) | (simp; done)) _) | (refine Below.alloc ?_ (by first | omega | (simp; omega) | (simp; done)) _) | (refine below_drewN ?_ _) | (refine Below.drew ?_) | (refine below_via hb ?_ (by first | omega | (simp; omega) | (simp; done))))
  replace hz := hB.size
  clear hb
  go_wp2_with fail
  refine (bits_is 4 0#64 _ (by decide) _).mono ?_
  rintro e18 w18 ⟨rfl, hb⟩
  replace a0 : w18.cell? ⟨w3.heap.size, 0, none⟩ = some (.int .i64 4) := by first | exact keep_cell hb a0 | exact keep_cell hb (alloc_cell a0 _) | exact keep_cell hb (alloc_cell (alloc_cell a0 _) _) | exact keep_cell hb (by go_simp)
  replace a1 : w18.cell? ⟨w3.heap.size, 1, none⟩ = some (.int .u64 (u 1#64)) := by first | exact keep_cell hb a1 | exact keep_cell hb (alloc_cell a1 _) | exact keep_cell hb (alloc_cell (alloc_cell a1 _) _) | exact keep_cell hb (by go_simp)
  replace b0 : w18.cell? ⟨w6.heap.size, 0, none⟩ = some (.int .i64 4) := by first | exact keep_cell hb b0 | exact keep_cell hb (alloc_cell b0 _) | exact keep_cell hb (alloc_cell (alloc_cell b0 _) _) | exact keep_cell hb (by go_simp)
  replace b1 : w18.cell? ⟨w6.heap.size, 1, none⟩ = some (.int .u64 (u 2#64)) := by first | exact keep_cell hb b1 | exact keep_cell hb (alloc_cell b1 _) | exact keep_cell hb (alloc_cell (alloc_cell b1 _) _) | exact keep_cell hb (by go_simp)
  replace c0 : w18.cell? ⟨w8.heap.size, 0, none⟩ = some (.int .i64 6) := by first | exact keep_cell hb c0 | exact keep_cell hb (alloc_cell c0 _) | exact keep_cell hb (alloc_cell (alloc_cell c0 _) _) | exact keep_cell hb (by go_simp)
  replace c1 : w18.cell? ⟨w8.heap.size, 1, none⟩ = some (.int .u64 (u 61#64)) := by first | exact keep_cell hb c1 | exact keep_cell hb (alloc_cell c1 _) | exact keep_cell hb (alloc_cell (alloc_cell c1 _) _) | exact keep_cell hb (by go_simp)
  replace d0 : w18.cell? ⟨w11.heap.size, 0, none⟩ = some (.int .i64 5) := by first | exact keep_cell hb d0 | exact keep_cell hb (alloc_cell d0 _) | exact keep_cell hb (alloc_cell (alloc_cell d0 _) _) | exact keep_cell hb (by go_simp)
  replace d1 : w18.cell? ⟨w11.heap.size, 1, none⟩ = some (.int .u64 (u 21#64)) := by first | exact keep_cell hb d1 | exact keep_cell hb (alloc_cell d1 _) | exact keep_cell hb (alloc_cell (alloc_cell d1 _) _) | exact keep_cell hb (by go_simp)
  replace x0 : w18.cell? ⟨w16.heap.size, 0, none⟩ = some (.int .i64 4) := by first | exact keep_cell hb x0 | exact keep_cell hb (alloc_cell x0 _) | exact keep_cell hb (alloc_cell (alloc_cell x0 _) _) | exact keep_cell hb (by go_simp)
  replace x1 : w18.cell? ⟨w16.heap.size, 1, none⟩ = some (.int .u64 (u 13#64)) := by first | exact keep_cell hb x1 | exact keep_cell hb (alloc_cell x1 _) | exact keep_cell hb (alloc_cell (alloc_cell x1 _) _) | exact keep_cell hb (by go_simp)
  replace hB : Below w.heap.size w w18 := by repeat (first | exact Below.refl _ _ | exact hB | (refine Below.setCell ?_ (by first | omega | (simp; omega) | (simp; done)) _) | (refine Below.alloc ?_ (by first | omega | (simp; omega) | (simp; done)) _) | (refine below_drewN ?_ _) | (refine Below.drew ?_) | (refine below_via hb ?_ (by first | omega | (simp; omega) | (simp; done))))
  replace hz := hB.size
  clear hb
  go_wp2_with fail
  refine (tolds 8 128#64 0 (by decide) (set_any 8 (wfi (by decide)) 180#64 5 2 4 (wfi (by decide)) 0#64 _)).mono ?_
  rintro e19 w19 ⟨rfl, hb⟩
  replace a0 : w19.cell? ⟨w3.heap.size, 0, none⟩ = some (.int .i64 4) := by first | exact keep_cell hb a0 | exact keep_cell hb (alloc_cell a0 _) | exact keep_cell hb (alloc_cell (alloc_cell a0 _) _) | exact keep_cell hb (by go_simp)
  replace a1 : w19.cell? ⟨w3.heap.size, 1, none⟩ = some (.int .u64 (u 1#64)) := by first | exact keep_cell hb a1 | exact keep_cell hb (alloc_cell a1 _) | exact keep_cell hb (alloc_cell (alloc_cell a1 _) _) | exact keep_cell hb (by go_simp)
  replace b0 : w19.cell? ⟨w6.heap.size, 0, none⟩ = some (.int .i64 4) := by first | exact keep_cell hb b0 | exact keep_cell hb (alloc_cell b0 _) | exact keep_cell hb (alloc_cell (alloc_cell b0 _) _) | exact keep_cell hb (by go_simp)
  replace b1 : w19.cell? ⟨w6.heap.size, 1, none⟩ = some (.int .u64 (u 2#64)) := by first | exact keep_cell hb b1 | exact keep_cell hb (alloc_cell b1 _) | exact keep_cell hb (alloc_cell (alloc_cell b1 _) _) | exact keep_cell hb (by go_simp)
  replace c0 : w19.cell? ⟨w8.heap.size, 0, none⟩ = some (.int .i64 6) := by first | exact keep_cell hb c0 | exact keep_cell hb (alloc_cell c0 _) | exact keep_cell hb (alloc_cell (alloc_cell c0 _) _) | exact keep_cell hb (by go_simp)
  replace c1 : w19.cell? ⟨w8.heap.size, 1, none⟩ = some (.int .u64 (u 61#64)) := by first | exact keep_cell hb c1 | exact keep_cell hb (alloc_cell c1 _) | exact keep_cell hb (alloc_cell (alloc_cell c1 _) _) | exact keep_cell hb (by go_simp)
  replace d0 : w19.cell? ⟨w11.heap.size, 0, none⟩ = some (.int .i64 5) := by first | exact keep_cell hb d0 | exact keep_cell hb (alloc_cell d0 _) | exact keep_cell hb (alloc_cell (alloc_cell d0 _) _) | exact keep_cell hb (by go_simp)
  replace d1 : w19.cell? ⟨w11.heap.size, 1, none⟩ = some (.int .u64 (u 21#64)) := by first | exact keep_cell hb d1 | exact keep_cell hb (alloc_cell d1 _) | exact keep_cell hb (alloc_cell (alloc_cell d1 _) _) | exact keep_cell hb (by go_simp)
  replace x0 : w19.cell? ⟨w16.heap.size, 0, none⟩ = some (.int .i64 4) := by first | exact keep_cell hb x0 | exact keep_cell hb (alloc_cell x0 _) | exact keep_cell hb (alloc_cell (alloc_cell x0 _) _) | exact keep_cell hb (by go_simp)
  replace x1 : w19.cell? ⟨w16.heap.size, 1, none⟩ = some (.int .u64 (u 13#64)) := by first | exact keep_cell hb x1 | exact keep_cell hb (alloc_cell x1 _) | exact keep_cell hb (alloc_cell (alloc_cell x1 _) _) | exact keep_cell hb (by go_simp)
  replace hB : Below w.heap.size w w19 := by repeat (first | exact Below.refl _ _ | exact hB | (refine Below.setCell ?_ (by first | omega | (simp; omega) | (simp; done)) _) | (refine Below.alloc ?_ (by first | omega | (simp; omega) | (simp; done)) _) | (refine below_drewN ?_ _) | (refine Below.drew ?_) | (refine below_via hb ?_ (by first | omega | (simp; omega) | (simp; done))))
  replace hz := hB.size
  clear hb
  go_wp2_with fail
  refine (bits_is 4 1#64 _ (by decide) _).mono ?_
  rintro e20 w20 ⟨rfl, hb⟩
  replace a0 : w20.cell? ⟨w3.heap.size, 0, none⟩ = some (.int .i64 4) := by first | exact keep_cell hb a0 | exact keep_cell hb (alloc_cell a0 _) | exact keep_cell hb (alloc_cell (alloc_cell a0 _) _) | exact keep_cell hb (by go_simp)
  replace a1 : w20.cell? ⟨w3.heap.size, 1, none⟩ = some (.int .u64 (u 1#64)) := by first | exact keep_cell hb a1 | exact keep_cell hb (alloc_cell a1 _) | exact keep_cell hb (alloc_cell (alloc_cell a1 _) _) | exact keep_cell hb (by go_simp)
  replace b0 : w20.cell? ⟨w6.heap.size, 0, none⟩ = some (.int .i64 4) := by first | exact keep_cell hb b0 | exact keep_cell hb (alloc_cell b0 _) | exact keep_cell hb (alloc_cell (alloc_cell b0 _) _) | exact keep_cell hb (by go_simp)
  replace b1 : w20.cell? ⟨w6.heap.size, 1, none⟩ = some (.int .u64 (u 2#64)) := by first | exact keep_cell hb b1 | exact keep_cell hb (alloc_cell b1 _) | exact keep_cell hb (alloc_cell (alloc_cell b1 _) _) | exact keep_cell hb (by go_simp)
  replace c0 : w20.cell? ⟨w8.heap.size, 0, none⟩ = some (.int .i64 6) := by first | exact keep_cell hb c0 | exact keep_cell hb (alloc_cell c0 _) | exact keep_cell hb (alloc_cell (alloc_cell c0 _) _) | exact keep_cell hb (by go_simp)
  replace c1 : w20.cell? ⟨w8.heap.size, 1, none⟩ = some (.int .u64 (u 61#64)) := by first | exact keep_cell hb c1 | exact keep_cell hb (alloc_cell c1 _) | exact keep_cell hb (alloc_cell (alloc_cell c1 _) _) | exact keep_cell hb (by go_simp)
  replace d0 : w20.cell? ⟨w11.heap.size, 0, none⟩ = some (.int .i64 5) := by first | exact keep_cell hb d0 | exact keep_cell hb (alloc_cell d0 _) | exact keep_cell hb (alloc_cell (alloc_cell d0 _) _) | exact keep_cell hb (by go_simp)
  replace d1 : w20.cell? ⟨w11.heap.size, 1, none⟩ = some (.int .u64 (u 21#64)) := by first | exact keep_cell hb d1 | exact keep_cell hb (alloc_cell d1 _) | exact keep_cell hb (alloc_cell (alloc_cell d1 _) _) | exact keep_cell hb (by go_simp)
  replace x0 : w20.cell? ⟨w16.heap.size, 0, none⟩ = some (.int .i64 4) := by first | exact keep_cell hb x0 | exact keep_cell hb (alloc_cell x0 _) | exact keep_cell hb (alloc_cell (alloc_cell x0 _) _) | exact keep_cell hb (by go_simp)
  replace x1 : w20.cell? ⟨w16.heap.size, 1, none⟩ = some (.int .u64 (u 13#64)) := by first | exact keep_cell hb x1 | exact keep_cell hb (alloc_cell x1 _) | exact keep_cell hb (alloc_cell (alloc_cell x1 _) _) | exact keep_cell hb (by go_simp)
  have y0 : w20.cell? ⟨w19.heap.size, 0, none⟩ = some (.int .i64 8) := keep_cell hb (by simp [World.cell?_alloc_new])
  have y1 : w20.cell? ⟨w19.heap.size, 1, none⟩ = some (.int .u64 (u 128#64)) := keep_cell hb (by simp [World.cell?_alloc_new])
  replace hB : Below w.heap.size w w20 := by repeat (first | exact Below.refl _ _ | exact hB | (refine Below.setCell ?_ (by first | omega | (simp; omega) | (simp; done)) _) | (refine Below.alloc ?_ (by first | omega | (simp; omega) | (simp; done)) _) | (refine below_drewN ?_ _) | (refine Below.drew ?_) | (refine below_via hb ?_ (by first | omega | (simp; omega) | (simp; done))))
  replace hz := hB.size
  clear hb
  go_wp2_with fail
  refine (tolds 4 15#64 0 (by decide) (un_any 2 4 (wfi (by decide)) 1#64 _)).mono ?_
  rintro e21 w21 ⟨rfl, hb⟩
  replace a0 : w21.cell? ⟨w3.heap.size, 0, none⟩ = some (.int .i64 4) := by first | exact keep_cell hb a0 | exact keep_cell hb (alloc_cell a0 _) | exact keep_cell hb (alloc_cell (alloc_cell a0 _) _) | exact keep_cell hb (by go_simp)
  replace a1 : w21.cell? ⟨w3.heap.size, 1, none⟩ = some (.int .u64 (u 1#64)) := by first | exact keep_cell hb a1 | exact keep_cell hb (alloc_cell a1 _) | exact keep_cell hb (alloc_cell (alloc_cell a1 _) _) | exact keep_cell hb (by go_simp)
  replace b0 : w21.cell? ⟨w6.heap.size, 0, none⟩ = some (.int .i64 4) := by first | exact keep_cell hb b0 | exact keep_cell hb (alloc_cell b0 _) | exact keep_cell hb (alloc_cell (alloc_cell b0 _) _) | exact keep_cell hb (by go_simp)
  replace b1 : w21.cell? ⟨w6.heap.size, 1, none⟩ = some (.int .u64 (u 2#64)) := by first | exact keep_cell hb b1 | exact keep_cell hb (alloc_cell b1 _) | exact keep_cell hb (alloc_cell (alloc_cell b1 _) _) | exact keep_cell hb (by go_simp)
  replace c0 : w21.cell? ⟨w8.heap.size, 0, none⟩ = some (.int .i64 6) := by first | exact keep_cell hb c0 | exact keep_cell hb (alloc_cell c0 _) | exact keep_cell hb (alloc_cell (alloc_cell c0 _) _) | exact keep_cell hb (by go_simp)
  replace c1 : w21.cell? ⟨w8.heap.size, 1, none⟩ = some (.int .u64 (u 61#64)) := by first | exact keep_cell hb c1 | exact keep_cell hb (alloc_cell c1 _) | exact keep_cell hb (alloc_cell (alloc_cell c1 _) _) | exact keep_cell hb (by go_simp)
  replace d0 : w21.cell? ⟨w11.heap.size, 0, none⟩ = some (.int .i64 5) := by first | exact keep_cell hb d0 | exact keep_cell hb (alloc_cell d0 _) | exact keep_cell hb (alloc_cell (alloc_cell d0 _) _) | exact keep_cell hb (by go_simp)
  replace d1 : w21.cell? ⟨w11.heap.size, 1, none⟩ = some (.int .u64 (u 21#64)) := by first | exact keep_cell hb d1 | exact keep_cell hb (alloc_cell d1 _) | exact keep_cell hb (alloc_cell (alloc_cell d1 _) _) | exact keep_cell hb (by go_simp)
  replace x0 : w21.cell? ⟨w16.heap.size, 0, none⟩ = some (.int .i64 4) := by first | exact keep_cell hb x0 | exact keep_cell hb (alloc_cell x0 _) | exact keep_cell hb (alloc_cell (alloc_cell x0 _) _) | exact keep_cell hb (by go_simp)
  replace x1 : w21.cell? ⟨w16.heap.size, 1, none⟩ = some (.int .u64 (u 13#64)) := by first | exact keep_cell hb x1 | exact keep_cell hb (alloc_cell x1 _) | exact keep_cell hb (alloc_cell (alloc_cell x1 _) _) | exact keep_cell hb (by go_simp)
  replace y0 : w21.cell? ⟨w19.heap.size, 0, none⟩ = some (.int .i64 8) := by first | exact keep_cell hb y0 | exact keep_cell hb (alloc_cell y0 _) | exact keep_cell hb (alloc_cell (alloc_cell y0 _) _) | exact keep_cell hb (by go_simp)
  replace y1 : w21.cell? ⟨w19.heap.size, 1, none⟩ = some (.int .u64 (u 128#64)) := by first | exact keep_cell hb y1 | exact keep_cell hb (alloc_cell y1 _) | exact keep_cell hb (alloc_cell (alloc_cell y1 _) _) | exact keep_cell hb (by go_simp)
  replace hB : Below w.heap.size w w21 := by repeat (first | exact Below.refl _ _ | exact hB | (refine Below.setCell ?_ (by first | omega | (simp; omega) | (simp; done)) _) | (refine Below.alloc ?_ (by first | omega | (simp; omega) | (simp; done)) _) | (refine below_drewN ?_ _) | (refine Below.drew ?_) | (refine below_via hb ?_ (by first | omega | (simp; omega) | (simp; done))))
  replace hz := hB.size
  clear hb
  go_wp2_with fail
  refine (tolds 0 0#64 1 (by decide) (cat_none none 0 _)).mono ?_
  rintro e22 w22 ⟨rfl, hb⟩
  replace a0 : w22.cell? ⟨w3.heap.size, 0, none⟩ = some (.int .i64 4) := by first | exact keep_cell hb a0 | exact keep_cell hb (alloc_cell a0 _) | exact keep_cell hb (alloc_cell (alloc_cell a0 _) _) | exact keep_cell hb (by go_simp)
  replace a1 : w22.cell? ⟨w3.heap.size, 1, none⟩ = some (.int .u64 (u 1#64)) := by first | exact keep_cell hb a1 | exact keep_cell hb (alloc_cell a1 _) | exact keep_cell hb (alloc_cell (alloc_cell a1 _) _) | exact keep_cell hb (by go_simp)
  replace b0 : w22.cell? ⟨w6.heap.size, 0, none⟩ = some (.int .i64 4) := by first | exact keep_cell hb b0 | exact keep_cell hb (alloc_cell b0 _) | exact keep_cell hb (alloc_cell (alloc_cell b0 _) _) | exact keep_cell hb (by go_simp)
  replace b1 : w22.cell? ⟨w6.heap.size, 1, none⟩ = some (.int .u64 (u 2#64)) := by first | exact keep_cell hb b1 | exact keep_cell hb (alloc_cell b1 _) | exact keep_cell hb (alloc_cell (alloc_cell b1 _) _) | exact keep_cell hb (by go_simp)
  replace c0 : w22.cell? ⟨w8.heap.size, 0, none⟩ = some (.int .i64 6) := by first | exact keep_cell hb c0 | exact keep_cell hb (alloc_cell c0 _) | exact keep_cell hb (alloc_cell (alloc_cell c0 _) _) | exact keep_cell hb (by go_simp)
  replace c1 : w22.cell? ⟨w8.heap.size, 1, none⟩ = some (.int .u64 (u 61#64)) := by first | exact keep_cell hb c1 | exact keep_cell hb (alloc_cell c1 _) | exact keep_cell hb (alloc_cell (alloc_cell c1 _) _) | exact keep_cell hb (by go_simp)
  replace d0 : w22.cell? ⟨w11.heap.size, 0, none⟩ = some (.int .i64 5) := by first | exact keep_cell hb d0 | exact keep_cell hb (alloc_cell d0 _) | exact keep_cell hb (alloc_cell (alloc_cell d0 _) _) | exact keep_cell hb (by go_simp)
  replace d1 : w22.cell? ⟨w11.heap.size, 1, none⟩ = some (.int .u64 (u 21#64)) := by first | exact keep_cell hb d1 | exact keep_cell hb (alloc_cell d1 _) | exact keep_cell hb (alloc_cell (alloc_cell d1 _) _) | exact keep_cell hb (by go_simp)
  replace x0 : w22.cell? ⟨w16.heap.size, 0, none⟩ = some (.int .i64 4) := by first | exact keep_cell hb x0 | exact keep_cell hb (alloc_cell x0 _) | exact keep_cell hb (alloc_cell (alloc_cell x0 _) _) | exact keep_cell hb (by go_simp)
  replace x1 : w22.cell? ⟨w16.heap.size, 1, none⟩ = some (.int .u64 (u 13#64)) := by first | exact keep_cell hb x1 | exact keep_cell hb (alloc_cell x1 _) | exact keep_cell hb (alloc_cell (alloc_cell x1 _) _) | exact keep_cell hb (by go_simp)
  replace y0 : w22.cell? ⟨w19.heap.size, 0, none⟩ = some (.int .i64 8) := by first | exact keep_cell hb y0 | exact keep_cell hb (alloc_cell y0 _) | exact keep_cell hb (alloc_cell (alloc_cell y0 _) _) | exact keep_cell hb (by go_simp)
  replace y1 : w22.cell? ⟨w19.heap.size, 1, none⟩ = some (.int .u64 (u 128#64)) := by first | exact keep_cell hb y1 | exact keep_cell hb (alloc_cell y1 _) | exact keep_cell hb (alloc_cell (alloc_cell y1 _) _) | exact keep_cell hb (by go_simp)
  have z0 : w22.cell? ⟨w21.heap.size, 0, none⟩ = some (.int .i64 4) := keep_cell hb (by simp [World.cell?_alloc_new])
  have z1 : w22.cell? ⟨w21.heap.size, 1, none⟩ = some (.int .u64 (u 15#64)) := keep_cell hb (by simp [World.cell?_alloc_new])
  replace hB : Below w.heap.size w w22 := by repeat (first | exact Below.refl _ _ | exact hB | (refine Below.setCell ?_ (by first | omega | (simp; omega) | (simp; done)) _) | (refine Below.alloc ?_ (by first | omega | (simp; omega) | (simp; done)) _) | (refine below_drewN ?_ _) | (refine Below.drew ?_) | (refine below_via hb ?_ (by first | omega | (simp; omega) | (simp; done))))
  replace hz := hB.size
  clear hb
  go_wp2_with fail
  refine (bits_is 1 1#64 _ (by decide) _).mono ?_
  rintro e23 w23 ⟨rfl, hb⟩
  replace a0 : w23.cell? ⟨w3.heap.size, 0, none⟩ = some (.int .i64 4) := by first | exact keep_cell hb a0 | exact keep_cell hb (alloc_cell a0 _) | exact keep_cell hb (alloc_cell (alloc_cell a0 _) _) | exact keep_cell hb (by go_simp)
  replace a1 : w23.cell? ⟨w3.heap.size, 1, none⟩ = some (.int .u64 (u 1#64)) := by first | exact keep_cell hb a1 | exact keep_cell hb (alloc_cell a1 _) | exact keep_cell hb (alloc_cell (alloc_cell a1 _) _) | exact keep_cell hb (by go_simp)
  replace b0 : w23.cell? ⟨w6.heap.size, 0, none⟩ = some (.int .i64 4) := by first | exact keep_cell hb b0 | exact keep_cell hb (alloc_cell b0 _) | exact keep_cell hb (alloc_cell (alloc_cell b0 _) _) | exact keep_cell hb (by go_simp)
  replace b1 : w23.cell? ⟨w6.heap.size, 1, none⟩ = some (.int .u64 (u 2#64)) := by first | exact keep_cell hb b1 | exact keep_cell hb (alloc_cell b1 _) | exact keep_cell hb (alloc_cell (alloc_cell b1 _) _) | exact keep_cell hb (by go_simp)
  replace c0 : w23.cell? ⟨w8.heap.size, 0, none⟩ = some (.int .i64 6) := by first | exact keep_cell hb c0 | exact keep_cell hb (alloc_cell c0 _) | exact keep_cell hb (alloc_cell (alloc_cell c0 _) _) | exact keep_cell hb (by go_simp)
  replace c1 : w23.cell? ⟨w8.heap.size, 1, none⟩ = some (.int .u64 (u 61#64)) := by first | exact keep_cell hb c1 | exact keep_cell hb (alloc_cell c1 _) | exact keep_cell hb (alloc_cell (alloc_cell c1 _) _) | exact keep_cell hb (by go_simp)
  replace d0 : w23.cell? ⟨w11.heap.size, 0, none⟩ = some (.int .i64 5) := by first | exact keep_cell hb d0 | exact keep_cell hb (alloc_cell d0 _) | exact keep_cell hb (alloc_cell (alloc_cell d0 _) _) | exact keep_cell hb (by go_simp)
  replace d1 : w23.cell? ⟨w11.heap.size, 1, none⟩ = some (.int .u64 (u 21#64)) := by first | exact keep_cell hb d1 | exact keep_cell hb (alloc_cell d1 _) | exact keep_cell hb (alloc_cell (alloc_cell d1 _) _) | exact keep_cell hb (by go_simp)
  replace x0 : w23.cell? ⟨w16.heap.size, 0, none⟩ = some (.int .i64 4) := by first | exact keep_cell hb x0 | exact keep_cell hb (alloc_cell x0 _) | exact keep_cell hb (alloc_cell (alloc_cell x0 _) _) | exact keep_cell hb (by go_simp)
  replace x1 : w23.cell? ⟨w16.heap.size, 1, none⟩ = some (.int .u64 (u 13#64)) := by first | exact keep_cell hb x1 | exact keep_cell hb (alloc_cell x1 _) | exact keep_cell hb (alloc_cell (alloc_cell x1 _) _) | exact keep_cell hb (by go_simp)
  replace y0 : w23.cell? ⟨w19.heap.size, 0, none⟩ = some (.int .i64 8) := by first | exact keep_cell hb y0 | exact keep_cell hb (alloc_cell y0 _) | exact keep_cell hb (alloc_cell (alloc_cell y0 _) _) | exact keep_cell hb (by go_simp)
  replace y1 : w23.cell? ⟨w19.heap.size, 1, none⟩ = some (.int .u64 (u 128#64)) := by first | exact keep_cell hb y1 | exact keep_cell hb (alloc_cell y1 _) | exact keep_cell hb (alloc_cell (alloc_cell y1 _) _) | exact keep_cell hb (by go_simp)
  replace z0 : w23.cell? ⟨w21.heap.size, 0, none⟩ = some (.int .i64 4) := by first | exact keep_cell hb z0 | exact keep_cell hb (alloc_cell z0 _) | exact keep_cell hb (alloc_cell (alloc_cell z0 _) _) | exact keep_cell hb (by go_simp)
  replace z1 : w23.cell? ⟨w21.heap.size, 1, none⟩ = some (.int .u64 (u 15#64)) := by first | exact keep_cell hb z1 | exact keep_cell hb (alloc_cell z1 _) | exact keep_cell hb (alloc_cell (alloc_cell z1 _) _) | exact keep_cell hb (by go_simp)
  replace hB : Below w.heap.size w w23 := by repeat (first | exact Below.refl _ _ | exact hB | (refine Below.setCell ?_ (by first | omega | (simp; omega) | (simp; done)) _) | (refine Below.alloc ?_ (by first | omega | (simp; omega) | (simp; done)) _) | (refine below_drewN ?_ _) | (refine Below.drew ?_) | (refine below_via hb ?_ (by first | omega | (simp; omega) | (simp; done))))
  replace hz := hB.size
  clear hb
  go_wp2_with fail
  refine (bits_is 2 3#64 _ (by decide) _).mono ?_
  rintro e24 w24 ⟨rfl, hb⟩
  replace a0 : w24.cell? ⟨w3.heap.size, 0, none⟩ = some (.int .i64 4) := by first | exact keep_cell hb a0 | exact keep_cell hb (alloc_cell a0 _) | exact keep_cell hb (alloc_cell (alloc_cell a0 _) _) | exact keep_cell hb (by go_simp)
  replace a1 : w24.cell? ⟨w3.heap.size, 1, none⟩ = some (.int .u64 (u 1#64)) := by first | exact keep_cell hb a1 | exact keep_cell hb (alloc_cell a1 _) | exact keep_cell hb (alloc_cell (alloc_cell a1 _) _) | exact keep_cell hb (by go_simp)
  replace b0 : w24.cell? ⟨w6.heap.size, 0, none⟩ = some (.int .i64 4) := by first | exact keep_cell hb b0 | exact keep_cell hb (alloc_cell b0 _) | exact keep_cell hb (alloc_cell (alloc_cell b0 _) _) | exact keep_cell hb (by go_simp)
  replace b1 : w24.cell? ⟨w6.heap.size, 1, none⟩ = some (.int .u64 (u 2#64)) := by first | exact keep_cell hb b1 | exact keep_cell hb (alloc_cell b1 _) | exact keep_cell hb (alloc_cell (alloc_cell b1 _) _) | exact keep_cell hb (by go_simp)
  replace c0 : w24.cell? ⟨w8.heap.size, 0, none⟩ = some (.int .i64 6) := by first | exact keep_cell hb c0 | exact keep_cell hb (alloc_cell c0 _) | exact keep_cell hb (alloc_cell (alloc_cell c0 _) _) | exact keep_cell hb (by go_simp)
  replace c1 : w24.cell? ⟨w8.heap.size, 1, none⟩ = some (.int .u64 (u 61#64)) := by first | exact keep_cell hb c1 | exact keep_cell hb (alloc_cell c1 _) | exact keep_cell hb (alloc_cell (alloc_cell c1 _) _) | exact keep_cell hb (by go_simp)
  replace d0 : w24.cell? ⟨w11.heap.size, 0, none⟩ = some (.int .i64 5) := by first | exact keep_cell hb d0 | exact keep_cell hb (alloc_cell d0 _) | exact keep_cell hb (alloc_cell (alloc_cell d0 _) _) | exact keep_cell hb (by go_simp)
  replace d1 : w24.cell? ⟨w11.heap.size, 1, none⟩ = some (.int .u64 (u 21#64)) := by first | exact keep_cell hb d1 | exact keep_cell hb (alloc_cell d1 _) | exact keep_cell hb (alloc_cell (alloc_cell d1 _) _) | exact keep_cell hb (by go_simp)
  replace x0 : w24.cell? ⟨w16.heap.size, 0, none⟩ = some (.int .i64 4) := by first | exact keep_cell hb x0 | exact keep_cell hb (alloc_cell x0 _) | exact keep_cell hb (alloc_cell (alloc_cell x0 _) _) | exact keep_cell hb (by go_simp)
  replace x1 : w24.cell? ⟨w16.heap.size, 1, none⟩ = some (.int .u64 (u 13#64)) := by first | exact keep_cell hb x1 | exact keep_cell hb (alloc_cell x1 _) | exact keep_cell hb (alloc_cell (alloc_cell x1 _) _) | exact keep_cell hb (by go_simp)
  replace y0 : w24.cell? ⟨w19.heap.size, 0, none⟩ = some (.int .i64 8) := by first | exact keep_cell hb y0 | exact keep_cell hb (alloc_cell y0 _) | exact keep_cell hb (alloc_cell (alloc_cell y0 _) _) | exact keep_cell hb (by go_simp)
  replace y1 : w24.cell? ⟨w19.heap.size, 1, none⟩ = some (.int .u64 (u 128#64)) := by first | exact keep_cell hb y1 | exact keep_cell hb (alloc_cell y1 _) | exact keep_cell hb (alloc_cell (alloc_cell y1 _) _) | exact keep_cell hb (by go_simp)
  replace z0 : w24.cell? ⟨w21.heap.size, 0, none⟩ = some (.int .i64 4) := by first | exact keep_cell hb z0 | exact keep_cell hb (alloc_cell z0 _) | exact keep_cell hb (alloc_cell (alloc_cell z0 _) _) | exact keep_cell hb (by go_simp)
  replace z1 : w24.cell? ⟨w21.heap.size, 1, none⟩ = some (.int .u64 (u 15#64)) := by first | exact keep_cell hb z1 | exact keep_cell hb (alloc_cell z1 _) | exact keep_cell hb (alloc_cell (alloc_cell z1 _) _) | exact keep_cell hb (by go_simp)
  replace hB : Below w.heap.size w w24 := by repeat (first | exact Below.refl _ _ | exact hB | (refine Below.setCell ?_ (by first | omega | (simp; omega) | (simp; done)) _) | (refine Below.alloc ?_ (by first | omega | (simp; omega) | (simp; done)) _) | (refine below_drewN ?_ _) | (refine Below.drew ?_) | (refine below_via hb ?_ (by first | omega | (simp; omega) | (simp; done))))
  replace hz := hB.size
  clear hb
  go_wp2_with fail
  refine (bits_is 2 0#64 _ (by decide) _).mono ?_
  rintro e25 w25 ⟨rfl, hb⟩
  replace a0 : w25.cell? ⟨w3.heap.size, 0, none⟩ = some (.int .i64 4) := by first | exact keep_cell hb a0 | exact keep_cell hb (alloc_cell a0 _) | exact keep_cell hb (alloc_cell (alloc_cell a0 _) _) | exact keep_cell hb (by go_simp)
  replace a1 : w25.cell? ⟨w3.heap.size, 1, none⟩ = some (.int .u64 (u 1#64)) := by first | exact keep_cell hb a1 | exact keep_cell hb (alloc_cell a1 _) | exact keep_cell hb (alloc_cell (alloc_cell a1 _) _) | exact keep_cell hb (by go_simp)
  replace b0 : w25.cell? ⟨w6.heap.size, 0, none⟩ = some (.int .i64 4) := by first | exact keep_cell hb b0 | exact keep_cell hb (alloc_cell b0 _) | exact keep_cell hb (alloc_cell (alloc_cell b0 _) _) | exact keep_cell hb (by go_simp)
  replace b1 : w25.cell? ⟨w6.heap.size, 1, none⟩ = some (.int .u64 (u 2#64)) := by first | exact keep_cell hb b1 | exact keep_cell hb (alloc_cell b1 _) | exact keep_cell hb (alloc_cell (alloc_cell b1 _) _) | exact keep_cell hb (by go_simp)
  replace c0 : w25.cell? ⟨w8.heap.size, 0, none⟩ = some (.int .i64 6) := by first | exact keep_cell hb c0 | exact keep_cell hb (alloc_cell c0 _) | exact keep_cell hb (alloc_cell (alloc_cell c0 _) _) | exact keep_cell hb (by go_simp)
  replace c1 : w25.cell? ⟨w8.heap.size, 1, none⟩ = some (.int .u64 (u 61#64)) := by first | exact keep_cell hb c1 | exact keep_cell hb (alloc_cell c1 _) | exact keep_cell hb (alloc_cell (alloc_cell c1 _) _) | exact keep_cell hb (by go_simp)
  replace d0 : w25.cell? ⟨w11.heap.size, 0, none⟩ = some (.int .i64 5) := by first | exact keep_cell hb d0 | exact keep_cell hb (alloc_cell d0 _) | exact keep_cell hb (alloc_cell (alloc_cell d0 _) _) | exact keep_cell hb (by go_simp)
  replace d1 : w25.cell? ⟨w11.heap.size, 1, none⟩ = some (.int .u64 (u 21#64)) := by first | exact keep_cell hb d1 | exact keep_cell hb (alloc_cell d1 _) | exact keep_cell hb (alloc_cell (alloc_cell d1 _) _) | exact keep_cell hb (by go_simp)
  replace x0 : w25.cell? ⟨w16.heap.size, 0, none⟩ = some (.int .i64 4) := by first | exact keep_cell hb x0 | exact keep_cell hb (alloc_cell x0 _) | exact keep_cell hb (alloc_cell (alloc_cell x0 _) _) | exact keep_cell hb (by go_simp)
  replace x1 : w25.cell? ⟨w16.heap.size, 1, none⟩ = some (.int .u64 (u 13#64)) := by first | exact keep_cell hb x1 | exact keep_cell hb (alloc_cell x1 _) | exact keep_cell hb (alloc_cell (alloc_cell x1 _) _) | exact keep_cell hb (by go_simp)
  replace y0 : w25.cell? ⟨w19.heap.size, 0, none⟩ = some (.int .i64 8) := by first | exact keep_cell hb y0 | exact keep_cell hb (alloc_cell y0 _) | exact keep_cell hb (alloc_cell (alloc_cell y0 _) _) | exact keep_cell hb (by go_simp)
  replace y1 : w25.cell? ⟨w19.heap.size, 1, none⟩ = some (.int .u64 (u 128#64)) := by first | exact keep_cell hb y1 | exact keep_cell hb (alloc_cell y1 _) | exact keep_cell hb (alloc_cell (alloc_cell y1 _) _) | exact keep_cell hb (by go_simp)
  replace z0 : w25.cell? ⟨w21.heap.size, 0, none⟩ = some (.int .i64 4) := by first | exact keep_cell hb z0 | exact keep_cell hb (alloc_cell z0 _) | exact keep_cell hb (alloc_cell (alloc_cell z0 _) _) | exact keep_cell hb (by go_simp)
  replace z1 : w25.cell? ⟨w21.heap.size, 1, none⟩ = some (.int .u64 (u 15#64)) := by first | exact keep_cell hb z1 | exact keep_cell hb (alloc_cell z1 _) | exact keep_cell hb (alloc_cell (alloc_cell z1 _) _) | exact keep_cell hb (by go_simp)
  replace hB : Below w.heap.size w w25 := by repeat (first | exact Below.refl _ _ | exact hB | (refine Below.setCell ?_ (by first | omega | (simp; omega) | (simp; done)) _) | (refine Below.alloc ?_ (by first | omega | (simp; omega) | (simp; done)) _) | (refine below_drewN ?_ _) | (refine Below.drew ?_) | (refine below_via hb ?_ (by first | omega | (simp; omega) | (simp; done))))
  replace hz := hB.size
  clear hb
  go_wp2_with fail
  refine (tolds 2 3#64 0 (by decide) (cond_any 1 (wfi (by decide)) 1#64 2 (wfi (by decide)) 3#64 2 (wfi (by decide)) 0#64 _)).mono ?_
  rintro e26 w26 ⟨rfl, hb⟩
  replace a0 : w26.cell? ⟨w3.heap.size, 0, none⟩ = some (.int .i64 4) := by first | exact keep_cell hb a0 | exact keep_cell hb (alloc_cell a0 _) | exact keep_cell hb (alloc_cell (alloc_cell a0 _) _) | exact keep_cell hb (by go_simp)
  replace a1 : w26.cell? ⟨w3.heap.size, 1, none⟩ = some (.int .u64 (u 1#64)) := by first | exact keep_cell hb a1 | exact keep_cell hb (alloc_cell a1 _) | exact keep_cell hb (alloc_cell (alloc_cell a1 _) _) | exact keep_cell hb (by go_simp)
  replace b0 : w26.cell? ⟨w6.heap.size, 0, none⟩ = some (.int .i64 4) := by first | exact keep_cell hb b0 | exact keep_cell hb (alloc_cell b0 _) | exact keep_cell hb (alloc_cell (alloc_cell b0 _) _) | exact keep_cell hb (by go_simp)
  replace b1 : w26.cell? ⟨w6.heap.size, 1, none⟩ = some (.int .u64 (u 2#64)) := by first | exact keep_cell hb b1 | exact keep_cell hb (alloc_cell b1 _) | exact keep_cell hb (alloc_cell (alloc_cell b1 _) _) | exact keep_cell hb (by go_simp)
  replace c0 : w26.cell? ⟨w8.heap.size, 0, none⟩ = some (.int .i64 6) := by first | exact keep_cell hb c0 | exact keep_cell hb (alloc_cell c0 _) | exact keep_cell hb (alloc_cell (alloc_cell c0 _) _) | exact keep_cell hb (by go_simp)
  replace c1 : w26.cell? ⟨w8.heap.size, 1, none⟩ = some (.int .u64 (u 61#64)) := by first | exact keep_cell hb c1 | exact keep_cell hb (alloc_cell c1 _) | exact keep_cell hb (alloc_cell (alloc_cell c1 _) _) | exact keep_cell hb (by go_simp)
  replace d0 : w26.cell? ⟨w11.heap.size, 0, none⟩ = some (.int .i64 5) := by first | exact keep_cell hb d0 | exact keep_cell hb (alloc_cell d0 _) | exact keep_cell hb (alloc_cell (alloc_cell d0 _) _) | exact keep_cell hb (by go_simp)
  replace d1 : w26.cell? ⟨w11.heap.size, 1, none⟩ = some (.int .u64 (u 21#64)) := by first | exact keep_cell hb d1 | exact keep_cell hb (alloc_cell d1 _) | exact keep_cell hb (alloc_cell (alloc_cell d1 _) _) | exact keep_cell hb (by go_simp)
  replace x0 : w26.cell? ⟨w16.heap.size, 0, none⟩ = some (.int .i64 4) := by first | exact keep_cell hb x0 | exact keep_cell hb (alloc_cell x0 _) | exact keep_cell hb (alloc_cell (alloc_cell x0 _) _) | exact keep_cell hb (by go_simp)
  replace x1 : w26.cell? ⟨w16.heap.size, 1, none⟩ = some (.int .u64 (u 13#64)) := by first | exact keep_cell hb x1 | exact keep_cell hb (alloc_cell x1 _) | exact keep_cell hb (alloc_cell (alloc_cell x1 _) _) | exact keep_cell hb (by go_simp)
  replace y0 : w26.cell? ⟨w19.heap.size, 0, none⟩ = some (.int .i64 8) := by first | exact keep_cell hb y0 | exact keep_cell hb (alloc_cell y0 _) | exact keep_cell hb (alloc_cell (alloc_cell y0 _) _) | exact keep_cell hb (by go_simp)
  replace y1 : w26.cell? ⟨w19.heap.size, 1, none⟩ = some (.int .u64 (u 128#64)) := by first | exact keep_cell hb y1 | exact keep_cell hb (alloc_cell y1 _) | exact keep_cell hb (alloc_cell (alloc_cell y1 _) _) | exact keep_cell hb (by go_simp)
  replace z0 : w26.cell? ⟨w21.heap.size, 0, none⟩ = some (.int .i64 4) := by first | exact keep_cell hb z0 | exact keep_cell hb (alloc_cell z0 _) | exact keep_cell hb (alloc_cell (alloc_cell z0 _) _) | exact keep_cell hb (by go_simp)
  replace z1 : w26.cell? ⟨w21.heap.size, 1, none⟩ = some (.int .u64 (u 15#64)) := by first | exact keep_cell hb z1 | exact keep_cell hb (alloc_cell z1 _) | exact keep_cell hb (alloc_cell (alloc_cell z1 _) _) | exact keep_cell hb (by go_simp)
  replace hB : Below w.heap.size w w26 := by repeat (first | exact Below.refl _ _ | exact hB | (refine Below.setCell ?_ (by first | omega | (simp; omega) | (simp; done)) _) | (refine Below.alloc ?_ (by first | omega | (simp; omega) | (simp; done)) _) | (refine below_drewN ?_ _) | (refine Below.drew ?_) | (refine below_via hb ?_ (by first | omega | (simp; omega) | (simp; done))))
  replace hz := hB.size
  clear hb
  go_wp2_with fail
  have n0 : (w26.alloc (.cells #[.int .i64 2, .int .u64 (u 3#64)] 24)).cell? ⟨w26.heap.size, 0, none⟩ = some (.int .i64 2) := by simp [World.cell?_alloc_new]
  have n1 : (w26.alloc (.cells #[.int .i64 2, .int .u64 (u 3#64)] 24)).cell? ⟨w26.heap.size, 1, none⟩ = some (.int .u64 (u 3#64)) := by simp [World.cell?_alloc_new]
  replace a0 := alloc_cell a0 (.cells #[.int .i64 2, .int .u64 (u 3#64)] 24)
  replace a1 := alloc_cell a1 (.cells #[.int .i64 2, .int .u64 (u 3#64)] 24)
  replace b0 := alloc_cell b0 (.cells #[.int .i64 2, .int .u64 (u 3#64)] 24)
  replace b1 := alloc_cell b1 (.cells #[.int .i64 2, .int .u64 (u 3#64)] 24)
  replace c0 := alloc_cell c0 (.cells #[.int .i64 2, .int .u64 (u 3#64)] 24)
  replace c1 := alloc_cell c1 (.cells #[.int .i64 2, .int .u64 (u 3#64)] 24)
  replace d0 := alloc_cell d0 (.cells #[.int .i64 2, .int .u64 (u 3#64)] 24)
  replace d1 := alloc_cell d1 (.cells #[.int .i64 2, .int .u64 (u 3#64)] 24)
  replace x0 := alloc_cell x0 (.cells #[.int .i64 2, .int .u64 (u 3#64)] 24)
  replace x1 := alloc_cell x1 (.cells #[.int .i64 2, .int .u64 (u 3#64)] 24)
  replace y0 := alloc_cell y0 (.cells #[.int .i64 2, .int .u64 (u 3#64)] 24)
  replace y1 := alloc_cell y1 (.cells #[.int .i64 2, .int .u64 (u 3#64)] 24)
  replace z0 := alloc_cell z0 (.cells #[.int .i64 2, .int .u64 (u 3#64)] 24)
  replace z1 := alloc_cell z1 (.cells #[.int .i64 2, .int .u64 (u 3#64)] 24)
  replace hB : Below w.heap.size w (w26.alloc (.cells #[.int .i64 2, .int .u64 (u 3#64)] 24)) := hB.alloc (by first | omega | (simp; omega) | (simp; done)) _
  clear hz
  generalize w26.alloc (.cells #[.int .i64 2, .int .u64 (u 3#64)] 24) = wz at *
  have k1 : (u 1#64 == 1) = true := by decide
  have k2 : (u 2#64 == 2) = true := by decide
  have k61 : (u 61#64 == 61) = true := by decide
  have k21 : (u 21#64 == 21) = true := by decide
  have k13 : (u 13#64 == 13) = true := by decide
  have k128 : (u 128#64 == 128) = true := by decide
  have k15 : (u 15#64 == 15) = true := by decide
  have k3 : (u 3#64 == 3) = true := by decide
  have m5 : (u (msk 5) == 31) = true := by decide
  have h1 : ckI 3 8 = 1 := by decide
  have h2 : ckI 64 9223372036854775808 = 0 := by decide
  as_aux_lemma =>
    simp only [List.append_eq, List.cons_append, List.nil_append]
    have a0R := cell_regrown a0
    have a1R := cell_regrown a1
    have b0R := cell_regrown b0
    have b1R := cell_regrown b1
    have c0R := cell_regrown c0
    have c1R := cell_regrown c1
    have d0R := cell_regrown d0
    have d1R := cell_regrown d1
    have x0R := cell_regrown x0
    have x1R := cell_regrown x1
    have y0R := cell_regrown y0
    have y1R := cell_regrown y1
    have z0R := cell_regrown z0
    have z1R := cell_regrown z1
    have n0R := cell_regrown n0
    have n1R := cell_regrown n1
    refine wp_region_quiet_below (by kernel_rfl) (by kernel_rfl) ?_
    repeat (go_big_quiet_step (first | (go_at_call 38; exact Calls.regrown_of (law_bits _ _ _)) | (go_at_call 16; exact Calls.regrown_of (chk_any _ _ (by first | exact wfi (by decide) | decide) (by decide) _)) | (go_at_call 18; exact regrown_same (bitv_mask 5 (wfi (by decide)) _))))
    refine wpQuiet_nil ?_
    intro _ hw'
    obtain ⟨⟨dq, osq⟩, hw''⟩ := hw'
    subst hw''
    go_wp2
    go_ret
    exact ⟨rfl, hB.trans ((below_regrown wz dq osq).mono hB.size)⟩
end Go.Proofs.Ytemolkkpigkanaa
