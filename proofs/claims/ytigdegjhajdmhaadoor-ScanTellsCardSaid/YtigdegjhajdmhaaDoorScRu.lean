/-
  The reference: numbers.
-/
import Derived.Test.YtigdegjhajdmhaaDoorScRt
namespace Go.Proofs.YtigdegjhajdmhaaDoor
open Go Go.RowKit
set_option linter.unusedVariables false
set_option linter.unusedSimpArgs false
open Go.Sort

/-- What the reference says of digits: whether they are, whether they fit, and their number. -/
def numR (r : Nat) (l : Bytes) : Bool × Bool × Nat := if allD r l = true then (decide (0 < l.length), decide (num r l < 18446744073709551616), num r l % 18446744073709551616) else (false, false, 0)
/-- The block of a number. -/
def NumAt (w : World) (g : Nat) (a b : Bool) (V : Int) : Prop := w.heap[g]? = some (.cells #[.bool a, .bool b, .int .u64 V] 65 (0, 0))
theorem NumAt.cells {w : World} {g : Nat} {a b : Bool} {V : Int} (h : NumAt w g a b V) : w.cell? ⟨g, 0, none⟩ = some (.bool a) ∧ w.cell? ⟨g, 1, none⟩ = some (.bool b) ∧ w.cell? ⟨g, 2, none⟩ = some (.int .u64 V) := by
  unfold NumAt at h
  simp [World.cell?, h]
theorem NumAt.free {w : World} {g : Nat} {a b : Bool} {V : Int} (h : NumAt w g a b V) (i : Nat) : w.frozen? ⟨g, i, none⟩ = false := by
  unfold NumAt at h
  simp [World.frozen?, h]
theorem NumAt.lt {w : World} {g : Nat} {a b : Bool} {V : Int} (h : NumAt w g a b V) : g < w.heap.size := lt_cell h.cells.1
theorem NumAt.below {w w' : World} {g : Nat} {a b : Bool} {V : Int} (h : NumAt w g a b V) (hb : Below w.heap.size w w') : NumAt w' g a b V := by
  have := h.lt
  unfold NumAt at *
  rw [hb.block g this]; exact h
theorem NumAt.alloc {w : World} {g : Nat} {a b : Bool} {V : Int} (h : NumAt w g a b V) (x : Obj) : NumAt (w.alloc x) g a b V := h.below ((Below.refl _ _).alloc (Nat.le_refl _) x)
theorem NumAt.drewN {w : World} {g : Nat} {a b : Bool} {V : Int} (h : NumAt w g a b V) (n : Nat) : NumAt (w.drewN n) g a b V := h
theorem NumAt.new (w : World) (a b : Bool) (V : Int) : NumAt (w.alloc (.cells #[.bool a, .bool b, .int .u64 V] 65)) w.heap.size a b V := by
  unfold NumAt
  show (w.heap.push _)[w.heap.size]? = _
  simp
theorem NumAt.set1 {w : World} {g : Nat} {a b : Bool} {V : Int} (h : NumAt w g a b V) (c : Bool) : NumAt (w.setCell ⟨g, 1, none⟩ (.bool c)) g a c V := by
  unfold NumAt at *
  simp [World.setCell, Array.getElem?_modify, h]
theorem NumAt.set2 {w : World} {g : Nat} {a b : Bool} {V : Int} (h : NumAt w g a b V) (c : Int) : NumAt (w.setCell ⟨g, 2, none⟩ (.int .u64 c)) g a b c := by
  unfold NumAt at *
  simp [World.setCell, Array.getElem?_modify, h]
theorem NumAt.other {w : World} {g : Nat} {a b : Bool} {V : Int} (h : NumAt w g a b V) (g2 o : Nat) (hn : g2 ≠ g) (v : Value) : NumAt (w.setCell ⟨g2, o, none⟩ v) g a b V := by
  unfold NumAt at *
  simp [World.setCell, Array.getElem?_modify, h, hn]
theorem fits_false {n r d x : Nat} (hr : 0 < r) (hd : d < r) (hr2 : r ≤ 16) (hx : x = n % 18446744073709551616) (h : (18446744073709551616 - 1 - d) / r < x) : decide (n * r + d < 18446744073709551616) = false := by
  rw [decide_eq_false_iff_not]
  have h1 : 18446744073709551616 - 1 - d < x * r := by
    have := (Nat.div_lt_iff_lt_mul hr).1 h
    exact this
  have h2 : x ≤ n := by rw [hx]; exact Nat.mod_le _ _
  have h3 : x * r ≤ n * r := Nat.mul_le_mul_right r h2
  omega
theorem fits_keep {n r d x : Nat} (hr : 0 < r) (hd : d < r) (hr2 : r ≤ 16) (hx : x = n % 18446744073709551616) (h : ¬ (18446744073709551616 - 1 - d) / r < x) : decide (n * r + d < 18446744073709551616) = decide (n < 18446744073709551616) := by
  by_cases hn : n < 18446744073709551616
  · have hxn : x = n := by rw [hx]; exact Nat.mod_eq_of_lt hn
    have h1 : x ≤ (18446744073709551616 - 1 - d) / r := by omega
    have h2 : x * r ≤ 18446744073709551616 - 1 - d := (Nat.le_div_iff_mul_le hr).1 h1
    rw [hxn] at h2
    rw [decide_eq_true hn, decide_eq_true_eq]
    omega
  · have h1 : n * 1 ≤ n * r := Nat.mul_le_mul_left n hr
    rw [decide_eq_false hn, decide_eq_false_iff_not]
    omega
set_option maxHeartbeats 4000000 in
set_option maxRecDepth 100000 in
theorem refnumber_any (l : Bytes) (hl : l.length ≤ 100000) (r : Nat) (hr : 0 < r) (hr2 : r ≤ 16) (w : World) : Calls Tryd.prog 50 #[.string (bs l), .int .u64 (r : Int)] w fun e w' => e = .returned (.agg #[.bool (numR r l).1, .bool (numR r l).2.1, .int .u64 ((numR r l).2.2 : Int)]) ∧ Below w.heap.size w w' := by
  obtain ⟨R0, R1, R2, hR⟩ : ∃ a b c, numR r l = (a, b, c) := ⟨_, _, _, rfl⟩
  have HR := Lib.hid hR
  rw [hR]
  clear hR
  obtain ⟨ok, hok⟩ : ∃ ok, decide (0 < l.length) = ok := ⟨_, rfl⟩
  have hok2 : decide ((0 : Int) < (l.length : Int)) = ok := by rw [← hok]; congr 1; simp
  have HOK := Lib.hid hok
  go_enter Tryd.func50, Tryd.ntmps50
  go_wp2
  have na := (NumAt.new w false false 0).alloc (.cells #[.bool ok, .bool true, .int .u64 0] 65)
  have nb := NumAt.new (w.alloc (.cells #[.bool false, .bool false, .int .u64 0] 65)) ok true 0
  have hB : Below w.heap.size w ((w.alloc (.cells #[.bool false, .bool false, .int .u64 0] 65)).alloc (.cells #[.bool ok, .bool true, .int .u64 0] 65)) := by
    refine Below.alloc (Below.alloc (Below.refl _ _) (Nat.le_refl _) _) (by simp) _
  obtain ⟨g1, hg1⟩ : ∃ g1, (w.alloc (.cells #[.bool false, .bool false, .int .u64 0] 65)).heap.size = g1 := ⟨_, rfl⟩
  have hg2 : g1 = w.heap.size + 1 := by rw [← hg1]; simp
  rw [hg1] at nb
  go_loopg [6] l.length (fun g u wr => ∃ k : Nat, u = .int .i64 k ∧ k + g = l.length ∧ allD r (l.take k) = true ∧ NumAt wr w.heap.size false false 0 ∧ NumAt wr (w.heap.size + 1) ok (decide (num r (l.take k) < 18446744073709551616)) ((num r (l.take k) % 18446744073709551616 : Nat) : Int) ∧ Below w.heap.size w wr)
  case atStart => exact ⟨0, rfl, by omega, rfl, na, by rw [← hg2]; exact nb, hB⟩
  case round =>
    obtain ⟨k, rfl, hk, hall, ma, mb, hb0⟩ := hrel
    have HA := Lib.hid hall
    clear hall na nb hB
    obtain ⟨a0, a1, a2⟩ := ma.cells
    obtain ⟨b0, b1, b2⟩ := mb.cells
    have fa0 := ma.free 0
    have fa1 := ma.free 1
    have fa2 := ma.free 2
    have fb1 := mb.free 1
    have fb2 := mb.free 2
    by_cases hlt : k < l.length
    · have d1 : decide (k < l.length) = true := by simpa using hlt
      have d2 : decide ((k : Int) < (l.length : Int)) = true := by rw [decide_eq_true_eq]; omega
      have x2 : (k : Int) < (l.length : Int) := by omega
      have HS := Lib.hid (num_succ r l k hlt)
      have HT : Hid (allD r (l.take (k + 1)) = (allD r (l.take k) && decide (dg l[k] < r))) := Lib.hid (all_take_succ (fun c => decide (dg c < r)) l k hlt)
      have HB : Hid (allD r l = true → dg l[k] < r) := Lib.hid (fun h => allD_at h hlt)
      have hV := fun w => refvalue_i (l[k].toNat : Int) (bi_range l[k]) w
      have hdi := dg_int l[k]
      rw [hdi] at hV
      generalize hdd : dg l[k] = d at *
      by_cases hd : d < r
      · have e1 : decide ((r : Int) ≤ (d : Int)) = false := by rw [decide_eq_false_iff_not]; omega
        have e2 : decide (r ≤ d) = false := by rw [decide_eq_false_iff_not]; omega
        have HI : Hid (allD r (l.take (k + 1)) = true) := Lib.hid (by rw [HT.out, HA.out]; simpa using hd)
        have hd16 : d < 16 := by omega
        have HF1 := fun h => fits_false (n := num r (l.take k)) (x := num r (l.take k) % 18446744073709551616) hr hd hr2 rfl h
        have HF2 := fun h => fits_keep (n := num r (l.take k)) (x := num r (l.take k) % 18446744073709551616) hr hd hr2 rfl h
        have HM : Hid ((num r (l.take k) * r + d) % 18446744073709551616 = (num r (l.take k) % 18446744073709551616 * r + d) % 18446744073709551616) := Lib.hid (mod_step rfl)
        obtain ⟨x, hx⟩ : ∃ x, num r (l.take k) % 18446744073709551616 = x := ⟨_, rfl⟩
        rw [hx] at b2 HF1 HF2 HM
        clear hx
        have hz0 : 18446744073709551616 - 1 - d = 18446744073709551615 - d := rfl
        rw [hz0] at HF1 HF2
        obtain ⟨z, hz⟩ : ∃ z, 18446744073709551615 - d = z := ⟨_, rfl⟩
        have q1 : IntKind.u64.wrap (18446744073709551615 - (d : Int)) = (z : Int) := by rw [show (18446744073709551615 : Int) - (d : Int) = (z : Int) by omega]; exact IntWalk.u64_in _ (by omega)
        rw [hz] at HF1 HF2
        obtain ⟨t, ht⟩ : ∃ t, z / r = t := ⟨_, rfl⟩
        have q3 : IntKind.u64.wrap ((z : Int) / (r : Int)) = (t : Int) := by
          rw [← Int.natCast_ediv, ht]
          have := Nat.div_le_self z r
          exact IntWalk.u64_in _ (by omega)
        rw [ht] at HF1 HF2
        obtain ⟨y, hy⟩ : ∃ y, (x * r + d) % 18446744073709551616 = y := ⟨_, rfl⟩
        have hV3 : IntKind.u64.wrap (IntKind.u64.wrap ((x : Int) * (r : Int)) + (d : Int)) = (y : Int) := by
          rw [← hy]
          unfold IntKind.wrap
          simp [IntKind.signed, IntKind.bits]
        rw [hy] at HM
        have q2 : (r : Int) ≠ 0 := by omega
        have HXX := Lib.hid (And.intro hz (And.intro ht hy))
        clear hz ht hy hz0
        by_cases hq : t < x
        · have e3 : decide ((t : Int) < (x : Int)) = true := by rw [decide_eq_true_eq]; omega
          have HN := Lib.hid (HF1 hq)
          clear HF1 HF2
          go_wp2_with fail
          refine (hV _).mono ?_
          rintro e w1 ⟨rfl, rfl⟩
          go_wp2_with fail
          go_quiet (fail)
          go_wp2
          cases gk with
          | zero => omega
          | succ gg =>
            go_roundg gg
            case rel =>
              refine ⟨k + 1, rfl, by omega, HI.out, ?_, ?_, ?_⟩
              · exact ((ma.drewN _).other _ _ (by omega) _).other _ _ (by omega) _
              · rw [HS.out, HN.out, HM.out]; exact ((mb.drewN _).set1 false).set2 _
              · exact ((below_drewN hb0 _).setCell (by simp) _).setCell (by simp) _
            case measure => omega
        · have e3 : decide ((t : Int) < (x : Int)) = false := by rw [decide_eq_false_iff_not]; omega
          have HN := Lib.hid (HF2 hq)
          clear HF1 HF2
          go_wp2_with fail
          refine (hV _).mono ?_
          rintro e w1 ⟨rfl, rfl⟩
          go_wp2_with fail
          go_quiet (fail)
          go_wp2
          cases gk with
          | zero => omega
          | succ gg =>
            go_roundg gg
            case rel =>
              refine ⟨k + 1, rfl, by omega, HI.out, ?_, ?_, ?_⟩
              · exact (ma.drewN _).other _ _ (by omega) _
              · rw [HS.out, HN.out, HM.out]; exact (mb.drewN _).set2 _
              · exact (below_drewN hb0 _).setCell (by simp) _
            case measure => omega
      · have e1 : decide ((r : Int) ≤ (d : Int)) = true := by rw [decide_eq_true_eq]; omega
        have e2 : decide (r ≤ d) = true := by rw [decide_eq_true_eq]; omega
        have HE : Hid ((R0, R1, R2) = (false, false, 0)) := Lib.hid (by rw [← HR.out]; unfold numR; rw [if_neg (fun h => hd (HB.out h))])
        go_wp2_with fail
        refine (hV _).mono ?_
        rintro e w1 ⟨rfl, rfl⟩
        go_wp2
        have HE2 := HE.out
        simp only [Prod.mk.injEq] at HE2
        obtain ⟨rfl, rfl, rfl⟩ := HE2
        refine bodyPost_ret (v := .agg #[.bool false, .bool false, .int .u64 0]) (by simp [results, Tryd.results50, go_sem, *]) rfl ⟨rfl, ?_⟩
        repeat (first | exact hb0 | (refine Below.setCell ?_ (by simp) _))
    · have d1 : decide (k < l.length) = false := by simpa using hlt
      have d2 : decide ((k : Int) < (l.length : Int)) = false := by rw [decide_eq_false_iff_not]; omega
      have hkl : k = l.length := by omega
      have HE : Hid ((R0, R1, R2) = (ok, decide (num r l < 18446744073709551616), num r l % 18446744073709551616)) := Lib.hid (by rw [← HR.out]; unfold numR; rw [if_pos (by have := HA.out; rw [hkl, List.take_length] at this; exact this), HOK.out])
      rw [hkl, List.take_length] at b1 b2
      obtain ⟨F, hF⟩ : ∃ F, decide (num r l < 18446744073709551616) = F := ⟨_, rfl⟩
      obtain ⟨V, hV⟩ : ∃ V, num r l % 18446744073709551616 = V := ⟨_, rfl⟩
      rw [hF, hV] at HE
      rw [hF] at b1
      rw [hV] at b2
      have HE2 := HE.out
      simp only [Prod.mk.injEq] at HE2
      obtain ⟨rfl, rfl, rfl⟩ := HE2
      clear hF hV hkl mb ma
      go_wp2
      refine bodyPost_ret (v := .agg #[.bool R0, .bool R1, .int .u64 (R2 : Int)]) (by simp [results, Tryd.results50, go_sem, *]) rfl ⟨rfl, ?_⟩
      repeat (first | exact hb0 | (refine Below.setCell ?_ (by simp) _))
end Go.Proofs.YtigdegjhajdmhaaDoor
