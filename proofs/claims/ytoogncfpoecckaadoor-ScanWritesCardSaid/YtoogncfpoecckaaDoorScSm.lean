/-
  The reference: Same (of tokens that are alike), Few.
-/
import Derived.Test.YtoogncfpoecckaaDoorScLw
import Derived.Deep.LoopGhost
import Derived.BigQuiet
import Derived.BigRegion
namespace Go.Proofs.YtoogncfpoecckaaDoor
open Go Go.RowKit
set_option linter.unusedVariables false
set_option linter.unusedSimpArgs false
open Go.Sort

/-- Tokens that are alike, but for their places. -/
def AlikeG (l m : List G5) : Prop := l.length = m.length ∧ ∀ i (h : i < l.length) (h2 : i < m.length), l[i].k = m[i].k ∧ l[i].s = m[i].s ∧ l[i].W = m[i].W ∧ l[i].V = m[i].V
theorem alikeG {l : List G5} {ts : List T5} (h : AlikeL l ts) : AlikeG l (ts.map T5.g) := by
  induction h with
  | nil => exact ⟨rfl, fun i h => absurd h (by simp)⟩
  | cons a b l m h hr ih =>
    refine ⟨by simp [ih.1], fun i h1 h2 => ?_⟩
    cases i with
    | zero => exact h
    | succ i => exact ih.2 i (by simpa using h1) (by simpa using h2)
set_option maxHeartbeats 4000000 in
set_option maxRecDepth 100000 in
theorem same_any (a1 a2 : Option Addr) (c1 c2 : Nat) (l m : List G5) (hl : l.length ≤ 100000) (h : AlikeG l m) (w : World) (h1 : LiesA w a1 l) (h2 : LiesA w a2 m) : Calls Tryd.prog 24 #[.slice a1 l.length c1, .slice a2 m.length c2] w fun e w' => e = .returned (.bool true) ∧ Below w.heap.size w w' := by
  obtain ⟨hlen, hal⟩ := h
  have HA := Lib.hid hal
  clear hal
  have e0 : ((l.length : Int) != (m.length : Int)) = false := by simp; omega
  go_enter Tryd.func24, Tryd.ntmps24
  go_wp2
  go_loopg [5] l.length (fun g u wr => ∃ i : Nat, u = .int .i64 i ∧ i + g = l.length ∧ Below w.heap.size w wr)
  case atStart => exact ⟨0, rfl, by omega, Below.refl _ _⟩
  case round =>
    obtain ⟨i, rfl, hi, hb0⟩ := hrel
    have hz := hb0.size
    by_cases hlt : i < l.length
    · have d1 : decide (i < l.length) = true := by simpa using hlt
      have d2 : decide ((i : Int) < (l.length : Int)) = true := by rw [decide_eq_true_eq]; omega
      have d3 : (i : Int) < (m.length : Int) := by omega
      have d4 : (i : Int) < (l.length : Int) := by omega
      obtain ⟨b1, o1, rfl, x0, x1, x2, x3, x4⟩ := (h1.keep hb0).at hlt
      obtain ⟨b2, o2, rfl, y0, y1, y2, y3, y4⟩ := (h2.keep hb0).at (i := i) (by omega)
      obtain ⟨k0, k1, k2, k3⟩ := HA.out i hlt (by omega)
      generalize l[i] = t at *
      generalize m[i] = u at *
      obtain ⟨tk, ts, tW, tV, tp⟩ := t
      obtain ⟨uk, us, uW, uV, up⟩ := u
      simp only at k0 k1 k2 k3 x0 x1 x2 x3 x4 y0 y1 y2 y3 y4
      subst k0; subst k1; subst k2; subst k3
      have es : (ts == ts) = true := by simp
      have x0A := fun O => alloc_cell x0 O
      have x0B := fun O O' => alloc_cell (alloc_cell x0 O) O'
      have x1A := fun O => alloc_cell x1 O
      have x1B := fun O O' => alloc_cell (alloc_cell x1 O) O'
      have x2A := fun O => alloc_cell x2 O
      have x2B := fun O O' => alloc_cell (alloc_cell x2 O) O'
      have x3A := fun O => alloc_cell x3 O
      have x3B := fun O O' => alloc_cell (alloc_cell x3 O) O'
      have x4A := fun O => alloc_cell x4 O
      have x4B := fun O O' => alloc_cell (alloc_cell x4 O) O'
      have y0A := fun O => alloc_cell y0 O
      have y0B := fun O O' => alloc_cell (alloc_cell y0 O) O'
      have y1A := fun O => alloc_cell y1 O
      have y1B := fun O O' => alloc_cell (alloc_cell y1 O) O'
      have y2A := fun O => alloc_cell y2 O
      have y2B := fun O O' => alloc_cell (alloc_cell y2 O) O'
      have y3A := fun O => alloc_cell y3 O
      have y3B := fun O O' => alloc_cell (alloc_cell y3 O) O'
      have y4A := fun O => alloc_cell y4 O
      have y4B := fun O O' => alloc_cell (alloc_cell y4 O) O'
      go_wp2_with fail
      go_region
      all_goals go_wp2
      all_goals (cases gk with
        | zero => omega
        | succ gg =>
          go_roundg gg
          case rel => exact ⟨i + 1, by simp; first | done | rfl | omega, by omega, by repeat (first | exact hb0 | (refine Below.drew ?_) | (refine Below.alloc ?_ (by first | omega | (simp; omega)) _))⟩
          case measure => omega)
    · have d1 : decide (i < l.length) = false := by simpa using hlt
      have d2 : decide ((i : Int) < (l.length : Int)) = false := by rw [decide_eq_false_iff_not]; omega
      go_wp2
      go_ret
      exact ⟨rfl, hb0⟩

def fewK : Nat → List G5 → Bool
  | _, [] => true
  | n, t :: r => if 4000 < n + 1 + t.s.length then false else fewK (n + 1 + t.s.length) r
theorem few_small : ∀ (l : List G5) (n : Nat), fewK n l = true → n ≤ 4000 → n + l.length ≤ 4000 ∧ ∀ t ∈ l, t.s.length ≤ 4000
  | [], n, _, hn => ⟨by simpa using hn, by simp⟩
  | t :: r, n, h, hn => by
    unfold fewK at h
    split at h
    · cases h
    · have := few_small r (n + 1 + t.s.length) h (by omega)
      refine ⟨by simp only [List.length_cons]; omega, fun x hx => ?_⟩
      rcases List.mem_cons.1 hx with rfl | hx
      · omega
      · exact this.2 x hx
set_option maxHeartbeats 2000000 in
theorem few_any (a : Option Addr) (cap : Nat) (l : List G5) (hss : ∀ t ∈ l, t.s.length ≤ reachBytes) (w : World) (h : LiesA w a l) : Calls Tryd.prog 21 #[.slice a l.length cap] w fun e w' => e = .returned (.bool (fewK 0 l)) ∧ w' = w := by
  obtain ⟨R, hR⟩ : ∃ R, fewK 0 l = R := ⟨_, rfl⟩
  have HR := Lib.hid hR
  rw [hR]
  clear hR
  have HSS := Lib.hid hss
  clear hss
  go_enter Tryd.func21, Tryd.ntmps21
  go_wp2
  go_loopg [3, 4] l.length (fun g u v wr => ∃ n i : Nat, u = .int .i64 n ∧ v = .int .i64 i ∧ i + g = l.length ∧ i ≤ n ∧ n ≤ 4000 ∧ fewK n (l.drop i) = R ∧ wr = w)
  case atStart => exact ⟨0, 0, rfl, rfl, by omega, by omega, by omega, by rw [List.drop_zero]; exact HR.out, rfl⟩
  case round =>
    obtain ⟨n, i, rfl, rfl, hi, hin, hn, hk, rfl⟩ := hrel
    have HK := Lib.hid hk
    clear hk
    by_cases hlt : i < l.length
    · have d1 : decide (i < l.length) = true := by simpa using hlt
      have d2 : decide ((i : Int) < (l.length : Int)) = true := by rw [decide_eq_true_eq]; omega
      have d3 : (i : Int) < (l.length : Int) := by omega
      obtain ⟨b, o, rfl, x0, x1, x2, x3, x4⟩ := h.at hlt
      have hs := HSS.out l[i] (List.getElem_mem hlt)
      have HX : Hid ((if 4000 < n + 1 + l[i].s.length then false else fewK (n + 1 + l[i].s.length) (l.drop (i + 1))) = R) := Lib.hid (by rw [← HK.out, ← List.getElem_cons_drop hlt]; rfl)
      generalize l[i] = t at *
      have hrb : reachBytes = 140737488351232 := rfl
      rw [hrb] at hs
      clear x0 x2 x3 x4
      have a1 : IntKind.i64.wrap ((n : Int) + 1) = ((n + 1 : Nat) : Int) := by rw [show (n : Int) + 1 = ((n + 1 : Nat) : Int) by omega]; exact IntWalk.i64_in _ (by omega)
      by_cases hb : 4000 < n + 1 + t.s.length
      · have e1 : decide ((4000 : Int) < (n : Int) + 1 + (t.s.length : Int)) = true := by rw [decide_eq_true_eq]; omega
        have HE : Hid (R = false) := Lib.hid (by rw [← HX.out, if_pos hb])
        clear HX HK hrb
        go_wp2
        go_ret
        exact ⟨ret_b HE.out.symm, rfl⟩
      · have e1 : decide ((4000 : Int) < (n : Int) + 1 + (t.s.length : Int)) = false := by rw [decide_eq_false_iff_not]; omega
        have HE : Hid (fewK (n + 1 + t.s.length) (l.drop (i + 1)) = R) := Lib.hid (by rw [← HX.out, if_neg hb])
        clear HX HK hrb
        go_wp2
        cases gk with
        | zero => omega
        | succ gg =>
          go_roundg gg
          case rel => exact ⟨n + 1 + t.s.length, i + 1, by simp; first | done | rfl | omega, by simp; first | done | rfl | omega, by omega, by omega, by omega, HE.out, rfl⟩
          case measure => omega
    · have d1 : decide (i < l.length) = false := by simpa using hlt
      have d2 : decide ((i : Int) < (l.length : Int)) = false := by rw [decide_eq_false_iff_not]; omega
      have HE : Hid (R = true) := Lib.hid (by rw [← HK.out, List.drop_eq_nil_of_le (by omega)]; rfl)
      clear HK
      go_wp2
      go_ret
      exact ⟨ret_b HE.out.symm, rfl⟩
end Go.Proofs.YtoogncfpoecckaaDoor
