/-
  Contracts: Equal of the reference.
-/
import Derived.Test.YtigdegjhajdmhaaDoorScTx
import Derived.Deep.QuietTactic
import Derived.Laws.StructEq
namespace Go.Proofs.YtigdegjhajdmhaaDoor
open Go Go.RowKit
set_option linter.unusedVariables false
set_option linter.unusedSimpArgs false
open Go.Sort

deriving instance DecidableEq for G5
theorem tok_held : Tryd.prog.stoodInHeld 32 = false := by kernel_rfl
theorem tok_guard : Tryd.prog.eqGuardType Tryd.prog.depth 32 = false := by kernel_rfl
attribute [local go_sem] tok_held tok_guard
theorem tok_neq (k k2 : Int) (s s2 : Bytes) (W W2 : Int) (V V2 : Nat) (p q : Int) (w : World) : (binOp .neq 32 (.agg #[.int .i64 k, .string (bs s), .int .i64 W, .int .u64 (V : Int), .int .i64 p]) (.agg #[.int .i64 k2, .string (bs s2), .int .i64 W2, .int .u64 (V2 : Int), .int .i64 q])).run Tryd.prog w = .ok (.bool (!decide ((⟨k, s, W, V, p⟩ : G5) = ⟨k2, s2, W2, V2, q⟩))) w := by
  by_cases a0 : k = k2
  · by_cases a1 : s = s2
    · by_cases a2 : W = W2
      · by_cases a3 : V = V2
        · by_cases a4 : p = q
          · subst a0; subst a1; subst a2; subst a3; subst a4
            simp [go_sem]
          · have b4 : (p == q) = false := by simpa using a4
            subst a0; subst a1; subst a2; subst a3
            simp [go_sem, a4]
        · have b3 : ((V : Int) == V2) = false := by simp; omega
          subst a0; subst a1; subst a2
          simp [go_sem, a3]
          intro h; omega
      · subst a0; subst a1
        simp [go_sem, a2]
    · subst a0
      simp [go_sem, a1]
  · simp [go_sem, a0]
attribute [-go_sem] run_neq_struct run_eql_struct
def LiesA (w : World) (a : Option Addr) (l : List G5) : Prop := l = [] ∨ ∃ b o, a = some ⟨b, o, none⟩ ∧ Lies w b o l
def eqS (l m : List G5) : Bool := decide (l = m)
set_option maxHeartbeats 4000000 in
set_option maxRecDepth 100000 in
theorem eq_any (a1 a2 : Option Addr) (p1 p2 : Nat) (l m : List G5) (hl : l.length ≤ 1099511627776) (hm : m.length ≤ 1099511627776) (w : World) (h1 : LiesA w a1 l) (h2 : LiesA w a2 m) : Calls Tryd.prog 7 #[.slice a1 l.length p1, .slice a2 m.length p2] w fun e w' => e = .returned (.bool (eqS l m)) ∧ ∃ n, w' = w.drewN n := by
  have HI : Hid (eqS l m = decide (l = m)) := Lib.hid rfl
  generalize eqS l m = R at *
  by_cases hn : l.length = m.length
  · have dn : (l.length != m.length) = false := by simp [hn]
    have dn2 : ((l.length : Int) != (m.length : Int)) = false := by simp [hn]
    have H1 := Lib.hid h1
    have H2 := Lib.hid h2
    clear h1 h2
    go_enter Tryd.func7, Tryd.ntmps7
    go_wp2
    go_loopg [5] l.length (fun g u wr => ∃ i : Nat, u = .int .i64 i ∧ i + g = l.length ∧ decide (l.drop i = m.drop i) = R ∧ ∃ n, wr = w.drewN n)
    case atStart => exact ⟨0, rfl, by omega, by rw [HI.out, List.drop_zero, List.drop_zero], 0, rfl⟩
    case round =>
      obtain ⟨i, rfl, hi, hdr, nd, rfl⟩ := hrel
      have HD := Lib.hid hdr
      clear hdr
      by_cases hlt : i < l.length
      · have hlt2 : i < m.length := by omega
        have d1 : decide (i < l.length) = true := by simpa using hlt
        have d2 : decide ((i : Int) < (l.length : Int)) = true := by rw [decide_eq_true_eq]; omega
        have d3 : decide (i < m.length) = true := by simpa using hlt2
        have d4 : decide ((i : Int) < (m.length : Int)) = true := by rw [decide_eq_true_eq]; omega
        have HX : Hid (decide (l[i] = m[i] ∧ l.drop (i + 1) = m.drop (i + 1)) = R) := Lib.hid (by rw [← HD.out, ← List.getElem_cons_drop hlt, ← List.getElem_cons_drop hlt2]; simp only [List.cons.injEq])
        obtain ⟨b1, o1, rfl, hL1⟩ := (H1.out).resolve_left (by intro h; rw [h] at hlt; simp at hlt)
        obtain ⟨b2, o2, rfl, hL2⟩ := (H2.out).resolve_left (by intro h; rw [h] at hlt2; simp at hlt2)
        replace hL1 := hL1 i hlt
        replace hL2 := hL2 i hlt2
        generalize l[i] = t at *
        generalize m[i] = t2 at *
        by_cases heq : t = t2
        · have hcmp := fun w => tok_neq t.k t2.k t.s t2.s t.W t2.W t.V t2.V t.p t2.p w
          subst heq
          have HX2 : Hid (decide (l.drop (i + 1) = m.drop (i + 1)) = R) := Lib.hid (by rw [← HX.out]; simp)
          obtain ⟨k, s, W, V, p⟩ := t
          simp only [decide_true, Bool.not_true] at hL1 hL2 hcmp
          clear HX HD H1 H2
          obtain ⟨c0, c1, c2, c3, c4⟩ := hL1
          obtain ⟨e0, e1, e2, e3, e4⟩ := hL2
          go_wp2
          go_quiet (fail)
          go_wp2
          cases gk with
          | zero => omega
          | succ gg =>
            go_roundg gg
            case rel => exact ⟨i + 1, rfl, by omega, HX2.out, nd + nq, rfl⟩
            case measure => omega
        · have hcmp := fun w => tok_neq t.k t2.k t.s t2.s t.W t2.W t.V t2.V t.p t2.p w
          have HE : Hid (R = false) := Lib.hid (by rw [← HX.out]; simp [heq])
          have dq : decide (t = t2) = false := by simpa using heq
          obtain ⟨k, s, W, V, p⟩ := t
          obtain ⟨k2, s2, W2, V2, q⟩ := t2
          simp only [dq, Bool.not_false] at hL1 hL2 hcmp
          clear HX HD H1 H2 heq dq
          obtain ⟨c0, c1, c2, c3, c4⟩ := hL1
          obtain ⟨e0, e1, e2, e3, e4⟩ := hL2
          go_wp2
          go_quiet (fail)
          go_wp2
          go_ret
          exact ⟨ret_b HE.out.symm, nd + nq, World.drewN_drewN _ _ _⟩
      · have d1 : decide (i < l.length) = false := by simpa using hlt
        have d2 : decide ((i : Int) < (l.length : Int)) = false := by rw [decide_eq_false_iff_not]; omega
        have HE : Hid (R = true) := Lib.hid (by rw [← HD.out, List.drop_eq_nil_of_le (by omega), List.drop_eq_nil_of_le (by omega)]; rfl)
        go_wp2
        go_ret
        exact ⟨ret_b HE.out.symm, nd, rfl⟩
  · have dn : (l.length != m.length) = true := by simp [hn]
    have dn2 : ((l.length : Int) != (m.length : Int)) = true := by simp; omega
    have HE : Hid (R = false) := Lib.hid (by rw [HI.out, decide_eq_false_iff_not]; intro h; exact hn (by rw [h]))
    clear h1 h2
    go_enter Tryd.func7, Tryd.ntmps7
    go_wp2
    go_ret
    exact ⟨ret_b HE.out.symm, 0, rfl⟩
end Go.Proofs.YtigdegjhajdmhaaDoor
