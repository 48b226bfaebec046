/-
  Contract: where the next token begins.
-/
import Derived.Test.YtigdegjhajdmhaaDoorScG
import Derived.ScopeJumps
namespace Go.Proofs.YtigdegjhajdmhaaDoor
open Go Go.RowKit
set_option linter.unusedVariables false

/-- How many bytes are passed ahead of a token. -/
def startF : Nat → Bytes → Nat
  | 0, _ => 0
  | _ + 1, [] => 0
  | f + 1, c :: r => if blank c = true then 1 + startF f r else if ([47, 47] : Bytes).isPrefixOf (c :: r) = true then run inLine (c :: r) + startF f ((c :: r).drop (run inLine (c :: r))) else 0
def startS (l : Bytes) : Nat := startF l.length l
theorem slashes {c : UInt8} {r : Bytes} (h : ([47, 47] : Bytes).isPrefixOf (c :: r) = true) : 2 ≤ run inLine (c :: r) := by
  cases r with
  | nil => simp [List.isPrefixOf] at h
  | cons d r =>
    simp [List.isPrefixOf] at h
    obtain ⟨rfl, rfl⟩ := h
    have e1 : inLine 47 = true := by decide
    unfold run
    rw [List.takeWhile_cons, if_pos e1, List.takeWhile_cons, if_pos e1]
    simp
theorem startF_eq : ∀ (f g : Nat) (l : Bytes), l.length ≤ f → l.length ≤ g → startF f l = startF g l := by
  intro f
  induction f with
  | zero =>
    intro g l h _
    obtain rfl : l = [] := by simpa using h
    cases g <;> rfl
  | succ f ih =>
    intro g l h h2
    cases l with
    | nil => cases g <;> rfl
    | cons c r =>
      cases g with
      | zero => simp at h2
      | succ g =>
        simp only [List.length_cons] at h h2
        unfold startF
        by_cases hb : blank c = true
        · rw [if_pos hb, if_pos hb, ih g r (by omega) (by omega)]
        · rw [if_neg hb, if_neg hb]
          by_cases hs : ([47, 47] : Bytes).isPrefixOf (c :: r) = true
          · have := slashes hs
            rw [if_pos hs, if_pos hs, ih g _ (by simp only [List.length_drop, List.length_cons]; omega) (by simp only [List.length_drop, List.length_cons]; omega)]
          · rw [if_neg hs, if_neg hs]
theorem startS_nil : startS [] = 0 := rfl
theorem startS_blank {c : UInt8} {r : Bytes} (h : blank c = true) : startS (c :: r) = 1 + startS r := by
  unfold startS
  show startF (r.length + 1) (c :: r) = _
  rw [startF, if_pos h]
theorem startS_comment {c : UInt8} {r : Bytes} (h : blank c = false) (hs : ([47, 47] : Bytes).isPrefixOf (c :: r) = true) : startS (c :: r) = run inLine (c :: r) + startS ((c :: r).drop (run inLine (c :: r))) := by
  have := slashes hs
  unfold startS
  show startF (r.length + 1) (c :: r) = _
  rw [startF, if_neg (by rw [h]; decide), if_pos hs, startF_eq r.length _ _ (by simp only [List.length_drop, List.length_cons]; omega) (Nat.le_refl _)]
theorem startS_stop {c : UInt8} {r : Bytes} (h : blank c = false) (hs : ([47, 47] : Bytes).isPrefixOf (c :: r) = false) : startS (c :: r) = 0 := by
  unfold startS
  show startF (r.length + 1) (c :: r) = _
  rw [startF, if_neg (by rw [h]; decide), if_neg (by rw [hs]; decide)]
theorem startS_le (l : Bytes) : startS l ≤ l.length := by
  unfold startS
  have : ∀ f (l : Bytes), startF f l ≤ l.length := by
    intro f
    induction f with
    | zero => intro l; exact Nat.zero_le _
    | succ f ih =>
      intro l
      cases l with
      | nil => exact Nat.zero_le _
      | cons c r =>
        unfold startF
        split
        · have := ih r; simp only [List.length_cons]; omega
        · split
          · have h1 := ih ((c :: r).drop (run inLine (c :: r)))
            have h2 := run_le inLine (c :: r)
            simp only [List.length_drop, List.length_cons] at h1 h2 ⊢
            omega
          · exact Nat.zero_le _
  exact this _ l

set_option maxHeartbeats 4000000 in
set_option maxRecDepth 100000 in
theorem start_any (l : Bytes) (n : Nat) (hl : l.length ≤ 70000) (hn : n ≤ l.length) (w : World) : Calls Tryd.prog 11 #[.string (bs l), .int .i64 (n : Int)] w fun e w' => e = .returned (.int .i64 ((n + startS (l.drop n) : Nat) : Int)) ∧ w = w' := by
  obtain ⟨T, hT⟩ : ∃ T, n + startS (l.drop n) = T := ⟨_, rfl⟩
  rw [hT]
  go_enter Tryd.func11, Tryd.ntmps11
  go_wp2
  refine wp_scope_jumps 0 (fun a' w' => w' = w ∧ ∃ (k : Nat) (u5 u6 u7 u8 u9 u10 u11 u12 u13 u14 u15 u16 u17 u18 u19 u20 u21 u22 u23 u24 u25 u26 : Value), a' = { tmps := #[.string (bs l), .int .i64 (k : Int), undef, undef, .int .i64 0, u5, u6, u7, u8, u9, u10, u11, u12, u13, u14, u15, u16, u17, u18, u19, u20, u21, u22, u23, u24, u25, u26], defers := [] } ∧ k + startS (l.drop k) = T ∧ k ≤ l.length) (fun a' _ => l.length - (Go.RowKit.intOf (a'.tmps.getD 1 undef)).toNat) rfl ?_ ?_
  · skip
    by_cases hlt : n < l.length
    · skip
      have dc : l.drop n = l[n] :: l.drop (n + 1) := (List.getElem_cons_drop hlt).symm
      have DC := Lib.hid dc
      have HK := Lib.hid hT
      clear dc hT
      have e1 : ((n : Int) == (l.length : Int)) = false := by rw [beq_eq_false_iff_ne]; omega
      have e2 : ((n : Nat) == l.length) = false := by rw [beq_eq_false_iff_ne]; omega
      have e3 : List.take (l.length - n) (List.drop n l) = List.drop n l := take_drop_all l n
      have hbl := blank_any l[n]
      cases hb : blank l[n] with
      | true =>
        rw [hb] at hbl
        have HB := Lib.hid (startS_blank (r := l.drop (n + 1)) hb)
        clear hb
        go_wp2_with fail
        go_step3
        go_wp2_with fail
        refine (hbl _).mono ?_
        rintro e1 w1 ⟨rfl, rfl⟩
        go_wp2
        go_step3
        refine ⟨rfl, rfl, (n + 1), _, _, _, _, _, _, _, _, _, _, _, _, _, _, _, _, _, _, _, _, _, _, rfl, (by rw [← HK.out, DC.out, HB.out]; omega), by omega⟩
      | false =>
        rw [hb] at hbl
        have HB := Lib.hid hb
        clear hb
        have hpr := prefix_any (l.drop n) [47, 47] (by simp; omega) (by decide)
        cases hp : ([47, 47] : Bytes).isPrefixOf (l.drop n) with
        | true =>
          rw [hp] at hpr
          have HP := Lib.hid hp
          obtain ⟨r, hr⟩ : ∃ r, run inLine (l.drop n) = r := ⟨_, rfl⟩
          have hrl : r ≤ l.length - n := by have := run_le inLine (l.drop n); rw [hr] at this; simpa using this
          have h2r : 2 ≤ r := by rw [← hr, DC.out]; exact slashes (by rw [← DC.out]; exact hp)
          have hrun := run_line (l.drop n) (by simp; omega)
          rw [hr] at hrun
          have HR := Lib.hid hr
          clear hr hp
          go_wp2_with fail
          go_step3
          go_wp2_with fail
          refine (hbl _).mono ?_
          rintro e1 w1 ⟨rfl, rfl⟩
          go_wp2_with fail
          refine (hpr _).mono ?_
          rintro e2 w2 ⟨rfl, rfl⟩
          go_wp2_with fail
          refine (hrun _).mono ?_
          rintro e3 w3 ⟨rfl, rfl⟩
          go_wp2
          go_step3
          refine ⟨rfl, rfl, (n + r), _, _, _, _, _, _, _, _, _, _, _, _, _, _, _, _, _, _, _, _, _, _, rfl, (by rw [← HK.out, DC.out, startS_comment HB.out (by rw [← DC.out]; exact HP.out), ← DC.out, HR.out, List.drop_drop]; omega), by omega⟩
        | false =>
          rw [hp] at hpr
          have HP := Lib.hid hp
          clear hp
          go_wp2_with fail
          go_step3
          go_wp2_with fail
          refine (hbl _).mono ?_
          rintro e1 w1 ⟨rfl, rfl⟩
          go_wp2_with fail
          refine (hpr _).mono ?_
          rintro e2 w2 ⟨rfl, rfl⟩
          go_wp2
          simp only [Exit.jump]
          go_ret
          exact ⟨ret_n (by rw [← HK.out, DC.out, startS_stop HB.out (by rw [← DC.out]; exact HP.out)]; rfl), rfl⟩
    · skip
      have ek : n = l.length := by omega
      have e1 : ((n : Int) == (l.length : Int)) = true := by rw [beq_iff_eq]; omega
      have e2 : ((n : Nat) == l.length) = true := by rw [beq_iff_eq]; omega
      have HK : Hid (n = T) := Lib.hid (by rw [← hT, List.drop_of_length_le (by omega), startS_nil]; rfl)
      clear hT
      have EK := Lib.hid ek
      clear ek
      go_wp2_with fail
      go_step3
      go_wp2_with fail
      simp only [Exit.jump]
      go_ret
      exact ⟨ret_n (by rw [HK.out]), rfl⟩
  · skip
    rintro a' w' ⟨rfl, k, u5, u6, u7, u8, u9, u10, u11, u12, u13, u14, u15, u16, u17, u18, u19, u20, u21, u22, u23, u24, u25, u26, rfl, hs, hk⟩
    clear hT
    by_cases hlt : k < l.length
    · skip
      have dc : l.drop k = l[k] :: l.drop (k + 1) := (List.getElem_cons_drop hlt).symm
      have DC := Lib.hid dc
      have HK := Lib.hid hs
      clear dc hs
      have e1 : ((k : Int) == (l.length : Int)) = false := by rw [beq_eq_false_iff_ne]; omega
      have e2 : ((k : Nat) == l.length) = false := by rw [beq_eq_false_iff_ne]; omega
      have e3 : List.take (l.length - k) (List.drop k l) = List.drop k l := take_drop_all l k
      have hbl := blank_any l[k]
      cases hb : blank l[k] with
      | true =>
        rw [hb] at hbl
        have HB := Lib.hid (startS_blank (r := l.drop (k + 1)) hb)
        clear hb
        go_wp2_with fail
        refine (hbl _).mono ?_
        rintro e1 w1 ⟨rfl, rfl⟩
        go_wp2
        go_step3
        refine ⟨rfl, ⟨rfl, (k + 1), _, _, _, _, _, _, _, _, _, _, _, _, _, _, _, _, _, _, _, _, _, _, rfl, (by rw [← HK.out, DC.out, HB.out]; omega), by omega⟩, ?_⟩
        simp [Go.RowKit.intOf]; omega
      | false =>
        rw [hb] at hbl
        have HB := Lib.hid hb
        clear hb
        have hpr := prefix_any (l.drop k) [47, 47] (by simp; omega) (by decide)
        cases hp : ([47, 47] : Bytes).isPrefixOf (l.drop k) with
        | true =>
          rw [hp] at hpr
          have HP := Lib.hid hp
          obtain ⟨r, hr⟩ : ∃ r, run inLine (l.drop k) = r := ⟨_, rfl⟩
          have hrl : r ≤ l.length - k := by have := run_le inLine (l.drop k); rw [hr] at this; simpa using this
          have h2r : 2 ≤ r := by rw [← hr, DC.out]; exact slashes (by rw [← DC.out]; exact hp)
          have hrun := run_line (l.drop k) (by simp; omega)
          rw [hr] at hrun
          have HR := Lib.hid hr
          clear hr hp
          go_wp2_with fail
          refine (hbl _).mono ?_
          rintro e1 w1 ⟨rfl, rfl⟩
          go_wp2_with fail
          refine (hpr _).mono ?_
          rintro e2 w2 ⟨rfl, rfl⟩
          go_wp2_with fail
          refine (hrun _).mono ?_
          rintro e3 w3 ⟨rfl, rfl⟩
          go_wp2
          go_step3
          refine ⟨rfl, ⟨rfl, (k + r), _, _, _, _, _, _, _, _, _, _, _, _, _, _, _, _, _, _, _, _, _, _, rfl, (by rw [← HK.out, DC.out, startS_comment HB.out (by rw [← DC.out]; exact HP.out), ← DC.out, HR.out, List.drop_drop]; omega), by omega⟩, ?_⟩
          simp [Go.RowKit.intOf]; omega
        | false =>
          rw [hp] at hpr
          have HP := Lib.hid hp
          clear hp
          go_wp2_with fail
          refine (hbl _).mono ?_
          rintro e1 w1 ⟨rfl, rfl⟩
          go_wp2_with fail
          refine (hpr _).mono ?_
          rintro e2 w2 ⟨rfl, rfl⟩
          go_wp2
          simp only [Exit.jump]
          go_ret
          exact ⟨ret_n (by rw [← HK.out, DC.out, startS_stop HB.out (by rw [← DC.out]; exact HP.out)]; rfl), rfl⟩
    · skip
      have ek : k = l.length := by omega
      have e1 : ((k : Int) == (l.length : Int)) = true := by rw [beq_iff_eq]; omega
      have e2 : ((k : Nat) == l.length) = true := by rw [beq_iff_eq]; omega
      have HK : Hid (k = T) := Lib.hid (by rw [← hs, List.drop_of_length_le (by omega), startS_nil]; rfl)
      clear hs
      have EK := Lib.hid ek
      clear ek
      go_wp2_with fail
      simp only [Exit.jump]
      go_ret
      exact ⟨ret_n (by rw [HK.out]), rfl⟩
end Go.Proofs.YtigdegjhajdmhaaDoor
