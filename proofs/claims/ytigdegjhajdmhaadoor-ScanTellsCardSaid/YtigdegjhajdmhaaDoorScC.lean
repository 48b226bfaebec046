/-
  Contracts: HasPrefix; what is told of a wrong token; bases; what a digit counts; start.
-/
import Derived.Test.YtigdegjhajdmhaaDoorScB
import Derived.ScopeJumps
import Derived.WalkSpells
import Derived.BigQuiet
import Derived.Deep.QuietTactic
import Derived.Lib.Strings
namespace Go.Proofs.YtigdegjhajdmhaaDoor
open Go Go.RowKit
set_option linter.unusedVariables false

theorem bs_list (l : Bytes) : (bs l).toList = l := by rw [Lib.toList_data]; simp [bs]
attribute [go_sem] bs_list
theorem prefix_take (p l : Bytes) (h : p.length ≤ l.length) : (l.take p.length == p) = p.isPrefixOf l := by
  rw [Bool.eq_iff_iff, beq_iff_eq, List.isPrefixOf_iff_prefix, List.prefix_iff_eq_take]
  exact eq_comm
theorem prefix_not (p l : Bytes) (h : ¬ p.length ≤ l.length) : p.isPrefixOf l = false := by
  rw [Bool.eq_false_iff]
  intro hp
  rw [List.isPrefixOf_iff_prefix] at hp
  exact h hp.length_le
set_option maxHeartbeats 1000000 in
theorem prefix_in (l p : Bytes) (hl : l.length ≤ 100000) (hp : p.length ≤ 100) (w : World) : Calls Tryd.prog 43 #[.string (bs l), .string (bs p)] w fun e w' => e = .returned (.bool (p.isPrefixOf l)) ∧ w = w' := by
  by_cases h : p.length ≤ l.length
  · have hd : decide (p.length ≤ l.length) = true := by simpa using h
    have HH := Lib.hid (prefix_take p l h)
    go_enter Tryd.func43, Tryd.ntmps43
    go_wp2
    go_ret
    exact ⟨ret_b HH.out, rfl⟩
  · have hd : decide (p.length ≤ l.length) = false := by simpa using h
    have HH := Lib.hid (prefix_not p l h)
    go_enter Tryd.func43, Tryd.ntmps43
    go_wp2
    go_ret
    exact ⟨ret_b HH.out.symm, rfl⟩
theorem prefix_any (l p : Bytes) (hl : l.length ≤ 100000) (hp : p.length ≤ 100) (w : World) : Calls Tryd.prog 23 #[.string (bs l), .string (bs p)] w fun e w' => e = .returned (.bool (p.isPrefixOf l)) ∧ w = w' := by
  go_enter Tryd.func23, Tryd.ntmps23
  go_wp2_with (go_at_call 43; refine (prefix_in l p hl hp _).mono ?_; rintro e w' ⟨rfl, rfl⟩)
  go_ret
  exact ⟨rfl, rfl⟩

/-- A token as the model holds it. -/
def tk (k : Int) (s : Bytes) (W V at' : Int) : Value := .agg #[.int .i64 k, .string (bs s), .int .i64 W, .int .u64 V, .int .i64 at']
set_option maxHeartbeats 1000000 in
theorem wrong_any (n : Int) (w : World) : Calls Tryd.prog 30 #[.int .i64 n] w fun e w' => e = .returned (.tuple #[.agg #[.int .i64 0, .string (bs []), .int .i64 0, .int .u64 0, .int .i64 0], .int .i64 0, .int .i64 n]) ∧ Below w.heap.size w w' := by
  go_enter Tryd.func30, Tryd.ntmps30
  go_wp2
  refine bodyPost_ret (v := .tuple #[.agg #[.int .i64 0, .string (bs []), .int .i64 0, .int .u64 0, .int .i64 0], .int .i64 0, .int .i64 n]) (by simp [results, Tryd.results30, go_sem, *]; first | done | rfl) rfl ⟨rfl, ?_⟩
  repeat (first | exact Below.refl _ _ | (refine Below.setCell ?_ (by simp) _) | (refine Below.alloc ?_ (by simp) _))
set_option maxHeartbeats 1000000 in
theorem decimal_any (w : World) : Calls Tryd.prog 46 #[] w fun e w' => e = .returned (.agg #[.int .u64 10, .int .u64 0]) ∧ Below w.heap.size w w' := by
  go_enter Tryd.func46, Tryd.ntmps46
  go_wp2
  refine bodyPost_ret (v := .agg #[.int .u64 10, .int .u64 0]) (by simp [results, Tryd.results46, go_sem, *]) rfl ⟨rfl, ?_⟩
  repeat (first | exact Below.refl _ _ | (refine Below.setCell ?_ (by simp) _) | (refine Below.alloc ?_ (by simp) _))
/-- What a digit counts. -/
def worthI (n : Int) : Int := if digitI n = true then n - 48 else if 97 ≤ n ∧ n ≤ 102 then n - 87 else if 65 ≤ n ∧ n ≤ 70 then n - 55 else 16
theorem worth_range (n : Int) : 0 ≤ worthI n ∧ worthI n ≤ 16 := by
  unfold worthI digitI
  split
  · rename_i h; simp at h; omega
  · split
    · omega
    · split <;> omega

set_option maxHeartbeats 1000000 in
theorem worth_i (n : Int) (hn : 0 ≤ n ∧ n ≤ 255) (w : World) : Calls Tryd.prog 57 #[.int .u8 n] w fun e w' => e = .returned (.int .u64 (worthI n)) ∧ w = w' := by
  obtain ⟨n0, n1⟩ := hn
  by_cases g48 : n < 48
  · skip
    have hd : digitI n = false := by simp [digitI]; omega
    have hv : worthI n = 16 := by unfold worthI; rw [hd]; simp; omega
    have HV := Lib.hid hv
    clear hv
    have : decide (97 ≤ n) = false := by simp; omega
    have : decide (n ≤ 102) = true := by simp; omega
    have : decide (65 ≤ n) = false := by simp; omega
    have : decide (n ≤ 70) = true := by simp; omega
    have hc : ∀ w, Calls Tryd.prog 27 #[.int .u8 n] w fun e w' => e = .returned (.bool false) ∧ w = w' := fun w => hd ▸ digit_i n w
    clear hd
    go_enter Tryd.func57, Tryd.ntmps57
    go_wp2_with (go_at_call 27; refine (hc _).mono ?_; rintro e w' ⟨rfl, rfl⟩)
    go_ret
    exact ⟨ret_n (by rw [HV.out]; try omega), rfl⟩
  · skip
    by_cases g58 : n < 58
    · skip
      have hd : digitI n = true := by simp [digitI]; omega
      have hv : worthI n = n - 48 := by unfold worthI; rw [hd]; simp
      have HV := Lib.hid hv
      clear hv
      have : decide (97 ≤ n) = false := by simp; omega
      have : decide (n ≤ 102) = true := by simp; omega
      have : decide (65 ≤ n) = false := by simp; omega
      have : decide (n ≤ 70) = true := by simp; omega
      have hc : ∀ w, Calls Tryd.prog 27 #[.int .u8 n] w fun e w' => e = .returned (.bool true) ∧ w = w' := fun w => hd ▸ digit_i n w
      have hs : IntKind.u8.wrap (n - 48) = n - 48 := by rw [IntKind.wrap_u8]; omega
      have hs2 : IntKind.u64.wrap (n - 48) = n - 48 := by rw [IntKind.wrap_u64]; omega
      clear hd
      go_enter Tryd.func57, Tryd.ntmps57
      go_wp2_with (go_at_call 27; refine (hc _).mono ?_; rintro e w' ⟨rfl, rfl⟩)
      go_ret
      exact ⟨ret_n (by rw [HV.out]; try omega), rfl⟩
    · skip
      by_cases g65 : n < 65
      · skip
        have hd : digitI n = false := by simp [digitI]; omega
        have hv : worthI n = 16 := by unfold worthI; rw [hd]; simp; omega
        have HV := Lib.hid hv
        clear hv
        have : decide (97 ≤ n) = false := by simp; omega
        have : decide (n ≤ 102) = true := by simp; omega
        have : decide (65 ≤ n) = false := by simp; omega
        have : decide (n ≤ 70) = true := by simp; omega
        have hc : ∀ w, Calls Tryd.prog 27 #[.int .u8 n] w fun e w' => e = .returned (.bool false) ∧ w = w' := fun w => hd ▸ digit_i n w
        clear hd
        go_enter Tryd.func57, Tryd.ntmps57
        go_wp2_with (go_at_call 27; refine (hc _).mono ?_; rintro e w' ⟨rfl, rfl⟩)
        go_ret
        exact ⟨ret_n (by rw [HV.out]; try omega), rfl⟩
      · skip
        by_cases g71 : n < 71
        · skip
          have hd : digitI n = false := by simp [digitI]; omega
          have hv : worthI n = n - 55 := by unfold worthI; rw [hd]; simp; omega
          have HV := Lib.hid hv
          clear hv
          have : decide (97 ≤ n) = false := by simp; omega
          have : decide (n ≤ 102) = true := by simp; omega
          have : decide (65 ≤ n) = true := by simp; omega
          have : decide (n ≤ 70) = true := by simp; omega
          have hc : ∀ w, Calls Tryd.prog 27 #[.int .u8 n] w fun e w' => e = .returned (.bool false) ∧ w = w' := fun w => hd ▸ digit_i n w
          have hs : IntKind.u8.wrap (n - 65) = n - 65 := by rw [IntKind.wrap_u8]; omega
          have hs2 : IntKind.u64.wrap (n - 65) = n - 65 := by rw [IntKind.wrap_u64]; omega
          have hs3 : IntKind.u64.wrap (n - 65 + 10) = n - 55 := by rw [IntKind.wrap_u64]; omega
          clear hd
          go_enter Tryd.func57, Tryd.ntmps57
          go_wp2_with (go_at_call 27; refine (hc _).mono ?_; rintro e w' ⟨rfl, rfl⟩)
          go_ret
          exact ⟨ret_n (by rw [HV.out]; try omega), rfl⟩
        · skip
          by_cases g97 : n < 97
          · skip
            have hd : digitI n = false := by simp [digitI]; omega
            have hv : worthI n = 16 := by unfold worthI; rw [hd]; simp; omega
            have HV := Lib.hid hv
            clear hv
            have : decide (97 ≤ n) = false := by simp; omega
            have : decide (n ≤ 102) = true := by simp; omega
            have : decide (65 ≤ n) = true := by simp; omega
            have : decide (n ≤ 70) = false := by simp; omega
            have hc : ∀ w, Calls Tryd.prog 27 #[.int .u8 n] w fun e w' => e = .returned (.bool false) ∧ w = w' := fun w => hd ▸ digit_i n w
            clear hd
            go_enter Tryd.func57, Tryd.ntmps57
            go_wp2_with (go_at_call 27; refine (hc _).mono ?_; rintro e w' ⟨rfl, rfl⟩)
            go_ret
            exact ⟨ret_n (by rw [HV.out]; try omega), rfl⟩
          · skip
            by_cases g103 : n < 103
            · skip
              have hd : digitI n = false := by simp [digitI]; omega
              have hv : worthI n = n - 87 := by unfold worthI; rw [hd]; simp; omega
              have HV := Lib.hid hv
              clear hv
              have : decide (97 ≤ n) = true := by simp; omega
              have : decide (n ≤ 102) = true := by simp; omega
              have : decide (65 ≤ n) = true := by simp; omega
              have : decide (n ≤ 70) = false := by simp; omega
              have hc : ∀ w, Calls Tryd.prog 27 #[.int .u8 n] w fun e w' => e = .returned (.bool false) ∧ w = w' := fun w => hd ▸ digit_i n w
              have hs : IntKind.u8.wrap (n - 97) = n - 97 := by rw [IntKind.wrap_u8]; omega
              have hs2 : IntKind.u64.wrap (n - 97) = n - 97 := by rw [IntKind.wrap_u64]; omega
              have hs3 : IntKind.u64.wrap (n - 97 + 10) = n - 87 := by rw [IntKind.wrap_u64]; omega
              clear hd
              go_enter Tryd.func57, Tryd.ntmps57
              go_wp2_with (go_at_call 27; refine (hc _).mono ?_; rintro e w' ⟨rfl, rfl⟩)
              go_ret
              exact ⟨ret_n (by rw [HV.out]; try omega), rfl⟩
            · skip
              have hd : digitI n = false := by simp [digitI]; omega
              have hv : worthI n = 16 := by unfold worthI; rw [hd]; simp; omega
              have HV := Lib.hid hv
              clear hv
              have : decide (97 ≤ n) = true := by simp; omega
              have : decide (n ≤ 102) = false := by simp; omega
              have : decide (65 ≤ n) = true := by simp; omega
              have : decide (n ≤ 70) = false := by simp; omega
              have hc : ∀ w, Calls Tryd.prog 27 #[.int .u8 n] w fun e w' => e = .returned (.bool false) ∧ w = w' := fun w => hd ▸ digit_i n w
              clear hd
              go_enter Tryd.func57, Tryd.ntmps57
              go_wp2_with (go_at_call 27; refine (hc _).mono ?_; rintro e w' ⟨rfl, rfl⟩)
              go_ret
              exact ⟨ret_n (by rw [HV.out]; try omega), rfl⟩

set_option maxHeartbeats 1000000 in
theorem refvalue_i (n : Int) (hn : 0 ≤ n ∧ n ≤ 255) (w : World) : Calls Tryd.prog 60 #[.int .u8 n] w fun e w' => e = .returned (.int .u64 (worthI n)) ∧ w = w' := by
  obtain ⟨n0, n1⟩ := hn
  by_cases g48 : n < 48
  · skip
    have hd : digitI n = false := by simp [digitI]; omega
    have hv : worthI n = 16 := by unfold worthI; rw [hd]; simp; omega
    have HV := Lib.hid hv
    clear hv
    have : decide (97 ≤ n) = false := by simp; omega
    have : decide (n ≤ 102) = true := by simp; omega
    have : decide (65 ≤ n) = false := by simp; omega
    have : decide (n ≤ 70) = true := by simp; omega
    have hc : ∀ w, Calls Tryd.prog 34 #[.int .u8 n] w fun e w' => e = .returned (.bool false) ∧ w = w' := fun w => hd ▸ refdigit_i n w
    clear hd
    go_enter Tryd.func60, Tryd.ntmps60
    go_wp2_with (go_at_call 34; refine (hc _).mono ?_; rintro e w' ⟨rfl, rfl⟩)
    go_ret
    exact ⟨ret_n (by rw [HV.out]; try omega), rfl⟩
  · skip
    by_cases g58 : n < 58
    · skip
      have hd : digitI n = true := by simp [digitI]; omega
      have hv : worthI n = n - 48 := by unfold worthI; rw [hd]; simp
      have HV := Lib.hid hv
      clear hv
      have : decide (97 ≤ n) = false := by simp; omega
      have : decide (n ≤ 102) = true := by simp; omega
      have : decide (65 ≤ n) = false := by simp; omega
      have : decide (n ≤ 70) = true := by simp; omega
      have hc : ∀ w, Calls Tryd.prog 34 #[.int .u8 n] w fun e w' => e = .returned (.bool true) ∧ w = w' := fun w => hd ▸ refdigit_i n w
      have hs : IntKind.u8.wrap (n - 48) = n - 48 := by rw [IntKind.wrap_u8]; omega
      have hs2 : IntKind.u64.wrap (n - 48) = n - 48 := by rw [IntKind.wrap_u64]; omega
      have hr : IntKind.u64.wrap n = n := by rw [IntKind.wrap_u64]; omega
      clear hd
      go_enter Tryd.func60, Tryd.ntmps60
      go_wp2_with (go_at_call 34; refine (hc _).mono ?_; rintro e w' ⟨rfl, rfl⟩)
      go_ret
      exact ⟨ret_n (by rw [HV.out]; try omega), rfl⟩
    · skip
      by_cases g65 : n < 65
      · skip
        have hd : digitI n = false := by simp [digitI]; omega
        have hv : worthI n = 16 := by unfold worthI; rw [hd]; simp; omega
        have HV := Lib.hid hv
        clear hv
        have : decide (97 ≤ n) = false := by simp; omega
        have : decide (n ≤ 102) = true := by simp; omega
        have : decide (65 ≤ n) = false := by simp; omega
        have : decide (n ≤ 70) = true := by simp; omega
        have hc : ∀ w, Calls Tryd.prog 34 #[.int .u8 n] w fun e w' => e = .returned (.bool false) ∧ w = w' := fun w => hd ▸ refdigit_i n w
        clear hd
        go_enter Tryd.func60, Tryd.ntmps60
        go_wp2_with (go_at_call 34; refine (hc _).mono ?_; rintro e w' ⟨rfl, rfl⟩)
        go_ret
        exact ⟨ret_n (by rw [HV.out]; try omega), rfl⟩
      · skip
        by_cases g71 : n < 71
        · skip
          have hd : digitI n = false := by simp [digitI]; omega
          have hv : worthI n = n - 55 := by unfold worthI; rw [hd]; simp; omega
          have HV := Lib.hid hv
          clear hv
          have : decide (97 ≤ n) = false := by simp; omega
          have : decide (n ≤ 102) = true := by simp; omega
          have : decide (65 ≤ n) = true := by simp; omega
          have : decide (n ≤ 70) = true := by simp; omega
          have hc : ∀ w, Calls Tryd.prog 34 #[.int .u8 n] w fun e w' => e = .returned (.bool false) ∧ w = w' := fun w => hd ▸ refdigit_i n w
          have hs : IntKind.u8.wrap (n - 65) = n - 65 := by rw [IntKind.wrap_u8]; omega
          have hs2 : IntKind.u64.wrap (n - 65) = n - 65 := by rw [IntKind.wrap_u64]; omega
          have hs3 : IntKind.u64.wrap (n - 65 + 10) = n - 55 := by rw [IntKind.wrap_u64]; omega
          have hr : IntKind.u64.wrap n = n := by rw [IntKind.wrap_u64]; omega
          have hr2 : IntKind.u64.wrap (n - 55) = n - 55 := by rw [IntKind.wrap_u64]; omega
          clear hd
          go_enter Tryd.func60, Tryd.ntmps60
          go_wp2_with (go_at_call 34; refine (hc _).mono ?_; rintro e w' ⟨rfl, rfl⟩)
          go_ret
          exact ⟨ret_n (by rw [HV.out]; try omega), rfl⟩
        · skip
          by_cases g97 : n < 97
          · skip
            have hd : digitI n = false := by simp [digitI]; omega
            have hv : worthI n = 16 := by unfold worthI; rw [hd]; simp; omega
            have HV := Lib.hid hv
            clear hv
            have : decide (97 ≤ n) = false := by simp; omega
            have : decide (n ≤ 102) = true := by simp; omega
            have : decide (65 ≤ n) = true := by simp; omega
            have : decide (n ≤ 70) = false := by simp; omega
            have hc : ∀ w, Calls Tryd.prog 34 #[.int .u8 n] w fun e w' => e = .returned (.bool false) ∧ w = w' := fun w => hd ▸ refdigit_i n w
            clear hd
            go_enter Tryd.func60, Tryd.ntmps60
            go_wp2_with (go_at_call 34; refine (hc _).mono ?_; rintro e w' ⟨rfl, rfl⟩)
            go_ret
            exact ⟨ret_n (by rw [HV.out]; try omega), rfl⟩
          · skip
            by_cases g103 : n < 103
            · skip
              have hd : digitI n = false := by simp [digitI]; omega
              have hv : worthI n = n - 87 := by unfold worthI; rw [hd]; simp; omega
              have HV := Lib.hid hv
              clear hv
              have : decide (97 ≤ n) = true := by simp; omega
              have : decide (n ≤ 102) = true := by simp; omega
              have : decide (65 ≤ n) = true := by simp; omega
              have : decide (n ≤ 70) = false := by simp; omega
              have hc : ∀ w, Calls Tryd.prog 34 #[.int .u8 n] w fun e w' => e = .returned (.bool false) ∧ w = w' := fun w => hd ▸ refdigit_i n w
              have hs : IntKind.u8.wrap (n - 97) = n - 97 := by rw [IntKind.wrap_u8]; omega
              have hs2 : IntKind.u64.wrap (n - 97) = n - 97 := by rw [IntKind.wrap_u64]; omega
              have hs3 : IntKind.u64.wrap (n - 97 + 10) = n - 87 := by rw [IntKind.wrap_u64]; omega
              have hr : IntKind.u64.wrap n = n := by rw [IntKind.wrap_u64]; omega
              have hr2 : IntKind.u64.wrap (n - 87) = n - 87 := by rw [IntKind.wrap_u64]; omega
              clear hd
              go_enter Tryd.func60, Tryd.ntmps60
              go_wp2_with (go_at_call 34; refine (hc _).mono ?_; rintro e w' ⟨rfl, rfl⟩)
              go_ret
              exact ⟨ret_n (by rw [HV.out]; try omega), rfl⟩
            · skip
              have hd : digitI n = false := by simp [digitI]; omega
              have hv : worthI n = 16 := by unfold worthI; rw [hd]; simp; omega
              have HV := Lib.hid hv
              clear hv
              have : decide (97 ≤ n) = true := by simp; omega
              have : decide (n ≤ 102) = false := by simp; omega
              have : decide (65 ≤ n) = true := by simp; omega
              have : decide (n ≤ 70) = false := by simp; omega
              have hc : ∀ w, Calls Tryd.prog 34 #[.int .u8 n] w fun e w' => e = .returned (.bool false) ∧ w = w' := fun w => hd ▸ refdigit_i n w
              clear hd
              go_enter Tryd.func60, Tryd.ntmps60
              go_wp2_with (go_at_call 34; refine (hc _).mono ?_; rintro e w' ⟨rfl, rfl⟩)
              go_ret
              exact ⟨ret_n (by rw [HV.out]; try omega), rfl⟩
end Go.Proofs.YtigdegjhajdmhaaDoor
