/-
  Facts of texts, tokens and numbers: what is read, and what is written, of a text cut, of texts on lines of their own, of tokens written. No program.
-/
import Derived.Test.YtigdegjhajdmhaaDoorScTx
import Derived.Test.YtigdegjhajdmhaaDoorScSg
namespace Go.Proofs.YtigdegjhajdmhaaDoor
open Go
set_option linter.unusedVariables false
set_option linter.unusedSimpArgs false

/-! ### Texts cut, and texts put behind one another -/
theorem run_app (p : UInt8 → Bool) (a r : Bytes) : run p (a ++ r) = if run p a = a.length then a.length + run p r else run p a := by
  unfold run
  rw [List.takeWhile_append]
  split
  · rw [List.length_append]
  · rfl
theorem run_stop (p : UInt8 → Bool) (c : UInt8) (b : Bytes) (h : p c = false) : run p (c :: b) = 0 := by
  unfold run; rw [List.takeWhile_cons, if_neg (by rw [h]; decide)]; rfl
theorem run_app_stop (p : UInt8 → Bool) (a : Bytes) (c : UInt8) (b : Bytes) (h : p c = false) : run p (a ++ c :: b) = run p a := by
  rw [run_app, run_stop p c b h]
  split
  · omega
  · rfl
theorem run_app_short (p : UInt8 → Bool) (a r : Bytes) (h : run p (a ++ r) ≤ a.length) : run p a = run p (a ++ r) := by
  rw [run_app] at h ⊢
  split
  · rename_i e; rw [if_pos e] at h; omega
  · rfl
theorem blank_not (c : UInt8) (h : blank c = true) : letter c = false ∧ digit c = false ∧ inName c = false ∧ c ≠ 39 ∧ c ≠ 47 ∧ c ≠ 104 ∧ c ≠ 100 ∧ c ≠ 98 := by
  have : c = 32 ∨ c = 9 ∨ c = 10 ∨ c = 13 := by
    unfold blank blankI bi at h
    simp only [Bool.or_eq_true, beq_iff_eq] at h
    rcases h with ((h | h) | h) | h
    · left; apply UInt8.toNat_inj.1; show _ = 32; omega
    · right; left; apply UInt8.toNat_inj.1; show _ = 9; omega
    · right; right; left; apply UInt8.toNat_inj.1; show _ = 10; omega
    · right; right; right; apply UInt8.toNat_inj.1; show _ = 13; omega
  rcases this with rfl | rfl | rfl | rfl <;> decide
theorem pre_app_stop (s a : Bytes) (c : UInt8) (b : Bytes) (h : s.all (fun x => x != c) = true) : s.isPrefixOf (a ++ c :: b) = s.isPrefixOf a := by
  induction s generalizing a with
  | nil => cases a <;> rfl
  | cons x s ih =>
    simp only [List.all_cons, Bool.and_eq_true] at h
    cases a with
    | nil =>
      simp only [List.nil_append, List.isPrefixOf]
      have : (x == c) = false := by simpa using h.1
      rw [this]; rfl
    | cons y a =>
      simp only [List.cons_append, List.isPrefixOf]
      rw [ih a h.2]
theorem find_congr (L : List Bytes) (p q : Bytes → Bool) (h : ∀ x ∈ L, p x = q x) : L.find? p = L.find? q := by
  induction L with
  | nil => rfl
  | cons x L ih =>
    simp only [List.find?_cons]
    rw [h x (by simp), ih (fun y hy => h y (by simp [hy]))]
theorem find_less (L : List Bytes) (p q : Bytes → Bool) (s : Bytes) (h : L.find? p = some s) (hs : q s = true) (hq : ∀ x, q x = true → p x = true) : L.find? q = some s := by
  induction L with
  | nil => cases h
  | cons x L ih =>
    simp only [List.find?_cons] at h ⊢
    cases hp : p x with
    | true =>
      rw [hp] at h
      simp only [Option.some.injEq] at h
      subst h
      rw [hs]
    | false =>
      rw [hp] at h
      have : q x = false := by
        cases hx : q x with
        | true => rw [hq x hx] at hp; cases hp
        | false => rfl
      rw [this]
      exact ih h
theorem signs_blank : signList.all (fun s => s.all (fun x => x != 32) && s.all (fun x => x != 9) && s.all (fun x => x != 10) && s.all (fun x => x != 13)) = true := by decide
theorem sign_blank (s : Bytes) (hs : s ∈ signList) (c : UInt8) (h : blank c = true) : s.all (fun x => x != c) = true := by
  have := List.all_eq_true.1 signs_blank s hs
  simp only [Bool.and_eq_true] at this
  obtain ⟨⟨⟨h1, h2⟩, h3⟩, h4⟩ := this
  have : c = 32 ∨ c = 9 ∨ c = 10 ∨ c = 13 := by
    unfold blank blankI bi at h
    simp only [Bool.or_eq_true, beq_iff_eq] at h
    rcases h with ((h | h) | h) | h
    · left; apply UInt8.toNat_inj.1; show _ = 32; omega
    · right; left; apply UInt8.toNat_inj.1; show _ = 9; omega
    · right; right; left; apply UInt8.toNat_inj.1; show _ = 10; omega
    · right; right; right; apply UInt8.toNat_inj.1; show _ = 13; omega
  rcases this with rfl | rfl | rfl | rfl <;> assumption
theorem signS_app (a : Bytes) (c : UInt8) (b : Bytes) (h : blank c = true) : signS (a ++ c :: b) = signS a := by
  unfold signS
  rw [find_congr signList _ _ (fun s hs => pre_app_stop s a c b (sign_blank s hs c h))]
theorem pre_app (s a r : Bytes) (h : s.isPrefixOf a = true) : s.isPrefixOf (a ++ r) = true := by
  rw [List.isPrefixOf_iff_prefix] at h ⊢
  exact h.trans (List.prefix_append a r)
theorem pre_short (s a r : Bytes) (h : s.isPrefixOf (a ++ r) = true) (hl : s.length ≤ a.length) : s.isPrefixOf a = true := by
  rw [List.isPrefixOf_iff_prefix] at h ⊢
  exact List.prefix_of_prefix_length_le h (List.prefix_append a r) hl
theorem signS_short_app (a r : Bytes) (h : signS (a ++ r) ≠ []) (hl : (signS (a ++ r)).length ≤ a.length) : signS a = signS (a ++ r) := by
  unfold signS at h hl ⊢
  cases e : signList.find? (fun s => s.isPrefixOf (a ++ r)) with
  | none => rw [e] at h; exact absurd rfl h
  | some s =>
    rw [e] at hl
    have hp : s.isPrefixOf (a ++ r) = true := by simpa using List.find?_some e
    rw [find_less signList _ (fun s => s.isPrefixOf a) s e (pre_short s a r hp hl) (fun x hx => pre_app x a r hx)]
/-- What the base's reader says of a longer text. -/
theorem rb_app (m : Bytes) (c : UInt8) (b : Bytes) (h : blank c = true) : rbS (m ++ c :: b) = ((rbS m).1, (rbS m).2.1, if (rbS m).2.2.2 = true then (rbS m).2.2.1 ++ c :: b else [], (rbS m).2.2.2) := by
  obtain ⟨_, _, _, _, _, n1, n2, n3⟩ := blank_not c h
  cases m with
  | nil =>
    have q : ∀ k : Nat, k < 256 → c ≠ UInt8.ofNat k → ((c.toNat : Int) == (k : Int)) = false := by
      intro k hk hn
      rw [beq_eq_false_iff_ne]
      intro e
      apply hn
      apply UInt8.toNat_inj.1
      rw [UInt8.toNat_ofNat_of_lt' (by simpa using hk)]
      omega
    show rbS (c :: b) = _
    unfold rbS
    simp only
    rw [if_neg (by rw [show ((104 : Int)) = ((104 : Nat) : Int) from rfl, q 104 (by omega) n1]; decide), if_neg (by rw [show ((100 : Int)) = ((100 : Nat) : Int) from rfl, q 100 (by omega) n2]; decide), if_neg (by rw [show ((98 : Int)) = ((98 : Nat) : Int) from rfl, q 98 (by omega) n3]; decide)]
    rfl
  | cons x m =>
    show rbS (x :: (m ++ c :: b)) = _
    unfold rbS
    simp only
    split
    · rfl
    · split
      · rfl
      · split <;> rfl
theorem take_app_le (a r : Bytes) (n : Nat) (h : n ≤ a.length) : (a ++ r).take n = a.take n := by rw [List.take_append_of_le_length h]
theorem drop_app_le (a r : Bytes) (n : Nat) (h : n ≤ a.length) : (a ++ r).drop n = a.drop n ++ r := by rw [List.drop_append_of_le_length h]
theorem wide_app (a : Bytes) (c : UInt8) (b : Bytes) (h : blank c = true) (n : Nat) (hn : n < a.length) : wideS (a ++ c :: b) n = wideS a n := by
  obtain ⟨_, _, hin, _⟩ := blank_not c h
  unfold wideS
  rw [drop_app_le _ _ _ (by omega : n + 1 ≤ a.length), take_app_le _ _ _ (by omega : n ≤ a.length), rb_app _ _ _ h]
  simp only
  cases hok : (rbS (a.drop (n + 1))).2.2.2 with
  | false => rfl
  | true =>
    simp only [if_true]
    rw [run_app_stop _ _ _ _ hin, take_app_le _ _ _ (run_le _ _)]
theorem number_app (a : Bytes) (c : UInt8) (b : Bytes) (h : blank c = true) : numberS (a ++ c :: b) = numberS a := by
  obtain ⟨_, hd, hin, h39, _⟩ := blank_not c h
  have hr := run_le digit a
  unfold numberS
  rw [run_app_stop _ _ _ _ hd, drop_app_le _ _ _ hr, take_app_le _ _ _ hr, pre_app_stop _ _ _ _ (by simpa using fun e => h39 e.symm), run_app_stop _ _ _ _ hin]
  by_cases hp : ([39] : Bytes).isPrefixOf (a.drop (run digit a)) = true
  · rw [if_pos hp, if_pos hp]
    exact wide_app a c b h _ (by have := prefix39 _ hp; rw [List.length_drop] at this; omega)
  · rw [if_neg hp, if_neg hp]
theorem name_app (a : Bytes) (c : UInt8) (b : Bytes) (h : blank c = true) : nameS (a ++ c :: b) = nameS a := by
  obtain ⟨_, _, hin, _⟩ := blank_not c h
  unfold nameS
  rw [run_app_stop _ _ _ _ hin, take_app_le _ _ _ (run_le _ _)]
/-- A BLANK ENDS A TOKEN: what stands behind it is not looked at. -/
theorem token_app (a : Bytes) (ha : a ≠ []) (c : UInt8) (b : Bytes) (h : blank c = true) : tokenS (a ++ c :: b) = tokenS a := by
  cases a with
  | nil => exact absurd rfl ha
  | cons x a =>
    show (if letter x = true then nameS ((x :: a) ++ c :: b) else if digit x = true then numberS ((x :: a) ++ c :: b) else if signS ((x :: a) ++ c :: b) = [] then badT 20 else ⟨4, signS ((x :: a) ++ c :: b), 0, 0, (signS ((x :: a) ++ c :: b)).length, 0⟩) = (if letter x = true then nameS (x :: a) else if digit x = true then numberS (x :: a) else if signS (x :: a) = [] then badT 20 else ⟨4, signS (x :: a), 0, 0, (signS (x :: a)).length, 0⟩)
    rw [name_app _ _ _ h, number_app _ _ _ h, signS_app _ _ _ h]
theorem rb_app_ok (m r : Bytes) (hm : m ≠ []) : rbS (m ++ r) = ((rbS m).1, (rbS m).2.1, if (rbS m).2.2.2 = true then (rbS m).2.2.1 ++ r else [], (rbS m).2.2.2) := by
  cases m with
  | nil => exact absurd rfl hm
  | cons x m =>
    show rbS (x :: (m ++ r)) = _
    unfold rbS
    simp only
    split
    · rfl
    · split
      · rfl
      · split <;> rfl
theorem wide_err {l : Bytes} {n : Nat} (h : (wideS l n).err = 0) : (rbS (l.drop (n + 1))).2.2.2 = true ∧ (wideS l n).size = n + 2 + run inName (rbS (l.drop (n + 1))).2.2.1 := by
  unfold wideS at h ⊢
  split at h
  · exact absurd h (by decide)
  · rename_i h0
    refine ⟨by simpa using h0, ?_⟩
    rw [if_neg (by assumption)]
    split at h
    · exact absurd h (by decide)
    · rw [if_neg (by assumption)]
      split at h
      · exact absurd h (by decide)
      · rw [if_neg (by assumption)]
        split at h
        · exact absurd h (by decide)
        · rw [if_neg (by assumption)]
          split at h
          · exact absurd h (by decide)
          · rw [if_neg (by assumption)]
            split at h
            · exact absurd h (by decide)
            · rw [if_neg (by assumption)]
              split at h
              · exact absurd h (by decide)
              · rw [if_neg (by assumption)]
theorem wide_cut (a r : Bytes) (n : Nat) (h : (wideS (a ++ r) n).err = 0) (hl : (wideS (a ++ r) n).size ≤ a.length) : wideS a n = wideS (a ++ r) n := by
  obtain ⟨hok, hsz⟩ := wide_err h
  rw [hsz] at hl
  have hne : a.drop (n + 1) ≠ [] := by
    intro e
    have := congrArg List.length e
    rw [List.length_drop, List.length_nil] at this
    omega
  have hrb := rb_app_ok (a.drop (n + 1)) r hne
  rw [drop_app_le _ _ _ (by omega : n + 1 ≤ a.length)] at hok hl
  rw [hrb] at hok hl
  simp only at hok hl
  rw [if_pos hok] at hl
  unfold wideS
  rw [drop_app_le _ _ _ (by omega : n + 1 ≤ a.length), take_app_le _ _ _ (by omega : n ≤ a.length), hrb]
  simp only [hok, if_true]
  have hf := (rb_facts hok).1
  rw [List.length_drop] at hf
  have hle : run inName ((rbS (a.drop (n + 1))).2.2.1 ++ r) ≤ (rbS (a.drop (n + 1))).2.2.1.length := by omega
  have e1 := run_app_short _ _ _ hle
  rw [← e1, take_app_le _ _ _ (run_le _ _)]
theorem number_cut (a r : Bytes) (h : (numberS (a ++ r)).err = 0) (hl : (numberS (a ++ r)).size ≤ a.length) : numberS a = numberS (a ++ r) := by
  by_cases hp : ([39] : Bytes).isPrefixOf ((a ++ r).drop (run digit (a ++ r))) = true
  · have e : numberS (a ++ r) = wideS (a ++ r) (run digit (a ++ r)) := by unfold numberS; rw [if_pos hp]
    rw [e] at h hl ⊢
    have hsz := (wide_err h).2
    have e1 := run_app_short digit a r (by omega)
    have hn : run digit a + 2 ≤ a.length := by rw [e1]; omega
    unfold numberS
    rw [← e1] at hp
    rw [drop_app_le _ _ _ (by omega)] at hp
    rw [if_pos (pre_short _ _ _ hp (by rw [List.length_drop]; simp; omega)), wide_cut a r _ (by rw [e1]; exact h) (by rw [e1]; exact hl), e1]
  · have e : numberS (a ++ r) = if 0 < run inName ((a ++ r).drop (run digit (a ++ r))) then badT 21 else if ¬ num 10 ((a ++ r).take (run digit (a ++ r))) < 18446744073709551616 then badT 22 else ⟨3, [], 0, num 10 ((a ++ r).take (run digit (a ++ r))), run digit (a ++ r), 0⟩ := by unfold numberS; rw [if_neg hp]
    rw [e] at h hl ⊢
    split at h
    · exact absurd h (by decide)
    · rename_i h1
      rw [if_neg h1] at hl ⊢
      split at h
      · exact absurd h (by decide)
      · rename_i h2
        rw [if_neg h2] at hl ⊢
        have e1 := run_app_short digit a r hl
        have hle := run_le digit a
        unfold numberS
        rw [← e1] at hp h1 h2 ⊢
        rw [drop_app_le _ _ _ hle] at hp h1
        rw [take_app_le _ _ _ hle] at h2 ⊢
        have h3 : run inName (a.drop (run digit a)) = 0 := by
          rw [run_app] at h1
          split at h1
          · omega
          · omega
        rw [if_neg (fun hx => hp (pre_app _ _ _ hx)), if_neg (by omega), if_neg h2]
/-- WHAT STANDS BEHIND A TOKEN IS NOT LOOKED AT, where it is right. -/
theorem token_cut (a r : Bytes) (ha : a ≠ []) (h : (tokenS (a ++ r)).err = 0) (hl : (tokenS (a ++ r)).size ≤ a.length) : tokenS a = tokenS (a ++ r) := by
  cases a with
  | nil => exact absurd rfl ha
  | cons x a =>
    have E : tokenS ((x :: a) ++ r) = (if letter x = true then nameS ((x :: a) ++ r) else if digit x = true then numberS ((x :: a) ++ r) else if signS ((x :: a) ++ r) = [] then badT 20 else ⟨4, signS ((x :: a) ++ r), 0, 0, (signS ((x :: a) ++ r)).length, 0⟩) := rfl
    have E0 : tokenS (x :: a) = (if letter x = true then nameS (x :: a) else if digit x = true then numberS (x :: a) else if signS (x :: a) = [] then badT 20 else ⟨4, signS (x :: a), 0, 0, (signS (x :: a)).length, 0⟩) := rfl
    rw [E] at h hl ⊢
    rw [E0]
    by_cases h1 : letter x = true
    · rw [if_pos h1] at h hl ⊢
      rw [if_pos h1]
      unfold nameS at h hl ⊢
      split at h
      · exact absurd h (by decide)
      · rename_i h2
        rw [if_neg h2] at hl ⊢
        have e1 := run_app_short inName (x :: a) r hl
        rw [← e1] at h2 ⊢
        rw [if_neg h2, take_app_le _ _ _ (run_le _ _)]
    · rw [if_neg h1] at h hl ⊢
      rw [if_neg h1]
      by_cases h2 : digit x = true
      · rw [if_pos h2] at h hl ⊢
        rw [if_pos h2]
        exact number_cut _ _ h hl
      · rw [if_neg h2] at h hl ⊢
        rw [if_neg h2]
        split at h
        · exact absurd h (by decide)
        · rename_i h3
          rw [if_neg h3] at hl ⊢
          have e1 := signS_short_app (x :: a) r h3 hl
          rw [e1, if_neg h3]

/-! ### Where tokens begin -/
theorem pre47_app (a r : Bytes) (h : ([47, 47] : Bytes).isPrefixOf a = true) : ([47, 47] : Bytes).isPrefixOf (a ++ r) = true := pre_app _ _ _ h
theorem list_ind {P : Bytes → Prop} (h : ∀ l : Bytes, (∀ m : Bytes, m.length < l.length → P m) → P l) : ∀ l, P l := by
  have : ∀ n (l : Bytes), l.length = n → P l := by
    intro n
    induction n using Nat.strongRecOn with
    | ind n ih =>
      intro l hl
      exact h l (fun m hm => ih m.length (by omega) m rfl)
  exact fun l => this _ l rfl
/-- What is passed is passed of a cut text, too. -/
theorem start_cut : ∀ (a r : Bytes), startS (a ++ r) ≤ a.length → startS a = startS (a ++ r) := by
  intro a r
  revert a
  refine list_ind (P := fun a => startS (a ++ r) ≤ a.length → startS a = startS (a ++ r)) ?_
  intro a ih h
  cases a with
  | nil =>
    have : startS ([] ++ r) = 0 := by simpa using h
    rw [this]; rfl
  | cons c a =>
    show startS (c :: a) = startS (c :: (a ++ r))
    have h' : startS (c :: (a ++ r)) ≤ a.length + 1 := h
    cases hb : blank c with
    | true =>
      rw [startS_blank hb] at h' ⊢
      rw [startS_blank hb, ih a (by simp) (by omega)]
    | false =>
      cases hs : ([47, 47] : Bytes).isPrefixOf (c :: (a ++ r)) with
      | false =>
        rw [startS_stop hb hs, startS_stop hb]
        cases hx : ([47, 47] : Bytes).isPrefixOf (c :: a) with
        | false => rfl
        | true => rw [show c :: (a ++ r) = (c :: a) ++ r from rfl, pre_app _ _ _ hx] at hs; cases hs
      | true =>
        have hr2 := slashes hs
        rw [startS_comment hb hs] at h' ⊢
        have e1 := run_app_short inLine (c :: a) r (by show run inLine (c :: (a ++ r)) ≤ a.length + 1; omega)
        have e1' : run inLine (c :: a) = run inLine (c :: (a ++ r)) := e1
        have hle := run_le inLine (c :: a)
        have hs2 : ([47, 47] : Bytes).isPrefixOf (c :: a) = true := pre_short _ _ r hs (by simp only [List.length_cons, List.length_nil]; simp only [List.length_cons] at hle; omega)
        rw [startS_comment hb hs2, ← e1']
        rw [← e1', show c :: (a ++ r) = (c :: a) ++ r from rfl, drop_app_le _ _ _ hle] at h'
        rw [show c :: (a ++ r) = (c :: a) ++ r from rfl, drop_app_le _ _ _ hle]
        rw [ih _ (by rw [List.length_drop]; simp only [List.length_cons] at hle ⊢; omega) (by rw [List.length_drop, List.length_cons]; omega)]
/-- Behind a line's end all begins anew. -/
theorem start_line : ∀ (a b : Bytes), startS (a ++ 10 :: b) = if startS a = a.length then a.length + 1 + startS b else startS a := by
  intro a b
  revert a
  refine list_ind (P := fun a => startS (a ++ 10 :: b) = if startS a = a.length then a.length + 1 + startS b else startS a) ?_
  intro a ih
  cases a with
  | nil =>
    rw [if_pos (show startS [] = ([] : Bytes).length from rfl)]
    show startS (10 :: b) = 0 + 1 + startS b
    rw [startS_blank (by decide)]; try omega
  | cons c a =>
    show startS (c :: (a ++ 10 :: b)) = _
    cases hb : blank c with
    | true =>
      rw [startS_blank hb, startS_blank hb, ih a (by simp), List.length_cons]
      split
      · rw [if_pos (by omega)]; omega
      · rw [if_neg (by omega)]
    | false =>
      have hpre : ([47, 47] : Bytes).isPrefixOf (c :: (a ++ 10 :: b)) = ([47, 47] : Bytes).isPrefixOf (c :: a) := pre_app_stop [47, 47] (c :: a) 10 b (by decide)
      cases hs : ([47, 47] : Bytes).isPrefixOf (c :: a) with
      | false =>
        rw [startS_stop hb (by rw [hpre]; exact hs), startS_stop hb hs, if_neg (by simp)]
      | true =>
        have h2 := slashes hs
        have hle := run_le inLine (c :: a)
        have hr : run inLine (c :: (a ++ 10 :: b)) = run inLine (c :: a) := run_app_stop inLine (c :: a) 10 b (by decide)
        rw [startS_comment hb (by rw [hpre]; exact hs), startS_comment hb hs, hr, show c :: (a ++ 10 :: b) = (c :: a) ++ 10 :: b from rfl, drop_app_le _ _ _ hle, ih _ (by rw [List.length_drop]; simp only [List.length_cons] at hle ⊢; omega), List.length_drop]
        simp only [List.length_cons] at hle ⊢
        split
        · rw [if_pos (by omega)]; omega
        · rw [if_neg (by omega)]
/-- Where a token begins nothing is passed. -/
theorem start_drop : ∀ l : Bytes, startS (l.drop (startS l)) = 0 := by
  refine list_ind ?_
  intro l ih
  cases l with
  | nil => rfl
  | cons c l =>
    cases hb : blank c with
    | true =>
      rw [startS_blank hb, Nat.add_comm, List.drop_succ_cons]
      exact ih l (by simp)
    | false =>
      cases hs : ([47, 47] : Bytes).isPrefixOf (c :: l) with
      | false => rw [startS_stop hb hs]; exact startS_stop hb hs
      | true =>
        have h2 := slashes hs
        have hle := run_le inLine (c :: l)
        rw [startS_comment hb hs, ← List.drop_drop]
        exact ih _ (by rw [List.length_drop]; simp only [List.length_cons] at hle ⊢; omega)
theorem signs_first : signList.all (fun s => match s with | [] => false | x :: _ => !letter x && !digit x && !blank x && x != 47) = true := by decide
/-- What a token begins with is not passed. -/
theorem start_token (l : Bytes) (hl : l ≠ []) (h : (tokenS l).err = 0) : startS l = 0 := by
  cases l with
  | nil => exact absurd rfl hl
  | cons c l =>
    have E0 : tokenS (c :: l) = (if letter c = true then nameS (c :: l) else if digit c = true then numberS (c :: l) else if signS (c :: l) = [] then badT 20 else ⟨4, signS (c :: l), 0, 0, (signS (c :: l)).length, 0⟩) := rfl
    rw [E0] at h
    have key : blank c = false ∧ c ≠ 47 := by
      by_cases h1 : letter c = true
      · refine ⟨?_, fun e => ?_⟩
        · cases hb : blank c with
          | false => rfl
          | true => rw [(blank_not c hb).1] at h1; cases h1
        · subst e; revert h1; decide
      · rw [if_neg h1] at h
        by_cases h2 : digit c = true
        · refine ⟨?_, fun e => ?_⟩
          · cases hb : blank c with
            | false => rfl
            | true => rw [(blank_not c hb).2.1] at h2; cases h2
          · subst e; revert h2; decide
        · rw [if_neg h2] at h
          split at h
          · exact absurd h (by decide)
          · rename_i h3
            cases e : signList.find? (fun s => s.isPrefixOf (c :: l)) with
            | none => exact absurd (by unfold signS; rw [e]; rfl) h3
            | some s =>
              have hm := List.all_eq_true.1 signs_first s (List.mem_of_find?_eq_some e)
              have hp : s.isPrefixOf (c :: l) = true := by simpa using List.find?_some e
              cases s with
              | nil => cases hm
              | cons x s =>
                simp only [List.isPrefixOf, Bool.and_eq_true, beq_iff_eq] at hp
                obtain ⟨rfl, _⟩ := hp
                simp only [Bool.and_eq_true, Bool.not_eq_true', bne_iff_ne] at hm
                exact ⟨hm.1.2, hm.2⟩
    refine startS_stop key.1 ?_
    cases l with
    | nil => simp [List.isPrefixOf]
    | cons d l =>
      simp only [List.isPrefixOf]
      have : ((47 : UInt8) == c) = false := by simpa using fun e => key.2 e.symm
      rw [this]; rfl

/-! ### Scan, told without fuel -/
/-- From a token's place on: the tokens, or where one is wrong, and why. -/
inductive Scans : Bytes → Nat → List T5 → Option (Nat × Int) → Prop
  | nil (k : Nat) : Scans [] k [] none
  | bad (m : Bytes) (k : Nat) (hm : m ≠ []) (he : (tokenS m).err ≠ 0) : Scans m k [] (some (k, (tokenS m).err))
  | on (m : Bytes) (k : Nat) (hm : m ≠ []) (he : (tokenS m).err = 0) (ts : List T5) (r : Option (Nat × Int)) (h : Scans (m.drop ((tokenS m).size + startS (m.drop (tokenS m).size))) (k + (tokenS m).size + startS (m.drop (tokenS m).size)) ts r) : Scans m k ((tokenS m).put k :: ts) r
def scanOf (ts : List T5) (r : Option (Nat × Int)) : List T5 × Nat × Int :=
  match r with
  | none => (ts, 0, 0)
  | some (k, e) => ([], k, e)
theorem scans_ex : ∀ (m : Bytes) (k : Nat), ∃ ts r, Scans m k ts r := by
  refine list_ind ?_
  intro m ih k
  by_cases hm : m = []
  · subst hm; exact ⟨_, _, .nil k⟩
  · by_cases he : (tokenS m).err = 0
    · have h0 : 0 < m.length := List.length_pos_iff.2 hm
      have hs := token_size h0 he
      obtain ⟨ts, r, h⟩ := ih (m.drop ((tokenS m).size + startS (m.drop (tokenS m).size))) (by rw [List.length_drop]; omega) (k + (tokenS m).size + startS (m.drop (tokenS m).size))
      exact ⟨_, _, .on m k hm he ts r h⟩
    · exact ⟨_, _, .bad m k hm he⟩
theorem scanK_of : ∀ {m : Bytes} {k : Nat} {ts : List T5} {r : Option (Nat × Int)}, Scans m k ts r → ∀ (f : Nat) (l : Bytes) (acc : List T5), l.drop k = m → m.length < f → scanK f l k acc = scanOf (acc ++ ts) r := by
  intro m k ts r h
  induction h with
  | nil k =>
    intro f l acc hd hf
    cases f with
    | zero => omega
    | succ f =>
      rw [scanK_stop (by intro hk; have := congrArg List.length hd; rw [List.length_drop, List.length_nil] at this; omega)]
      simp [scanOf]
  | bad m k hm he =>
    intro f l acc hd hf
    cases f with
    | zero => omega
    | succ f =>
      have hk : k < l.length := by
        have := List.length_pos_iff.2 hm
        rw [← hd, List.length_drop] at this; omega
      rw [scanK_bad hk (by rw [hd]; exact he), hd]
      rfl
  | on m k hm he ts r h ih =>
    intro f l acc hd hf
    cases f with
    | zero => omega
    | succ f =>
      have hk : k < l.length := by
        have := List.length_pos_iff.2 hm
        rw [← hd, List.length_drop] at this; omega
      have h0 : 0 < m.length := List.length_pos_iff.2 hm
      have hs := token_size h0 he
      have hd2 : ∀ n, l.drop (k + n) = m.drop n := by intro n; rw [← hd, List.drop_drop]
      rw [scanK_on hk (by rw [hd]; exact he), hd, hd2]
      rw [ih f l (acc ++ [(tokenS m).put k]) (by rw [Nat.add_assoc, hd2]) (by rw [List.length_drop]; omega)]
      rw [List.append_assoc]; rfl
theorem scanS_of {l : Bytes} {ts : List T5} {r : Option (Nat × Int)} (h : Scans (l.drop (startS l)) (startS l) ts r) : scanS l = scanOf ts r := by
  unfold scanS
  rw [scanK_of h (l.length + 1) l [] rfl (by rw [List.length_drop]; omega)]
  rfl
theorem scans_of (l : Bytes) : ∃ ts r, Scans (l.drop (startS l)) (startS l) ts r ∧ scanS l = scanOf ts r := by
  obtain ⟨ts, r, h⟩ := scans_ex (l.drop (startS l)) (startS l)
  exact ⟨ts, r, h, scanS_of h⟩
theorem scans_err {m : Bytes} {k : Nat} {ts : List T5} {r : Option (Nat × Int)} (h : Scans m k ts r) : ∀ i e, r = some (i, e) → e ≠ 0 := by
  induction h with
  | nil k => intro i e h; cases h
  | bad m k hm he => intro i e h; cases h; exact he
  | on m k hm he ts r h ih => exact ih
/-- At a token's place, put off. -/
theorem scans_shift {m : Bytes} {k : Nat} {ts : List T5} {r : Option (Nat × Int)} (h : Scans m k ts r) (d : Nat) : Scans m (k + d) (ts.map fun t => { t with at' := t.at' + d }) (r.map fun x => (x.1 + d, x.2)) := by
  induction h with
  | nil k => exact .nil _
  | bad m k hm he => exact .bad m _ hm he
  | on m k hm he ts r h ih =>
    refine Scans.on m (k + d) hm he _ _ ?_
    rw [show k + d + (tokenS m).size + startS (m.drop (tokenS m).size) = k + (tokenS m).size + startS (m.drop (tokenS m).size) + d by omega]
    exact ih

/-! ### What a token is -/
theorem word_names : wordList.all (fun s => match s with | [] => false | c :: _ => letter c && (decide (s.length ≤ 64) && s.all inName)) = true := by decide
/-- A text that is one name, or word. -/
def oneName (s : Bytes) : Bool :=
  match s with
  | [] => false
  | c :: _ => letter c && (decide (s.length ≤ 64) && s.all inName)
theorem one_of_word {s : Bytes} (h : isWord s = true) : oneName s = true := by
  have hm : s ∈ wordList := by simpa [isWord] using h
  exact List.all_eq_true.1 word_names s hm
theorem one_of_name {s : Bytes} (h : isNameB s = true) : oneName s = true ∧ isWord s = false := by
  cases s with
  | nil => cases h
  | cons c t =>
    unfold isNameB at h
    simp only [Bool.and_eq_true, Bool.not_eq_true'] at h
    refine ⟨?_, h.2.2.2⟩
    unfold oneName
    simp only [Bool.and_eq_true]
    exact ⟨h.1, h.2.1, h.2.2.1⟩
theorem name_of_one {s : Bytes} (h : oneName s = true) : isNameB s = !isWord s := by
  cases s with
  | nil => cases h
  | cons c t =>
    unfold oneName at h
    simp only [Bool.and_eq_true] at h
    unfold isNameB
    simp only [h.1, h.2.1, h.2.2, Bool.true_and]
theorem token_one {s : Bytes} (h : oneName s = true) : tokenS s = ⟨if isWord s = true then 2 else 1, s, 0, 0, s.length, 0⟩ := by
  cases s with
  | nil => cases h
  | cons c t =>
    unfold oneName at h
    simp only [Bool.and_eq_true, decide_eq_true_eq] at h
    have E0 : tokenS (c :: t) = (if letter c = true then nameS (c :: t) else if digit c = true then numberS (c :: t) else if signS (c :: t) = [] then badT 20 else ⟨4, signS (c :: t), 0, 0, (signS (c :: t)).length, 0⟩) := rfl
    rw [E0, if_pos h.1]
    unfold nameS
    rw [run_all _ _ h.2.2, if_neg (by omega), List.take_length]
theorem take_run (p : UInt8 → Bool) (l : Bytes) : (l.take (run p l)).all p = true := by
  unfold run
  induction l with
  | nil => rfl
  | cons c l ih =>
    by_cases hc : p c = true
    · rw [List.takeWhile_cons, if_pos hc, List.length_cons, List.take_succ_cons, List.all_cons, hc, ih]; rfl
    · rw [List.takeWhile_cons, if_neg hc]; rfl
/-- What is right of a token that is read. -/
structure TokOk (l : Bytes) (t : Tk) : Prop where
  may : mayB t.k t.s t.W t.V = true
  text : t.k ≠ 3 → l.take t.s.length = t.s
  num : t.k = 3 → t.s = [] ∧ ∃ c r, l = c :: r ∧ digit c = true
  kinds : t.k = 1 ∨ t.k = 2 ∨ t.k = 3 ∨ t.k = 4
  size : t.s.length ≤ t.size ∧ 1 ≤ t.size
  small : t.s.length ≤ 64 ∧ t.W ≤ 64 ∧ t.V < 18446744073709551616
  room : t.s.length ≤ l.length
theorem holds_lt {W V : Nat} (h : holdsI W V = true) : V < 18446744073709551616 ∧ W ≤ 64 := by
  unfold holdsI at h
  simp only [Bool.and_eq_true, decide_eq_true_eq] at h
  obtain ⟨⟨h1, h2⟩, h3⟩ := h
  have hw : W ≤ 64 := by omega
  refine ⟨?_, hw⟩
  have : (2 : Nat) ^ ((W : Int).toNat) ≤ 2 ^ 64 := Nat.pow_le_pow_right (by omega) (by omega)
  omega
theorem token_ok (l : Bytes) (hl : l ≠ []) (h : (tokenS l).err = 0) : TokOk l (tokenS l) := by
  have hsz := token_size (List.length_pos_iff.2 hl) h
  cases l with
  | nil => exact absurd rfl hl
  | cons c l =>
    have E0 : tokenS (c :: l) = (if letter c = true then nameS (c :: l) else if digit c = true then numberS (c :: l) else if signS (c :: l) = [] then badT 20 else ⟨4, signS (c :: l), 0, 0, (signS (c :: l)).length, 0⟩) := rfl
    rw [E0] at h hsz ⊢
    by_cases h1 : letter c = true
    · rw [if_pos h1] at h hsz ⊢
      unfold nameS at h hsz ⊢
      split at h
      · exact absurd h (by decide)
      · rename_i h2
        rw [if_neg h2] at hsz ⊢
        have hle := run_le inName (c :: l)
        have h0 : 0 < run inName (c :: l) := hsz.1
        have hone : oneName ((c :: l).take (run inName (c :: l))) = true := by
          have ha := take_run inName (c :: l)
          obtain ⟨n, hn⟩ : ∃ n, run inName (c :: l) = n + 1 := ⟨run inName (c :: l) - 1, by omega⟩
          rw [hn] at ha ⊢
          rw [List.take_succ_cons] at ha ⊢
          unfold oneName
          simp only [Bool.and_eq_true, decide_eq_true_eq]
          refine ⟨h1, ?_, ha⟩
          simp only [List.length_cons, List.length_take]; omega
        have hlen : ((c :: l).take (run inName (c :: l))).length = run inName (c :: l) := by rw [List.length_take]; omega
        have hb := name_of_one hone
        generalize hT : (c :: l).take (run inName (c :: l)) = T at *
        refine ⟨?_, ?_, ?_, ?_, ⟨by show T.length ≤ run inName (c :: l); omega, h0⟩, ⟨by show T.length ≤ 64; omega, by show 0 ≤ 64; omega, by show 0 < 18446744073709551616; omega⟩, by show T.length ≤ (c :: l).length; omega⟩
        · show mayB (if isWord T = true then 2 else 1) T 0 0 = true
          cases hw : isWord T with
          | true => simp [mayB, hw]
          | false => rw [hw] at hb; simp [mayB, hb]
        · intro _
          show (c :: l).take T.length = T
          rw [hlen]; exact hT
        · intro h3
          have h3' : (if isWord T = true then (2 : Int) else 1) = 3 := h3
          split at h3' <;> omega
        · show (if isWord T = true then (2 : Int) else 1) = 1 ∨ (if isWord T = true then (2 : Int) else 1) = 2 ∨ _
          split
          · exact .inr (.inl rfl)
          · exact .inl rfl
    · rw [if_neg h1] at h hsz ⊢
      by_cases h2 : digit c = true
      · rw [if_pos h2] at h hsz ⊢
        have key : ∃ W V n, numberS (c :: l) = ⟨3, [], W, V, n, 0⟩ ∧ (W = 0 ∨ holdsI W V = true) ∧ V < 18446744073709551616 ∧ W ≤ 64 := by
          unfold numberS at h ⊢
          split at h
          · rename_i h3
            rw [if_pos h3]
            unfold wideS at h ⊢
            split at h
            · exact absurd h (by decide)
            · rw [if_neg (by assumption)]
              split at h
              · exact absurd h (by decide)
              · rw [if_neg (by assumption)]
                split at h
                · exact absurd h (by decide)
                · rw [if_neg (by assumption)]
                  split at h
                  · exact absurd h (by decide)
                  · rw [if_neg (by assumption)]
                    split at h
                    · exact absurd h (by decide)
                    · rw [if_neg (by assumption)]
                      split at h
                      · exact absurd h (by decide)
                      · rw [if_neg (by assumption)]
                        split at h
                        · exact absurd h (by decide)
                        · rename_i hh
                          rw [if_neg (by assumption)]
                          have hh' := holds_lt (by simpa using hh)
                          exact ⟨_, _, _, rfl, .inr (by simpa using hh), hh'.1, hh'.2⟩
          · rename_i h3
            rw [if_neg h3]
            split at h
            · exact absurd h (by decide)
            · rw [if_neg (by assumption)]
              split at h
              · exact absurd h (by decide)
              · rename_i hv
                rw [if_neg hv]
                exact ⟨_, _, _, rfl, .inl rfl, by simpa using hv, Nat.zero_le _⟩
        obtain ⟨W, V, n, e, hw, hv, hw2⟩ := key
        rw [e] at hsz ⊢
        refine ⟨?_, fun h => absurd rfl h, fun _ => ⟨rfl, c, l, rfl, h2⟩, .inr (.inr (.inl rfl)), ⟨Nat.zero_le _, hsz.1⟩, ⟨Nat.zero_le _, hw2, hv⟩, Nat.zero_le _⟩
        rcases hw with rfl | hw
        · simp [mayB]
        · show mayB 3 [] (W : Int) V = true
          simp [mayB, hw]
      · rw [if_neg h2] at h hsz ⊢
        split at h
        · exact absurd h (by decide)
        · rename_i h3
          rw [if_neg h3] at hsz ⊢
          cases e : signList.find? (fun s => s.isPrefixOf (c :: l)) with
          | none => exact absurd (by unfold signS; rw [e]; rfl) h3
          | some s =>
            have e2 : signS (c :: l) = s := by unfold signS; rw [e]; rfl
            have hm := List.mem_of_find?_eq_some e
            have hp : s.isPrefixOf (c :: l) = true := by simpa using List.find?_some e
            have hs2 := signS_short (c :: l)
            rw [e2] at hsz hs2 ⊢
            have hle := isPrefix_len hp
            refine ⟨?_, ?_, fun h => ?_, .inr (.inr (.inr rfl)), ⟨Nat.le_refl _, hsz.1⟩, ⟨by show s.length ≤ 64; omega, by show 0 ≤ 64; omega, by show 0 < 18446744073709551616; omega⟩, hle⟩
            · show mayB 4 s 0 0 = true
              have : isSignB s = true := by rw [sign_mem]; simpa using hm
              simp [mayB, this]
            · intro _
              rw [List.isPrefixOf_iff_prefix, List.prefix_iff_eq_take] at hp
              exact hp.symm
            · have h' : (4 : Int) = 3 := h
              omega

/-! ### What is read stands where it says -/
structure RightAt (l : Bytes) (e : Nat) (t : T5) : Prop where
  check : checkS t.k t.s t.W t.V t.at' = 0
  ge : e ≤ t.at'
  lt : t.at' < l.length
  room : t.s.length ≤ l.length - t.at'
  text : t.k ≠ 3 → (l.drop t.at').take t.s.length = t.s
  num : t.k = 3 → t.s = [] ∧ ∃ h : t.at' < l.length, digit l[t.at'] = true
  kinds : t.k = 1 ∨ t.k = 2 ∨ t.k = 3 ∨ t.k = 4
  small : t.s.length ≤ 64 ∧ t.W ≤ 64 ∧ t.V < 18446744073709551616
inductive Right (l : Bytes) : Nat → List T5 → Prop
  | nil (e : Nat) : Right l e []
  | cons (e : Nat) (t : T5) (ts : List T5) (h : RightAt l e t) (hr : Right l (t.at' + max t.s.length 1) ts) : Right l e (t :: ts)
theorem Right.less {l : Bytes} {e e' : Nat} {ts : List T5} (h : Right l e ts) (he : e' ≤ e) : Right l e' ts := by
  cases h with
  | nil => exact .nil _
  | cons _ t ts h hr => exact .cons _ t ts ⟨h.check, Nat.le_trans he h.ge, h.lt, h.room, h.text, h.num, h.kinds, h.small⟩ hr
theorem right_count {l : Bytes} {e : Nat} {ts : List T5} (h : Right l e ts) : ts.length ≤ l.length - e := by
  induction h with
  | nil e => exact Nat.zero_le _
  | cons e t ts h hr ih =>
    have := h.lt
    have := h.ge
    simp only [List.length_cons]
    omega
theorem scans_right (l : Bytes) {m : Bytes} {k : Nat} {ts : List T5} {r : Option (Nat × Int)} (h : Scans m k ts r) : l.drop k = m → r = none → Right l k ts := by
  induction h with
  | nil k => intro _ _; exact .nil _
  | bad m k hm he => intro _ h; cases h
  | on m k hm he ts r h ih =>
    intro hd hr
    have ok := token_ok m hm he
    have hk : k < l.length := by
      have := List.length_pos_iff.2 hm
      rw [← hd, List.length_drop] at this; omega
    have hlen : l.length - k = m.length := by rw [← hd, List.length_drop]
    have h1 := ih (by rw [Nat.add_assoc, ← List.drop_drop, hd]) hr
    refine .cons k _ ts ⟨?_, Nat.le_refl _, hk, by show (tokenS m).s.length ≤ l.length - k; rw [hlen]; exact ok.room, ?_, ?_, ok.kinds, ok.small⟩ (h1.less ?_)
    · show checkS (tokenS m).k (tokenS m).s (tokenS m).W (tokenS m).V (k : Int) = 0
      unfold checkS
      rw [ok.may]
      have : decide ((k : Int) < 0) = false := by simp
      rw [this]; rfl
    · intro h3
      show (l.drop k).take (tokenS m).s.length = (tokenS m).s
      rw [hd]; exact ok.text h3
    · intro h3
      obtain ⟨h4, c, r', h5, h6⟩ := ok.num h3
      refine ⟨h4, hk, ?_⟩
      have : l.drop k = l[k] :: l.drop (k + 1) := List.drop_eq_getElem_cons hk
      rw [hd, h5] at this
      injection this with h7 _
      show digit l[k] = true
      rw [← h7]; exact h6
    · show k + max (tokenS m).s.length 1 ≤ _
      have := ok.size
      omega
theorem scan_right (l : Bytes) (ts : List T5) (i : Nat) (h : scanS l = (ts, i, 0)) : Right l 0 ts ∧ i = 0 := by
  obtain ⟨ts', r, hs, e⟩ := scans_of l
  rw [h] at e
  cases r with
  | none =>
    simp only [scanOf, Prod.mk.injEq] at e
    obtain ⟨rfl, rfl, _⟩ := e
    exact ⟨(scans_right l hs rfl rfl).less (Nat.zero_le _), rfl⟩
  | some x =>
    obtain ⟨a, b⟩ := x
    simp only [scanOf, Prod.mk.injEq] at e
    exact absurd e.2.2.symm (scans_err hs a b rfl)
theorem scan_wrong_nil (l : Bytes) (ts : List T5) (i : Nat) (e : Int) (h : scanS l = (ts, i, e)) (he : e ≠ 0) : ts = [] := by
  obtain ⟨ts', r, hs, e'⟩ := scans_of l
  rw [h] at e'
  cases r with
  | none => simp only [scanOf, Prod.mk.injEq] at e'; exact absurd e'.2.2 he
  | some x => obtain ⟨a, b⟩ := x; simp only [scanOf, Prod.mk.injEq] at e'; exact e'.1

/-! ### Names -/
theorem scan_one {s : Bytes} (h : oneName s = true) : scanS s = ([⟨if isWord s = true then 2 else 1, s, 0, 0, 0⟩], 0, 0) := by
  have ht := token_one h
  have hne : s ≠ [] := by intro e; subst e; cases h
  have h0 := start_token s hne (by rw [ht])
  have hS : Scans (s.drop (startS s)) (startS s) [(tokenS s).put 0] none := by
    rw [h0, List.drop_zero]
    refine Scans.on s 0 hne (by rw [ht]) [] none ?_
    have : s.drop ((tokenS s).size + startS (s.drop (tokenS s).size)) = [] := by rw [List.drop_eq_nil_iff, ht]; show s.length ≤ s.length + _; omega
    rw [this]
    exact .nil _
  rw [scanS_of hS, ht]
  rfl
theorem name_word (s : Bytes) : isNameB s = true → isWord s = false := fun h => (one_of_name h).2
theorem scan_other {s : Bytes} (h1 : isNameB s = false) (h2 : isWord s = false) (ts : List T5) (i : Nat) (t : T5) (h : scanS s = (ts, i, 0)) (ht : ts = [t]) (hs : t.s = s) : t.k = 4 := by
  have hr := (scan_right s ts i h).1
  subst ht
  cases hr with
  | cons _ _ _ h _ =>
    have hc := h.check
    have hm : mayB t.k t.s t.W t.V = true := by
      cases hm : mayB t.k t.s t.W t.V with
      | true => rfl
      | false => unfold checkS at hc; rw [hm] at hc; simp at hc
    rw [hs] at hm
    rcases h.kinds with e | e | e | e
    · rw [e] at hm; simp [mayB, h1] at hm
    · rw [e] at hm; simp [mayB, h2] at hm
    · have := (h.num e).1
      rw [hs] at this
      have h4 := h.lt
      rw [this] at h4
      exact absurd h4 (by simp)
    · exact e

/-! ### What is wrong is wrong by itself -/
theorem scans_wrong {m : Bytes} {k : Nat} {ts : List T5} {r : Option (Nat × Int)} (h : Scans m k ts r) : startS m = 0 → ∀ i e, r = some (i, e) → ∃ d ts', i = k + d ∧ d < m.length ∧ Scans (m.take d) k ts' none ∧ (tokenS (m.drop d)).err = e ∧ startS (m.drop d) = 0 := by
  induction h with
  | nil k => intro _ i e h; cases h
  | bad m k hm he =>
    intro h0 i e h
    cases h
    exact ⟨0, [], rfl, List.length_pos_iff.2 hm, by rw [List.take_zero]; exact .nil _, by rw [List.drop_zero], by rw [List.drop_zero]; exact h0⟩
  | on m k hm he ts r h ih =>
    intro h0 i e hr
    obtain ⟨d, ts', e1, e2, e3, e4, e5⟩ := ih (by rw [← List.drop_drop]; exact start_drop _) i e hr
    have hsz := token_size (List.length_pos_iff.2 hm) he
    rw [List.length_drop] at e2
    rw [List.drop_drop] at e4 e5
    refine ⟨(tokenS m).size + startS (m.drop (tokenS m).size) + d, (tokenS m).put k :: ts', by omega, by omega, ?_, e4, e5⟩
    obtain ⟨n, hn⟩ : ∃ n, (tokenS m).size + startS (m.drop (tokenS m).size) + d = n := ⟨_, rfl⟩
    rw [hn]
    have hmn : m.take n ++ m.drop n = m := List.take_append_drop n m
    have hln : (m.take n).length = n := by rw [List.length_take]; omega
    have hne : m.take n ≠ [] := by intro e; have := congrArg List.length e; rw [hln, List.length_nil] at this; omega
    have ht : tokenS (m.take n) = tokenS m := by
      have := token_cut (m.take n) (m.drop n) hne (by rw [hmn]; exact he) (by rw [hmn, hln]; omega)
      rw [hmn] at this; exact this
    have hst : startS ((m.take n).drop (tokenS m).size) = startS (m.drop (tokenS m).size) := by
      have e7 : m.drop (tokenS m).size = (m.take n).drop (tokenS m).size ++ m.drop n := by
        rw [← drop_app_le _ _ _ (by rw [hln]; omega), hmn]
      have := start_cut ((m.take n).drop (tokenS m).size) (m.drop n) (by rw [← e7, List.length_drop, hln]; omega)
      rw [this, ← e7]
    have hon := Scans.on (m.take n) k hne (by rw [ht]; exact he) ts' none
    rw [ht, hst] at hon
    refine hon ?_
    have e8 : (m.take n).drop ((tokenS m).size + startS (m.drop (tokenS m).size)) = (m.drop ((tokenS m).size + startS (m.drop (tokenS m).size))).take d := by
      rw [List.drop_take]
      congr 1
      omega
    rw [e8]
    exact e3
theorem scan_wrong (l : Bytes) (ts : List T5) (i : Nat) (e : Int) (h : scanS l = (ts, i, e)) (he : e ≠ 0) : i < l.length ∧ (∃ ts', scanS (l.take i) = (ts', 0, 0)) ∧ scanS (l.drop i) = ([], 0, e) := by
  obtain ⟨ts', r, hs, e'⟩ := scans_of l
  rw [h] at e'
  cases r with
  | none => simp only [scanOf, Prod.mk.injEq] at e'; exact absurd e'.2.2 he
  | some x =>
    obtain ⟨a, b⟩ := x
    simp only [scanOf, Prod.mk.injEq] at e'
    obtain ⟨_, rfl, rfl⟩ := e'
    obtain ⟨d, ts2, e1, e2, e3, e4, e5⟩ := scans_wrong hs (start_drop l) i e rfl
    have hle := startS_le l
    rw [List.length_drop] at e2
    have hil : i < l.length := by omega
    have hli : (l.take i).length = i := by rw [List.length_take]; omega
    have hmn : l.take i ++ l.drop i = l := List.take_append_drop i l
    have hst : startS (l.take i) = startS l := by
      have := start_cut (l.take i) (l.drop i) (by rw [hmn, hli]; omega)
      rw [hmn] at this; exact this
    rw [List.drop_drop, ← e1] at e4 e5
    refine ⟨hil, ⟨ts2, ?_⟩, ?_⟩
    · have hS : Scans ((l.take i).drop (startS (l.take i))) (startS (l.take i)) ts2 none := by
        rw [hst, List.drop_take, show i - startS l = d by omega]
        exact e3
      rw [scanS_of hS]; rfl
    · have hS : Scans ((l.drop i).drop (startS (l.drop i))) (startS (l.drop i)) [] (some (0, (tokenS (l.drop i)).err)) := by
        rw [e5, List.drop_zero]
        exact Scans.bad _ 0 (by intro e; have := congrArg List.length e; rw [List.length_drop, List.length_nil] at this; omega) (by rw [e4]; exact he)
      rw [scanS_of hS, e4]; rfl

/-! ### Two texts on lines of their own -/
theorem scans_lines (b : Bytes) {m : Bytes} {k : Nat} {ts : List T5} {r : Option (Nat × Int)} (h : Scans m k ts r) : m ≠ [] → (∀ i e, r = some (i, e) → Scans (m ++ 10 :: b) k ts (some (i, e))) ∧ (r = none → ∀ us r', Scans (b.drop (startS b)) (k + m.length + 1 + startS b) us r' → Scans (m ++ 10 :: b) k (ts ++ us) r') := by
  induction h with
  | nil k => intro h; exact absurd rfl h
  | bad m k hm he =>
    intro _
    have ht := token_app m hm 10 b (by decide)
    refine ⟨fun i e h => ?_, fun h => by cases h⟩
    cases h
    have := Scans.bad (m ++ 10 :: b) k (by simp) (by rw [ht]; exact he)
    rw [ht] at this
    exact this
  | on m k hm he ts r h ih =>
    intro _
    have ht := token_app m hm 10 b (by decide)
    have hsz := token_size (List.length_pos_iff.2 hm) he
    have hst := start_line (m.drop (tokenS m).size) b
    have hle := startS_le (m.drop (tokenS m).size)
    have hon := fun ts r => Scans.on (m ++ 10 :: b) k (by simp) (by rw [ht]; exact he) ts r
    rw [ht, drop_app_le _ _ _ hsz.2, hst] at hon
    rw [List.length_drop] at hle hst
    by_cases hend : startS (m.drop (tokenS m).size) = m.length - (tokenS m).size
    · rw [if_pos (by rw [List.length_drop]; exact hend), List.length_drop] at hon
      have hnil : m.drop ((tokenS m).size + startS (m.drop (tokenS m).size)) = [] := by rw [List.drop_eq_nil_iff]; omega
      rw [hnil] at h
      cases h with
      | nil _ =>
        refine ⟨fun i e h => (by cases h), fun _ us r' hb => ?_⟩
        refine hon us r' ?_
        have e1 : (m ++ 10 :: b).drop ((tokenS m).size + (m.length - (tokenS m).size + 1 + startS b)) = b.drop (startS b) := by
          rw [show (tokenS m).size + (m.length - (tokenS m).size + 1 + startS b) = m.length + (1 + startS b) by omega, ← List.drop_drop, List.drop_left, Nat.add_comm, List.drop_succ_cons]
        rw [e1, show k + (tokenS m).size + (m.length - (tokenS m).size + 1 + startS b) = k + m.length + 1 + startS b by omega]
        exact hb
      | bad _ _ hm' _ => exact absurd rfl hm'
      | on _ _ hm' _ _ _ _ => exact absurd rfl hm'
    · rw [if_neg (by rw [List.length_drop]; exact hend)] at hon
      have hlt : (tokenS m).size + startS (m.drop (tokenS m).size) < m.length := by omega
      obtain ⟨i1, i2⟩ := ih (by intro e; have := congrArg List.length e; rw [List.length_drop, List.length_nil] at this; omega)
      rw [drop_app_le _ _ _ (by omega)] at hon
      refine ⟨fun i e hr => hon ts _ (i1 i e hr), fun hr us r' hb => hon (ts ++ us) r' (i2 hr us r' ?_)⟩
      rw [List.length_drop]
      rw [show k + (tokenS m).size + startS (m.drop (tokenS m).size) + (m.length - ((tokenS m).size + startS (m.drop (tokenS m).size))) + 1 + startS b = k + m.length + 1 + startS b by omega]
      exact hb
def off (d : Nat) (t : T5) : T5 := { t with at' := t.at' + d }
theorem scan_lines (a b : Bytes) : scanS (a ++ 10 :: b) = if (scanS a).2.2 ≠ 0 then scanS a else if (scanS b).2.2 ≠ 0 then ([], (scanS b).2.1 + a.length + 1, (scanS b).2.2) else ((scanS a).1 ++ (scanS b).1.map (off (a.length + 1)), 0, 0) := by
  obtain ⟨ts, r, hs, e⟩ := scans_of a
  obtain ⟨us, r', hb, e'⟩ := scans_of b
  have hst := start_line a b
  have hle := startS_le a
  have hb2 := scans_shift hb (a.length + 1)
  have hb3 : Scans (b.drop (startS b)) (a.length + 1 + startS b) (us.map (off (a.length + 1))) (r'.map fun x => (x.1 + (a.length + 1), x.2)) := by rw [Nat.add_comm]; exact hb2
  have fin : ∀ ts0, Scans ((a ++ 10 :: b).drop (startS (a ++ 10 :: b))) (startS (a ++ 10 :: b)) (ts0 ++ us.map (off (a.length + 1))) (r'.map fun x => (x.1 + (a.length + 1), x.2)) → scanS a = (ts0, 0, 0) → scanS (a ++ 10 :: b) = if (scanS a).2.2 ≠ 0 then scanS a else if (scanS b).2.2 ≠ 0 then ([], (scanS b).2.1 + a.length + 1, (scanS b).2.2) else ((scanS a).1 ++ (scanS b).1.map (off (a.length + 1)), 0, 0) := by
    intro ts0 h ha
    rw [scanS_of h, ha, e']
    simp only [ne_eq, not_true_eq_false, if_false]
    cases r' with
    | none => simp [scanOf]
    | some x =>
      have := scans_err hb x.1 x.2 rfl
      simp [Option.map, scanOf, this, Nat.add_assoc]
  by_cases hend : startS a = a.length
  · rw [if_pos hend] at hst
    have hnil : a.drop (startS a) = [] := by rw [List.drop_eq_nil_iff]; omega
    rw [hnil] at hs
    cases hs with
    | nil _ =>
      refine fin [] ?_ (by rw [e]; rfl)
      rw [hst, show a.length + 1 + startS b = a.length + (1 + startS b) by omega, ← List.drop_drop, List.drop_left, Nat.add_comm 1, List.drop_succ_cons, show a.length + (startS b + 1) = a.length + 1 + startS b by omega]
      exact hb3
    | bad _ _ hm' _ => exact absurd rfl hm'
    | on _ _ hm' _ _ _ _ => exact absurd rfl hm'
  · rw [if_neg hend] at hst
    have hlt : startS a < a.length := by omega
    obtain ⟨i1, i2⟩ := scans_lines b hs (by intro e; have := congrArg List.length e; rw [List.length_drop, List.length_nil] at this; omega)
    cases r with
    | some x =>
      obtain ⟨i, x⟩ := x
      have hx := scans_err hs i x rfl
      have := i1 i x rfl
      rw [← drop_app_le _ _ _ hle] at this
      have h3 : scanS (a ++ 10 :: b) = scanOf ts (some (i, x)) := scanS_of (by rw [hst]; exact this)
      rw [h3, e]
      simp [scanOf, hx]
    | none =>
      refine fin ts ?_ (by rw [e]; rfl)
      rw [hst, drop_app_le _ _ _ hle]
      refine i2 rfl _ _ ?_
      rw [List.length_drop, show startS a + (a.length - startS a) + 1 + startS b = a.length + 1 + startS b by omega]
      exact hb3

/-! ### Numbers, written and read -/
theorem num_snoc (r : Nat) (a : Bytes) (c : UInt8) : num r (a ++ [c]) = num r a * r + dg c := by unfold num; rw [List.foldl_append]; rfl
theorem dec_char (d : Nat) (h : d < 10) : digit (UInt8.ofNat (48 + d)) = true ∧ dg (UInt8.ofNat (48 + d)) = d := by
  have : d = 0 ∨ d = 1 ∨ d = 2 ∨ d = 3 ∨ d = 4 ∨ d = 5 ∨ d = 6 ∨ d = 7 ∨ d = 8 ∨ d = 9 := by omega
  rcases this with rfl | rfl | rfl | rfl | rfl | rfl | rfl | rfl | rfl | rfl <;> decide
theorem dec_facts (u : Nat) : (Lib.decDigits u).all digit = true ∧ num 10 (Lib.decDigits u) = u ∧ Lib.decDigits u ≠ [] := by
  induction u using Nat.strongRecOn with
  | ind u ih =>
    rw [Lib.decDigits]
    split
    · rename_i h
      have := dec_char u h
      refine ⟨by rw [List.all_cons, this.1]; rfl, ?_, by simp⟩
      show num 10 ([] ++ [UInt8.ofNat (48 + u)]) = u
      rw [num_snoc, this.2]; simp [num]
    · rename_i h
      obtain ⟨h1, h2, h3⟩ := ih (u / 10) (by omega)
      have := dec_char (u % 10) (by omega)
      refine ⟨by rw [List.all_append, h1, List.all_cons, this.1]; rfl, ?_, by simp⟩
      rw [num_snoc, h2, this.2]; omega
theorem dec_len (k u : Nat) (hk : 1 ≤ k) (h : u < 10 ^ k) : (Lib.decDigits u).length ≤ k := by
  induction k generalizing u with
  | zero => omega
  | succ k ih =>
    rw [Lib.decDigits]
    split
    · simp
    · rename_i h10
      cases k with
      | zero => simp at h; omega
      | succ k =>
        have := ih (u / 10) (by omega) (by rw [Nat.div_lt_iff_lt_mul (by omega)]; rw [Nat.pow_succ] at h; exact h)
        simp only [List.length_append, List.length_cons, List.length_nil]; omega
theorem hex_char (d : Nat) (h : d < 16) : inName (hxc d) = true ∧ dg (hxc d) = d := by
  have : d = 0 ∨ d = 1 ∨ d = 2 ∨ d = 3 ∨ d = 4 ∨ d = 5 ∨ d = 6 ∨ d = 7 ∨ d = 8 ∨ d = 9 ∨ d = 10 ∨ d = 11 ∨ d = 12 ∨ d = 13 ∨ d = 14 ∨ d = 15 := by omega
  rcases this with rfl | rfl | rfl | rfl | rfl | rfl | rfl | rfl | rfl | rfl | rfl | rfl | rfl | rfl | rfl | rfl <;> decide
theorem hex_facts (f u : Nat) (hu : u < 16 ^ (f + 1)) : (hexF (f + 1) u).all inName = true ∧ allD 16 (hexF (f + 1) u) = true ∧ num 16 (hexF (f + 1) u) = u ∧ hexF (f + 1) u ≠ [] ∧ (hexF (f + 1) u).length ≤ f + 1 := by
  induction f generalizing u with
  | zero =>
    have h : u < 16 := by simpa using hu
    have := hex_char u h
    rw [hexF, if_pos h]
    refine ⟨by simp [this.1], by simp [allD, this.2, h], ?_, by simp, by simp⟩
    show num 16 ([] ++ [hxc u]) = u
    rw [num_snoc, this.2]; simp [num]
  | succ f ih =>
    rw [hexF]
    split
    · rename_i h
      have := hex_char u h
      refine ⟨by simp [this.1], by simp [allD, this.2, h], ?_, by simp, by simp⟩
      show num 16 ([] ++ [hxc u]) = u
      rw [num_snoc, this.2]; simp [num]
    · rename_i h
      obtain ⟨h1, h2, h3, h4, h5⟩ := ih (u / 16) (by rw [Nat.div_lt_iff_lt_mul (by omega)]; rw [Nat.pow_succ] at hu; exact hu)
      have := hex_char (u % 16) (by omega)
      refine ⟨by rw [List.all_append, h1]; simp [this.1], ?_, ?_, by simp, by simp only [List.length_append, List.length_cons, List.length_nil]; omega⟩
      · unfold allD at h2 ⊢
        rw [List.all_append, h2]
        simp [this.2]; omega
      · rw [num_snoc, h3, this.2]; omega
theorem hexD_facts (u : Nat) (hu : u < 18446744073709551616) : (hexD u).all inName = true ∧ allD 16 (hexD u) = true ∧ num 16 (hexD u) = u ∧ hexD u ≠ [] ∧ (hexD u).length ≤ 16 := hex_facts 15 u hu
theorem digit_not_letter (c : UInt8) (h : digit c = true) : letter c = false ∧ blank c = false ∧ c ≠ 47 := by
  unfold digit digitI at h
  simp only [Bool.and_eq_true, decide_eq_true_eq] at h
  have hb : bi c = (c.toNat : Int) := rfl
  refine ⟨?_, ?_, ?_⟩
  · unfold letter letterI
    simp only [Bool.or_eq_false_iff, Bool.and_eq_false_iff, decide_eq_false_iff_not, beq_eq_false_iff_ne]
    omega
  · unfold blank blankI
    simp only [Bool.or_eq_false_iff, beq_eq_false_iff_ne]
    omega
  · intro e; subst e; rw [hb] at h; revert h; decide
theorem token_digit (c : UInt8) (l : Bytes) (h : digit c = true) : tokenS (c :: l) = numberS (c :: l) ∧ startS (c :: l) = 0 := by
  obtain ⟨h1, h2, h3⟩ := digit_not_letter c h
  refine ⟨?_, startS_stop h2 ?_⟩
  · show (if letter c = true then _ else if digit c = true then _ else _) = _
    rw [if_neg (by rw [h1]; decide), if_pos h]
  · cases l with
    | nil => simp [List.isPrefixOf]
    | cons d l =>
      simp only [List.isPrefixOf]
      have : ((47 : UInt8) == c) = false := by simpa using fun e => h3 e.symm
      rw [this]; rfl
theorem plain_lit (D : Bytes) (h0 : D ≠ []) (hd : D.all digit = true) (hv : num 10 D < 18446744073709551616) : tokenS D = ⟨3, [], 0, num 10 D, D.length, 0⟩ := by
  cases D with
  | nil => exact absurd rfl h0
  | cons c D =>
    have hc : digit c = true := by simp only [List.all_cons, Bool.and_eq_true] at hd; exact hd.1
    rw [(token_digit c D hc).1]
    unfold numberS
    rw [run_all _ _ hd, List.drop_length, List.take_length, if_neg (by simp), if_neg (by simp [run]), if_neg (by simpa using hv)]
theorem wide_lit (W H : Bytes) (c : UInt8) (b : Nat) (h0 : W ≠ []) (hW : W.all digit = true) (hH : H ≠ []) (hin : H.all inName = true) (hb : (rbS (c :: H)).1 = b ∧ (rbS (c :: H)).2.2.1 = H ∧ (rbS (c :: H)).2.2.2 = true) (hD : allD b H = true) (hw : num 10 W < 18446744073709551616) (hv : num b H < 18446744073709551616) :
    tokenS (W ++ 39 :: c :: H) = (if 64 < num 10 W then badT 22 else if holdsI (num 10 W) (num b H) = false then badT 22 else ⟨3, [], num 10 W, num b H, W.length + 2 + H.length, 0⟩) ∧ startS (W ++ 39 :: c :: H) = 0 := by
  cases W with
  | nil => exact absurd rfl h0
  | cons x W =>
    have hc : digit x = true := by simp only [List.all_cons, Bool.and_eq_true] at hW; exact hW.1
    have h2 := token_digit x (W ++ 39 :: c :: H) hc
    refine ⟨?_, h2.2⟩
    show tokenS (x :: (W ++ 39 :: c :: H)) = _
    rw [h2.1, show x :: (W ++ 39 :: c :: H) = (x :: W) ++ 39 :: c :: H from rfl]
    generalize x :: W = L at *
    have hr : run digit (L ++ 39 :: c :: H) = L.length := by rw [run_app_stop _ _ _ _ (by decide), run_all _ _ hW]
    have hd1 : (L ++ 39 :: c :: H).drop (L.length + 1) = c :: H := by rw [← List.drop_drop, List.drop_left]; rfl
    unfold numberS
    rw [hr, List.drop_left, if_pos (by simp [List.isPrefixOf])]
    unfold wideS
    rw [hd1, List.take_left, hb.1, hb.2.1, hb.2.2, run_all _ _ hin, List.take_length, if_neg (by decide), if_neg hH, if_neg (by rw [hD]; decide), if_neg (by simpa using hw)]
    split
    · rfl
    · rfl
theorem scan_single (m : Bytes) (t : Tk) (h0 : m ≠ []) (ht : tokenS m = t) (he : t.err = 0) (hs : t.size = m.length) : scanS m = ([t.put 0], 0, 0) := by
  have h1 := start_token m h0 (by rw [ht]; exact he)
  have hS : Scans (m.drop (startS m)) (startS m) [(tokenS m).put 0] none := by
    rw [h1, List.drop_zero]
    refine Scans.on m 0 h0 (by rw [ht]; exact he) [] none ?_
    have : m.drop ((tokenS m).size + startS (m.drop (tokenS m).size)) = [] := by rw [List.drop_eq_nil_iff, ht, hs]; omega
    rw [this]
    exact .nil _
  rw [scanS_of hS, ht]
  rfl
theorem scan_bad_first (m : Bytes) (h0 : m ≠ []) (hs : startS m = 0) (he : (tokenS m).err ≠ 0) : scanS m = ([], 0, (tokenS m).err) := by
  have hS : Scans (m.drop (startS m)) (startS m) [] (some (0, (tokenS m).err)) := by
    rw [hs, List.drop_zero]
    exact Scans.bad m 0 h0 he
  rw [scanS_of hS]
  rfl

/-! ### What is written is read -/
theorem may_W0 (k : Int) (s : Bytes) (W : Int) (V : Nat) (h : mayB k s W V = true) : 0 ≤ W ∧ W ≤ 64 := by
  unfold mayB holdsI at h
  split at h
  · simp at h; omega
  · split at h
    · simp at h; omega
    · split at h
      · simp at h; omega
      · split at h
        · simp at h; omega
        · cases h
theorem write_read (k : Int) (s : Bytes) (W : Int) (V : Nat) (hV : V < 18446744073709551616) (h : mayB k s W V = true) : writeS k s W V ≠ [] ∧ tokenS (writeS k s W V) = ⟨k, s, W.toNat, V, (writeS k s W V).length, 0⟩ := by
  unfold mayB at h
  split at h
  · rename_i hk
    subst hk
    simp only [Bool.and_eq_true, beq_iff_eq] at h
    obtain ⟨⟨hW0, hV0⟩, hn⟩ := h
    subst hW0
    have h1 := one_of_name hn
    have hV1 : V = 0 := by omega
    subst hV1
    refine ⟨fun e => ?_, ?_⟩
    · have e' : s = [] := e
      subst e'; cases hn
    show tokenS s = _
    rw [token_one h1.1, h1.2]; rfl
  · split at h
    · rename_i hk
      subst hk
      simp only [Bool.and_eq_true, beq_iff_eq] at h
      obtain ⟨⟨rfl, hV0⟩, hn⟩ := h
      have h1 := one_of_word hn
      have hV1 : V = 0 := by omega
      subst hV1
      refine ⟨fun e => ?_, ?_⟩
      · have e' : s = [] := e
        subst e'; cases h1
      show tokenS s = _
      rw [token_one h1, hn]; rfl
    · split at h
      · rename_i hk
        subst hk
        simp only [Bool.and_eq_true, beq_iff_eq] at h
        obtain ⟨⟨rfl, hV0⟩, hn⟩ := h
        have hV1 : V = 0 := by omega
        subst hV1
        unfold isSignB at hn
        simp only [Bool.and_eq_true, Bool.not_eq_true', beq_iff_eq] at hn
        have hne : s ≠ [] := by intro e; subst e; simp at hn
        refine ⟨hne, ?_⟩
        show tokenS s = _
        cases s with
        | nil => exact absurd rfl hne
        | cons c s =>
          have hm : (c :: s) ∈ signList := by
            have := sign_mem (c :: s)
            unfold isSignB at this
            rw [hn.2] at this
            simpa using this.symm
          have hf := List.all_eq_true.1 signs_first _ hm
          simp only [Bool.and_eq_true, Bool.not_eq_true', bne_iff_ne] at hf
          show (if letter c = true then _ else if digit c = true then _ else if signS (c :: s) = [] then _ else _) = _
          rw [if_neg (by rw [hf.1.1.1]; decide), if_neg (by rw [hf.1.1.2]; decide), hn.2, if_neg (by simp)]
          rfl
      · split at h
        · rename_i hk
          subst hk
          simp only [Bool.and_eq_true] at h
          obtain ⟨hs, hW⟩ := h
          obtain rfl : s = [] := by simpa using hs
          obtain ⟨d1, d2, d3⟩ := dec_facts V
          obtain ⟨x1, x2, x3, x4, x5⟩ := hexD_facts V hV
          unfold writeS
          rw [if_pos rfl]
          by_cases hW0 : W = 0
          · subst hW0
            rw [if_pos rfl]
            refine ⟨d3, ?_⟩
            rw [plain_lit _ d3 d1 (by rw [d2]; exact hV), d2]; rfl
          · rw [if_neg hW0]
            have hh : holdsI W V = true := by
              simp only [Bool.or_eq_true, beq_iff_eq] at hW
              rcases hW with h | h
              · exact absurd h hW0
              · exact h
            have hr : 1 ≤ W ∧ W ≤ 64 := by
              unfold holdsI at hh
              simp only [Bool.and_eq_true, decide_eq_true_eq] at hh
              exact hh.1
            have ei : Lib.itoa W = Lib.decDigits W.toNat := by unfold Lib.itoa; rw [if_neg (by omega)]
            obtain ⟨w1, w2, w3⟩ := dec_facts W.toNat
            rw [ei, List.append_assoc]
            refine ⟨by simp, ?_⟩
            have := (wide_lit (Lib.decDigits W.toNat) (hexD V) 104 16 w3 w1 x4 x1 ⟨rfl, rfl, rfl⟩ x2 (by rw [w2]; omega) (by rw [x3]; exact hV)).1
            show tokenS (Lib.decDigits W.toNat ++ 39 :: 104 :: hexD V) = _
            rw [this, w2, x3, if_neg (by omega), if_neg (by rw [show ((W.toNat : Nat) : Int) = W by omega, hh]; decide)]
            congr 1
            simp only [List.length_append, List.length_cons, List.length_nil]; omega
        · cases h
/-- What is written of tokens, behind a text that ended so. -/
def bodyS (q : Option Bytes) : List G5 → Bytes
  | [] => []
  | t :: r => gapS q ++ writeS t.k t.s t.W t.V ++ bodyS (some t.s) r
theorem textK_body (acc : Bytes) (q : Option Bytes) (l : List G5) : textK acc q l = if (acc ++ bodyS q l).length ≤ 65536 then (acc ++ bodyS q l, 0) else if l = [] then (acc, 0) else ([], 2) := by
  induction l generalizing acc q with
  | nil =>
    show (acc, 0) = _
    simp [bodyS]
  | cons t r ih =>
    have e : acc ++ gapS q ++ writeS t.k t.s t.W t.V ++ bodyS (some t.s) r = acc ++ bodyS q (t :: r) := by simp [bodyS]
    rw [textK]
    split
    · rename_i h
      have : ¬ (acc ++ bodyS q (t :: r)).length ≤ 65536 := by rw [← e, List.length_append]; omega
      rw [if_neg this, if_neg (by simp)]
    · rename_i h
      rw [ih, e]
      by_cases h2 : (acc ++ bodyS q (t :: r)).length ≤ 65536
      · rw [if_pos h2, if_pos h2]
      · rw [if_neg h2, if_neg h2, if_neg (show ¬ t :: r = [] by simp)]
        by_cases h3 : r = []
        · subst h3
          have e2 : bodyS (some t.s) [] = [] := rfl
          rw [e2, List.append_nil] at e
          rw [← e] at h2
          omega
        · rw [if_neg h3]
theorem gap_blank (s : Bytes) : blank (behindS s) = true := by unfold behindS; split <;> decide
theorem check_may {k : Int} {s : Bytes} {W : Int} {V : Nat} {p : Int} (h : checkS k s W V p = 0) : mayB k s W V = true ∧ 0 ≤ p := by
  unfold checkS at h
  cases hm : mayB k s W V with
  | true =>
    refine ⟨rfl, ?_⟩
    rw [hm] at h
    by_cases hp : p < 0
    · simp [hp] at h
    · omega
  | false => rw [hm] at h; simp at h
theorem checks_cons (t : G5) (r : List G5) : checksS (t :: r) = 0 ↔ checkS t.k t.s t.W t.V t.p = 0 ∧ checksS r = 0 := by
  show (if checkS t.k t.s t.W t.V t.p = 0 then checksS r else checkS t.k t.s t.W t.V t.p) = 0 ↔ _
  constructor
  · intro h
    split at h
    · exact ⟨by assumption, h⟩
    · rename_i h2; exact absurd h h2
  · intro h
    rw [if_pos h.1]; exact h.2
/-- Are tokens the same, but for their places? -/
def Alike (a : G5) (b : T5) : Prop := a.k = b.k ∧ a.s = b.s ∧ a.W = (b.W : Int) ∧ a.V = b.V
inductive AlikeL : List G5 → List T5 → Prop
  | nil : AlikeL [] []
  | cons (a : G5) (b : T5) (l : List G5) (m : List T5) (h : Alike a b) (hr : AlikeL l m) : AlikeL (a :: l) (b :: m)
theorem body_read : ∀ (r : List G5) (t : G5) (k : Nat), checksS (t :: r) = 0 → (∀ x ∈ t :: r, x.V < 18446744073709551616) → ∃ ts, Scans (writeS t.k t.s t.W t.V ++ bodyS (some t.s) r) k ts none ∧ AlikeL (t :: r) ts ∧ (tokenS (writeS t.k t.s t.W t.V ++ bodyS (some t.s) r)).err = 0 := by
  intro r
  induction r with
  | nil =>
    intro t k hc hV
    have h1 := check_may ((checks_cons t []).1 hc).1
    have hw := may_W0 _ _ _ _ h1.1
    obtain ⟨h2, h3⟩ := write_read t.k t.s t.W t.V (hV t (by simp)) h1.1
    simp only [bodyS, List.append_nil]
    generalize writeS t.k t.s t.W t.V = m at *
    have hon := Scans.on m k h2 (by rw [h3]) [] none (by
      have : m.drop ((tokenS m).size + startS (m.drop (tokenS m).size)) = [] := by rw [List.drop_eq_nil_iff, h3]; show m.length ≤ m.length + _; omega
      rw [this]; exact .nil _)
    refine ⟨_, hon, .cons _ _ _ _ ?_ .nil, by rw [h3]⟩
    rw [h3]
    exact ⟨rfl, rfl, by show t.W = (t.W.toNat : Int); omega, rfl⟩
  | cons t2 r ih =>
    intro t k hc hV
    obtain ⟨hc1, hc2⟩ := (checks_cons t _).1 hc
    have h1 := check_may hc1
    have hw := may_W0 _ _ _ _ h1.1
    obtain ⟨h2, h3⟩ := write_read t.k t.s t.W t.V (hV t (by simp)) h1.1
    have hb : bodyS (some t.s) (t2 :: r) = behindS t.s :: (writeS t2.k t2.s t2.W t2.V ++ bodyS (some t2.s) r) := by simp [bodyS, gapS]
    obtain ⟨ts, hs, ha, he⟩ := ih t2 (k + (writeS t.k t.s t.W t.V).length + 1) hc2 (fun x hx => hV x (by simp only [List.mem_cons] at hx ⊢; exact .inr hx))
    have hw2 := write_read t2.k t2.s t2.W t2.V (hV t2 (by simp)) (check_may ((checks_cons t2 _).1 hc2).1).1
    have hne2 : writeS t2.k t2.s t2.W t2.V ++ bodyS (some t2.s) r ≠ [] := by
      intro e
      exact hw2.1 (List.append_eq_nil_iff.1 e).1
    rw [hb]
    generalize writeS t2.k t2.s t2.W t2.V ++ bodyS (some t2.s) r = m2 at *
    generalize writeS t.k t.s t.W t.V = m at *
    have ht := token_app m h2 (behindS t.s) m2 (gap_blank t.s)
    have hst : startS (behindS t.s :: m2) = 1 := by rw [startS_blank (gap_blank t.s), start_token m2 hne2 he]
    have hon := Scans.on (m ++ behindS t.s :: m2) k (by simp) (by rw [ht, h3]) ts none
    rw [ht, h3] at hon
    simp only at hon
    rw [drop_app_le _ _ _ (Nat.le_refl _), List.drop_length, List.nil_append, hst, ← List.drop_drop, List.drop_left, List.drop_succ_cons, List.drop_zero] at hon
    refine ⟨_, hon hs, .cons _ _ _ _ ?_ ha, by rw [ht, h3]⟩
    exact ⟨rfl, rfl, by show t.W = (t.W.toNat : Int); omega, rfl⟩
/-- TOKENS THAT ARE WRITTEN ARE READ. -/
theorem scan_back (l : List G5) (hc : checksS l = 0) (hV : ∀ x ∈ l, x.V < 18446744073709551616) : ∃ ts, scanS (bodyS none l) = (ts, 0, 0) ∧ AlikeL l ts := by
  cases l with
  | nil => exact ⟨[], by rfl, .nil⟩
  | cons t r =>
    obtain ⟨ts, hs, ha, he⟩ := body_read r t 0 hc hV
    have hb : bodyS none (t :: r) = writeS t.k t.s t.W t.V ++ bodyS (some t.s) r := by simp [bodyS, gapS]
    have hw := write_read t.k t.s t.W t.V (hV t (by simp)) (check_may ((checks_cons t _).1 hc).1).1
    rw [hb]
    have hne : writeS t.k t.s t.W t.V ++ bodyS (some t.s) r ≠ [] := fun e => hw.1 (List.append_eq_nil_iff.1 e).1
    have h0 := start_token _ hne he
    refine ⟨ts, ?_, ha⟩
    have hS : Scans ((writeS t.k t.s t.W t.V ++ bodyS (some t.s) r).drop (startS (writeS t.k t.s t.W t.V ++ bodyS (some t.s) r))) (startS (writeS t.k t.s t.W t.V ++ bodyS (some t.s) r)) ts none := by
      rw [h0, List.drop_zero]; exact hs
    rw [scanS_of hS]; rfl
theorem textS_cases (l : List G5) : (checksS l ≠ 0 ∧ textS l = ([], checksS l)) ∨ (checksS l = 0 ∧ textS l = ([], 2)) ∨ (checksS l = 0 ∧ textS l = (bodyS none l, 0) ∧ (bodyS none l).length ≤ 65536) := by
  unfold textS
  by_cases h : checksS l = 0
  · rw [if_pos h, textK_body]
    simp only [List.nil_append]
    split
    · exact .inr (.inr ⟨h, rfl, by assumption⟩)
    · split
      · rename_i h1 h2
        subst h2
        exact absurd (by simp [bodyS]) h1
      · exact .inr (.inl ⟨h, rfl⟩)
  · rw [if_neg h]
    exact .inl ⟨h, rfl⟩
theorem checks_01 (l : List G5) : checksS l = 0 ∨ checksS l = 1 := by
  induction l with
  | nil => exact .inl rfl
  | cons t r ih =>
    unfold checksS
    split
    · exact ih
    · rename_i h
      right
      unfold checkS at h ⊢
      split
      · rfl
      · rename_i h2; rw [if_neg h2] at h; exact absurd rfl h
theorem checks_all (l : List G5) : checksS l = 0 ↔ ∀ t ∈ l, checkS t.k t.s t.W t.V t.p = 0 := by
  induction l with
  | nil => simp [checksS]
  | cons t r ih => rw [checks_cons, ih]; simp

/-! ### What is read is written, and read again -/
def T5.g (t : T5) : G5 := ⟨t.k, t.s, (t.W : Int), t.V, (t.at' : Int)⟩
theorem right_checks {l : Bytes} {e : Nat} {ts : List T5} (h : Right l e ts) : checksS (ts.map T5.g) = 0 ∧ (∀ x ∈ ts.map T5.g, x.V < 18446744073709551616) ∧ (∀ x ∈ ts.map T5.g, x.s.length ≤ 64) := by
  induction h with
  | nil e => exact ⟨rfl, by simp, by simp⟩
  | cons e t ts h hr ih =>
    refine ⟨by rw [List.map_cons, checks_cons]; exact ⟨h.check, ih.1⟩, ?_, ?_⟩
    · intro x hx
      simp only [List.map_cons, List.mem_cons] at hx
      rcases hx with rfl | hx
      · exact h.small.2.2
      · exact ih.2.1 x hx
    · intro x hx
      simp only [List.map_cons, List.mem_cons] at hx
      rcases hx with rfl | hx
      · exact h.small.1
      · exact ih.2.2 x hx
theorem write_len (k : Int) (s : Bytes) (W : Int) (V : Nat) (hW : 0 ≤ W ∧ W ≤ 64) (hV : V < 18446744073709551616) : (writeS k s W V).length ≤ max 20 s.length := by
  unfold writeS
  split
  · split
    · have := dec_len 20 V (by omega) (by omega)
      omega
    · have ei : Lib.itoa W = Lib.decDigits W.toNat := by unfold Lib.itoa; rw [if_neg (by omega)]
      have h1 := dec_len 2 W.toNat (by omega) (by omega)
      have h2 := (hexD_facts V hV).2.2.2.2
      rw [ei]
      simp only [List.length_append, List.length_cons, List.length_nil]; omega
  · omega
theorem right_len {l : Bytes} {e : Nat} {ts : List T5} (h : Right l e ts) : ∀ q, (bodyS q (ts.map T5.g)).length ≤ 21 * (l.length - e) := by
  induction h with
  | nil e => intro q; simp [bodyS]
  | cons e t ts h hr ih =>
    intro q
    have h1 := write_len t.k t.s (t.W : Int) t.V ⟨by omega, by have := h.small.2.1; omega⟩ h.small.2.2
    have h2 := ih (some t.s)
    have h3 : (gapS q).length ≤ 1 := by cases q <;> simp [gapS]
    have h4 := h.ge
    have h5 := h.lt
    have h6 := h.room
    have h7 : (bodyS q (List.map T5.g (t :: ts))).length = (gapS q).length + (writeS t.k t.s (t.W : Int) t.V).length + (bodyS (some t.s) (ts.map T5.g)).length := by simp [bodyS, T5.g]; omega
    rw [h7]
    omega
theorem body_alike : ∀ {l : List G5} {ts : List T5}, AlikeL l ts → ∀ q, bodyS q (ts.map T5.g) = bodyS q l := by
  intro l ts h
  induction h with
  | nil => intro q; rfl
  | cons a b l m h hr ih =>
    intro q
    obtain ⟨h1, h2, h3, h4⟩ := h
    simp only [List.map_cons, bodyS]
    rw [show (T5.g b).s = a.s from h2.symm, ih]
    simp only [T5.g, h1, h2, h3, h4]
theorem text_again (l : Bytes) (hl : l.length ≤ 2000) (ts : List T5) (i : Nat) (h : scanS l = (ts, i, 0)) : textS (ts.map T5.g) = (bodyS none (ts.map T5.g), 0) ∧ ∃ us, scanS (bodyS none (ts.map T5.g)) = (us, 0, 0) ∧ AlikeL (ts.map T5.g) us ∧ textS (us.map T5.g) = (bodyS none (ts.map T5.g), 0) := by
  have hr := (scan_right l ts i h).1
  obtain ⟨h1, h2, h3⟩ := right_checks hr
  have h4 := right_len hr none
  have e1 : textS (ts.map T5.g) = (bodyS none (ts.map T5.g), 0) := by
    unfold textS; rw [if_pos h1, textK_body]; simp only [List.nil_append]; rw [if_pos (by omega)]
  obtain ⟨us, hs, ha⟩ := scan_back _ h1 h2
  refine ⟨e1, us, hs, ha, ?_⟩
  have hr2 := (scan_right _ us 0 hs).1
  have e2 := (right_checks hr2).1
  unfold textS
  rw [if_pos e2, textK_body, body_alike ha]
  simp only [List.nil_append]; rw [if_pos (by omega)]

/-! ### Numbers to any base -/
def upc (d : Nat) : UInt8 := if d < 10 then UInt8.ofNat (48 + d) else UInt8.ofNat (55 + d)
theorem up_char (d : Nat) (h : d < 16) : inName (upc d) = true ∧ dg (upc d) = d ∧ (d < 10 → digit (upc d) = true) := by
  have : d = 0 ∨ d = 1 ∨ d = 2 ∨ d = 3 ∨ d = 4 ∨ d = 5 ∨ d = 6 ∨ d = 7 ∨ d = 8 ∨ d = 9 ∨ d = 10 ∨ d = 11 ∨ d = 12 ∨ d = 13 ∨ d = 14 ∨ d = 15 := by omega
  rcases this with rfl | rfl | rfl | rfl | rfl | rfl | rfl | rfl | rfl | rfl | rfl | rfl | rfl | rfl | rfl | rfl <;> decide
def digsF : Nat → Nat → Nat → Int → Bytes → Bytes
  | 0, _, _, _, acc => acc
  | f + 1, b, v, n, acc => if 0 < v ∨ 0 < n then digsF f b (v / b) (n - 1) (upc (v % b) :: acc) else acc
theorem digs_facts (b : Nat) (hb : 2 ≤ b) (hb2 : b ≤ 16) : ∀ (f v : Nat) (n : Int) (acc : Bytes), v < b ^ f → n ≤ f → ∃ ds, digsF f b v n acc = ds ++ acc ∧ num b ds = v ∧ ds.all inName = true ∧ allD b ds = true ∧ (b ≤ 10 → ds.all digit = true) ∧ (1 ≤ n → ds ≠ []) ∧ ds.length ≤ f := by
  intro f
  induction f with
  | zero =>
    intro v n acc hv hn
    have : v = 0 := by simpa using hv
    subst this
    exact ⟨[], rfl, rfl, rfl, rfl, fun _ => rfl, fun h => by have : n ≤ 0 := hn; omega, Nat.le_refl _⟩
  | succ f ih =>
    intro v n acc hv hn
    rw [digsF]
    split
    · obtain ⟨ds, h1, h2, h3, h4, h5, h6, h7⟩ := ih (v / b) (n - 1) (upc (v % b) :: acc) (by rw [Nat.div_lt_iff_lt_mul (by omega)]; rw [Nat.pow_succ] at hv; exact hv) (by omega)
      have hm : v % b < b := Nat.mod_lt _ (by omega)
      obtain ⟨c1, c2, c3⟩ := up_char (v % b) (by omega)
      refine ⟨ds ++ [upc (v % b)], by rw [h1]; simp, ?_, by rw [List.all_append, h3]; simp [c1], ?_, ?_, by simp, by simp; omega⟩
      · rw [num_snoc, h2, c2]
        exact Nat.div_add_mod' v b
      · unfold allD at h4 ⊢
        rw [List.all_append, h4]
        simp [c2, hm]
      · intro h10
        rw [List.all_append, h5 h10]
        simp [c3 (by omega)]
    · rename_i h
      have : v = 0 := by omega
      subst this
      exact ⟨[], rfl, rfl, rfl, rfl, fun _ => rfl, fun h' => by omega, Nat.zero_le _⟩

end Go.Proofs.YtigdegjhajdmhaaDoor
