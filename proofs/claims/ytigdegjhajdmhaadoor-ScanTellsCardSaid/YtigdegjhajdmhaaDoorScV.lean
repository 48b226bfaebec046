/-
  Contract: Scan.
-/
import Derived.Test.YtigdegjhajdmhaaDoorScU
import Derived.Test.YtigdegjhajdmhaaDoorScS
import Derived.OwnWalk
import Derived.Laws.AppendOwn
import Derived.Deep.DeepCutAuto
import Derived.Laws.BytesArg
namespace Go.Proofs.YtigdegjhajdmhaaDoor
open Go Go.RowKit
set_option linter.unusedVariables false
open Go.Sort

/-- A token, and where it begins. -/
structure T5 where
  k : Int
  s : Bytes
  W : Nat
  V : Nat
  at' : Nat
def T5.cells (t : T5) : List Value := [.int .i64 t.k, .string (bs t.s), .int .i64 (t.W : Int), .int .u64 (t.V : Int), .int .i64 (t.at' : Int)]
def Tk.put (t : Tk) (k : Nat) : T5 := ⟨t.k, t.s, t.W, t.V, k⟩
def allCells (l : List T5) : List Value := l.flatMap T5.cells
theorem allCells_snoc (l : List T5) (t : T5) : allCells (l ++ [t]) = allCells l ++ t.cells := by unfold allCells; rw [List.flatMap_append]; simp
theorem allCells_len (l : List T5) : (allCells l).length = l.length * 5 := by
  induction l with
  | nil => rfl
  | cons t l ih => unfold allCells at *; rw [List.flatMap_cons, List.length_append, ih, List.length_cons]; simp [T5.cells]; omega
/-- The tokens from a place on; or where one is wrong, and why. -/
def scanK : Nat → Bytes → Nat → List T5 → List T5 × Nat × Int
  | 0, _, _, acc => (acc, 0, 0)
  | f + 1, l, k, acc =>
    if k < l.length then
      if (tokenS (l.drop k)).err = 0 then
        scanK f l (k + (tokenS (l.drop k)).size + startS (l.drop (k + (tokenS (l.drop k)).size))) (acc ++ [(tokenS (l.drop k)).put k])
      else ([], k, (tokenS (l.drop k)).err)
    else (acc, 0, 0)
def scanS (l : Bytes) : List T5 × Nat × Int := scanK (l.length + 1) l (startS l) []
theorem scanK_stop {f : Nat} {l : Bytes} {k : Nat} {acc : List T5} (h : ¬ k < l.length) : scanK (f + 1) l k acc = (acc, 0, 0) := by rw [scanK, if_neg h]
theorem scanK_bad {f : Nat} {l : Bytes} {k : Nat} {acc : List T5} (h : k < l.length) (he : ¬ (tokenS (l.drop k)).err = 0) : scanK (f + 1) l k acc = ([], k, (tokenS (l.drop k)).err) := by rw [scanK, if_pos h, if_neg he]
theorem scanK_on {f : Nat} {l : Bytes} {k : Nat} {acc : List T5} (h : k < l.length) (he : (tokenS (l.drop k)).err = 0) : scanK (f + 1) l k acc = scanK f l (k + (tokenS (l.drop k)).size + startS (l.drop (k + (tokenS (l.drop k)).size))) (acc ++ [(tokenS (l.drop k)).put k]) := by rw [scanK, if_pos h, if_pos he]
theorem run_cons {p : UInt8 → Bool} {c : UInt8} {t : Bytes} (h : p c = true) : 1 ≤ run p (c :: t) := by
  unfold run; rw [List.takeWhile_cons, if_pos h]; simp
theorem isPrefix_len {s l : Bytes} (h : s.isPrefixOf l = true) : s.length ≤ l.length := by
  rw [List.isPrefixOf_iff_prefix] at h; exact h.length_le
theorem wide_size {l : Bytes} {n : Nat} (hn : n < l.length) (h : (wideS l n).err = 0) : 1 ≤ (wideS l n).size ∧ (wideS l n).size ≤ l.length := by
  have hb := rb_len (l.drop (n + 1))
  by_cases hok : (rbS (l.drop (n + 1))).2.2.2 = false
  · unfold wideS at h; rw [if_pos hok] at h; exact absurd h (by decide)
  · have hf := (rb_facts (m := l.drop (n + 1)) (by simpa using hok)).1
    have hr := run_le inName (rbS (l.drop (n + 1))).2.2.1
    rw [List.length_drop] at hf
    unfold wideS at h ⊢
    rw [if_neg hok] at h ⊢
    split at h
    · exact absurd h (by decide)
    · rw [if_neg (by assumption)]
      split at h
      · exact absurd h (by decide)
      · rw [if_neg (by assumption)]
        split at h
        · exact absurd h (by decide)
        · rw [if_neg (by assumption)]
          split at h
          · exact absurd h (by decide)
          · rw [if_neg (by assumption)]
            split at h
            · exact absurd h (by decide)
            · rw [if_neg (by assumption)]
              split at h
              · exact absurd h (by decide)
              · rw [if_neg (by assumption)]
                exact ⟨by show 1 ≤ n + 2 + _; omega, by show n + 2 + _ ≤ l.length; omega⟩
theorem token_size {l : Bytes} (h0 : 0 < l.length) (h : (tokenS l).err = 0) : 1 ≤ (tokenS l).size ∧ (tokenS l).size ≤ l.length := by
  cases l with
  | nil => simp at h0
  | cons c t =>
    unfold tokenS at h ⊢
    simp only at h ⊢
    by_cases ha : letter c = true
    · rw [if_pos ha] at h ⊢
      have h1 := run_cons (p := inName) (t := t) (show inName c = true by unfold inName; rw [ha]; rfl)
      have h2 := run_le inName (c :: t)
      unfold nameS at h ⊢
      split at h
      · exact absurd h (by decide)
      · rw [if_neg (by assumption)]; exact ⟨h1, h2⟩
    · rw [if_neg ha] at h ⊢
      by_cases hd : digit c = true
      · rw [if_pos hd] at h ⊢
        have h1 := run_cons (p := digit) (t := t) hd
        have h2 := run_le digit (c :: t)
        unfold numberS at h ⊢
        split at h
        · rename_i hp
          rw [if_pos hp]
          have := isPrefix_len hp
          simp only [List.length_drop, List.length_cons, List.length_nil] at this
          exact wide_size (by simp only [List.length_cons]; omega) h
        · rw [if_neg (by assumption)]
          split at h
          · exact absurd h (by decide)
          · rw [if_neg (by assumption)]
            split at h
            · exact absurd h (by decide)
            · rw [if_neg (by assumption)]; exact ⟨h1, h2⟩
      · rw [if_neg hd] at h ⊢
        split at h
        · exact absurd h (by decide)
        · rename_i hs
          rw [if_neg hs]
          have : ∃ s, signList.find? (fun s => s.isPrefixOf (c :: t)) = some s := by
            cases e : signList.find? (fun s => s.isPrefixOf (c :: t)) with
            | none => exact absurd (by unfold signS; rw [e]; rfl) hs
            | some s => exact ⟨s, rfl⟩
          obtain ⟨s, e⟩ := this
          have e2 : signS (c :: t) = s := by unfold signS; rw [e]; rfl
          have hp : s.isPrefixOf (c :: t) = true := by simpa using List.find?_some e
          rw [e2] at hs ⊢
          exact ⟨by show 1 ≤ s.length; have : s.length ≠ 0 := by simpa using hs
                    omega, isPrefix_len hp⟩
theorem own_below {w w' : World} {base e size n : Nat} {v : Value} {xs : List Value} (h : w.ownsRow base e size v n xs) (hb : Below w.heap.size w w') : w'.ownsRow base e size v n xs := by
  refine ⟨h.1, ?_⟩
  rcases h.2 with h0 | ⟨g, cap, cur, rfl, h1, h2, h3⟩
  · exact .inl h0
  · refine .inr ⟨g, cap, cur, rfl, h1, ?_, h3⟩
    have hlt : g < w.heap.size := by
      rcases Nat.lt_or_ge g w.heap.size with x | x
      · exact x
      · rw [Array.getElem?_eq_none x] at h2; cases h2
    rw [hb.block g hlt]; exact h2
/-- What Scan tells, in memory of its own. -/
def Told (w : World) (r : List T5 × Nat × Int) (e : Ending) (w' : World) : Prop :=
  ∃ v, e = .returned (.tuple #[v, .int .i64 (r.2.1 : Int), .int .i64 r.2.2]) ∧ w'.ownsRow w.heap.size 32 5 v r.1.length (allCells r.1) ∧ (r.1 = [] → v = .slice none 0 0) ∧ Below w.heap.size w w'
theorem info_tok : (Tryd.prog.info? 32).map (fun i => (i.zero, i.size, i.bytes)) = some (some (.agg #[.int .i64 0, .string ⟨#[]⟩, .int .i64 0, .int .u64 0, .int .i64 0]), 5, 48) := by kernel_rfl
set_option maxHeartbeats 1000000 in
theorem scan_big (a : Option Addr) (n cap : Nat) (hn : 65536 < n) (w : World) : Calls Tryd.prog 5 #[.slice a n cap] w (Told w ([], 0, 2)) := by
  have d1 : decide (65536 < n) = true := by simpa using hn
  have d2 : decide ((65536 : Int) < (n : Int)) = true := by rw [decide_eq_true_eq]; omega
  go_enter Tryd.func5, Tryd.ntmps5
  go_wp2
  go_ret3
  exact ⟨_, rfl, ⟨rfl, .inl ⟨rfl, rfl⟩⟩, fun _ => rfl, Below.refl _ _⟩
end Go.Proofs.YtigdegjhajdmhaaDoor
