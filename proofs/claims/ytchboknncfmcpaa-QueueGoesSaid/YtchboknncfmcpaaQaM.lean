/-
  The queue in plain words: events in order. No program.
-/
import Derived.WalkKit
import Derived.OpenShut
namespace Go.Proofs.Ytchboknncfmcpaa
open Go
set_option linter.unusedVariables false
set_option linter.unusedSimpArgs false
structure EV where
  t : Int
  d : Int
  no : Int
  sg : Int
  v : Int
deriving DecidableEq

/-- Is an event ahead of another one? -/
def aheadE (a b : EV) : Bool := if a.t = b.t then (if a.d = b.d then decide (a.no < b.no) else decide (a.d < b.d)) else decide (a.t < b.t)
def togE (a b : EV) : Bool := (a.t == b.t) && (a.d == b.d)
def goneE (now dl t d : Int) : Bool := decide (t < now) || ((t == now) && decide (d < dl))
def fitE (now dl nx : Int) (e : EV) : Bool := decide (0 ≤ e.t) && decide (0 ≤ e.d) && decide (0 ≤ e.no) && decide (0 ≤ e.sg) && decide (e.no < nx) && !goneE now dl e.t e.d
def chainE : List EV → Bool
  | [] => true
  | a :: r => (match r with | [] => true | b :: _ => aheadE a b) && chainE r
def okL (now dl nx : Int) (l : List EV) : Bool := decide (0 ≤ now) && decide (0 ≤ dl) && decide (0 ≤ nx) && l.all (fitE now dl nx) && chainE l
def ckE (now dl nx : Int) (l : List EV) : Int := if okL now dl nx l then (if 65536 < l.length then 2 else 0) else 1
def pushF (now dl nx : Int) (l : List EV) (t d sg : Int) : Int :=
  if ckE now dl nx l = 0 then (if d < 0 ∨ sg < 0 ∨ 4611686018427387904 ≤ nx then 1 else if goneE now dl t d then 140 else if 65536 ≤ l.length then 2 else 0) else ckE now dl nx l
def popF (now dl nx : Int) (l : List EV) : Int := if ckE now dl nx l = 0 then (if l.length = 0 then 141 else 0) else ckE now dl nx l
def lead (p : EV → Bool) (l : List EV) : Nat := (l.takeWhile p).length
def insE (x : EV) (l : List EV) : List EV := l.take (lead (fun e => aheadE e x) l) ++ x :: l.drop (lead (fun e => aheadE e x) l)

theorem aheadE_trans {a b c : EV} (h : aheadE a b = true) (k : aheadE b c = true) : aheadE a c = true := by
  unfold aheadE at *
  repeat' split at h
  all_goals repeat' split at k
  all_goals repeat' split
  all_goals simp only [decide_eq_true_eq] at *
  all_goals omega
theorem aheadE_asymm {a b : EV} (h : aheadE a b = true) : aheadE b a = false := by
  unfold aheadE at *
  repeat' split at h
  all_goals repeat' split
  all_goals simp only [decide_eq_true_eq, decide_eq_false_iff_not] at *
  all_goals omega
theorem aheadE_total {a b : EV} (h : aheadE a b = false) (hn : a.no ≠ b.no) : aheadE b a = true := by
  unfold aheadE at *
  repeat' split at h
  all_goals repeat' split
  all_goals simp only [decide_eq_true_eq, decide_eq_false_iff_not] at *
  all_goals omega
theorem chainE_pair : ∀ {l : List EV}, chainE l = true → l.Pairwise (fun a b => aheadE a b = true)
  | [], _ => List.Pairwise.nil
  | [a], _ => by simp
  | a :: b :: r, h => by
    simp only [chainE, Bool.and_eq_true] at h
    have h2 : chainE (b :: r) = true := by simp only [chainE, Bool.and_eq_true]; exact h.2
    have ih := chainE_pair h2
    refine List.Pairwise.cons (fun x hx => ?_) ih
    rcases List.mem_cons.1 hx with rfl | hx
    · exact h.1
    · exact aheadE_trans h.1 ((List.pairwise_cons.1 ih).1 x hx)
theorem chainE_of_pair : ∀ {l : List EV}, l.Pairwise (fun a b => aheadE a b = true) → chainE l = true
  | [], _ => rfl
  | [a], _ => rfl
  | a :: b :: r, h => by
    have h1 := List.pairwise_cons.1 h
    have ih := chainE_of_pair h1.2
    simp only [chainE, Bool.and_eq_true] at ih ⊢
    exact ⟨h1.1 b (by simp), ih⟩
theorem chainE_iff (l : List EV) : chainE l = true ↔ l.Pairwise (fun a b => aheadE a b = true) := ⟨chainE_pair, chainE_of_pair⟩

theorem lead_le (p : EV → Bool) (l : List EV) : lead p l ≤ l.length := (List.takeWhile_sublist p).length_le
theorem lead_lt (p : EV → Bool) : ∀ (l : List EV) (k : Nat) (h : k < lead p l), p (l[k]'(Nat.lt_of_lt_of_le h (lead_le p l))) = true
  | [], k, h => by simp [lead] at h
  | a :: r, k, h => by
    unfold lead at h
    rw [List.takeWhile_cons] at h
    split at h
    · rename_i ha
      cases k with
      | zero => exact ha
      | succ k => exact lead_lt p r k (by simpa [lead] using h)
    · simp at h
theorem lead_at (p : EV → Bool) : ∀ (l : List EV) (h : lead p l < l.length), p (l[lead p l]) = false
  | [], h => by simp at h
  | a :: r, h => by
    by_cases ha : p a = true
    · have e : lead p (a :: r) = lead p r + 1 := by simp [lead, List.takeWhile_cons, ha]
      have ih := lead_at p r (by rw [e] at h; simpa using h)
      simp only [e, List.getElem_cons_succ]
      exact ih
    · have e : lead p (a :: r) = 0 := by simp [lead, List.takeWhile_cons, ha]
      simp only [e, List.getElem_cons_zero]
      simpa using ha
theorem lead_unique (p : EV → Bool) (l : List EV) (m : Nat) (hm : m ≤ l.length) (h1 : ∀ k (h : k < l.length), k < m → p l[k] = true) (h2 : ∀ (h : m < l.length), p l[m] = false) : m = lead p l := by
  have hl := lead_le p l
  rcases Nat.lt_trichotomy m (lead p l) with h | h | h
  · have a := h2 (by omega)
    have b := lead_lt p l m h
    rw [a] at b; cases b
  · exact h
  · have a := lead_at p l (by omega)
    have b := h1 (lead p l) (by omega) h
    rw [a] at b; cases b
/-- Of a list in order, all behind the first that is not ahead are not. -/
theorem lead_ge {l : List EV} (hc : chainE l = true) (x : EV) (k : Nat) (h : k < l.length) (hk : lead (fun e => aheadE e x) l ≤ k) : aheadE l[k] x = false := by
  have h0 := lead_at (fun e => aheadE e x) l (by omega)
  rcases Nat.lt_or_ge (lead (fun e => aheadE e x) l) k with h1 | h1
  · have h2 := (List.pairwise_iff_getElem.1 (chainE_pair hc)) _ _ (by omega) h h1
    cases h3 : aheadE l[k] x with
    | false => rfl
    | true => rw [aheadE_trans h2 h3] at h0; cases h0
  · have : k = lead (fun e => aheadE e x) l := by omega
    subst this
    exact h0
theorem togE_mid {a b c : EV} (h1 : aheadE a b = true) (h2 : aheadE b c = true) (h : togE c a = true) : togE b a = true := by
  unfold togE at *
  simp only [Bool.and_eq_true, beq_iff_eq] at *
  unfold aheadE at h1 h2
  repeat' split at h1
  all_goals repeat' split at h2
  all_goals simp only [decide_eq_true_eq] at *
  all_goals omega
theorem togE_refl (a : EV) : togE a a = true := by simp [togE]
theorem lead_tog_ge {a : EV} {r : List EV} (hc : chainE (a :: r) = true) (k : Nat) (h : k < (a :: r).length) (hk : lead (fun e => togE e a) (a :: r) ≤ k) : togE (a :: r)[k] a = false := by
  have h0 := lead_at (fun e => togE e a) (a :: r) (by omega)
  have hp := List.pairwise_iff_getElem.1 (chainE_pair hc)
  have hpos : 0 < lead (fun e => togE e a) (a :: r) := by simp [lead, List.takeWhile_cons, togE_refl]
  rcases Nat.lt_or_ge (lead (fun e => togE e a) (a :: r)) k with h1 | h1
  · have h2 := hp _ _ (by omega) h h1
    have h3 := hp 0 _ (by omega) (by omega) hpos
    simp only [List.getElem_cons_zero] at h3
    cases h4 : togE (a :: r)[k] a with
    | false => rfl
    | true => rw [togE_mid h3 h2 h4] at h0; cases h0
  · have : k = lead (fun e => togE e a) (a :: r) := by omega
    subst this
    exact h0

theorem okL_iff {now dl nx : Int} {l : List EV} : okL now dl nx l = true ↔ 0 ≤ now ∧ 0 ≤ dl ∧ 0 ≤ nx ∧ (∀ e ∈ l, fitE now dl nx e = true) ∧ l.Pairwise (fun a b => aheadE a b = true) := by
  simp only [okL, Bool.and_eq_true, decide_eq_true_eq, List.all_eq_true, chainE_iff, and_assoc]
theorem fitE_iff {now dl nx : Int} {e : EV} : fitE now dl nx e = true ↔ 0 ≤ e.t ∧ 0 ≤ e.d ∧ 0 ≤ e.no ∧ 0 ≤ e.sg ∧ e.no < nx ∧ goneE now dl e.t e.d = false := by
  simp only [fitE, Bool.and_eq_true, decide_eq_true_eq, Bool.not_eq_true', and_assoc]
theorem goneE_iff {now dl t d : Int} : goneE now dl t d = false ↔ ¬ t < now ∧ ¬ (t = now ∧ d < dl) := by
  simp [goneE]
theorem insE_perm (x : EV) (l : List EV) : (insE x l).Perm (x :: l) := by
  unfold insE
  refine List.perm_middle.trans (List.Perm.cons x ?_)
  rw [List.take_append_drop]
theorem insE_len (x : EV) (l : List EV) : (insE x l).length = l.length + 1 := by rw [(insE_perm x l).length_eq, List.length_cons]
theorem insE_pair {x : EV} {l : List EV} (h : l.Pairwise (fun a b => aheadE a b = true)) (hx : ∀ e ∈ l, e.no ≠ x.no) : (insE x l).Pairwise (fun a b => aheadE a b = true) := by
  have hc := (chainE_iff l).2 h
  unfold insE
  rw [List.pairwise_append]
  refine ⟨h.sublist (List.take_sublist _ _), ?_, ?_⟩
  · rw [List.pairwise_cons]
    refine ⟨fun e he => ?_, h.sublist (List.drop_sublist _ _)⟩
    obtain ⟨i, hi, rfl⟩ := List.mem_iff_getElem.1 he
    rw [List.length_drop] at hi
    rw [List.getElem_drop]
    exact aheadE_total (lead_ge hc x _ (by omega) (by omega)) (hx _ (List.getElem_mem _))
  · intro a ha b hb
    obtain ⟨i, hi, rfl⟩ := List.mem_iff_getElem.1 ha
    rw [List.length_take] at hi
    rw [List.getElem_take]
    have h1 := lead_lt (fun e => aheadE e x) l i (by omega)
    rcases List.mem_cons.1 hb with rfl | hb
    · exact h1
    · obtain ⟨j, hj, rfl⟩ := List.mem_iff_getElem.1 hb
      rw [List.length_drop] at hj
      rw [List.getElem_drop]
      exact (List.pairwise_iff_getElem.1 h) _ _ (by omega) (by omega) (by omega)
theorem fitE_more {now dl nx ny : Int} {e : EV} (h : fitE now dl nx e = true) (hn : nx ≤ ny) : fitE now dl ny e = true := by
  rw [fitE_iff] at *
  exact ⟨h.1, h.2.1, h.2.2.1, h.2.2.2.1, by omega, h.2.2.2.2.2⟩
/-- What is pushed in may be. -/
theorem push_ok {now dl nx : Int} {l : List EV} {t d sg v : Int} (h : okL now dl nx l = true) (ht : 0 ≤ t) (hd : 0 ≤ d) (hs : 0 ≤ sg) (hg : goneE now dl t d = false) : okL now dl (nx + 1) (insE ⟨t, d, nx, sg, v⟩ l) = true := by
  rw [okL_iff] at *
  obtain ⟨h1, h2, h3, h4, h5⟩ := h
  refine ⟨h1, h2, by omega, fun e he => ?_, insE_pair h5 (fun e he => ?_)⟩
  · rcases List.mem_cons.1 ((insE_perm _ _).mem_iff.1 he) with rfl | he
    · rw [fitE_iff]; exact ⟨ht, hd, h3, hs, by show nx < nx + 1; omega, hg⟩
    · exact fitE_more (h4 e he) (by omega)
  · have := (fitE_iff.1 (h4 e he)).2.2.2.2.1
    show e.no ≠ nx
    omega
theorem pushF_zero {now dl nx : Int} {l : List EV} {t d sg : Int} (h : pushF now dl nx l t d sg = 0) : ckE now dl nx l = 0 ∧ okL now dl nx l = true ∧ 0 ≤ now ∧ 0 ≤ t ∧ 0 ≤ d ∧ 0 ≤ sg ∧ nx < 4611686018427387904 ∧ goneE now dl t d = false ∧ l.length < 65536 := by
  unfold pushF at h
  split at h
  · rename_i h0
    have ho : okL now dl nx l = true := by
      unfold ckE at h0
      split at h0
      · assumption
      · omega
    split at h
    · omega
    · rename_i h1
      split at h
      · omega
      · rename_i h2
        split at h
        · omega
        · have hg : goneE now dl t d = false := by simpa using h2
          have := okL_iff.1 ho
          have g := goneE_iff.1 hg
          exact ⟨h0, ho, this.1, by omega, by omega, by omega, by omega, hg, by omega⟩
  · rename_i h0; exact absurd h h0
theorem ckE_zero {now dl nx : Int} {l : List EV} : ckE now dl nx l = 0 ↔ okL now dl nx l = true ∧ l.length ≤ 65536 := by
  unfold ckE
  split
  · split <;> simp_all
  · simp_all
/-- The first ones gone by. -/
theorem drop_ok {now dl nx : Int} {l : List EV} (h : okL now dl nx l = true) (n : Nat) (hn : 0 < n) (hl : n ≤ l.length) : okL (l[n - 1]'(by omega)).t (l[n - 1]'(by omega)).d nx (l.drop n) = true := by
  rw [okL_iff] at *
  obtain ⟨h1, h2, h3, h4, h5⟩ := h
  have f := fitE_iff.1 (h4 _ (List.getElem_mem (show n - 1 < l.length by omega)))
  refine ⟨f.1, f.2.1, h3, fun e he => ?_, h5.sublist (List.drop_sublist _ _)⟩
  obtain ⟨i, hi, rfl⟩ := List.mem_iff_getElem.1 he
  rw [List.length_drop] at hi
  rw [List.getElem_drop]
  have g := fitE_iff.1 (h4 _ (List.getElem_mem (show n + i < l.length by omega)))
  have a := (List.pairwise_iff_getElem.1 h5) (n - 1) (n + i) (by omega) (by omega) (by omega)
  rw [fitE_iff]
  refine ⟨g.1, g.2.1, g.2.2.1, g.2.2.2.1, g.2.2.2.2.1, ?_⟩
  rw [goneE_iff]
  unfold aheadE at a
  repeat' split at a
  all_goals simp only [decide_eq_true_eq] at a
  all_goals omega

/-! ### Two that are not of one round -/
def keyLE (e x : EV) : Bool := if e.t = x.t then decide (e.d ≤ x.d) else decide (e.t < x.t)
def insK (x : EV) : List EV → List EV
  | [] => [x]
  | e :: r => if keyLE e x then e :: insK x r else x :: e :: r
theorem insE_key (x : EV) : ∀ (l : List EV), (∀ e ∈ l, e.no < x.no) → insE x l = insK x l
  | [], _ => rfl
  | e :: r, h => by
    have h0 := h e (by simp)
    have ek : aheadE e x = keyLE e x := by
      unfold aheadE keyLE
      split
      · split
        · rename_i h1 h2; simp [h0, h2]
        · rename_i h1 h2; rw [decide_eq_decide]; omega
      · rfl
    have ih := insE_key x r (fun y hy => h y (by simp [hy]))
    unfold insK
    cases hk : keyLE e x with
    | true =>
      rw [if_pos rfl, ← ih]
      have e1 : lead (fun e => aheadE e x) (e :: r) = lead (fun e => aheadE e x) r + 1 := by simp [lead, List.takeWhile_cons, ek, hk]
      simp [insE, e1]
    | false =>
      have e1 : lead (fun e => aheadE e x) (e :: r) = 0 := by simp [lead, List.takeWhile_cons, ek, hk]
      simp [insE, e1]
def zeroNo (nx : Int) (e : EV) : EV := if nx ≤ e.no then { e with no := 0 } else e
theorem keyLE_zero (nx : Int) (e x : EV) : keyLE (zeroNo nx e) (zeroNo nx x) = keyLE e x := by
  unfold keyLE zeroNo
  split <;> split <;> rfl
theorem insK_map (nx : Int) (x : EV) : ∀ l : List EV, (insK x l).map (zeroNo nx) = insK (zeroNo nx x) (l.map (zeroNo nx))
  | [] => rfl
  | e :: r => by
    simp only [insK, List.map_cons, keyLE_zero]
    split
    · rw [List.map_cons, insK_map nx x r]
    · rfl
theorem insK_turn {a b : EV} (h : ¬ (a.t = b.t ∧ a.d = b.d)) : ∀ l : List EV, insK b (insK a l) = insK a (insK b l) := by
  have key : ∀ e x : EV, keyLE e x = true ↔ (e.t < x.t ∨ (e.t = x.t ∧ e.d ≤ x.d)) := by
    intro e x
    unfold keyLE
    split
    · simp only [decide_eq_true_eq]; omega
    · simp only [decide_eq_true_eq]; omega
  intro l
  induction l with
  | nil =>
    simp only [insK]
    by_cases h1 : keyLE a b = true <;> by_cases h2 : keyLE b a = true
    · rw [key] at h1 h2; omega
    · rw [if_pos h1, if_neg h2]
    · rw [if_neg h1, if_pos h2]
    · rw [key] at h1 h2; omega
  | cons e r ih =>
    by_cases ha : keyLE e a = true <;> by_cases hb : keyLE e b = true
    · simp only [insK, if_pos ha, if_pos hb, ih]
    · have hba : keyLE b a = true := by rw [key] at *; omega
      simp only [insK, if_pos ha, if_neg hb, if_pos hba]
    · have hab : keyLE a b = true := by rw [key] at *; omega
      simp only [insK, if_neg ha, if_pos hb, if_pos hab]
    · simp only [insK, if_neg ha, if_neg hb]
      by_cases h1 : keyLE a b = true <;> by_cases h2 : keyLE b a = true
      · rw [key] at h1 h2; omega
      · simp only [if_pos h1, if_neg h2, insK, if_neg hb]
      · simp only [if_neg h1, if_pos h2, insK, if_neg ha]
      · rw [key] at h1 h2; omega
theorem apart_lists {nx : Int} {l : List EV} (hl : ∀ e ∈ l, e.no < nx) {ta da sa va tb db sb vb : Int} (h : ¬ (ta = tb ∧ da = db)) :
    (insE ⟨tb, db, nx + 1, sb, vb⟩ (insE ⟨ta, da, nx, sa, va⟩ l)).map (zeroNo nx) = (insE ⟨ta, da, nx + 1, sa, va⟩ (insE ⟨tb, db, nx, sb, vb⟩ l)).map (zeroNo nx) := by
  have m : ∀ (x y : EV), x.no = nx → y.no = nx + 1 → ∀ e ∈ insE x l, e.no < y.no := by
    intro x y hx hy e he
    rcases List.mem_cons.1 ((insE_perm _ _).mem_iff.1 he) with rfl | he
    · omega
    · have := hl e he; omega
  rw [insE_key _ _ (m _ _ rfl rfl), insE_key _ l (fun e he => hl e he), insE_key _ _ (m _ _ rfl rfl), insE_key _ l (fun e he => hl e he)]
  rw [insK_map, insK_map, insK_map, insK_map]
  have z1 : ∀ (t d s v k : Int), nx ≤ k → zeroNo nx ⟨t, d, k, s, v⟩ = ⟨t, d, 0, s, v⟩ := fun t d s v k hk => by simp [zeroNo, hk]
  rw [z1 _ _ _ _ _ (by omega), z1 _ _ _ _ _ (by omega), z1 _ _ _ _ _ (by omega), z1 _ _ _ _ _ (by omega)]
  exact insK_turn (a := ⟨ta, da, 0, sa, va⟩) (b := ⟨tb, db, 0, sb, vb⟩) h _

/-! ### Checked up to a place -/
def okUp (now dl nx : Int) (l : List EV) (k : Nat) : Prop := (∀ i (h : i < l.length), i < k → fitE now dl nx l[i] = true) ∧ (∀ i (h : i < l.length), 0 < i → i < k → aheadE (l[i - 1]'(by omega)) l[i] = true)
theorem okUp_zero (now dl nx : Int) (l : List EV) : okUp now dl nx l 0 := ⟨fun i _ h => by omega, fun i _ _ h => by omega⟩
theorem okUp_succ {now dl nx : Int} {l : List EV} {k : Nat} (h : okUp now dl nx l k) (hk : k < l.length) (hf : fitE now dl nx l[k] = true) (ha : 0 < k → aheadE (l[k - 1]'(by omega)) l[k] = true) : okUp now dl nx l (k + 1) := by
  refine ⟨fun i hi hik => ?_, fun i hi h0 hik => ?_⟩
  · rcases Nat.lt_or_ge i k with h1 | h1
    · exact h.1 i hi h1
    · obtain rfl : i = k := by omega
      exact hf
  · rcases Nat.lt_or_ge i k with h1 | h1
    · exact h.2 i hi h0 h1
    · obtain rfl : i = k := by omega
      exact ha h0
theorem chainE_get : ∀ (l : List EV), (∀ i (h : i < l.length), 0 < i → aheadE (l[i - 1]'(by omega)) l[i] = true) → chainE l = true
  | [], _ => rfl
  | [a], _ => rfl
  | a :: b :: r, h => by
    have h0 := h 1 (by simp) (by omega)
    simp only [Nat.sub_self, List.getElem_cons_zero, List.getElem_cons_succ] at h0
    have ih := chainE_get (b :: r) (fun i hi hp => by
      have := h (i + 1) (by simpa using hi) (by omega)
      obtain ⟨j, rfl⟩ : ∃ j, i = j + 1 := ⟨i - 1, by omega⟩
      simpa using this)
    simp only [chainE, Bool.and_eq_true] at ih ⊢
    exact ⟨h0, ih⟩
theorem okL_up {now dl nx : Int} {l : List EV} (h1 : 0 ≤ now) (h2 : 0 ≤ dl) (h3 : 0 ≤ nx) (h : okUp now dl nx l l.length) : okL now dl nx l = true := by
  rw [okL_iff]
  refine ⟨h1, h2, h3, fun e he => ?_, chainE_pair (chainE_get l (fun i hi h0 => h.2 i hi h0 hi))⟩
  obtain ⟨i, hi, rfl⟩ := List.mem_iff_getElem.1 he
  exact h.1 i hi hi
theorem okL_fit_false {now dl nx : Int} {l : List EV} {k : Nat} (hk : k < l.length) (hf : fitE now dl nx l[k] = false) : okL now dl nx l = false := by
  rw [← Bool.not_eq_true]
  intro h
  have := (okL_iff.1 h).2.2.2.1 _ (List.getElem_mem hk)
  rw [hf] at this
  cases this
theorem okL_pair_false {now dl nx : Int} {l : List EV} {k : Nat} (hk : k < l.length) (h0 : 0 < k) (hf : aheadE (l[k - 1]'(by omega)) l[k] = false) : okL now dl nx l = false := by
  rw [← Bool.not_eq_true]
  intro h
  have := (List.pairwise_iff_getElem.1 (okL_iff.1 h).2.2.2.2) (k - 1) k (by omega) hk (by omega)
  rw [hf] at this
  cases this
theorem okL_neg_false {now dl nx : Int} {l : List EV} (h : now < 0 ∨ dl < 0 ∨ nx < 0) : okL now dl nx l = false := by
  rw [← Bool.not_eq_true]
  intro h1
  have := okL_iff.1 h1
  omega
end Go.Proofs.Ytchboknncfmcpaa
