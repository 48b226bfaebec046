/-
  NmA, NmB, NmC, NmD, NmE, NmF, NmG, NmH, in one text.
-/
import Derived.Test.YtbfhbblbjgkolaaGreatDoorAsNm
namespace Go.Proofs.YtbfhbblbjgkolaaGreatDoor
open Go Go.RowKit
set_option linter.unusedVariables false
set_option linter.unusedSimpArgs false
open Go.Sort
/-- Does an item tell its name? -/
def tellsI (op : Int) : Bool := (op == 1) || ((op == 2) || ((op == 3) || ((op == 7) || ((op == 9) || (op == 10)))))
mutual
/-- An item tells its names in a scope that holds S, within others that hold ar: none, if one is there. -/
def telI (ar S : List Bytes) : IT → Option (List Bytes)
  | .mk op nm _ _ _ _ _ _ _ _ _ ll _ _ el _ _ _ _ _ _ => if op = 8 then (match telL (S ++ ar) [] ll with | none => none | some a => match telL (S ++ ar) [] el with | none => none | some b => some (S ++ (a ++ b))) else if tellsI op = true then (if (S ++ ar).contains nm = true then none else some (S ++ [nm])) else some S
def telL (ar S : List Bytes) : List IT → Option (List Bytes)
  | [] => some S
  | x :: r => match telI ar S x with | none => none | some T => telL ar T r
end
theorem addN_in : ∀ (m out : List Bytes) (s : Bytes), s ∈ addN out m ↔ s ∈ out ∨ s ∈ m
  | [], out, s => by simp [addN]
  | t :: r, out, s => by
    rw [addN, addN_in r]
    by_cases h : out.contains t = true
    · rw [if_pos h]
      have := List.contains_iff_mem.1 h
      constructor
      · rintro (h1 | h1)
        · exact .inl h1
        · exact .inr (List.mem_cons_of_mem _ h1)
      · rintro (h1 | h1)
        · exact .inl h1
        · rcases List.mem_cons.1 h1 with h2 | h2
          · subst h2; exact .inl this
          · exact .inr h2
    · rw [if_neg h]
      simp only [List.mem_append, List.mem_singleton, List.mem_cons, or_assoc, List.not_mem_nil, false_or]
end Go.Proofs.YtbfhbblbjgkolaaGreatDoor
namespace Go.Proofs.YtbfhbblbjgkolaaGreatDoor
open Go Go.RowKit
set_option linter.unusedVariables false
set_option linter.unusedSimpArgs false
open Go.Sort
mutual
/-- The scopes of a statement, within names that can be seen. -/
def stB (ch : List Bytes) : ST → Bool
  | .mk op nm _ _ _ _ _ sl => if op = 6 then !ch.contains nm && stBL (ch ++ [nm]) sl else stBL ch sl
def stBL (ch : List Bytes) : List ST → Bool
  | [] => true
  | x :: r => stB ch x && stBL ch r
end
theorem stBL_all (ch : List Bytes) : ∀ l : List ST, stBL ch l = l.all (stB ch)
  | [] => rfl
  | x :: r => by rw [stBL, stBL_all ch r]; rfl
theorem contains_same {ch ar : List Bytes} (h : ∀ n, n ∈ ch ↔ n ∈ ar) (n : Bytes) : ch.contains n = ar.contains n := by
  rw [Bool.eq_iff_iff, List.contains_iff_mem, List.contains_iff_mem]; exact h n
theorem all_same {α : Type} {p q : α → Bool} : ∀ {l : List α}, (∀ x ∈ l, p x = q x) → l.all p = l.all q
  | [], _ => rfl
  | x :: r, h => by rw [List.all_cons, List.all_cons, h x (by simp), all_same (fun y hy => h y (by simp [hy]))]
theorem stB_same : ∀ x : ST, ∀ ch ar : List Bytes, (∀ n, n ∈ ch ↔ n ∈ ar) → stB ch x = stB ar x := ST.ind fun op nm xa xc xl sa sc sl ih ch ar h => by
  rw [stB, stB, contains_same h nm]
  by_cases h6 : op = 6
  · rw [if_pos h6, if_pos h6, stBL_all, stBL_all, all_same (fun y hy => ih y hy (ch ++ [nm]) (ar ++ [nm]) (fun n => by simp [h n]))]
  · rw [if_neg h6, if_neg h6, stBL_all, stBL_all, all_same (fun y hy => ih y hy ch ar h)]
theorem stBL_same (l : List ST) (ch ar : List Bytes) (h : ∀ n, n ∈ ch ↔ n ∈ ar) : stBL ch l = stBL ar l := by
  rw [stBL_all, stBL_all]; exact all_same (fun y _ => stB_same y ch ar h)
mutual
/-- The scopes that stand in an item, one within the other: what is told is told into scopes. -/
def inI (ch : List Bytes) : IT → Bool
  | .mk op nm nf _ _ _ _ _ sl _ _ ll _ _ el _ _ _ _ _ _ => if op = 8 then inL ch ll && inL ch el else if op = 9 then !ch.contains nf && (match telL ch [nf] ll with | none => false | some S => inL (S ++ ch) ll) else if op = 5 ∨ op = 6 then stBL ch sl else true
def inL (ch : List Bytes) : List IT → Bool
  | [] => true
  | x :: r => inI ch x && inL ch r
end
/-! ### Modules -/
/-- Names told one behind the other into a scope that stands alone. -/
def telN (S : List Bytes) : List Bytes → Option (List Bytes)
  | [] => some S
  | n :: r => if S.contains n = true then none else telN (S ++ [n]) r
def headM (m : MT) : List Bytes := m.pl.map (·.nm) ++ m.tl.map (·.nm)
/-- Are a module's scopes right? Told one by one. -/
def modB (m : MT) : Bool := match telN [] (headM m) with | none => false | some S => match telL [] S m.il with | none => false | some T => inL T m.il
/-! ### A file -/
/-- Is a name told twice? Told one by one: modules' names, and each module's scopes. -/
def twiceB (seen : List Bytes) : List MT → Bool
  | [] => false
  | m :: r => seen.contains m.nm || (!modB m || twiceB (seen ++ [m.nm]) r)
end Go.Proofs.YtbfhbblbjgkolaaGreatDoor
namespace Go.Proofs.YtbfhbblbjgkolaaGreatDoor
open Go Go.RowKit
set_option linter.unusedVariables false
set_option linter.unusedSimpArgs false
open Go.Sort
mutual
/-- The modules that an item has instances of, as they are come to. -/
def instI : IT → List Bytes
  | .mk op _ nf _ _ _ _ _ _ _ _ ll _ _ el _ _ _ _ _ _ => (if op = 7 then [nf] else []) ++ (instL ll ++ instL el)
def instL : List IT → List Bytes
  | [] => []
  | x :: r => instI x ++ instL r
end
def usesM (m : MT) : List Bytes := addN [] (instL m.il)
mutual
/-- The document's: behind what is there. -/
def usesI (out : List Bytes) : IT → List Bytes
  | .mk op _ nf _ _ _ _ _ _ _ _ ll _ _ el _ _ _ _ _ _ => usesL (usesL (if op = 7 then addN out [nf] else out) ll) el
def usesL (out : List Bytes) : List IT → List Bytes
  | [] => out
  | x :: r => usesL (usesI out x) r
end
theorem usesL_of : ∀ (l : List IT) (out : List Bytes), (∀ x ∈ l, ∀ o, usesI o x = addN o (instI x)) → usesL out l = addN out (instL l)
  | [], out, _ => rfl
  | x :: r, out, h => by
    rw [usesL, instL, addN_app, h x (by simp) out]
    exact usesL_of r _ (fun y hy => h y (by simp [hy]))
theorem usesI_is : ∀ (x : IT) (out : List Bytes), usesI out x = addN out (instI x) := IT.ind fun op nm nf xa xc xl sa sc sl la lc ll ea ec el pa pc pl ba bc bl ih0 ih1 out => by
  rw [usesI, instI, usesL_of el _ (fun x hx o => ih1 x hx o), usesL_of ll _ (fun x hx o => ih0 x hx o), addN_app, addN_app]
  by_cases h : op = 7
  · rw [if_pos h, if_pos h]
  · rw [if_neg h, if_neg h]; rfl
theorem usesL_is (l : List IT) (out : List Bytes) : usesL out l = addN out (instL l) := usesL_of l out (fun x _ o => usesI_is x o)
/-! ### The order -/
/-- May a module come next? -/
def canN (out : List Bytes) (m : MT) : Bool := !out.contains m.nm && (usesM m).all fun u => out.contains u
def nextN (ms : List MT) (out : List Bytes) : Option Bytes := (ms.find? (canN out)).map (·.nm)
/-- In so many rounds. -/
def ordN (ms : List MT) : Nat → List Bytes → Option (List Bytes)
  | 0, out => some out
  | k + 1, out => match nextN ms out with
    | none => none
    | some n => ordN ms k (out ++ [n])
/-- Some of a file's names, each once, each behind all that it is made of. -/
structure OrdOk (ms : List MT) (out : List Bytes) : Prop where
  sub : ∀ n ∈ out, ∃ m ∈ ms, m.nm = n
  nodup : out.Nodup
  behind : ∀ (i : Nat) (h : i < out.length), ∃ m ∈ ms, m.nm = out[i] ∧ ∀ u ∈ usesM m, u ∈ out.take i
theorem nextN_some {ms : List MT} {out : List Bytes} {n : Bytes} (h : nextN ms out = some n) : ∃ m ∈ ms, m.nm = n ∧ n ∉ out ∧ ∀ u ∈ usesM m, u ∈ out := by
  unfold nextN at h
  obtain ⟨m, hm, rfl⟩ := Option.map_eq_some_iff.1 h
  have h1 := List.find?_some hm
  have h2 := List.mem_of_find?_eq_some hm
  unfold canN at h1
  rw [Bool.and_eq_true, List.all_eq_true] at h1
  refine ⟨m, h2, rfl, fun hc => ?_, fun u hu => List.contains_iff_mem.1 (h1.2 u hu)⟩
  rw [List.contains_iff_mem.2 hc] at h1
  cases h1.1
theorem OrdOk.nil (ms : List MT) : OrdOk ms [] := ⟨fun n h => (by cases h), List.nodup_nil, fun i h => (by simp at h)⟩
theorem OrdOk.snoc {ms : List MT} {out : List Bytes} {n : Bytes} (h : OrdOk ms out) (hn : nextN ms out = some n) : OrdOk ms (out ++ [n]) := by
  obtain ⟨m, hm, hmn, hno, hu⟩ := nextN_some hn
  refine ⟨fun x hx => ?_, List.nodup_append.2 ⟨h.nodup, by simp, fun a ha b hb e => ?_⟩, fun i hi => ?_⟩
  · rcases List.mem_append.1 hx with hx | hx
    · exact h.sub x hx
    · have e : x = n := by simpa using hx
      exact ⟨m, hm, hmn.trans e.symm⟩
  · have e2 : b = n := by simpa using hb
    subst e2; subst e
    exact hno ha
  · by_cases hi2 : i < out.length
    · obtain ⟨m2, hm2, h2, h3⟩ := h.behind i hi2
      refine ⟨m2, hm2, by rw [List.getElem_append_left hi2]; exact h2, fun u hu => ?_⟩
      rw [List.take_append_of_le_length (by omega)]
      exact h3 u hu
    · have hi3 : i = out.length := by rw [List.length_append, List.length_singleton] at hi; omega
      subst hi3
      refine ⟨m, hm, by simp [hmn], fun u hu2 => ?_⟩
      rw [List.take_left]
      exact hu u hu2
theorem nodup_sub_len : ∀ (l m : List Bytes), l.Nodup → (∀ n ∈ l, n ∈ m) → l.length ≤ m.length
  | [], m, _, _ => Nat.zero_le _
  | n :: r, m, h, hs => by
    have hn := hs n (by simp)
    have hr := nodup_sub_len r (m.erase n) (List.nodup_cons.1 h).2 (fun x hx => by
      have hne : x ≠ n := fun e => by subst e; exact (List.nodup_cons.1 h).1 hx
      exact (List.mem_erase_of_ne hne).2 (hs x (by simp [hx])))
    have h1 := List.length_erase_of_mem hn
    have h2 := List.length_pos_of_mem hn
    rw [List.length_cons]; omega
theorem OrdOk.len {ms : List MT} {out : List Bytes} (h : OrdOk ms out) : out.length ≤ ms.length := by
  have hs : ∀ n ∈ out, n ∈ ms.map (·.nm) := fun n hn => by
    obtain ⟨m, hm, e⟩ := h.sub n hn
    exact List.mem_map.2 ⟨m, hm, e⟩
  have := nodup_sub_len out _ h.nodup hs
  simpa using this
theorem ordN_ok (ms : List MT) : ∀ (k : Nat) (out l : List Bytes), OrdOk ms out → ordN ms k out = some l → OrdOk ms l ∧ l.length = out.length + k
  | 0, out, l, h, e => by cases e; exact ⟨h, rfl⟩
  | k + 1, out, l, h, e => by
    rw [ordN] at e
    cases hn : nextN ms out with
    | none => rw [hn] at e; cases e
    | some n =>
      rw [hn] at e
      have := ordN_ok ms k _ l (h.snoc hn) e
      refine ⟨this.1, ?_⟩
      rw [this.2, List.length_append, List.length_singleton]; omega
/-- Do all names of a list stand among others? -/
def hasAllB (ms : List MT) : Bool := ms.all fun m => (usesM m).all fun u => (ms.map (·.nm)).contains u
/-- Check's answer behind layer 3's. -/
def checkN (ms : List MT) : Int := if twiceB [] ms = true then 70 else if hasAllB ms = false then 71 else if (ordN ms ms.length []).isNone = true then 72 else 0
end Go.Proofs.YtbfhbblbjgkolaaGreatDoor
namespace Go.Proofs.YtbfhbblbjgkolaaGreatDoor
open Go Go.RowKit
set_option linter.unusedVariables false
set_option linter.unusedSimpArgs false
open Go.Sort
/-- What a module of a name uses: the first one's. -/
def usN (ms : List MT) (n : Bytes) : List Bytes := match ms.find? (fun m => m.nm == n) with | none => [] | some m => usesM m
/-- Going from the last one back: what is wanted. -/
def wantR (us : Bytes → List Bytes) (W : List Bytes) : List Bytes → List Bytes
  | [] => W
  | n :: r => wantR us (if W.contains n = true then W ++ us n else W) r
/-- The program's: all that are wanted in the end. -/
def belowP (us : Bytes → List Bytes) (l : List Bytes) (top : Bytes) : List Bytes := l.filter fun n => (wantR us [top] l.reverse).contains n
theorem find_nm {ms : List MT} (hd : (ms.map (·.nm)).Nodup) {m : MT} (hm : m ∈ ms) : ms.find? (fun x => x.nm == m.nm) = some m := by
  induction ms with
  | nil => cases hm
  | cons y r ih =>
    rw [List.map_cons, List.nodup_cons] at hd
    rw [List.find?_cons]
    by_cases e : y.nm = m.nm
    · have : (y.nm == m.nm) = true := by simpa using e
      rw [this]
      rcases List.mem_cons.1 hm with h | h
      · rw [h]
      · exact absurd (List.mem_map.2 ⟨m, h, e.symm⟩) hd.1
    · have : (y.nm == m.nm) = false := by rw [beq_eq_false_iff_ne]; exact e
      rw [this]
      rcases List.mem_cons.1 hm with h | h
      · rw [h] at e; exact absurd rfl e
      · exact ih hd.2 h
theorem usN_of {ms : List MT} (hd : (ms.map (·.nm)).Nodup) {m : MT} (hm : m ∈ ms) : usN ms m.nm = usesM m := by
  unfold usN; rw [find_nm hd hm]
end Go.Proofs.YtbfhbblbjgkolaaGreatDoor
namespace Go.Proofs.YtbfhbblbjgkolaaGreatDoor
open Go Go.RowKit
set_option linter.unusedVariables false
set_option linter.unusedSimpArgs false
open Go.Sort
end Go.Proofs.YtbfhbblbjgkolaaGreatDoor
namespace Go.Proofs.YtbfhbblbjgkolaaGreatDoor
open Go Go.RowKit
set_option linter.unusedVariables false
set_option linter.unusedSimpArgs false
open Go.Sort
end Go.Proofs.YtbfhbblbjgkolaaGreatDoor
namespace Go.Proofs.YtbfhbblbjgkolaaGreatDoor
open Go Go.RowKit
set_option linter.unusedVariables false
set_option linter.unusedSimpArgs false
open Go.Sort
end Go.Proofs.YtbfhbblbjgkolaaGreatDoor
namespace Go.Proofs.YtbfhbblbjgkolaaGreatDoor
open Go Go.RowKit
set_option linter.unusedVariables false
set_option linter.unusedSimpArgs false
open Go.Sort
end Go.Proofs.YtbfhbblbjgkolaaGreatDoor
