/-
  NmZ, NaF, NaG, NtM, NlN, in one text.
-/
import Derived.Test.YtiipjbafdhijlaaGreatDoorZAn
import Derived.Test.YtiipjbafdhijlaaGreatDoorZmP
import Derived.Test.YtiipjbafdhijlaaGreatDoorZaE
import Derived.RangeFuncNested
import Derived.RangeFuncBox
import Derived.Lib.SliceRun
import Derived.Test.YtiipjbafdhijlaaGreatDoorZaF
import Derived.Test.YtiipjbafdhijlaaGreatDoorZAz
import Derived.Deep.DeepCutAuto
import Derived.Test.YtiipjbafdhijlaaGreatDoorZaG
import Derived.Laws.AppendOwn
import Derived.Laws.AppendOwnNone
import Derived.OwnWalk
import Derived.WalkSpells
import Derived.Deep.LoopGhost
import Derived.Deep.RegionHeld3
import Derived.Test.YtiipjbafdhijlaaGreatDoorZtP
import Derived.Test.YtiipjbafdhijlaaGreatDoorZAW
import Derived.Test.YtiipjbafdhijlaaGreatDoorZAG
import Derived.Test.YtiipjbafdhijlaaGreatDoorZAp
import Derived.Test.YtiipjbafdhijlaaGreatDoorZlP
namespace Go.Proofs.YtiipjbafdhijlaaGreatDoor
open Go Go.RowKit
set_option linter.unusedVariables false
set_option linter.unusedSimpArgs false
open Go.Sort
end Go.Proofs.YtiipjbafdhijlaaGreatDoor
namespace Go.Proofs.YtiipjbafdhijlaaGreatDoor
open Go Go.RowKit
set_option linter.unusedVariables false
set_option linter.unusedSimpArgs false
open Go.Sort
/-! ### Modules -/
/-! ### A file -/
end Go.Proofs.YtiipjbafdhijlaaGreatDoor
namespace Go.Proofs.YtiipjbafdhijlaaGreatDoor
open Go Go.RowKit
set_option linter.unusedVariables false
set_option linter.unusedSimpArgs false
open Go.Sort
/-! ### The order -/
theorem nextN_none {ms : List MT} {out : List Bytes} (h : nextN ms out = none) : ∀ m ∈ ms, m.nm ∈ out ∨ ∃ u ∈ usesM m, u ∉ out := by
 unfold nextN at h
 rw [Option.map_eq_none_iff, List.find?_eq_none] at h
 intro m hm
 have h1 := h m hm
 unfold canN at h1
 by_cases hc : m.nm ∈ out
 ·exact .inl hc
 ·right
  have h2 : out.contains m.nm = false := by
   cases hq : out.contains m.nm
   ·rfl
   ·exact absurd (List.contains_iff_mem.1 hq) hc
  rw [h2] at h1
  simp only [Bool.not_false, Bool.true_and, List.all_eq_true] at h1
  by_cases hq : ∃ u ∈ usesM m, u ∉ out
  ·exact hq
  ·exfalso
   refine h1 (fun u hu => ?_)
   by_cases hu2 : u ∈ out
   ·exact List.contains_iff_mem.2 hu2
   ·exact absurd ⟨u, hu, hu2⟩ hq
/-- Once all stand in it there is no next one. -/
theorem next_full {ms : List MT} {out : List Bytes} (h : OrdOk ms out) (hl : out.length = ms.length) : nextN ms out = none := by
 cases hn : nextN ms out with
 | none => rfl
 | some n =>
  have := (h.snoc hn).len
  rw [List.length_append, List.length_singleton] at this
  omega
theorem ordR_stop (ms : List MT) : ∀ (k j : Nat) (out : List Bytes), OrdOk ms out → ms.length ≤ out.length + k → ordR ms (k + j) out = ordR ms k out
 | 0, j, out, h, hl => by
  have := h.len
  rw [Nat.zero_add, ordR]
  cases j with
  | zero => rfl
  | succ j => rw [ordR, next_full h (by omega)]
 | k + 1, j, out, h, hl => by
  rw [Nat.add_right_comm, ordR, ordR]
  cases hn : nextN ms out with
  | none => rfl
  | some n => exact ordR_stop ms k j _ (h.snoc hn) (by rw [List.length_append, List.length_singleton]; omega)
end Go.Proofs.YtiipjbafdhijlaaGreatDoor
namespace Go.Proofs.YtiipjbafdhijlaaGreatDoor
open Go Go.RowKit
set_option linter.unusedVariables false
set_option linter.unusedSimpArgs false
open Go.Sort
end Go.Proofs.YtiipjbafdhijlaaGreatDoor
namespace Go.Proofs.YtiipjbafdhijlaaGreatDoor
open Go Go.RowKit
set_option linter.unusedVariables false
set_option linter.unusedSimpArgs false
open Go.Sort
/-- Those of some names. -/
def partM (B : List Bytes) (ms : List MT) : List MT := ms.filter fun m => B.contains m.nm
theorem find_part {α : Type} {p q : α → Bool} : ∀ {l : List α} {m : α}, l.find? p = some m → q m = true → l.find? (fun a => q a && p a) = some m
 | x :: r, m, h, hq => by
  rw [List.find?_cons] at h ⊢
  cases hp : p x with
  | true =>
   rw [hp] at h
   simp only at h
   cases h
   rw [hq]; rfl
  | false =>
   rw [hp] at h
   simp only at h
   rw [Bool.and_false]
   exact find_part h hq
theorem find_congr {α : Type} {p q : α → Bool} : ∀ {l : List α}, (∀ x ∈ l, p x = q x) → l.find? p = l.find? q
 | [], _ => rfl
 | x :: r, h => by rw [List.find?_cons, List.find?_cons, h x (by simp), find_congr (fun y hy => h y (by simp [hy]))]
theorem next_part {ms : List MT} {B out : List Bytes} (hc : ∀ m ∈ ms, m.nm ∈ B → ∀ u ∈ usesM m, u ∈ B) {n : Bytes} (h : nextN ms out = some n) (hn : n ∈ B) : nextN (partM B ms) (out.filter fun x => B.contains x) = some n := by
 unfold nextN at h ⊢
 obtain ⟨m, hm, rfl⟩ := Option.map_eq_some_iff.1 h
 unfold partM
 rw [List.find?_filter]
 have hq : B.contains m.nm = true := List.contains_iff_mem.2 hn
 have h1 := find_part (q := fun x : MT => B.contains x.nm) hm hq
 have hf : ∀ (x : Bytes), x ∈ B → (out.filter fun y => B.contains y).contains x = out.contains x := fun x hx => by
  rw [Bool.eq_iff_iff, List.contains_iff_mem, List.contains_iff_mem, List.mem_filter]
  exact ⟨fun h => h.1, fun h => ⟨h, List.contains_iff_mem.2 hx⟩⟩
 have h2 : ms.find? (fun a => B.contains a.nm && canN (out.filter fun y => B.contains y) a) = ms.find? (fun a => B.contains a.nm && canN out a) := by
  refine find_congr (fun x hx => ?_)
  cases hb : B.contains x.nm with
  | false => rfl
  | true =>
   have hxB := List.contains_iff_mem.1 hb
   unfold canN
   rw [hf x.nm hxB, all_same (fun u hu => hf u (hc x hx hxB u hu))]
 have h3 : ms.find? (fun a => decide (B.contains a.nm = true ∧ canN (out.filter fun y => B.contains y) a = true)) = ms.find? (fun a => B.contains a.nm && canN (out.filter fun y => B.contains y) a) := find_congr (fun x _ => by rw [Bool.decide_and, Bool.decide_eq_true, Bool.decide_eq_true])
 rw [h3, h2, h1]; rfl
theorem ordN_part {ms : List MT} {B : List Bytes} (hc : ∀ m ∈ ms, m.nm ∈ B → ∀ u ∈ usesM m, u ∈ B) : ∀ (k : Nat) (out l : List Bytes), ordN ms k out = some l → ∃ j, ordN (partM B ms) j (out.filter fun x => B.contains x) = some (l.filter fun x => B.contains x) ∧ (l.filter fun x => B.contains x).length = (out.filter fun x => B.contains x).length + j
 | 0, out, l, h => by cases h; exact ⟨0, rfl, rfl⟩
 | k + 1, out, l, h => by
  rw [ordN] at h
  cases hn : nextN ms out with
  | none => rw [hn] at h; cases h
  | some n =>
   rw [hn] at h
   obtain ⟨j, h1, h2⟩ := ordN_part hc k (out ++ [n]) l h
   by_cases hb : n ∈ B
   ·have e : (out ++ [n]).filter (fun x => B.contains x) = out.filter (fun x => B.contains x) ++ [n] := by
     rw [List.filter_append]; simp [hb]
    rw [e] at h1 h2
    refine ⟨j + 1, ?_, by rw [h2, List.length_append, List.length_singleton]; omega⟩
    rw [ordN, next_part hc hn hb]
    exact h1
   ·have e : (out ++ [n]).filter (fun x => B.contains x) = out.filter (fun x => B.contains x) := by
     rw [List.filter_append]; simp [hb]
    rw [e] at h1 h2
    exact ⟨j, h1, h2⟩
/-- What is wanted is closed: with a name all that it uses. -/
theorem want_closed (us : Bytes → List Bytes) : ∀ (r W : List Bytes), BackOk us r → ∀ n ∈ r, n ∈ wantR us W r → ∀ u ∈ us n, u ∈ wantR us W r
 | n :: r, W, h, x, hx, hw, u, hu => by
  obtain ⟨⟨h0, h1⟩, h2⟩ := h
  rw [wantR] at hw ⊢
  rcases List.mem_cons.1 hx with e | e
  ·subst e
   by_cases hc : W.contains x = true
   ·rw [if_pos hc]
    exact wantR_keeps us r _ u (List.mem_append_right _ hu)
   ·rw [if_neg hc] at hw ⊢
    exfalso
    rcases wantR_later us r W x hw with h3 | ⟨m, hm, h3⟩
    ·exact hc (List.contains_iff_mem.2 h3)
    ·exact h1 m hm h3
  ·exact want_closed us r _ h2 x e hw u hu
/-- Each that is wanted is the one asked for, or used by one that is wanted. -/
theorem want_used (us : Bytes → List Bytes) : ∀ (r W : List Bytes) (x : Bytes), x ∈ wantR us W r → x ∈ W ∨ ∃ n ∈ r, n ∈ wantR us W r ∧ x ∈ us n
 | [], W, x, h => .inl h
 | n :: r, W, x, h => by
  rw [wantR] at h ⊢
  by_cases hc : W.contains n = true
  ·rw [if_pos hc] at h ⊢
   rcases want_used us r _ x h with h1 | ⟨m, hm, h1, h2⟩
   ·rcases List.mem_append.1 h1 with h3 | h3
    ·exact .inl h3
    ·exact .inr ⟨n, by simp, wantR_keeps us r _ n (List.mem_append_left _ (List.contains_iff_mem.1 hc)), h3⟩
   ·exact .inr ⟨m, by simp [hm], h1, h2⟩
  ·rw [if_neg hc] at h ⊢
   rcases want_used us r _ x h with h1 | ⟨m, hm, h1, h2⟩
   ·exact .inl h1
   ·exact .inr ⟨m, by simp [hm], h1, h2⟩
end Go.Proofs.YtiipjbafdhijlaaGreatDoor
namespace Go.Proofs.YtiipjbafdhijlaaGreatDoor
open Go Go.RowKit
set_option linter.unusedVariables false
set_option linter.unusedSimpArgs false
open Go.Sort
mutual
def labS : ST → List Bytes
 | .mk op nm _ _ _ _ _ sl => (if op = 6 then [nm] else []) ++ labSL sl
def labSL : List ST → List Bytes
 | [] => []
 | x :: r => labS x ++ labSL r
end
mutual
def allI : IT → List Bytes
 | .mk op nm nf _ _ _ _ _ sl _ _ ll _ _ el _ _ _ _ _ _ => nm :: ((if op = 9 then [nf] else []) ++ (allL ll ++ (allL el ++ labSL sl)))
def allL : List IT → List Bytes
 | [] => []
 | x :: r => allI x ++ allL r
end
theorem labSL_mem {x : ST} {n : Bytes} : ∀ {l : List ST}, x ∈ l → n ∈ labS x → n ∈ labSL l
 | y :: r, h, hn => by
  rw [labSL, List.mem_append]
  rcases List.mem_cons.1 h with e | e
  ·subst e; exact .inl hn
  ·exact .inr (labSL_mem e hn)
theorem allL_mem {x : IT} {n : Bytes} : ∀ {l : List IT}, x ∈ l → n ∈ allI x → n ∈ allL l
 | y :: r, h, hn => by
  rw [allL, List.mem_append]
  rcases List.mem_cons.1 h with e | e
  ·subst e; exact .inl hn
  ·exact .inr (allL_mem e hn)
theorem stB_on : ∀ x : ST, ∀ ch ar : List Bytes, (∀ k ∈ labS x, k ∈ ch ↔ k ∈ ar) → stB ch x = stB ar x := ST.ind fun op nm xa xc xl sa sc sl ih ch ar h => by
 rw [stB, stB]
 by_cases h6 : op = 6
 ·rw [if_pos h6, if_pos h6, stBL_all, stBL_all]
  have h1 : ch.contains nm = ar.contains nm := by
   rw [Bool.eq_iff_iff, List.contains_iff_mem, List.contains_iff_mem]
   exact h nm (by rw [labS, if_pos h6]; simp)
  rw [h1, all_same (fun y hy => ih y hy (ch ++ [nm]) (ar ++ [nm]) (fun k hk => by
   rw [List.mem_append, List.mem_append, h k (by rw [labS]; exact List.mem_append_right _ (labSL_mem hy hk))]))]
 ·rw [if_neg h6, if_neg h6, stBL_all, stBL_all, all_same (fun y hy => ih y hy ch ar (fun k hk => h k (by rw [labS]; exact List.mem_append_right _ (labSL_mem hy hk))))]
/-- What is told is among all. -/
theorem toldA_all_of : ∀ (l : List IT), (∀ x ∈ l, ∀ n ∈ (toldI x).1, n ∈ allI x) → ∀ n ∈ (toldA ([], true) l).1, n ∈ allL l
 | [], _, n, h => by rw [toldA] at h; cases h
 | x :: r, hx, n, h => by
  have t2 := toldA_from r ((toldI x).1.foldl tell1 ([], true && (toldI x).2))
  have f2 := tell1_fold (toldI x).1 ([], true && (toldI x).2)
  have e2 : ((toldI x).1.foldl tell1 ([], true && (toldI x).2)).1 = (toldI x).1 := by rw [f2.1]; rfl
  rw [toldA, t2.1, e2] at h
  rw [allL, List.mem_append]
  rcases List.mem_append.1 h with h | h
  ·exact .inl (hx x (by simp) n h)
  ·exact .inr (toldA_all_of r (fun y hy => hx y (by simp [hy])) n h)
theorem toldI_all : ∀ x : IT, ∀ n ∈ (toldI x).1, n ∈ allI x := IT.ind fun op nm nf xa xc xl sa sc sl la lc ll ea ec el pa pc pl ba bc bl ih0 ih1 n h => by
 rw [toldI] at h
 rw [allI]
 by_cases h8 : op = 8
 ·rw [if_pos h8] at h
  rcases (addN_in _ _ _).1 h with h | h
  ·have := toldA_all_of ll ih0 n h; simp [this]
  ·have := toldA_all_of el ih1 n h; simp [this]
 ·rw [if_neg h8] at h
  split at h
  ·simp only [List.mem_singleton] at h; simp [h]
  ·cases h
theorem toldA_all (l : List IT) : ∀ n ∈ (toldA ([], true) l).1, n ∈ allL l := toldA_all_of l (fun x _ => toldI_all x)
/-- Whether scopes are right hangs on those names alone that stand there. -/
theorem innI_on : ∀ x : IT, ∀ ch ar : List Bytes, (∀ k ∈ allI x, k ∈ ch ↔ k ∈ ar) → innI ch x = innI ar x := IT.ind fun op nm nf xa xc xl sa sc sl la lc ll ea ec el pa pc pl ba bc bl ih0 ih1 ch ar h => by
 have hs : ∀ k ∈ labSL sl, k ∈ ch ↔ k ∈ ar := fun k hk => h k (by rw [allI]; simp [hk])
 have hl : ∀ k ∈ allL ll, k ∈ ch ↔ k ∈ ar := fun k hk => h k (by rw [allI]; simp [hk])
 have he : ∀ k ∈ allL el, k ∈ ch ↔ k ∈ ar := fun k hk => h k (by rw [allI]; simp [hk])
 rw [innI, innI, stBL_all, stBL_all, all_same (fun y hy => stB_on y ch ar (fun k hk => hs k (labSL_mem hy hk)))]
 by_cases h8 : op = 8
 ·rw [if_pos h8, if_pos h8, innL_all, innL_all, innL_all, innL_all, all_same (fun y hy => ih0 y hy ch ar (fun k hk => hl k (allL_mem hy hk))), all_same (fun y hy => ih1 y hy ch ar (fun k hk => he k (allL_mem hy hk)))]
 ·rw [if_neg h8, if_neg h8]
  by_cases h9 : op = 9
  ·rw [if_pos h9, if_pos h9]
   obtain ⟨T, hT⟩ : ∃ T, tell1 (toldA ([], true) ll) nf = T := ⟨_, rfl⟩
   have hO : ∀ k ∈ T.1, k ∈ ch ↔ k ∈ ar := by
    intro k hk
    rw [← hT] at hk
    simp only [tell1, List.mem_append, List.mem_singleton] at hk
    rcases hk with hk | hk
    ·exact hl k (toldA_all ll k hk)
    ·subst hk; exact h k (by rw [allI, if_pos h9]; simp)
   rw [hT]
   have e1 : T.1.all (fun n => !ch.contains n) = T.1.all (fun n => !ar.contains n) := all_same (fun n hn => by
    have : ch.contains n = ar.contains n := by rw [Bool.eq_iff_iff, List.contains_iff_mem, List.contains_iff_mem]; exact hO n hn
    rw [this])
   rw [e1, innL_all, innL_all, all_same (fun y hy => ih0 y hy (ch ++ T.1) (ar ++ T.1) (fun k hk => by rw [List.mem_append, List.mem_append, hl k (allL_mem hy hk)]))]
  ·rw [if_neg h9, if_neg h9]
theorem innL_on (l : List IT) (ch ar : List Bytes) (h : ∀ k ∈ allL l, k ∈ ch ↔ k ∈ ar) : innL ch l = innL ar l := by
 rw [innL_all, innL_all]; exact all_same (fun y hy => innI_on y ch ar (fun k hk => h k (allL_mem hy hk)))
/-- All names that a module tells, in whatever scope. -/
def allM (m : MT) : List Bytes := allL m.il ++ headM m
def withI (m : MT) (x : IT) : MT := { m with il := m.il ++ [x] }
theorem toldA_app (l : List IT) (x : IT) (s : List Bytes × Bool) : toldA s (l ++ [x]) = (toldI x).1.foldl tell1 ((toldA s l).1, (toldA s l).2 && (toldI x).2) := by
 induction l generalizing s with
 | nil => rfl
 | cons y r ih => rw [List.cons_append, toldA, ih]; rfl
/-- An item that tells one name in its scope, and has no scope of its own. -/
structure OneI (x : IT) (n : Bytes) : Prop where
 told : toldI x = ([n], true)
 inn : ∀ ar, innI ar x = true
/-- A name that stands nowhere in a module may be told in it. -/
theorem right_fresh (m : MT) (x : IT) (n : Bytes) (hx : OneI x n) (hn : n ∉ allM m) : rightM (withI m x) = rightM m := by
 have hn1 : n ∉ allL m.il := fun h => hn (List.mem_append_left _ h)
 have hn2 : n ∉ headM m := fun h => hn (List.mem_append_right _ h)
 have hnP : n ∉ m.pl.map (·.nm) := fun h => hn2 (List.mem_append_left _ h)
 have hnQ : n ∉ m.tl.map (·.nm) := fun h => hn2 (List.mem_append_right _ h)
 obtain ⟨P, hP⟩ : ∃ P, m.pl.map (·.nm) = P := ⟨_, rfl⟩
 obtain ⟨Q, hQ⟩ : ∃ Q, m.tl.map (·.nm) = Q := ⟨_, rfl⟩
 rw [hP] at hnP
 rw [hQ] at hnQ
 obtain ⟨T0, hT0⟩ : ∃ T, toldA ([], true) m.il = T := ⟨_, rfl⟩
 have hnT : n ∉ T0.1 := fun h => hn1 (toldA_all m.il n (by rw [hT0]; exact h))
 have hU : toldA ([], true) (m.il ++ [x]) = (T0.1 ++ [n], T0.2 && !T0.1.contains n) := by
  rw [toldA_app, hT0, hx.told]; simp [tell1]
 have hcT : T0.1.contains n = false := by
  cases hc : T0.1.contains n
  ·rfl
  ·exact absurd (List.contains_iff_mem.1 hc) hnT
 rw [hcT, Bool.not_false, Bool.and_true] at hU
 have a1 := tell1_fold Q T0
 have a2 := tell1_fold P (Q.foldl tell1 T0)
 have b1 := tell1_fold Q (T0.1 ++ [n], T0.2)
 have b2 := tell1_fold P (Q.foldl tell1 (T0.1 ++ [n], T0.2))
 have ea : (Q.foldl tell1 T0).1 = T0.1 ++ Q := by rw [a1.1]
 have eb : (Q.foldl tell1 (T0.1 ++ [n], T0.2)).1 = T0.1 ++ [n] ++ Q := by rw [b1.1]
 have hA : toldM m = P.foldl tell1 (Q.foldl tell1 T0) := by unfold toldM; rw [hP, hQ, hT0]
 have hB : toldM (withI m x) = P.foldl tell1 (Q.foldl tell1 (T0.1 ++ [n], T0.2)) := by
  show (m.pl.map (·.nm)).foldl tell1 ((m.tl.map (·.nm)).foldl tell1 (toldA ([], true) (m.il ++ [x]))) = _
  rw [hP, hQ, hU]
 have hok : (toldM (withI m x)).2 = (toldM m).2 := by
  rw [hA, hB, Bool.eq_iff_iff, a2.2, b2.2, ea, eb, a1.2, b1.2]
  simp only [List.mem_append, List.mem_singleton]
  constructor
  ·rintro ⟨⟨c1, c2, c3⟩, c4, c5⟩
   exact ⟨⟨c1, c2, fun y hy h => c3 y hy (.inl h)⟩, c4, fun y hy h => c5 y hy (h.elim (fun h => .inl (.inl h)) .inr)⟩
  ·rintro ⟨⟨c1, c2, c3⟩, c4, c5⟩
   refine ⟨⟨c1, c2, ?_⟩, c4, ?_⟩
   ·rintro y hy (h | h)
    ·exact c3 y hy h
    ·subst h; exact hnQ hy
   ·rintro y hy ((h | h) | h)
    ·exact c5 y hy (.inl h)
    ·subst h; exact hnP hy
    ·exact c5 y hy (.inr h)
 have hL : ∀ k, k ∈ (toldM (withI m x)).1 ↔ k = n ∨ k ∈ (toldM m).1 := by
  intro k
  rw [hA, hB, a2.1, b2.1, ea, eb]
  simp only [List.mem_append, List.mem_singleton]
  constructor
  ·rintro (((h | h) | h) | h)
   ·exact .inr (.inl (.inl h))
   ·exact .inl h
   ·exact .inr (.inl (.inr h))
   ·exact .inr (.inr h)
  ·rintro (h | (h | h) | h)
   ·exact .inl (.inl (.inr h))
   ·exact .inl (.inl (.inl h))
   ·exact .inl (.inr h)
   ·exact .inr h
 unfold rightM
 rw [hok]
 congr 1
 show innL (toldM (withI m x)).1 (m.il ++ [x]) = _
 rw [innL_all, List.all_append, ← innL_all]
 have hxx : [x].all (innI (toldM (withI m x)).1) = true := by simp [hx.inn]
 rw [hxx, Bool.and_true]
 refine innL_on m.il _ _ (fun k hk => ?_)
 rw [hL k]
 constructor
 ·rintro (h | h)
  ·subst h; exact absurd hk hn1
  ·exact h
 ·exact .inr
/-- A name that is told in a module's scope may not be told again in it. -/
theorem right_again (m : MT) (x : IT) (n : Bytes) (hx : OneI x n) (hn : n ∈ (toldM m).1) : rightM (withI m x) = false := by
 obtain ⟨P, hP⟩ : ∃ P, m.pl.map (·.nm) = P := ⟨_, rfl⟩
 obtain ⟨Q, hQ⟩ : ∃ Q, m.tl.map (·.nm) = Q := ⟨_, rfl⟩
 obtain ⟨T0, hT0⟩ : ∃ T, toldA ([], true) m.il = T := ⟨_, rfl⟩
 have hU : toldA ([], true) (m.il ++ [x]) = (T0.1 ++ [n], T0.2 && !T0.1.contains n) := by
  rw [toldA_app, hT0, hx.told]; simp [tell1]
 have a1 := tell1_fold Q T0
 have a2 := tell1_fold P (Q.foldl tell1 T0)
 have b1 := tell1_fold Q (T0.1 ++ [n], T0.2 && !T0.1.contains n)
 have b2 := tell1_fold P (Q.foldl tell1 (T0.1 ++ [n], T0.2 && !T0.1.contains n))
 have ea : (Q.foldl tell1 T0).1 = T0.1 ++ Q := by rw [a1.1]
 have eb : (Q.foldl tell1 (T0.1 ++ [n], T0.2 && !T0.1.contains n)).1 = T0.1 ++ [n] ++ Q := by rw [b1.1]
 have hA : toldM m = P.foldl tell1 (Q.foldl tell1 T0) := by unfold toldM; rw [hP, hQ, hT0]
 have hB : toldM (withI m x) = P.foldl tell1 (Q.foldl tell1 (T0.1 ++ [n], T0.2 && !T0.1.contains n)) := by
  show (m.pl.map (·.nm)).foldl tell1 ((m.tl.map (·.nm)).foldl tell1 (toldA ([], true) (m.il ++ [x]))) = _
  rw [hP, hQ, hU]
 have hok : (toldM (withI m x)).2 = false := by
  cases hc : (toldM (withI m x)).2 with
  | false => rfl
  | true =>
   exfalso
   rw [hB, b2.2, eb, b1.2] at hc
   obtain ⟨⟨c1, c2, c3⟩, c4, c5⟩ := hc
   rw [hA, a2.1, ea] at hn
   simp only [List.mem_append, List.mem_singleton] at hn c3 c5
   rcases hn with (h | h) | h
   ·rw [Bool.and_eq_true, List.contains_iff_mem.2 h] at c1; cases c1.2
   ·exact c3 n h (.inr rfl)
   ·exact c5 n h (.inl (.inr rfl))
 unfold rightM
 rw [hok]; rfl
end Go.Proofs.YtiipjbafdhijlaaGreatDoor
namespace Go.Proofs.YtiipjbafdhijlaaGreatDoor
open Go Go.RowKit
set_option linter.unusedVariables false
set_option linter.unusedSimpArgs false
open Go.Sort
/-- What holds of those asked for, and with a name of all that it uses, holds of all that are wanted. -/
theorem want_inv (us : Bytes → List Bytes) (Q : Bytes → Prop) : ∀ (r W : List Bytes), (∀ x ∈ W, Q x) → (∀ n ∈ r, Q n → ∀ u ∈ us n, Q u) → ∀ x ∈ wantR us W r, Q x
 | [], W, hW, _, x, hx => hW x hx
 | n :: r, W, hW, hs, x, hx => by
  rw [wantR] at hx
  refine want_inv us Q r _ ?_ (fun m hm => hs m (by simp [hm])) x hx
  intro y hy
  by_cases hc : W.contains n = true
  ·rw [if_pos hc] at hy
   rcases List.mem_append.1 hy with h | h
   ·exact hW y h
   ·exact hs n (by simp) (hW n (List.contains_iff_mem.1 hc)) y h
  ·rw [if_neg hc] at hy
   exact hW y hy
theorem idx_take {o : List Bytes} {u : Bytes} {i : Nat} (h : u ∈ o.take i) : o.idxOf u < i := by
 have h1 : o.idxOf u = (o.take i).idxOf u := by
  conv => lhs; rw [← List.take_append_drop i o]
  rw [List.idxOf_append, if_pos h]
 have h2 := List.idxOf_lt_length_of_mem h
 rw [List.length_take] at h2
 omega
/-- Each module stands behind what it uses. -/
theorem idx_uses {ms : List MT} (hd : (ms.map (·.nm)).Nodup) {o : List Bytes} (h : OrdOk ms o) {m : MT} (hm : m ∈ ms) (ho : m.nm ∈ o) : ∀ u ∈ usesM m, o.idxOf u < o.idxOf m.nm := by
 intro u hu
 have hi : o.idxOf m.nm < o.length := List.idxOf_lt_length_of_mem ho
 obtain ⟨x, hx, hn, hb⟩ := h.behind _ hi
 rw [List.getElem_idxOf hi] at hn
 have e : x = m := by
  have h1 := find_nm hd hx
  have h2 := find_nm hd hm
  rw [hn, h2] at h1
  exact (Option.some.inj h1).symm
 subst e
 exact idx_take (hb u hu)
/-- No order of modules, one of which uses one that is made of it. -/
theorem no_ring {ms : List MT} (hd : (ms.map (·.nm)).Nodup) {o : List Bytes} (h : OrdOk ms o) (us : Bytes → List Bytes) (r : List Bytes) (top : Bytes) (hr : ∀ n ∈ r, ∃ m ∈ ms, m.nm = n ∧ n ∈ o ∧ ∀ u ∈ us n, u ∈ usesM m) {x : Bytes} (hx : x ∈ wantR us [top] r) {m : MT} (hm : m ∈ ms) (hmn : m.nm = x) (hmo : x ∈ o) (hu : top ∈ usesM m) : False := by
 have h1 : o.idxOf x ≤ o.idxOf top := by
  refine want_inv us (fun y => o.idxOf y ≤ o.idxOf top) r [top] (fun y hy => ?_) (fun n hn hq u hu2 => ?_) x hx
  ·rw [List.mem_singleton.1 hy]; exact Nat.le_refl _
  ·obtain ⟨m2, hm2, hn2, ho2, hs⟩ := hr n hn
   have := idx_uses hd h hm2 (by rw [hn2]; exact ho2) u (hs u hu2)
   rw [hn2] at this
   omega
 have h2 := idx_uses hd h hm (by rw [hmn]; exact hmo) top hu
 rw [hmn] at h2
 omega
/-- With an instance more a module uses what it did, and that. -/
theorem instL_app (l : List IT) (x : IT) : instL (l ++ [x]) = instL l ++ instI x := by
 induction l with
 | nil => rw [List.nil_append, instL, instL, instL]; simp
 | cons y r ih => rw [List.cons_append, instL, instL, ih, List.append_assoc]
theorem usesM_more (m : MT) (x : IT) (u : Bytes) : u ∈ usesM (withI m x) ↔ u ∈ usesM m ∨ u ∈ instI x := by
 show u ∈ addN [] (instL (m.il ++ [x])) ↔ _
 unfold usesM
 rw [instL_app, addN_in, addN_in, List.mem_append]
 simp
end Go.Proofs.YtiipjbafdhijlaaGreatDoor
namespace Go.Proofs.YtiipjbafdhijlaaGreatDoor
open Go Go.RowKit
set_option linter.unusedVariables false
set_option linter.unusedSimpArgs false
open Go.Sort
theorem all_mono {α : Type} {p q : α → Bool} : ∀ {l : List α}, (∀ x ∈ l, p x = true → q x = true) → l.all p = true → l.all q = true
 | [], _, _ => rfl
 | x :: r, h, hp => by
  rw [List.all_cons, Bool.and_eq_true] at hp ⊢
  exact ⟨h x (by simp) hp.1, all_mono (fun y hy => h y (by simp [hy])) hp.2⟩
theorem ncont {l : List Bytes} {n : Bytes} : (!l.contains n) = true ↔ n ∉ l := by
 rw [Bool.not_eq_true']
 constructor
 ·intro h hm; rw [List.contains_iff_mem.2 hm] at h; cases h
 ·intro h
  cases hc : l.contains n
  ·rfl
  ·exact absurd (List.contains_iff_mem.1 hc) h
/-- With fewer names around what was right is right. -/
theorem stB_mono : ∀ x : ST, ∀ ch ar : List Bytes, (∀ k ∈ ch, k ∈ ar) → stB ar x = true → stB ch x = true := ST.ind fun op nm xa xc xl sa sc sl ih ch ar h hr => by
 rw [stB] at hr ⊢
 by_cases h6 : op = 6
 ·rw [if_pos h6, Bool.and_eq_true, ncont] at hr
  rw [if_pos h6, Bool.and_eq_true, ncont]
  refine ⟨fun hc => hr.1 (h nm hc), ?_⟩
  have h2 := hr.2
  rw [stBL_all] at h2 ⊢
  exact all_mono (fun y hy => ih y hy (ch ++ [nm]) (ar ++ [nm]) (fun k hk => by
   rcases List.mem_append.1 hk with e | e
   ·exact List.mem_append_left _ (h k e)
   ·exact List.mem_append_right _ e)) h2
 ·rw [if_neg h6] at hr ⊢
  rw [stBL_all] at hr ⊢
  exact all_mono (fun y hy => ih y hy ch ar h) hr
theorem innI_mono : ∀ x : IT, ∀ ch ar : List Bytes, (∀ k ∈ ch, k ∈ ar) → innI ar x = true → innI ch x = true := IT.ind fun op nm nf xa xc xl sa sc sl la lc ll ea ec el pa pc pl ba bc bl ih0 ih1 ch ar h hr => by
 rw [innI, Bool.and_eq_true] at hr ⊢
 refine ⟨?_, ?_⟩
 ·have h1 := hr.1
  rw [stBL_all] at h1 ⊢
  exact all_mono (fun y _ => stB_mono y ch ar h) h1
 ·have h2 := hr.2
  by_cases h8 : op = 8
  ·rw [if_pos h8, Bool.and_eq_true, innL_all, innL_all] at h2
   rw [if_pos h8, Bool.and_eq_true, innL_all, innL_all]
   exact ⟨all_mono (fun y hy => ih0 y hy ch ar h) h2.1, all_mono (fun y hy => ih1 y hy ch ar h) h2.2⟩
  ·rw [if_neg h8] at h2 ⊢
   by_cases h9 : op = 9
   ·rw [if_pos h9, Bool.and_eq_true, Bool.and_eq_true, innL_all] at h2
    rw [if_pos h9, Bool.and_eq_true, Bool.and_eq_true, innL_all]
    refine ⟨h2.1, all_mono (fun n _ hn => ?_) h2.2.1, all_mono (fun y hy => ih0 y hy _ _ (fun k hk => ?_)) h2.2.2⟩
    ·rw [ncont] at hn ⊢; exact fun hc => hn (h n hc)
    ·rcases List.mem_append.1 hk with e | e
     ·exact List.mem_append_left _ (h k e)
     ·exact List.mem_append_right _ e
   ·rw [if_neg h9]
theorem innL_mono (l : List IT) (ch ar : List Bytes) (h : ∀ k ∈ ch, k ∈ ar) (hr : innL ar l = true) : innL ch l = true := by
 rw [innL_all] at hr ⊢
 exact all_mono (fun y _ => innI_mono y ch ar h) hr
theorem addN_self : ∀ (m l : List Bytes), (∀ n ∈ m, n ∈ l) → addN l m = l
 | [], l, _ => rfl
 | n :: r, l, h => by
  rw [addN, if_pos (List.contains_iff_mem.2 (h n (by simp)))]
  exact addN_self r l (fun y hy => h y (by simp [hy]))
/-- A module of items alone. -/
def soleM (nm : Bytes) (l : List IT) (ia : Option Addr) (ic : Nat) : MT := ⟨nm, none, 0, [], none, 0, [], ia, ic, l⟩
theorem sole_told (nm : Bytes) (l : List IT) (ia : Option Addr) (ic : Nat) : toldM (soleM nm l ia ic) = toldA ([], true) l := rfl
theorem sole_right (nm : Bytes) (l : List IT) (ia : Option Addr) (ic : Nat) : rightM (soleM nm l ia ic) = ((toldA ([], true) l).2 && innL (toldA ([], true) l).1 l) := rfl
/-- One item alone. -/
theorem toldA_one (x : IT) : (toldA ([], true) [x]).1 = (toldI x).1 ∧ ((toldA ([], true) [x]).2 = true ↔ (toldI x).2 = true) := by
 have f := tell1_fold (toldI x).1 ([], true && (toldI x).2)
 rw [toldA, toldA, f.2, f.1]
 refine ⟨rfl, ?_⟩
 simp only [Bool.true_and, List.not_mem_nil, not_false_eq_true, implies_true, and_true]
 exact ⟨fun h => h.1, fun h => ⟨h, toldI_nodup x h⟩⟩
/-- A choice: its two sides, and no statements. -/
structure ChoI (x : IT) (l m : List IT) : Prop where
 told : toldI x = (addN (toldA ([], true) l).1 (toldA ([], true) m).1, (toldA ([], true) l).2 && (toldA ([], true) m).2)
 inn : ∀ ar, innI ar x = (innL ar l && innL ar m)
theorem cho_of (nm nf : Bytes) (xa : Option Addr) (xc : Nat) (xl : List XT) (sa : Option Addr) (sc : Nat) (la : Option Addr) (lc : Nat) (ll : List IT) (ea : Option Addr) (ec : Nat) (el : List IT) (pa : Option Addr) (pc : Nat) (pl : List BT) (ba : Option Addr) (bc : Nat) (bl : List BT) : ChoI (.mk 8 nm nf xa xc xl sa sc [] la lc ll ea ec el pa pc pl ba bc bl) ll el :=
 ⟨by rw [toldI, if_pos rfl], fun ar => by rw [innI, if_pos rfl, stBL, Bool.true_and]⟩
/-- Both sides of a choice may be what is right by itself. -/
theorem alike_right {x : IT} {l : List IT} (hx : ChoI x l l) (h : ((toldA ([], true) l).2 && innL (toldA ([], true) l).1 l) = true) : ((toldA ([], true) [x]).2 && innL (toldA ([], true) [x]).1 [x]) = true := by
 rw [Bool.and_eq_true] at h
 have h1 := toldA_one x
 have he : (toldI x).1 = (toldA ([], true) l).1 := by rw [hx.told]; exact addN_self _ _ (fun n hn => hn)
 have ho : (toldI x).2 = true := by rw [hx.told]; simp [h.1]
 rw [h1.2.2 ho, h1.1, he, innL, innL, hx.inn, h.2]; rfl
/-- What is told once may not be told by a choice, too. -/
theorem beside_wrong {x : IT} {l m : List IT} (hx : ChoI x l m) (hn : (toldA ([], true) l).1 ≠ []) : (toldA ([], true) (l ++ [x])).2 = false := by
 cases hc : (toldA ([], true) (l ++ [x])).2 with
 | false => rfl
 | true =>
  exfalso
  rw [toldA_app] at hc
  have f := (tell1_fold (toldI x).1 ((toldA ([], true) l).1, (toldA ([], true) l).2 && (toldI x).2)).2.1 hc
  cases hT : (toldA ([], true) l).1 with
  | nil => exact hn hT
  | cons n r =>
   have h1 : n ∈ (toldI x).1 := by rw [hx.told, addN_in]; left; rw [hT]; simp
   exact f.2.2 n h1 (by simp [hT])
/-- If a choice is right so is each of its sides, by itself. -/
theorem sides_right {x : IT} {l m : List IT} (hx : ChoI x l m) (h : ((toldA ([], true) [x]).2 && innL (toldA ([], true) [x]).1 [x]) = true) : ((toldA ([], true) l).2 && innL (toldA ([], true) l).1 l) = true ∧ ((toldA ([], true) m).2 && innL (toldA ([], true) m).1 m) = true := by
 rw [Bool.and_eq_true] at h
 have h1 := toldA_one x
 have ho := h1.2.1 h.1
 rw [hx.told] at ho
 have h2 := h.2
 rw [h1.1, innL, innL, hx.inn, Bool.and_true, Bool.and_eq_true, hx.told] at h2
 simp only [Bool.and_eq_true] at ho
 refine ⟨?_, ?_⟩
 ·rw [ho.1, Bool.true_and]
  exact innL_mono l _ _ (fun k hk => (addN_in _ _ _).2 (.inl hk)) h2.1
 ·rw [ho.2, Bool.true_and]
  exact innL_mono m _ _ (fun k hk => (addN_in _ _ _).2 (.inr hk)) h2.2
/-- A loop: its label, its variable, its items. -/
structure LoopI (x : IT) (lab var : Bytes) (l : List IT) : Prop where
 told : toldI x = ([lab], true)
 inn : ∀ ar, innI ar x = ((tell1 (toldA ([], true) l) var).2 && ((tell1 (toldA ([], true) l) var).1.all (fun n => !ar.contains n) && innL (ar ++ (tell1 (toldA ([], true) l) var).1) l))
theorem loop_of (nm nf : Bytes) (xa : Option Addr) (xc : Nat) (xl : List XT) (sa : Option Addr) (sc : Nat) (la : Option Addr) (lc : Nat) (ll : List IT) (ea : Option Addr) (ec : Nat) (el : List IT) (pa : Option Addr) (pc : Nat) (pl : List BT) (ba : Option Addr) (bc : Nat) (bl : List BT) : LoopI (.mk 9 nm nf xa xc xl sa sc [] la lc ll ea ec el pa pc pl ba bc bl) nm nf ll :=
 ⟨by rw [toldI, if_neg (by decide), if_pos (by decide)], fun ar => by rw [innI, if_neg (by decide), if_pos rfl, stBL, Bool.true_and]⟩
theorem told_two {x y : IT} {a b : Bytes} (hx : toldI x = ([a], true)) (hy : toldI y = ([b], true)) : (toldA ([], true) [x, y]).1 = [a, b] ∧ ((toldA ([], true) [x, y]).2 = true ↔ b ≠ a) := by
 rw [toldA, toldA, toldA, hx, hy]
 refine ⟨rfl, ?_⟩
 simp [tell1]
/-- Two loops, one beside the other: the second one's label is told nowhere in the first one. -/
theorem loops_beside {x y : IT} {a b var : Bytes} {l : List IT} (hx : LoopI x a var l) (hy : LoopI y b var l) (h : ((toldA ([], true) [x]).2 && innL (toldA ([], true) [x]).1 [x]) = true) (hab : b ≠ a) (hbl : b ∉ allL l) (hbv : var ≠ b) : ((toldA ([], true) [x, y]).2 && innL (toldA ([], true) [x, y]).1 [x, y]) = true := by
 rw [Bool.and_eq_true] at h
 have h1 := toldA_one x
 have h2 := h.2
 rw [h1.1, hx.told, innL, innL, Bool.and_true] at h2
 have ht := told_two hx.told hy.told
 rw [ht.2.2 hab, ht.1, innL, innL, innL, Bool.true_and, Bool.and_true, hy.inn, ← hx.inn]
 have e : innI [a, b] x = innI [a] x := by
  rw [hx.inn, hx.inn]
  have hT : ∀ n ∈ (tell1 (toldA ([], true) l) var).1, n ≠ b := by
   intro n hn
   simp only [tell1, List.mem_append, List.mem_singleton] at hn
   rcases hn with hn | hn
   ·intro e; subst e; exact hbl (toldA_all l n hn)
   ·subst hn; exact hbv
  have e1 : (tell1 (toldA ([], true) l) var).1.all (fun n => ![a, b].contains n) = (tell1 (toldA ([], true) l) var).1.all (fun n => ![a].contains n) := all_same (fun n hn => by
   congr 1
   rw [Bool.eq_iff_iff, List.contains_iff_mem, List.contains_iff_mem]
   simp [hT n hn])
  rw [e1, innL_on l ([a, b] ++ (tell1 (toldA ([], true) l) var).1) ([a] ++ (tell1 (toldA ([], true) l) var).1) (fun k hk => by
   have : k ≠ b := fun e => by subst e; exact hbl hk
   simp [this])]
 rw [e, h2]; rfl
/-- One within the other, and beside it: its label is told twice. -/
theorem loops_deep {x y : IT} {a b v w : Bytes} {l : List IT} (hx : LoopI x a v l) (hy : LoopI y b w [x]) : ((toldA ([], true) [x, y]).2 && innL (toldA ([], true) [x, y]).1 [x, y]) = false := by
 have ht := told_two hx.told hy.told
 rw [Bool.and_eq_false_iff]
 right
 rw [ht.1, innL, innL, innL, hy.inn]
 have hT : a ∈ (tell1 (toldA ([], true) [x]) w).1 := by
  simp only [tell1, List.mem_append]
  left
  rw [(toldA_one x).1, hx.told]; simp
 have : (tell1 (toldA ([], true) [x]) w).1.all (fun n => ![a, b].contains n) = false := by
  rw [List.all_eq_false]
  exact ⟨a, hT, by simp⟩
 rw [this]; simp
end Go.Proofs.YtiipjbafdhijlaaGreatDoor
namespace Go.Proofs.YtiipjbafdhijlaaGreatDoor
open Go Go.RowKit
set_option linter.unusedVariables false
set_option linter.unusedSimpArgs false
open Go.Sort
end Go.Proofs.YtiipjbafdhijlaaGreatDoor
namespace Go.Proofs.YtiipjbafdhijlaaGreatDoor
open Go Go.RowKit
set_option linter.unusedVariables false
set_option linter.unusedSimpArgs false
open Go.Sort
end Go.Proofs.YtiipjbafdhijlaaGreatDoor
namespace Go.Proofs.YtiipjbafdhijlaaGreatDoor
open Go Go.RowKit
set_option linter.unusedVariables false
set_option linter.unusedSimpArgs false
open Go.Sort
attribute [local go_sem] Oper.semAt_some
def sumU (ml : List MT) (r : List Bytes) : Nat := (r.map fun s => (usN ml s).length).sum
theorem sumU_snoc (ml : List MT) (r : List Bytes) (s : Bytes) : sumU ml (r ++ [s]) = sumU ml r + (usN ml s).length := by simp [sumU]
theorem usN_cons (m : MT) (ml : List MT) (s : Bytes) : usN (m :: ml) s = if m.nm = s then usesM m else usN ml s := by
 unfold usN
 rw [List.find?_cons]
 by_cases e : m.nm = s
 ·simp [e]
 ·have : (m.nm == s) = false := by simpa using e
  rw [this, if_neg e]
theorem sumU_not (m : MT) (ml : List MT) : ∀ r : List Bytes, m.nm ∉ r → sumU (m :: ml) r = sumU ml r
 | [], _ => rfl
 | s :: r, h => by
  rw [List.mem_cons, not_or] at h
  have := sumU_not m ml r h.2
  simp only [sumU, List.map_cons, List.sum_cons] at this ⊢
  rw [this, usN_cons, if_neg h.1]
theorem sumU_one (m : MT) (ml : List MT) : ∀ r : List Bytes, r.Nodup → sumU (m :: ml) r ≤ (usesM m).length + sumU ml r
 | [], _ => Nat.zero_le _
 | s :: r, h => by
  rw [List.nodup_cons] at h
  by_cases e : m.nm = s
  ·subst e
   have := sumU_not m ml r h.1
   simp only [sumU, List.map_cons, List.sum_cons] at this ⊢
   rw [this, usN_cons, if_pos rfl]
   omega
  ·have := sumU_one m ml r h.2
   simp only [sumU, List.map_cons, List.sum_cons] at this ⊢
   rw [usN_cons, if_neg e]
   omega
theorem sumU_le : ∀ (ml : List MT) (r : List Bytes), r.Nodup → sumU ml r ≤ MT.bkL ml
 | [], r, h => by
  have : ∀ r : List Bytes, sumU [] r = 0 := by
   intro r
   induction r with
   | nil => rfl
   | cons s r ih => simp only [sumU, List.map_cons, List.sum_cons] at ih ⊢; rw [ih]; rfl
  rw [this]; exact Nat.zero_le _
 | m :: ml, r, h => by
  have h1 := sumU_one m ml r h
  have h2 := sumU_le ml r h
  have h3 := (usesM_len m).1
  have h4 : MT.bkL (m :: ml) = m.bk + MT.bkL ml ∨ MT.bkL (m :: ml) = 1 + m.bk + MT.bkL ml := by first | exact .inl rfl | exact .inr rfl
  omega
end Go.Proofs.YtiipjbafdhijlaaGreatDoor
namespace Go.Proofs.YtiipjbafdhijlaaGreatDoor
open Go Go.RowKit
set_option linter.unusedVariables false
set_option linter.unusedSimpArgs false
open Go.Sort
end Go.Proofs.YtiipjbafdhijlaaGreatDoor
namespace Go.Proofs.YtiipjbafdhijlaaGreatDoor
open Go Go.RowKit
set_option linter.unusedVariables false
set_option linter.unusedSimpArgs false
open Go.Sort
attribute [local go_sem] Oper.semAt_some
end Go.Proofs.YtiipjbafdhijlaaGreatDoor
namespace Go.Proofs.YtiipjbafdhijlaaGreatDoor
open Go Go.RowKit
set_option linter.unusedVariables false
set_option linter.unusedSimpArgs false
open Go.Sort
end Go.Proofs.YtiipjbafdhijlaaGreatDoor
namespace Go.Proofs.YtiipjbafdhijlaaGreatDoor
open Go Go.RowKit
set_option linter.unusedVariables false
set_option linter.unusedSimpArgs false
open Go.Sort
end Go.Proofs.YtiipjbafdhijlaaGreatDoor
namespace Go.Proofs.YtiipjbafdhijlaaGreatDoor
open Go Go.RowKit
set_option linter.unusedVariables false
set_option linter.unusedSimpArgs false
open Go.Sort
end Go.Proofs.YtiipjbafdhijlaaGreatDoor
namespace Go.Proofs.YtiipjbafdhijlaaGreatDoor
open Go Go.RowKit
set_option linter.unusedVariables false
set_option linter.unusedSimpArgs false
open Go.Sort
end Go.Proofs.YtiipjbafdhijlaaGreatDoor
namespace Go.Proofs.YtiipjbafdhijlaaGreatDoor
open Go Go.RowKit
set_option linter.unusedVariables false
set_option linter.unusedSimpArgs false
open Go.Sort
end Go.Proofs.YtiipjbafdhijlaaGreatDoor
namespace Go.Proofs.YtiipjbafdhijlaaGreatDoor
open Go Go.RowKit
set_option linter.unusedVariables false
set_option linter.unusedSimpArgs false
open Go.Sort
end Go.Proofs.YtiipjbafdhijlaaGreatDoor
namespace Go.Proofs.YtiipjbafdhijlaaGreatDoor
open Go Go.RowKit
set_option linter.unusedVariables false
set_option linter.unusedSimpArgs false
open Go.Sort
end Go.Proofs.YtiipjbafdhijlaaGreatDoor
namespace Go.Proofs.YtiipjbafdhijlaaGreatDoor
open Go Go.RowKit
set_option linter.unusedVariables false
set_option linter.unusedSimpArgs false
open Go.Sort
theorem szL_filter (p : MT → Bool) : ∀ l : List MT, MT.szL (l.filter p) ≤ MT.szL l
 | [] => Nat.le_refl _
 | x :: r => by
  have := szL_filter p r
  rw [List.filter_cons]
  split
  ·simp only [MT.szL]; omega
  ·simp only [MT.szL]; omega
theorem dpL_filter (p : MT → Bool) : ∀ l : List MT, MT.dpL (l.filter p) ≤ MT.dpL l
 | [] => Nat.le_refl _
 | x :: r => by
  have := dpL_filter p r
  rw [List.filter_cons]
  split
  ·simp only [MT.dpL]; omega
  ·simp only [MT.dpL]; omega
theorem checkF_zero (x : FT) : checkF x = 0 ↔ (x.ml.length ≤ 64 ∧ x.sz ≤ 65536 ∧ x.dp ≤ 64 ∧ x.ml.all mayM = true) := by
 unfold checkF
 by_cases h1 : 64 < x.ml.length
 ·rw [if_pos (by simpa using h1)]
  exact ⟨fun h => absurd h (by decide), fun h => absurd h.1 (by omega)⟩
 ·rw [if_neg (by simpa using h1)]
  by_cases h2 : (decide (65536 < x.sz) || decide (64 < x.dp)) = true
  ·rw [if_pos h2]
   rw [Bool.or_eq_true, decide_eq_true_eq, decide_eq_true_eq] at h2
   exact ⟨fun h => absurd h (by decide), fun h => absurd h2 (by omega)⟩
  ·rw [if_neg h2]
   rw [Bool.or_eq_true, decide_eq_true_eq, decide_eq_true_eq] at h2
   by_cases h3 : x.ml.all mayM = true
   ·rw [if_pos h3]; exact ⟨fun _ => ⟨by omega, by omega, by omega, h3⟩, fun _ => rfl⟩
   ·rw [if_neg h3]; exact ⟨fun h => absurd h (by decide), fun h => absurd h.2.2.2 h3⟩
theorem twice_mod : ∀ (l : List MT) (seen : List Bytes), twiceB seen l = false → ∀ m ∈ l, modB m = true
 | m :: r, seen, h, x, hx => by
  rw [twiceB, Bool.or_eq_false_iff, Bool.or_eq_false_iff] at h
  rcases List.mem_cons.1 hx with e | e
  ·subst e; simpa using h.2.1
  ·exact twice_mod r _ h.2.2 x e
theorem twice_of : ∀ (l : List MT) (seen : List Bytes), (l.map (·.nm)).Nodup → (∀ m ∈ l, m.nm ∉ seen) → (∀ m ∈ l, modB m = true) → twiceB seen l = false
 | [], _, _, _, _ => rfl
 | m :: r, seen, h1, h2, h3 => by
  rw [List.map_cons, List.nodup_cons] at h1
  rw [twiceB, Bool.or_eq_false_iff, Bool.or_eq_false_iff]
  refine ⟨?_, by rw [h3 m (by simp)]; rfl, twice_of r _ h1.2 (fun x hx hc => ?_) (fun x hx => h3 x (by simp [hx]))⟩
  ·cases hc : seen.contains m.nm
   ·rfl
   ·exact absurd (List.contains_iff_mem.1 hc) (h2 m (by simp))
  ·rcases List.mem_append.1 hc with e | e
   ·exact h2 x (by simp [hx]) e
   ·rw [List.mem_singleton] at e
    exact h1.1 (by rw [← e]; exact List.mem_map.2 ⟨x, hx, rfl⟩)
theorem want_filter (us : Bytes → List Bytes) : ∀ (r W : List Bytes), BackOk us r → wantR us W (r.filter fun n => (wantR us W r).contains n) = wantR us W r
 | [], W, _ => rfl
 | n :: r, W, h => by
  obtain ⟨⟨h0, h1⟩, h2⟩ := h
  by_cases hc : W.contains n = true
  ·have e : wantR us W (n :: r) = wantR us (W ++ us n) r := by rw [wantR, if_pos hc]
   have hn : (wantR us (W ++ us n) r).contains n = true := List.contains_iff_mem.2 (wantR_keeps us r _ n (List.mem_append_left _ (List.contains_iff_mem.1 hc)))
   rw [e, List.filter_cons, if_pos hn, wantR, if_pos hc]
   exact want_filter us r _ h2
  ·have e : wantR us W (n :: r) = wantR us W r := by rw [wantR, if_neg hc]
   have hn : ¬ (wantR us W r).contains n = true := by
    intro hq
    rcases wantR_later us r W n (List.contains_iff_mem.1 hq) with h3 | ⟨m, hm, h3⟩
    ·exact hc (List.contains_iff_mem.2 h3)
    ·exact h1 m hm h3
   rw [e, List.filter_cons, if_neg hn]
   exact want_filter us r _ h2
theorem want_congr {us us' : Bytes → List Bytes} : ∀ (r W : List Bytes), (∀ n ∈ r, us n = us' n) → wantR us W r = wantR us' W r
 | [], _, _ => rfl
 | n :: r, W, h => by
  rw [wantR, wantR, h n (by simp)]
  exact want_congr r _ (fun m hm => h m (by simp [hm]))
theorem usN_part (ml : List MT) (B : List Bytes) {n : Bytes} (hn : n ∈ B) : usN (partM B ml) n = usN ml n := by
 unfold usN partM
 rw [List.find?_filter]
 have : ml.find? (fun a => decide (B.contains a.nm = true ∧ (a.nm == n) = true)) = ml.find? (fun m => m.nm == n) := find_congr (fun x _ => by
  by_cases e : x.nm = n
  ·subst e; simp [hn]
  ·simp [e])
 rw [this]
theorem nodup_filter_map {ml : List MT} (hd : (ml.map (·.nm)).Nodup) (p : MT → Bool) : ((ml.filter p).map (·.nm)).Nodup := hd.sublist (List.Sublist.map _ List.filter_sublist)
/-- What is below stands by itself. -/
theorem without_ok (f : FT) (top : Bytes) (h0 : checkP f = 0) (hb : belE f top = 0) (a : Option Addr) (c : Nat) : checkP ⟨a, c, partM (belL f top) f.ml⟩ = 0 ∧ ordF ⟨a, c, partM (belL f top) f.ml⟩ = belL f top ∧ belE ⟨a, c, partM (belL f top) f.ml⟩ top = 0 ∧ belL ⟨a, c, partM (belL f top) f.ml⟩ top = belL f top := by
 have hF : checkF f = 0 := by
  unfold checkP at h0
  by_cases e : checkF f = 0
  ·exact e
  ·rw [if_pos e] at h0; exact absurd h0 e
 have hN : checkN f.ml = 0 := by
  unfold checkP at h0
  rwa [if_neg (by rw [hF]; simp)] at h0
 unfold checkN at hN
 have hT : twiceB [] f.ml = false := by
  cases e : twiceB [] f.ml
  ·rfl
  ·rw [e, if_pos rfl] at hN; exact absurd hN (by decide)
 rw [hT, if_neg (by decide)] at hN
 have hA : hasAllB f.ml = true := by
  cases e : hasAllB f.ml
  ·rw [e, if_pos rfl] at hN; exact absurd hN (by decide)
  ·rfl
 rw [hA, if_neg (by decide)] at hN
 obtain ⟨out, hO⟩ : ∃ out, ordN f.ml f.ml.length [] = some out := by
  cases e : ordN f.ml f.ml.length []
  ·rw [e, if_pos (by rfl)] at hN; exact absurd hN (by decide)
  ·exact ⟨_, rfl⟩
 have hd := (twice_nodup f.ml [] hT).1
 have hok := (ordN_ok f.ml f.ml.length [] out (OrdOk.nil _) hO).1
 have hof : ordF f = out := by unfold ordF; rw [if_neg (by rw [h0]; simp), hO]; rfl
 have hct : out.contains top = true := by
  unfold belE at hb
  rw [if_neg (by rw [h0]; simp), hof] at hb
  cases e : out.contains top
  ·rw [e, if_neg (by decide)] at hb; exact absurd hb (by decide)
  ·rfl
 have hB : belL f top = belowP (usN f.ml) out top := by unfold belL; rw [if_neg (by rw [h0]; simp), hof, if_pos hct]
 rw [hB]
 obtain ⟨F, hFF⟩ : ∃ F, wantR (usN f.ml) [top] out.reverse = F := ⟨_, rfl⟩
 obtain ⟨B, hBB⟩ : ∃ B, belowP (usN f.ml) out top = B := ⟨_, rfl⟩
 have hBF : B = out.filter fun n => F.contains n := by rw [← hBB, ← hFF]; rfl
 rw [hBB]
 have hmB : ∀ n, n ∈ B ↔ n ∈ out ∧ n ∈ F := fun n => by rw [hBF, List.mem_filter, List.contains_iff_mem]
 have hback := back_of hd hok
 have hc : ∀ m ∈ f.ml, m.nm ∈ B → ∀ u ∈ usesM m, u ∈ B := by
  intro m hm hn u hu
  obtain ⟨h1, h2⟩ := (hmB _).1 hn
  have hu2 : u ∈ usN f.ml m.nm := by rw [usN_of hd hm]; exact hu
  refine (hmB _).2 ⟨?_, ?_⟩
  ·obtain ⟨i, hi, e⟩ := List.mem_iff_getElem.1 h1
   obtain ⟨x, hx, hn2, hu3⟩ := hok.behind i hi
   have e2 : usesM x = usesM m := by rw [← usN_of hd hx, ← usN_of hd hm, hn2, e]
   exact List.mem_of_mem_take (hu3 u (by rw [e2]; exact hu))
  ·rw [← hFF] at h2 ⊢
   exact want_closed _ _ _ hback m.nm (by simpa using h1) h2 u hu2
 have htop : top ∈ B := (hmB _).2 ⟨List.contains_iff_mem.1 hct, by rw [← hFF]; exact wantR_keeps _ _ _ _ (by simp)⟩
 have hfB : out.filter (fun x => B.contains x) = B := by
  rw [hBF]
  refine List.filter_congr (fun x hx => ?_)
  rw [← hBF, Bool.eq_iff_iff, List.contains_iff_mem, List.contains_iff_mem, hmB]
  exact ⟨fun h => h.2, fun h => ⟨hx, h⟩⟩
 have hBn : B.Nodup := by rw [hBF]; exact hok.nodup.sublist List.filter_sublist
 have hpm : ∀ m, m ∈ partM B f.ml ↔ m ∈ f.ml ∧ m.nm ∈ B := fun m => by unfold partM; rw [List.mem_filter, List.contains_iff_mem]
 have hlen : (partM B f.ml).length = B.length := by
  have hpn := nodup_filter_map hd (fun m => B.contains m.nm)
  have h1 := nodup_sub_len ((partM B f.ml).map (·.nm)) B hpn (fun n hn => by
   obtain ⟨m, hm, rfl⟩ := List.mem_map.1 hn
   exact ((hpm m).1 hm).2)
  have h2 := nodup_sub_len B ((partM B f.ml).map (·.nm)) hBn (fun n hn => by
   obtain ⟨m, hm, rfl⟩ := hok.sub n ((hmB n).1 hn).1
   exact List.mem_map.2 ⟨m, (hpm m).2 ⟨hm, hn⟩, rfl⟩)
  rw [List.length_map] at h1 h2
  omega
 have hord : ordN (partM B f.ml) (partM B f.ml).length [] = some B := by
  obtain ⟨j, h1, h2⟩ := ordN_part hc f.ml.length [] out hO
  rw [hfB] at h1 h2
  have : j = B.length := by simpa using h2.symm
  rw [hlen, ← this]
  exact h1
 have hchk : checkP ⟨a, c, partM B f.ml⟩ = 0 := by
  unfold checkP
  have h1 : checkF ⟨a, c, partM B f.ml⟩ = 0 := by
   obtain ⟨e1, e2, e3, e4⟩ := (checkF_zero f).1 hF
   refine (checkF_zero _).2 ⟨?_, ?_, ?_, ?_⟩
   ·have : (partM B f.ml).length ≤ f.ml.length := List.length_filter_le _ _
    show (partM B f.ml).length ≤ 64
    omega
   ·have := szL_filter (fun m => B.contains m.nm) f.ml
    show MT.szL (partM B f.ml) ≤ 65536
    exact Nat.le_trans this e2
   ·have := dpL_filter (fun m => B.contains m.nm) f.ml
    show MT.dpL (partM B f.ml) ≤ 64
    exact Nat.le_trans this e3
   ·rw [List.all_eq_true] at e4 ⊢
    exact fun m hm => e4 m ((hpm m).1 hm).1
  rw [if_neg (by rw [h1]; simp)]
  show checkN (partM B f.ml) = 0
  unfold checkN
  have h2 : twiceB [] (partM B f.ml) = false := twice_of _ _ (nodup_filter_map hd _) (fun m _ h => by cases h) (fun m hm => twice_mod _ _ hT m ((hpm m).1 hm).1)
  have h3 : hasAllB (partM B f.ml) = true := by
   unfold hasAllB
   rw [List.all_eq_true]
   intro m hm
   rw [List.all_eq_true]
   intro u hu
   have huB := hc m ((hpm m).1 hm).1 ((hpm m).1 hm).2 u hu
   obtain ⟨x, hx, hn⟩ := hok.sub u ((hmB u).1 huB).1
   exact List.contains_iff_mem.2 (List.mem_map.2 ⟨x, (hpm x).2 ⟨hx, by rw [hn]; exact huB⟩, hn⟩)
  rw [h2, if_neg (by decide), h3, if_neg (by decide), hord]
  rfl
 have hordF : ordF ⟨a, c, partM B f.ml⟩ = B := by
  unfold ordF
  rw [if_neg (by rw [hchk]; simp)]
  show (ordN (partM B f.ml) (partM B f.ml).length []).getD [] = B
  rw [hord]; rfl
 have htB : B.contains top = true := List.contains_iff_mem.2 htop
 refine ⟨hchk, hordF, ?_, ?_⟩
 ·unfold belE
  rw [if_neg (by rw [hchk]; simp), hordF, if_pos htB]
 ·unfold belL
  rw [if_neg (by rw [hchk]; simp), hordF, if_pos htB]
  show belowP (usN (partM B f.ml)) B top = B
  unfold belowP
  have e1 : wantR (usN (partM B f.ml)) [top] B.reverse = F := by
   rw [want_congr (us' := usN f.ml) B.reverse [top] (fun n hn => usN_part f.ml B (by simpa using hn))]
   have h1 := want_filter (usN f.ml) out.reverse [top] hback
   rw [hFF] at h1
   rw [hBF, ← List.filter_reverse]
   exact h1
  rw [e1, List.filter_eq_self]
  intro n hn
  exact List.contains_iff_mem.2 ((hmB n).1 hn).2
end Go.Proofs.YtiipjbafdhijlaaGreatDoor
namespace Go.Proofs.YtiipjbafdhijlaaGreatDoor
open Go Go.RowKit
set_option linter.unusedVariables false
set_option linter.unusedSimpArgs false
open Go.Sort
theorem info_mod : (Tryz.prog.info? 39).map (fun i => (i.zero, i.size, i.bytes)) = some (some (.agg #[.string ⟨#[]⟩, .slice none 0 0, .slice none 0 0, .slice none 0 0]), 4, 88) := by kernel_rfl
theorem inrow_of_flatM {inn : MT → Prop} {n : Nat} {W : World} : ∀ {l : List MT} {b o : Nat}, b < n → (∀ j u, (l.flatMap MT.cells)[j]? = some u → W.cell? ⟨b, o + j, none⟩ = some u) → (∀ x ∈ l, inn x) → InRow 4 MT.cells inn n W l (some ⟨b, o, none⟩)
 | [], _, _, _, _, _ => trivial
 | x :: r, b, o, hb, h, hi => by
  have hl : x.cells.length = 4 := by cases x; rfl
  refine ⟨⟨b, o, rfl, hb, fun j v hv => h j v (by rw [List.flatMap_cons, List.getElem?_append_left (by have := (List.getElem?_eq_some_iff.1 hv).1; omega)]; exact hv)⟩, hi x (by simp), ?_⟩
  rw [Option.map_some, show (⟨b, o, none⟩ : Addr).add 4 = ⟨b, o + 4, none⟩ by simp [Addr.add]]
  refine inrow_of_flatM hb (fun j u hu => ?_) (fun y hy => hi y (by simp [hy]))
  have := h (4 + j) u (by rw [List.flatMap_cons, List.getElem?_append_right (by omega), hl, show 4 + j - 4 = j by omega]; exact hu)
  rw [show o + 4 + j = o + (4 + j) by omega]
  exact this
theorem ones_mod (x : MT) : ∀ u ∈ x.cells, u.oneCell' = true := by
 obtain ⟨nm, pa, pc, pl, ta, tc, tl, ia, ic, il⟩ := x
 intro u hu
 simp only [MT.cells, List.mem_cons, List.not_mem_nil, or_false] at hu
 rcases hu with rfl | rfl | rfl | rfl <;> rfl
theorem bkL_filter (p : MT → Bool) : ∀ l : List MT, MT.bkL (l.filter p) ≤ MT.bkL l
 | [] => Nat.le_refl _
 | x :: r => by
  have := bkL_filter p r
  rw [List.filter_cons]
  split
  ·simp only [MT.bkL]; omega
  ·simp only [MT.bkL]; omega
theorem wfL_filter {p : MT → Bool} {l : List MT} (h : MT.WfL l) : MT.WfL (l.filter p) := (MT.wfL_iff _).2 (fun x hx => (MT.wfL_iff _).1 h x (List.mem_filter.1 hx).1)
theorem partM_snoc {B : List Bytes} {ml : List MT} {k : Nat} (h : k < ml.length) : partM B (ml.take (k + 1)) = partM B (ml.take k) ++ (if B.contains ml[k].nm = true then [ml[k]] else []) := by
 unfold partM
 rw [List.take_succ_eq_append_getElem h, List.filter_append]
 congr 1
 by_cases e : B.contains ml[k].nm = true
 ·rw [if_pos e, List.filter_cons, if_pos e]; rfl
 ·rw [if_neg e, List.filter_cons, if_neg e]; rfl
/-- An own row of modules is a file. -/
theorem file_of_own {W : World} {base n0 : Nat} {v : Value} {l : List MT} (h : W.ownsRow base 39 4 v l.length (l.flatMap MT.cells)) (hi : ∀ x ∈ l, MT.In W.heap.size W x) : ∃ a c, v = .slice a l.length c ∧ FT.In W.heap.size W ⟨a, c, l⟩ := by
 rcases h.2 with ⟨rfl, h0⟩ | ⟨q, cap, cur, rfl, hq, hh, _⟩
 ·have : l = [] := List.length_eq_zero_iff.1 h0
  subst this
  exact ⟨none, 0, rfl, trivial⟩
 ·refine ⟨_, _, rfl, inrow_of_flatM (o := 0) (Array.getElem?_eq_some_iff.1 hh).1 (fun j u hu => ?_) hi⟩
  have := h.cells (g := q) rfl j u hu
  rw [Addr.add_mid] at this
  exact this
end Go.Proofs.YtiipjbafdhijlaaGreatDoor
namespace Go.Proofs.YtiipjbafdhijlaaGreatDoor
open Go Go.RowKit
set_option linter.unusedVariables false
set_option linter.unusedSimpArgs false
open Go.Sort
theorem TV.keep {W W' : World} {v : Value} {l : List Bytes} (h : TV W v l) (hb : Below W.heap.size W W') : TV W' v l := by
 obtain ⟨a, c, h1, h2, h3⟩ := h
 exact ⟨a, c, h1, h2, lies_keep7 h3 hb⟩
end Go.Proofs.YtiipjbafdhijlaaGreatDoor
namespace Go.Proofs.YtiipjbafdhijlaaGreatDoor
open Go Go.RowKit
set_option linter.unusedVariables false
set_option linter.unusedSimpArgs false
open Go.Sort
end Go.Proofs.YtiipjbafdhijlaaGreatDoor
namespace Go.Proofs.YtiipjbafdhijlaaGreatDoor
open Go Go.RowKit
set_option linter.unusedVariables false
set_option linter.unusedSimpArgs false
open Go.Sort
theorem szL_take7 : ∀ (l : List IT) (k : Nat), IT.szL (l.take k) ≤ IT.szL l
 | [], k => by simp
 | x :: r, 0 => by simp [IT.szL]
 | x :: r, k + 1 => by rw [List.take_succ_cons, IT.szL, IT.szL]; have := szL_take7 r k; omega
end Go.Proofs.YtiipjbafdhijlaaGreatDoor
namespace Go.Proofs.YtiipjbafdhijlaaGreatDoor
open Go Go.RowKit
set_option linter.unusedVariables false
set_option linter.unusedSimpArgs false
open Go.Sort
end Go.Proofs.YtiipjbafdhijlaaGreatDoor
namespace Go.Proofs.YtiipjbafdhijlaaGreatDoor
open Go Go.RowKit
set_option linter.unusedVariables false
set_option linter.unusedSimpArgs false
open Go.Sort
theorem labSL_len7 : ∀ l : List ST, (∀ x ∈ l, (labS x).length ≤ x.sz) → (labSL l).length ≤ ST.szL l
 | [], _ => Nat.le_refl _
 | x :: r, h => by
  rw [labSL, List.length_append, ST.szL]
  have := h x (by simp)
  have := labSL_len7 r (fun y hy => h y (by simp [hy]))
  omega
theorem labS_len7 : ∀ x : ST, (labS x).length ≤ x.sz := ST.ind fun op nm xa xc xl sa sc sl ih => by
 have h0 := labSL_len7 sl ih
 rw [labS, ST.sz, List.length_append]
 have : (if op = 6 then [nm] else []).length ≤ 1 := by split <;> simp
 omega
theorem labL_len7 (l : List ST) : (labSL l).length ≤ ST.szL l := labSL_len7 l (fun x _ => labS_len7 x)
theorem labSL_take7 : ∀ (l : List ST) (k : Nat) (h : k < l.length), labSL (l.take (k + 1)) = labSL (l.take k) ++ labS l[k] := by
 intro l
 induction l with
 | nil => intro k h; simp at h
 | cons x r ih =>
  intro k h
  cases k with
  | zero => simp [labSL]
  | succ j =>
   rw [List.take_succ_cons, List.take_succ_cons, labSL, labSL]
   simp only [List.getElem_cons_succ]
   rw [ih j (by simpa using h), List.append_assoc]
theorem labSL_pre7 (l : List ST) (k : Nat) : (labSL (l.take k)).length ≤ ST.szL (l.take k) := labL_len7 _
/-- The labels of statements, behind what is there. -/
def LaC (l : List ST) : Prop := ∀ (n0 : Nat) (out : List Bytes) (a : Option Addr) (c : Nat) (a2 : Option Addr) (c2 : Nat) (w : World), out.length + ST.szL l ≤ 9000000 → n0 ≤ w.heap.size → (a = none → c = 0) → LiesS w a out → InRow 4 ST.cells (ST.In n0 w) n0 w l a2 → Calls Tryz.prog 64 #[.slice a out.length c, .slice a2 l.length c2] w (RowP (addN out (labSL l)) w)
set_option maxHeartbeats 8000000 in
set_option maxRecDepth 100000 in
theorem laC_of (l : List ST) (hc : ∀ x ∈ l, LaC x.l7) : LaC l := by
 intro n0 out a c a2 c2 w hsz hn0 hcn hl hin
 have hll := ST.szL_len7 l
 obtain ⟨F, hF⟩ : ∃ F, addN out (labSL l) = F := ⟨_, rfl⟩
 rw [hF]
 have HF := Lib.hid hF
 have HI := Lib.hid hin
 have HC := Lib.hid hc
 have hst : TV w (.slice a out.length c) (addN out (labSL (l.take 0))) := by rw [List.take_zero]; exact ⟨a, c, rfl, hcn, hl⟩
 have H0 := Lib.hid hst
 have HSZ := Lib.hid hsz
 clear hF hin hc hst hl hsz
 go_enter Tryz.func64, Tryz.ntmps64
 go_wp2
 go_loopg [0, 5] l.length (fun g v u wr => ∃ k : Nat, u = .int .i64 k ∧ k + g = l.length ∧ TV wr v (addN out (labSL (l.take k))) ∧ Below w.heap.size w wr)
 case atStart => exact ⟨0, rfl, by omega, H0.out, Below.refl _ _⟩
 case round =>
  obtain ⟨k, rfl, hk, htv, hbw⟩ := hrel
  clear H0
  obtain ⟨aM, cM, rfl, hcM, hlM⟩ := htv
  obtain ⟨M, hM⟩ : ∃ M, addN out (labSL (l.take k)) = M := ⟨_, rfl⟩
  rw [hM] at hlM ⊢
  by_cases hlt : k < l.length
  ·have d1 : decide (k < l.length) = true := by simpa using hlt
   have d2 : decide ((k : Int) < (l.length : Int)) = true := by rw [decide_eq_true_eq]; omega
   have x1 : (k : Int) < (l.length : Int) := by have := HSZ.out; omega
   have hkt : KeptTo n0 w wr := Below.keptTo hbw hn0
   obtain ⟨b, o, rfl, hb, hr, hx⟩ := InRow.at (InRow.keep hkt (fun x _ h => ST.In.keep hkt x h) HI.out) hlt
   have hnx : addN out (labSL (l.take (k + 1))) = addN M (labS l[k]) := by rw [labSL_take7 l k hlt, addN_app, hM]
   have hml : M.length ≤ out.length + ST.szL (l.take k) := by
    rw [← hM]
    have h1 := addN_len7 (labSL (l.take k)) out
    have h2 := labL_len7 (l.take k)
    omega
   have hsa := ST.szL_at7 l k hlt
   have hc0 := HC.out l[k] (List.getElem_mem hlt)
   obtain ⟨x, hxg⟩ : ∃ x, l[k] = x := ⟨_, rfl⟩
   rw [hxg] at hr hx hnx hsa hc0
   have hMl : M.length + x.sz ≤ 9000000 := by have := HSZ.out; omega
   have hkb : k < 12000000 := by have := HSZ.out; omega
   obtain ⟨op2, nm2, xa2, xc2, xl2, sa2, sc2, sl2⟩ := x
   rw [labS] at hnx
   rw [ST.In_mk] at hx
   simp only [ST.sz] at hMl
   simp only [ST.l7] at hc0
   have r0 : wr.cell? ⟨b, o + k * 4, none⟩ = some (.int .i64 op2) := hr 0 _ rfl
   have r1 : wr.cell? ⟨b, o + k * 4 + 1, none⟩ = some (.string (bs nm2)) := hr 1 _ rfl
   have r3 : wr.cell? ⟨b, o + k * 4 + 3, none⟩ = some (.slice sa2 sl2.length sc2) := hr 3 _ rfl
   rw [addN_app] at hnx
   obtain ⟨N1, hN1⟩ : ∃ N, addN M (if op2 = 6 then [nm2] else []) = N := ⟨_, rfl⟩
   rw [hN1] at hnx
   have hN1l : N1.length ≤ M.length + 1 := by
    rw [← hN1]
    have h1 := addN_len7 (if op2 = 6 then [nm2] else []) M
    have : (if op2 = 6 then [nm2] else []).length ≤ 1 := by split <;> simp
    omega
   obtain ⟨N2, hN2⟩ : ∃ N, addN N1 (labSL sl2) = N := ⟨_, rfl⟩
   rw [hN2] at hnx
   have q0 : ∀ (V : World) (a : Option Addr) (c : Nat), Below wr.heap.size wr V → (a = none → c = 0) → LiesS V a N1 → Calls Tryz.prog 64 #[.slice a N1.length c, .slice sa2 sl2.length sc2] V (RowP N2 V) := fun V a c hV h1 h2 => by
    have h9 := hc0 n0 N1 a c sa2 sc2 V (by omega) (by have := hbw.size; have := hV.size; omega) h1 h2 (InRow.keep (Below.keptTo hV (by have := hbw.size; omega)) (fun x _ h => ST.In.keep (Below.keptTo hV (by have := hbw.size; omega)) x h) hx.2)
    rw [hN2] at h9
    exact h9
   have HQ := Lib.hid q0
   have HW := Lib.hid (And.intro hbw hnx)
   have hzw := hbw.size
   have HN1 := Lib.hid hN1
   clear hr hx hnx hsa hc0 hxg q0 hbw hkt hM hml hN1 hN2
   by_cases h7 : op2 = 6
   ·subst h7
    have hN7 : more1 M nm2 = N1 := by rw [← HN1.out, if_pos rfl, more1_addN]
    have q := refmore_any M nm2 (by omega) aM cM hcM wr hlM
    rw [hN7] at q
    clear HN1 hN7 hlM hcM
    go_wp2_with fail
    refine q.mono ?_
    clear q
    rintro e w1 ⟨v, rfl, ⟨a7, c7, rfl, hc7, hl7⟩, hb1⟩
    replace r3 := keep_cell hb1 r3
    clear r0 r1
    have HA := Lib.hid (And.intro hb1 (And.intro hc7 hl7))
    clear hb1 hc7 hl7
    have q2 := HQ.out w1 a7 c7 HA.out.1 HA.out.2.1 HA.out.2.2
    go_wp2_with fail
    refine q2.mono ?_
    clear q2
    rintro e w2 ⟨v8, rfl, ht8, hb2⟩
    have HFN : Hid (TV w2 v8 (addN out (labSL (l.take (k + 1)))) ∧ Below w.heap.size w w2) := Lib.hid ⟨by rw [HW.out.2]; exact ht8, HW.out.1.trans ((HA.out.1.mono hzw).trans (hb2.mono (Nat.le_trans hzw HA.out.1.size)))⟩
    obtain ⟨a8, c8, rfl, -, -⟩ := ht8
    clear r3 HA HQ HW hb2
    go_wp2
    cases gk with
    | zero => omega
    | succ gg =>
     go_roundg gg
     case rel => exact ⟨k + 1, rfl, by omega, HFN.out⟩
     case measure => omega
   ·have h7b : (op2 == 6) = false := by simpa using h7
    have hN7 : M = N1 := by rw [← HN1.out, if_neg h7]; rfl
    subst hN7
    obtain ⟨w1, hw1⟩ : ∃ w1, wr = w1 := ⟨_, rfl⟩
    have hb1 : Below wr.heap.size wr w1 := by rw [← hw1]; exact Below.refl _ _
    obtain ⟨a7, ha7⟩ : ∃ a, aM = a := ⟨_, rfl⟩
    obtain ⟨c7, hc7'⟩ : ∃ a, cM = a := ⟨_, rfl⟩
    have hc7 : a7 = none → c7 = 0 := by rw [← ha7, ← hc7']; exact hcM
    have hl7 : LiesS w1 a7 M := by rw [← ha7, ← hw1]; exact hlM
    rw [ha7, hc7']
    rw [hw1]
    clear HN1 hlM hcM ha7 hc7'
    have r0x := r0
    rw [hw1] at r0x
    clear hw1
    replace r3 := keep_cell hb1 r3
    clear r0 r1
    have HA := Lib.hid (And.intro hb1 (And.intro hc7 hl7))
    clear hb1 hc7 hl7
    have q2 := HQ.out w1 a7 c7 HA.out.1 HA.out.2.1 HA.out.2.2
    go_wp2_with fail
    refine q2.mono ?_
    clear q2
    rintro e w2 ⟨v8, rfl, ht8, hb2⟩
    have HFN : Hid (TV w2 v8 (addN out (labSL (l.take (k + 1)))) ∧ Below w.heap.size w w2) := Lib.hid ⟨by rw [HW.out.2]; exact ht8, HW.out.1.trans ((HA.out.1.mono hzw).trans (hb2.mono (Nat.le_trans hzw HA.out.1.size)))⟩
    obtain ⟨a8, c8, rfl, -, -⟩ := ht8
    clear r3 HA HQ HW hb2
    go_wp2
    cases gk with
    | zero => omega
    | succ gg =>
     go_roundg gg
     case rel => exact ⟨k + 1, rfl, by omega, HFN.out⟩
     case measure => omega
  ·have d1 : decide (k < l.length) = false := by simpa using hlt
   have d2 : decide ((k : Int) < (l.length : Int)) = false := by rw [decide_eq_false_iff_not]; omega
   have HE : Hid (TV wr (.slice aM M.length cM) F) := Lib.hid (by
    rw [← HF.out, show addN out (labSL l) = M by rw [← hM, List.take_of_length_le (by omega)]]
    exact ⟨aM, cM, rfl, hcM, hlM⟩)
   clear hM hlM
   go_wp2
   go_ret
   exact ⟨_, rfl, HE.out, hbw⟩
theorem laC_in : ∀ x : ST, LaC x.l7 := ST.ind fun op nm xa xc xl sa sc sl ih => laC_of sl ih
theorem reflabels_any (l : List ST) : LaC l := laC_of l (fun x _ => laC_in x)
/-! ### Items -/
theorem allL_take7 : ∀ (l : List IT) (k : Nat) (h : k < l.length), allL (l.take (k + 1)) = allL (l.take k) ++ allI l[k] := by
 intro l
 induction l with
 | nil => intro k h; simp at h
 | cons x r ih =>
  intro k h
  cases k with
  | zero => simp [allL]
  | succ j =>
   rw [List.take_succ_cons, List.take_succ_cons, allL, allL]
   simp only [List.getElem_cons_succ]
   rw [ih j (by simpa using h), List.append_assoc]
theorem allL_len7' : ∀ l : List IT, (∀ x ∈ l, (allI x).length ≤ 2 * x.sz) → (allL l).length ≤ 2 * IT.szL l
 | [], _ => Nat.le_refl _
 | x :: r, h => by
  rw [allL, List.length_append, IT.szL]
  have := h x (by simp)
  have := allL_len7' r (fun y hy => h y (by simp [hy]))
  omega
theorem allI_len7 : ∀ x : IT, (allI x).length ≤ 2 * x.sz := IT.ind fun op nm nf xa xc xl sa sc sl la lc ll ea ec el pa pc pl ba bc bl ih0 ih1 => by
 have h0 := allL_len7' ll ih0
 have h1 := allL_len7' el ih1
 have h2 := labL_len7 sl
 rw [allI, IT.sz, List.length_cons, List.length_append, List.length_append, List.length_append]
 have : (if op = 9 then [nf] else []).length ≤ 1 := by split <;> simp
 omega
theorem allL_len7 (l : List IT) : (allL l).length ≤ 2 * IT.szL l := allL_len7' l (fun x _ => allI_len7 x)
/-- All names of items, behind what is there. -/
def AlC (l : List IT) : Prop := ∀ (n0 : Nat) (out : List Bytes) (a : Option Addr) (c : Nat) (a2 : Option Addr) (c2 : Nat) (w : World), out.length + 2 * IT.szL l ≤ 9000000 → n0 ≤ w.heap.size → (a = none → c = 0) → LiesS w a out → InRow 9 IT.cells (IT.In n0 w) n0 w l a2 → Calls Tryz.prog 43 #[.slice a out.length c, .slice a2 l.length c2] w (RowP (addN out (allL l)) w)
set_option maxHeartbeats 8000000 in
set_option maxRecDepth 100000 in
theorem alC_of (l : List IT) (hc : ∀ x ∈ l, AlC x.l7 ∧ AlC x.e7) : AlC l := by
 intro n0 out a c a2 c2 w hsz hn0 hcn hl hin
 have hll := szL_len7 l
 obtain ⟨F, hF⟩ : ∃ F, addN out (allL l) = F := ⟨_, rfl⟩
 rw [hF]
 have HF := Lib.hid hF
 have HI := Lib.hid hin
 have HC := Lib.hid hc
 have hst : TV w (.slice a out.length c) (addN out (allL (l.take 0))) := by rw [List.take_zero]; exact ⟨a, c, rfl, hcn, hl⟩
 have H0 := Lib.hid hst
 have HSZ := Lib.hid hsz
 clear hF hin hc hst hl hsz
 go_enter Tryz.func43, Tryz.ntmps43
 go_wp2
 go_loopg [0, 5] l.length (fun g v u wr => ∃ k : Nat, u = .int .i64 k ∧ k + g = l.length ∧ TV wr v (addN out (allL (l.take k))) ∧ Below w.heap.size w wr)
 case atStart => exact ⟨0, rfl, by omega, H0.out, Below.refl _ _⟩
 case round =>
  obtain ⟨k, rfl, hk, htv, hbw⟩ := hrel
  clear H0
  obtain ⟨aM, cM, rfl, hcM, hlM⟩ := htv
  obtain ⟨M, hM⟩ : ∃ M, addN out (allL (l.take k)) = M := ⟨_, rfl⟩
  rw [hM] at hlM ⊢
  by_cases hlt : k < l.length
  ·have d1 : decide (k < l.length) = true := by simpa using hlt
   have d2 : decide ((k : Int) < (l.length : Int)) = true := by rw [decide_eq_true_eq]; omega
   have x1 : (k : Int) < (l.length : Int) := by omega
   have hkt : KeptTo n0 w wr := Below.keptTo hbw hn0
   obtain ⟨b, o, rfl, hb, hr, hx⟩ := InRow.at (InRow.keep hkt (fun x _ h => IT.In.keep hkt x h) HI.out) hlt
   have hnx : addN out (allL (l.take (k + 1))) = addN M (allI l[k]) := by rw [allL_take7 l k hlt, addN_app, hM]
   have hml : M.length ≤ out.length + 2 * IT.szL (l.take k) := by
    rw [← hM]
    have h1 := addN_len7 (allL (l.take k)) out
    have h2 := allL_len7 (l.take k)
    omega
   have hsa := szL_at7 l k hlt
   have hc0 := HC.out l[k] (List.getElem_mem hlt)
   obtain ⟨x, hxg⟩ : ∃ x, l[k] = x := ⟨_, rfl⟩
   rw [hxg] at hr hx hnx hsa hc0
   have hMl : M.length + 2 * x.sz ≤ 9000000 := by have := HSZ.out; omega
   have hkb : k < 12000000 := by have := HSZ.out; omega
   obtain ⟨op2, nm2, nf2, xa2, xc2, xl2, sa2, sc2, sl2, la2, lc2, ll2, ea2, ec2, el2, pa2, pc2, pl2, ba2, bc2, bl2⟩ := x
   rw [allI, show (nm2 :: ((if op2 = 9 then [nf2] else []) ++ (allL ll2 ++ (allL el2 ++ labSL sl2)))) = [nm2] ++ ((if op2 = 9 then [nf2] else []) ++ (allL ll2 ++ (allL el2 ++ labSL sl2))) from rfl, addN_app, addN_app, addN_app, addN_app] at hnx
   rw [IT.In_mk] at hx
   simp only [IT.sz] at hMl
   simp only [IT.l7, IT.e7] at hc0
   have r0 : wr.cell? ⟨b, o + k * 9, none⟩ = some (.int .i64 op2) := hr 0 _ rfl
   have r1 : wr.cell? ⟨b, o + k * 9 + 1, none⟩ = some (.string (bs nm2)) := hr 1 _ rfl
   have r2 : wr.cell? ⟨b, o + k * 9 + 2, none⟩ = some (.string (bs nf2)) := hr 2 _ rfl
   have r3 : wr.cell? ⟨b, o + k * 9 + 3, none⟩ = some (.slice xa2 xl2.length xc2) := hr 3 _ rfl
   have r4 : wr.cell? ⟨b, o + k * 9 + 4, none⟩ = some (.slice sa2 sl2.length sc2) := hr 4 _ rfl
   have r5 : wr.cell? ⟨b, o + k * 9 + 5, none⟩ = some (.slice la2 ll2.length lc2) := hr 5 _ rfl
   have r6 : wr.cell? ⟨b, o + k * 9 + 6, none⟩ = some (.slice ea2 el2.length ec2) := hr 6 _ rfl
   have r7 : wr.cell? ⟨b, o + k * 9 + 7, none⟩ = some (.slice pa2 pl2.length pc2) := hr 7 _ rfl
   have r8 : wr.cell? ⟨b, o + k * 9 + 8, none⟩ = some (.slice ba2 bl2.length bc2) := hr 8 _ rfl
   obtain ⟨N0, hN0⟩ : ∃ N, addN M [nm2] = N := ⟨_, rfl⟩
   have hN0l : N0.length ≤ M.length + 1 := by rw [← hN0]; have h1 := addN_len7 [nm2] M; simpa using h1
   rw [hN0] at hnx
   obtain ⟨N1, hN1⟩ : ∃ N, addN N0 (if op2 = 9 then [nf2] else []) = N := ⟨_, rfl⟩
   rw [hN1] at hnx
   have hN1l : N1.length ≤ N0.length + 1 := by
    rw [← hN1]
    have h1 := addN_len7 (if op2 = 9 then [nf2] else []) N0
    have : (if op2 = 9 then [nf2] else []).length ≤ 1 := by split <;> simp
    omega
   obtain ⟨N2, hN2⟩ : ∃ N, addN N1 (allL ll2) = N := ⟨_, rfl⟩
   have hN2l : N2.length ≤ N1.length + 2 * IT.szL ll2 := by rw [← hN2]; have h1 := addN_len7 (allL ll2) N1; have h2 := allL_len7 ll2; omega
   rw [hN2] at hnx
   obtain ⟨N3, hN3⟩ : ∃ N, addN N2 (allL el2) = N := ⟨_, rfl⟩
   have hN3l : N3.length ≤ N2.length + 2 * IT.szL el2 := by rw [← hN3]; have h1 := addN_len7 (allL el2) N2; have h2 := allL_len7 el2; omega
   rw [hN3] at hnx
   obtain ⟨N4, hN4⟩ : ∃ N, addN N3 (labSL sl2) = N := ⟨_, rfl⟩
   rw [hN4] at hnx
   have q0 : ∀ (V : World) (a : Option Addr) (c : Nat), Below wr.heap.size wr V → (a = none → c = 0) → LiesS V a N1 → Calls Tryz.prog 43 #[.slice a N1.length c, .slice la2 ll2.length lc2] V (RowP N2 V) := fun V a c hV h1 h2 => by
    have h9 := hc0.1 n0 N1 a c la2 lc2 V (by omega) (by have := hbw.size; have := hV.size; omega) h1 h2 (InRow.keep (Below.keptTo hV (by have := hbw.size; omega)) (fun x _ h => IT.In.keep (Below.keptTo hV (by have := hbw.size; omega)) x h) hx.2.2.1)
    rw [hN2] at h9
    exact h9
   have q1 : ∀ (V : World) (a : Option Addr) (c : Nat), Below wr.heap.size wr V → (a = none → c = 0) → LiesS V a N2 → Calls Tryz.prog 43 #[.slice a N2.length c, .slice ea2 el2.length ec2] V (RowP N3 V) := fun V a c hV h1 h2 => by
    have h9 := hc0.2 n0 N2 a c ea2 ec2 V (by omega) (by have := hbw.size; have := hV.size; omega) h1 h2 (InRow.keep (Below.keptTo hV (by have := hbw.size; omega)) (fun x _ h => IT.In.keep (Below.keptTo hV (by have := hbw.size; omega)) x h) hx.2.2.2.1)
    rw [hN3] at h9
    exact h9
   have q2 : ∀ (V : World) (a : Option Addr) (c : Nat), Below wr.heap.size wr V → (a = none → c = 0) → LiesS V a N3 → Calls Tryz.prog 64 #[.slice a N3.length c, .slice sa2 sl2.length sc2] V (RowP N4 V) := fun V a c hV h1 h2 => by
    have h9 := reflabels_any sl2 n0 N3 a c sa2 sc2 V (by omega) (by have := hbw.size; have := hV.size; omega) h1 h2 (InRow.keep (Below.keptTo hV (by have := hbw.size; omega)) (fun x _ h => ST.In.keep (Below.keptTo hV (by have := hbw.size; omega)) x h) hx.2.1)
    rw [hN4] at h9
    exact h9
   have HQ := Lib.hid (And.intro q0 (And.intro q1 q2))
   have HW := Lib.hid (And.intro hbw hnx)
   have hzw := hbw.size
   have HN1 := Lib.hid hN1
   have hNm : more1 M nm2 = N0 := by rw [more1_addN, hN0]
   obtain ⟨gx, hgx⟩ : ∃ gx, wr.heap.size = gx := ⟨_, rfl⟩
   obtain ⟨wa, hwa⟩ : ∃ wa, wr.alloc (.cells #[.int .i64 op2, .string (bs nm2), .string (bs nf2), .slice xa2 xl2.length xc2, .slice sa2 sl2.length sc2, .slice la2 ll2.length lc2, .slice ea2 el2.length ec2, .slice pa2 pl2.length pc2, .slice ba2 bl2.length bc2] 48) = wa := ⟨_, rfl⟩
   have hba : Below wr.heap.size wr wa := by rw [← hwa]; exact (Below.refl _ _).alloc (Nat.le_refl _) _
   have BX : wa.heap[gx]? = some (.cells #[.int .i64 op2, .string (bs nm2), .string (bs nf2), .slice xa2 xl2.length xc2, .slice sa2 sl2.length sc2, .slice la2 ll2.length lc2, .slice ea2 el2.length ec2, .slice pa2 pl2.length pc2, .slice ba2 bl2.length bc2] 48 (0, 0)) := by rw [← hwa, ← hgx]; exact World.alloc_heap_new wr _
   have z1 : wa.cell? ⟨gx, 1, none⟩ = some (.string (bs nm2)) := by simp [World.cell?, BX]
   have q := refmore_any M nm2 (by omega) aM cM hcM wa (lies_keep7 hlM hba)
   rw [hNm] at q
   have HBX := Lib.hid (And.intro BX hba)
   clear hr hx hnx hsa hc0 hxg q0 q1 q2 hbw hkt hM hml hN0 hN1 hN2 hN3 hN4 hNm hlM hcM BX hba
   go_wp2_with fail
   (try rw [hwa])
   refine q.mono ?_
   clear q hwa z1 r0 r1 r2 r3 r4 r5 r6 r7 r8
   rintro e w1 ⟨v, rfl, ⟨a6, c6, rfl, hc6, hl6⟩, hb1⟩
   have BX1 := block_kept HBX.out.1 hb1
   have HB1 := Lib.hid (HBX.out.2.trans (hb1.mono HBX.out.2.size))
   clear hb1 HBX
   have z0 : w1.cell? ⟨gx, 0, none⟩ = some (.int .i64 op2) := by simp [World.cell?, BX1]
   have z2 : w1.cell? ⟨gx, 2, none⟩ = some (.string (bs nf2)) := by simp [World.cell?, BX1]
   have HX1 := Lib.hid BX1
   clear BX1
   by_cases h9 : op2 = 9
   ·subst h9
    have hN7 : more1 N0 nf2 = N1 := by rw [← HN1.out, if_pos rfl, more1_addN]
    have q := refmore_any N0 nf2 (by omega) a6 c6 hc6 w1 hl6
    rw [hN7] at q
    clear HN1 hN7 hl6 hc6
    go_wp2_with fail
    refine q.mono ?_
    clear q
    rintro e w2 ⟨v, rfl, ⟨a7, c7, rfl, hc7, hl7⟩, hb2⟩
    have HX2 := Lib.hid (block_kept HX1.out hb2)
    have HB2 := Lib.hid (HB1.out.trans (hb2.mono HB1.out.size))
    clear hb2 z0 z2 HX1 HB1
    go_upto_region 8 with (fail)
    (try clear z0)
    have hz2 : wr.heap.size ≤ w2.drew.heap.size := HB2.out.size
    have r4 : w2.cell? ⟨gx, 4, none⟩ = some (.slice sa2 sl2.length sc2) := by simp [World.cell?, HX2.out]
    have r5 : w2.cell? ⟨gx, 5, none⟩ = some (.slice la2 ll2.length lc2) := by simp [World.cell?, HX2.out]
    have r6 : w2.cell? ⟨gx, 6, none⟩ = some (.slice ea2 el2.length ec2) := by simp [World.cell?, HX2.out]
    have H7 := Lib.hid (And.intro hc7 hl7)
    clear hc7 hl7
    go_region_held3 (fun u1 => u1.cell? ⟨gx, 4, none⟩ = some (.slice sa2 sl2.length sc2) ∧ u1.cell? ⟨gx, 5, none⟩ = some (.slice la2 ll2.length lc2) ∧ u1.cell? ⟨gx, 6, none⟩ = some (.slice ea2 el2.length ec2)) (first | exact ⟨r4, r5, r6⟩ | exact ⟨r4N, r5N, r6N⟩ | exact ⟨r4M, r5M, r6M⟩ | exact ⟨r4P, r5P, r6P⟩) (first | (go_at_call 64; refine (HQ.out.2.2 w4 a9 c9 ((HB2.out.drew.trans (H8.out.2.2.mono hz2)).trans (H9.out.2.2.mono (Nat.le_trans hz2 H8.out.2.2.size))) H9.out.1 H9.out.2.1).mono ?_; rintro e w5 ⟨va, rfl, ⟨aa, ca, rfl, hca, hla⟩, hb5⟩; have r4P := keep_cell hb5 r4M; have r5P := keep_cell hb5 r5M; have r6P := keep_cell hb5 r6M; have HA := Lib.hid (And.intro hca (And.intro hla hb5)); clear hca hla hb5) | (go_at_call_of 43 (Value.slice ea2 el2.length ec2); refine (HQ.out.2.1 w3 a8 c8 (HB2.out.drew.trans (H8.out.2.2.mono hz2)) H8.out.1 H8.out.2.1).mono ?_; rintro e w4 ⟨v9, rfl, ⟨a9, c9, rfl, hc9, hl9⟩, hb4⟩; have r4M := keep_cell hb4 r4N; have r5M := keep_cell hb4 r5N; have r6M := keep_cell hb4 r6N; have H9 := Lib.hid (And.intro hc9 (And.intro hl9 hb4)); clear hc9 hl9 hb4) | (go_at_call 43; refine (HQ.out.1 w2.drew a7 c7 HB2.out.drew H7.out.1 (lies_keep7 H7.out.2 (Below.refl _ _).drew)).mono ?_; rintro e w3 ⟨v8, rfl, ⟨a8, c8, rfl, hc8, hl8⟩, hb3⟩; have r4N := keep_cell hb3 (show w2.drew.cell? _ = _ from r4); have r5N := keep_cell hb3 (show w2.drew.cell? _ = _ from r5); have r6N := keep_cell hb3 (show w2.drew.cell? _ = _ from r6); have H8 := Lib.hid (And.intro hc8 (And.intro hl8 hb3)); clear hc8 hl8 hb3))
    have HFN : Hid (TV w5 (.slice aa N4.length ca) (addN out (allL (l.take (k + 1)))) ∧ Below w.heap.size w w5) := Lib.hid (by
     refine ⟨by rw [HW.out.2]; exact ⟨aa, ca, rfl, HA.out.1, HA.out.2.1⟩, HW.out.1.trans (Below.mono ?_ hzw)⟩
     have z1 := Nat.le_trans hz2 H8.out.2.2.size
     exact (HB2.out.drew.trans (H8.out.2.2.mono hz2)).trans ((H9.out.2.2.mono z1).trans (HA.out.2.2.mono (Nat.le_trans z1 H9.out.2.2.size))))
    clear H7 H8 H9 HA r4 r5 r6 r4N r5N r6N r4M r5M r6M r4P r5P r6P HQ HW HX2 HB2
    go_wp2
    cases gk with
    | zero => omega
    | succ gg =>
     go_roundg gg
     case rel => exact ⟨k + 1, rfl, by omega, HFN.out⟩
     case measure => omega
   ·have h9b : (op2 == 9) = false := by simpa using h9
    have hN7 : N0 = N1 := by rw [← HN1.out, if_neg h9]; rfl
    subst hN7
    obtain ⟨w2, hw2⟩ : ∃ w2, w1 = w2 := ⟨_, rfl⟩
    have HX2 := HX1
    have HB2 := HB1
    rw [hw2] at HX2 HB2 hl6 z0 ⊢
    obtain ⟨a7, ha7⟩ : ∃ a, a6 = a := ⟨_, rfl⟩
    obtain ⟨c7, hc7'⟩ : ∃ a, c6 = a := ⟨_, rfl⟩
    have hc7 : a7 = none → c7 = 0 := by rw [← ha7, ← hc7']; exact hc6
    have hl7 : LiesS w2 a7 N0 := by rw [← ha7]; exact hl6
    rw [ha7, hc7']
    clear HN1 hl6 hc6 ha7 hc7' z2 HX1 HB1 hw2
    go_upto_region 8 with (fail)
    (try clear z0)
    have hz2 : wr.heap.size ≤ w2.drew.heap.size := HB2.out.size
    have r4 : w2.cell? ⟨gx, 4, none⟩ = some (.slice sa2 sl2.length sc2) := by simp [World.cell?, HX2.out]
    have r5 : w2.cell? ⟨gx, 5, none⟩ = some (.slice la2 ll2.length lc2) := by simp [World.cell?, HX2.out]
    have r6 : w2.cell? ⟨gx, 6, none⟩ = some (.slice ea2 el2.length ec2) := by simp [World.cell?, HX2.out]
    have H7 := Lib.hid (And.intro hc7 hl7)
    clear hc7 hl7
    go_region_held3 (fun u1 => u1.cell? ⟨gx, 4, none⟩ = some (.slice sa2 sl2.length sc2) ∧ u1.cell? ⟨gx, 5, none⟩ = some (.slice la2 ll2.length lc2) ∧ u1.cell? ⟨gx, 6, none⟩ = some (.slice ea2 el2.length ec2)) (first | exact ⟨r4, r5, r6⟩ | exact ⟨r4N, r5N, r6N⟩ | exact ⟨r4M, r5M, r6M⟩ | exact ⟨r4P, r5P, r6P⟩) (first | (go_at_call 64; refine (HQ.out.2.2 w4 a9 c9 ((HB2.out.drew.trans (H8.out.2.2.mono hz2)).trans (H9.out.2.2.mono (Nat.le_trans hz2 H8.out.2.2.size))) H9.out.1 H9.out.2.1).mono ?_; rintro e w5 ⟨va, rfl, ⟨aa, ca, rfl, hca, hla⟩, hb5⟩; have r4P := keep_cell hb5 r4M; have r5P := keep_cell hb5 r5M; have r6P := keep_cell hb5 r6M; have HA := Lib.hid (And.intro hca (And.intro hla hb5)); clear hca hla hb5) | (go_at_call_of 43 (Value.slice ea2 el2.length ec2); refine (HQ.out.2.1 w3 a8 c8 (HB2.out.drew.trans (H8.out.2.2.mono hz2)) H8.out.1 H8.out.2.1).mono ?_; rintro e w4 ⟨v9, rfl, ⟨a9, c9, rfl, hc9, hl9⟩, hb4⟩; have r4M := keep_cell hb4 r4N; have r5M := keep_cell hb4 r5N; have r6M := keep_cell hb4 r6N; have H9 := Lib.hid (And.intro hc9 (And.intro hl9 hb4)); clear hc9 hl9 hb4) | (go_at_call 43; refine (HQ.out.1 w2.drew a7 c7 HB2.out.drew H7.out.1 (lies_keep7 H7.out.2 (Below.refl _ _).drew)).mono ?_; rintro e w3 ⟨v8, rfl, ⟨a8, c8, rfl, hc8, hl8⟩, hb3⟩; have r4N := keep_cell hb3 (show w2.drew.cell? _ = _ from r4); have r5N := keep_cell hb3 (show w2.drew.cell? _ = _ from r5); have r6N := keep_cell hb3 (show w2.drew.cell? _ = _ from r6); have H8 := Lib.hid (And.intro hc8 (And.intro hl8 hb3)); clear hc8 hl8 hb3))
    have HFN : Hid (TV w5 (.slice aa N4.length ca) (addN out (allL (l.take (k + 1)))) ∧ Below w.heap.size w w5) := Lib.hid (by
     refine ⟨by rw [HW.out.2]; exact ⟨aa, ca, rfl, HA.out.1, HA.out.2.1⟩, HW.out.1.trans (Below.mono ?_ hzw)⟩
     have z1 := Nat.le_trans hz2 H8.out.2.2.size
     exact (HB2.out.drew.trans (H8.out.2.2.mono hz2)).trans ((H9.out.2.2.mono z1).trans (HA.out.2.2.mono (Nat.le_trans z1 H9.out.2.2.size))))
    clear H7 H8 H9 HA r4 r5 r6 r4N r5N r6N r4M r5M r6M r4P r5P r6P HQ HW HX2 HB2
    go_wp2
    cases gk with
    | zero => omega
    | succ gg =>
     go_roundg gg
     case rel => exact ⟨k + 1, rfl, by omega, HFN.out⟩
     case measure => omega
  ·have d1 : decide (k < l.length) = false := by simpa using hlt
   have d2 : decide ((k : Int) < (l.length : Int)) = false := by rw [decide_eq_false_iff_not]; omega
   have HE : Hid (TV wr (.slice aM M.length cM) F) := Lib.hid (by
    rw [← HF.out, show addN out (allL l) = M by rw [← hM, List.take_of_length_le (by omega)]]
    exact ⟨aM, cM, rfl, hcM, hlM⟩)
   clear hM hlM
   go_wp2
   go_ret
   exact ⟨_, rfl, HE.out, hbw⟩
theorem alC_in : ∀ x : IT, AlC x.l7 ∧ AlC x.e7 := IT.ind fun op nm nf xa xc xl sa sc sl la lc ll ea ec el pa pc pl ba bc bl ih0 ih1 => ⟨alC_of ll ih0, alC_of el ih1⟩
theorem refall_any (l : List IT) : AlC l := alC_of l (fun x _ => alC_in x)
end Go.Proofs.YtiipjbafdhijlaaGreatDoor
namespace Go.Proofs.YtiipjbafdhijlaaGreatDoor
open Go Go.RowKit
set_option linter.unusedVariables false
set_option linter.unusedSimpArgs false
open Go.Sort
/-- All names of a module, as the document tells them. -/
def allR (m : MT) : List Bytes := addN (addN (addN [] (allL m.il)) (m.tl.map (·.nm))) (m.pl.map (·.nm))
theorem allR_mem (m : MT) (n : Bytes) : (allR m).contains n = true ↔ n ∈ allM m := by
 unfold allR allM headM
 rw [List.contains_iff_mem, addN_in, addN_in, addN_in, List.mem_append, List.mem_append]
 simp only [List.not_mem_nil, false_or]
 constructor
 ·rintro ((h | h) | h)
  ·exact .inl h
  ·exact .inr (.inr h)
  ·exact .inr (.inl h)
 ·rintro (h | h | h)
  ·exact .inl (.inl h)
  ·exact .inr h
  ·exact .inl (.inr h)
set_option maxHeartbeats 8000000 in
set_option maxRecDepth 100000 in
theorem refAll_any (x : MT) (hsz : x.sz ≤ 4200000) (n0 : Nat) (w : World) (hn0 : n0 ≤ w.heap.size) (hx : x.In n0 w) : Calls Tryz.prog 24 #[x.val] w (RowP (allR x) w) := by
 have hi := szM_il7 x
 have hbt : IT.szL x.il + PT.szL x.tl + BT.szL x.pl ≤ x.sz := by obtain ⟨nm, pa, pc, pl, ta, tc, tl, ia, ic, il⟩ := x; simp only [MT.sz]; omega
 have hlt := PT.szL_len7 x.tl
 have hlp := BT.szL_len7 x.pl
 have hq : ∀ V, Below w.heap.size w V → Calls Tryz.prog 43 #[.slice none 0 0, .slice x.ia x.il.length x.ic] V (RowP (addN [] (allL x.il)) V) := fun V hV =>
  refall_any x.il n0 [] none 0 x.ia x.ic V (by simp; omega) (by have := hV.size; omega) (fun _ => rfl) (.inl rfl) (InRow.keep (Below.keptTo hV hn0) (fun y _ h => IT.In.keep (Below.keptTo hV hn0) y h) hx.2.2)
 obtain ⟨F, hF⟩ : ∃ F, allR x = F := ⟨_, rfl⟩
 rw [hF]
 obtain ⟨A, hA⟩ : ∃ A, addN [] (allL x.il) = A := ⟨_, rfl⟩
 have hAl : A.length ≤ 2 * IT.szL x.il := by rw [← hA]; have h1 := addN_len7 (allL x.il) []; have h2 := allL_len7 x.il; simp at h1; omega
 rw [hA] at hq
 unfold allR at hF
 rw [hA] at hF
 have HXT := Lib.hid hx.2.1
 have HXP := Lib.hid hx.1
 have HFF := Lib.hid hF
 clear hx hF hA hi
 obtain ⟨nm, pa, pc, pl, ta, tc, tl, ia, ic, il⟩ := x
 simp only at hq hbt hlt hlp hAl
 simp only [MT.val, MT.cells] at hq ⊢
 obtain ⟨gx, hgx⟩ : ∃ gx, w.heap.size = gx := ⟨_, rfl⟩
 obtain ⟨w1, hw1⟩ : ∃ w1, w.alloc (.cells #[.string (bs nm), .slice pa pl.length pc, .slice ta tl.length tc, .slice ia il.length ic] 39) = w1 := ⟨_, rfl⟩
 have hb : Below w.heap.size w w1 := by rw [← hw1]; exact (Below.refl _ _).alloc (Nat.le_refl _) _
 have BX : w1.heap[gx]? = some (.cells #[.string (bs nm), .slice pa pl.length pc, .slice ta tl.length tc, .slice ia il.length ic] 39 (0, 0)) := by rw [← hw1, ← hgx]; exact World.alloc_heap_new w _
 have y3 : w1.cell? ⟨gx, 3, none⟩ = some (.slice ia il.length ic) := by simp [World.cell?, BX]
 have q := hq w1 hb
 have HB := Lib.hid (And.intro hb BX)
 clear hq hb BX
 go_enter Tryz.func24, Tryz.ntmps24
 go_wp2_with fail
 (try rw [hw1])
 refine q.mono ?_
 clear q hw1 y3
 rintro e w2 ⟨v, rfl, ht, hb2⟩
 have HB2 := Lib.hid (HB.out.1.trans (hb2.mono HB.out.1.size))
 have BX2 := Lib.hid (block_kept HB.out.2 hb2)
 obtain ⟨a2, c2, rfl, hc2, hl2⟩ := ht
 have HT2 : Hid (TV w2 (.slice a2 A.length c2) (addN A ((tl.map (·.nm)).take 0))) := Lib.hid (by rw [List.take_zero]; exact ⟨a2, c2, rfl, hc2, hl2⟩)
 have y2 : w2.cell? ⟨gx, 2, none⟩ = some (.slice ta tl.length tc) := by simp [World.cell?, BX2.out]
 clear hb2 hc2 hl2 HB
 go_wp2_with fail
 go_loopg [3, 4] tl.length (fun g v u wr => ∃ k : Nat, u = .int .i64 k ∧ k + g = tl.length ∧ TV wr v (addN A ((tl.map (·.nm)).take k)) ∧ Below w2.heap.size w2 wr)
 case atStart => exact ⟨0, rfl, by omega, HT2.out, Below.refl _ _⟩
 case round =>
  obtain ⟨k, rfl, hk, htv, hbw⟩ := hrel
  clear HT2 y2
  obtain ⟨aM, cM, rfl, hcM, hlM⟩ := htv
  have BXr := Lib.hid (block_kept BX2.out hbw)
  have HBr := Lib.hid (HB2.out.trans (hbw.mono HB2.out.size))
  have HBw := Lib.hid hbw
  have y2 : wr.cell? ⟨gx, 2, none⟩ = some (.slice ta tl.length tc) := by simp [World.cell?, BXr.out]
  obtain ⟨M, hM⟩ : ∃ M, addN A ((tl.map (·.nm)).take k) = M := ⟨_, rfl⟩
  have hMl : M.length ≤ A.length + tl.length := by rw [← hM]; have h1 := addN_len7 ((tl.map (·.nm)).take k) A; rw [List.length_take, List.length_map] at h1; omega
  rw [hM] at hlM ⊢
  by_cases hlt2 : k < tl.length
  ·have d1 : decide (k < tl.length) = true := by simpa using hlt2
   have d2 : decide ((k : Int) < (tl.length : Int)) = true := by rw [decide_eq_true_eq]; omega
   have x1 : (k : Int) < (tl.length : Int) := by omega
   have hkt : KeptTo n0 w wr := Below.keptTo HBr.out hn0
   obtain ⟨b, o, rfl, hb, hr, -⟩ := InRow.at (InRow.keep hkt (fun x _ h => PT.In.keep hkt x h) HXT.out) hlt2
   have hnx := more_take7 A (tl.map (·.nm)) k (by simpa using hlt2)
   rw [hM, List.getElem_map] at hnx
   obtain ⟨x, hxg⟩ : ∃ x, tl[k] = x := ⟨_, rfl⟩
   rw [hxg] at hr hnx
   obtain ⟨bn, po, xx⟩ := x
   have r0 : wr.cell? ⟨b, o + k * 8, none⟩ = some (.string (bs bn)) := hr 0 _ rfl
   simp only at hnx
   have q := refmore_any M bn (by omega) aM cM hcM wr hlM
   obtain ⟨N1, hN1⟩ : ∃ N, more1 M bn = N := ⟨_, rfl⟩
   rw [hN1] at q hnx
   have HNX := Lib.hid hnx
   clear hr hxg hnx hbw hkt hM hlM hcM hN1
   go_wp2_with fail
   refine q.mono ?_
   clear q
   rintro e w3 ⟨v, rfl, ht3, hb3⟩
   have HFN : Hid (TV w3 v (addN A ((tl.map (·.nm)).take (k + 1))) ∧ Below w2.heap.size w2 w3) := Lib.hid ⟨by rw [HNX.out]; exact ht3, HBw.out.trans (hb3.mono HBw.out.size)⟩
   obtain ⟨a3, c3, rfl, -, -⟩ := ht3
   clear hb3 r0 y2
   go_wp2
   cases gk with
   | zero => omega
   | succ gg =>
    go_roundg gg
    case rel => exact ⟨k + 1, rfl, by omega, HFN.out⟩
    case measure => omega
  ·have d1 : decide (k < tl.length) = false := by simpa using hlt2
   have d2 : decide ((k : Int) < (tl.length : Int)) = false := by rw [decide_eq_false_iff_not]; omega
   have hM2 : addN A (tl.map (·.nm)) = M := by rw [← hM, List.take_of_length_le (by simp; omega)]
   have HT3 : Hid (TV wr (.slice aM M.length cM) (addN M ((pl.map (·.nm)).take 0))) := Lib.hid (by rw [List.take_zero]; exact ⟨aM, cM, rfl, hcM, hlM⟩)
   have HF3 : Hid (addN M (pl.map (·.nm)) = F) := Lib.hid (by rw [← hM2]; exact HFF.out)
   have y1 : wr.cell? ⟨gx, 1, none⟩ = some (.slice pa pl.length pc) := by simp [World.cell?, BXr.out]
   obtain ⟨w4, hw4⟩ : ∃ w4, wr = w4 := ⟨_, rfl⟩
   rw [hw4] at HT3 y1 y2 BXr HBr ⊢
   clear hM hM2 hlM hcM hbw HBw hw4
   go_wp2_with fail
   clear y1 y2
   go_loopg [3, 5] pl.length (fun g v u wr => ∃ k : Nat, u = .int .i64 k ∧ k + g = pl.length ∧ TV wr v (addN M ((pl.map (·.nm)).take k)) ∧ Below w4.heap.size w4 wr)
   case atStart => exact ⟨0, rfl, by omega, HT3.out, Below.refl _ _⟩
   case round =>
    obtain ⟨j, rfl, hj, htv, hbw⟩ := hrel
    clear HT3
    obtain ⟨aP, cP, rfl, hcP, hlP⟩ := htv
    have BXq := Lib.hid (block_kept BXr.out hbw)
    have HBq := Lib.hid (HBr.out.trans (hbw.mono HBr.out.size))
    have HBw := Lib.hid hbw
    have y1 : wr.cell? ⟨gx, 1, none⟩ = some (.slice pa pl.length pc) := by simp [World.cell?, BXq.out]
    obtain ⟨P, hP⟩ : ∃ P, addN M ((pl.map (·.nm)).take j) = P := ⟨_, rfl⟩
    have hPl : P.length ≤ M.length + pl.length := by rw [← hP]; have h1 := addN_len7 ((pl.map (·.nm)).take j) M; rw [List.length_take, List.length_map] at h1; omega
    rw [hP] at hlP ⊢
    by_cases hlt3 : j < pl.length
    ·have g1 : decide (j < pl.length) = true := by simpa using hlt3
     have g2 : decide ((j : Int) < (pl.length : Int)) = true := by rw [decide_eq_true_eq]; omega
     have x1 : (j : Int) < (pl.length : Int) := by omega
     have hkt : KeptTo n0 w wr := Below.keptTo HBq.out hn0
     obtain ⟨b, o, rfl, hb, hr, -⟩ := InRow.at (InRow.keep hkt (fun x _ h => BT.In.keep hkt x h) HXP.out) hlt3
     have hnx := more_take7 M (pl.map (·.nm)) j (by simpa using hlt3)
     rw [hP, List.getElem_map] at hnx
     obtain ⟨x, hxg⟩ : ∃ x, pl[j] = x := ⟨_, rfl⟩
     rw [hxg] at hr hnx
     obtain ⟨bn, xx⟩ := x
     have r0 : wr.cell? ⟨b, o + j * 7, none⟩ = some (.string (bs bn)) := hr 0 _ rfl
     simp only at hnx
     have q := refmore_any P bn (by omega) aP cP hcP wr hlP
     obtain ⟨N1, hN1⟩ : ∃ N, more1 P bn = N := ⟨_, rfl⟩
     rw [hN1] at q hnx
     have HNX := Lib.hid hnx
     clear hr hxg hnx hbw hkt hP hlP hcP hN1
     go_wp2_with fail
     refine q.mono ?_
     clear q
     rintro e w3 ⟨v, rfl, ht3, hb3⟩
     have HFN : Hid (TV w3 v (addN M ((pl.map (·.nm)).take (j + 1))) ∧ Below w4.heap.size w4 w3) := Lib.hid ⟨by rw [HNX.out]; exact ht3, HBw.out.trans (hb3.mono HBw.out.size)⟩
     obtain ⟨a3, c3, rfl, -, -⟩ := ht3
     clear hb3 r0 y1
     go_wp2
     cases gk with
     | zero => omega
     | succ gg =>
      go_roundg gg
      case rel => exact ⟨j + 1, rfl, by omega, HFN.out⟩
      case measure => omega
    ·have g1 : decide (j < pl.length) = false := by simpa using hlt3
     have g2 : decide ((j : Int) < (pl.length : Int)) = false := by rw [decide_eq_false_iff_not]; omega
     have HE : Hid (TV wr (.slice aP P.length cP) F) := Lib.hid (by
      rw [← HF3.out, show addN M (pl.map (·.nm)) = P by rw [← hP, List.take_of_length_le (by simp; omega)]]
      exact ⟨aP, cP, rfl, hcP, hlP⟩)
     have HLo := Lib.hid HBq.out
     clear hP hlP hcP hbw
     go_wp2
     go_ret
     first
      | exact ⟨_, rfl, HE.out, HLo.out⟩
      | (have h9 := HLo.out; rw [hgx] at h9; exact ⟨_, rfl, HE.out, h9⟩)
end Go.Proofs.YtiipjbafdhijlaaGreatDoor
namespace Go.Proofs.YtiipjbafdhijlaaGreatDoor
open Go Go.RowKit
set_option linter.unusedVariables false
set_option linter.unusedSimpArgs false
open Go.Sort
/-- A world without what lies below a block. -/
def frm (W : World) (z : Nat) : World := { W with heap := W.heap.mapIdx fun i o => if i < z then .cells #[] 0 (0, 0) else o }
theorem frm_size (W : World) (z : Nat) : (frm W z).heap.size = W.heap.size := by simp [frm]
theorem frm_cell {W : World} {z b o : Nat} {v : Value} : (frm W z).cell? ⟨b, o, none⟩ = some v ↔ z ≤ b ∧ W.cell? ⟨b, o, none⟩ = some v := by
 simp only [World.cell?, frm, Array.getElem?_mapIdx]
 cases h : W.heap[b]? with
 | none => simp
 | some ob =>
  by_cases hz : b < z
  ·simp only [Option.map_some, if_pos hz]
   constructor
   ·intro h2; simp at h2
   ·intro h2; omega
  ·simp only [Option.map_some, if_neg hz]
   exact ⟨fun h2 => ⟨by omega, h2⟩, fun h2 => h2.2⟩
theorem frm_kept (n : Nat) (W : World) (z : Nat) : KeptTo n (frm W z) W := fun b o v _ h => (frm_cell.1 h).2
theorem cell_lt {W : World} {b o : Nat} {v : Value} (h : W.cell? ⟨b, o, none⟩ = some v) : b < W.heap.size := by
 by_cases hb2 : b < W.heap.size
 ·exact hb2
 ·simp [World.cell?, Array.getElem?_eq_none (show W.heap.size ≤ b by omega)] at h
theorem frm_next {W W' : World} {n z z' : Nat} (hz : z' ≤ z) (h : ∀ i, z ≤ i → i < W.heap.size → W'.heap[i]? = W.heap[i]?) : KeptTo n (frm W z) (frm W' z') := by
 intro b o v hb hv
 obtain ⟨h1, h2⟩ := frm_cell.1 hv
 refine frm_cell.2 ⟨by omega, ?_⟩
 have hlt := cell_lt h2
 simp only [World.cell?] at h2 ⊢
 rw [h b h1 hlt]
 exact h2
/-- A kind of trees: of how many cells, where what is in it lies. -/
structure Kd (α : Type) where
 k : Nat
 ty : TypeId
 cells : α → List Value
 inn : Nat → World → α → Prop
 len : ∀ x, (cells x).length = k
 keep : ∀ {n : Nat} {W W' : World}, KeptTo n W W' → ∀ x, inn n W x → inn n W' x
 less : ∀ {n m : Nat} {W : World}, n ≤ m → ∀ x, inn n W x → inn m W x
theorem Kd.flat {α : Type} (K : Kd α) : ∀ l : List α, (l.flatMap K.cells).length = l.length * K.k
 | [] => by simp
 | x :: r => by rw [List.flatMap_cons, List.length_append, K.len, K.flat r, List.length_cons, Nat.succ_mul]; omega
theorem Kd.row {α : Type} (K : Kd α) {inn : α → Prop} {n : Nat} {W : World} : ∀ {l : List α} {b o : Nat}, b < n → (∀ j u, (l.flatMap K.cells)[j]? = some u → W.cell? ⟨b, o + j, none⟩ = some u) → (∀ x ∈ l, inn x) → InRow K.k K.cells inn n W l (some ⟨b, o, none⟩)
 | [], _, _, _, _, _ => trivial
 | x :: r, b, o, hb, h, hi => by
  have hl := K.len x
  refine ⟨⟨b, o, rfl, hb, fun j v hv => h j v (by rw [List.flatMap_cons, List.getElem?_append_left (by have := (List.getElem?_eq_some_iff.1 hv).1; omega)]; exact hv)⟩, hi x (by simp), ?_⟩
  rw [Option.map_some, show (⟨b, o, none⟩ : Addr).add K.k = ⟨b, o + K.k, none⟩ by simp [Addr.add]]
  refine K.row hb (fun j u hu => ?_) (fun y hy => hi y (by simp [hy]))
  have := h (K.k + j) u (by rw [List.flatMap_cons, List.getElem?_append_right (by omega), hl, show K.k + j - K.k = j by omega]; exact hu)
  rw [show o + K.k + j = o + (K.k + j) by omega]
  exact this
theorem Kd.flat_at {α : Type} (K : Kd α) {inn : α → Prop} {n : Nat} {W : World} : ∀ {l : List α} {b o : Nat}, InRow K.k K.cells inn n W l (some ⟨b, o, none⟩) → ∀ j u, (l.flatMap K.cells)[j]? = some u → W.cell? ⟨b, o + j, none⟩ = some u
 | [], _, _, _, j, u, h => by simp at h
 | x :: r, b, o, h, j, u, hu => by
  obtain ⟨⟨b', o', ha, _, hr⟩, _, ht⟩ := h
  have ha2 := Option.some.inj ha
  injection ha2 with e1 e2
  subst e1
  subst e2
  have hl := K.len x
  rw [List.flatMap_cons] at hu
  by_cases hj : j < K.k
  ·rw [List.getElem?_append_left (by omega)] at hu
   exact hr j u hu
  ·rw [List.getElem?_append_right (by omega), hl] at hu
   rw [Option.map_some, show (⟨b, o, none⟩ : Addr).add K.k = ⟨b, o + K.k, none⟩ by simp [Addr.add]] at ht
   have := K.flat_at ht (j - K.k) u hu
   rw [show o + K.k + (j - K.k) = o + j by omega] at this
   exact this
/-- The cells of a block begin with these. -/
def CellsT (t : TypeId) (W : World) (g : Nat) (L : List Value) : Prop := ∃ cur, W.heap[g]? = some (.cells cur t (0, 0)) ∧ cur.toList.take L.length = L
theorem CellsT.at {t : TypeId} {W : World} {g : Nat} {L : List Value} (h : CellsT t W g L) {j : Nat} {u : Value} (hu : L[j]? = some u) : W.cell? ⟨g, j, none⟩ = some u := by
 obtain ⟨cur, h1, h2⟩ := h
 have hj := (List.getElem?_eq_some_iff.1 hu).1
 have h3 : cur.toList[j]? = some u := by rw [← hu, ← h2, List.getElem?_take_of_lt hj]
 simp only [World.cell?, h1]
 simpa using h3
theorem CellsT.frozen {t : TypeId} {W : World} {g : Nat} {L : List Value} (h : CellsT t W g L) (j : Nat) : W.frozen? ⟨g, j, none⟩ = false := by
 obtain ⟨cur, h1, h2⟩ := h
 simp [World.frozen?, h1]
theorem CellsT.block {t : TypeId} {W W' : World} {g : Nat} {L : List Value} (h : CellsT t W g L) (hb : W'.heap[g]? = W.heap[g]?) : CellsT t W' g L := by
 obtain ⟨cur, h1, h2⟩ := h
 exact ⟨cur, hb.trans h1, h2⟩
theorem CellsT.lt {t : TypeId} {W : World} {g : Nat} {L : List Value} (h : CellsT t W g L) : g < W.heap.size := by
 obtain ⟨cur, h1, h2⟩ := h
 exact (Array.getElem?_eq_some_iff.1 h1).1
theorem CellsT.set {t : TypeId} {W : World} {g : Nat} {L : List Value} (h : CellsT t W g L) {j : Nat} (hj : j < L.length) (v : Value) : CellsT t (W.setCell ⟨g, j, none⟩ v) g (L.set j v) := by
 obtain ⟨cur, h1, h2⟩ := h
 refine ⟨cur.setIfInBounds j v, ?_, ?_⟩
 ·simp only [World.setCell, Array.getElem?_modify, ↓reduceIte]
  rw [h1]
  rfl
 ·rw [List.length_set, Array.toList_setIfInBounds, List.take_set, h2]
theorem elemK {α : Type} {K : Kd α} {t : TypeId} {W : World} {B k : Nat} {ys : List α} {x : α} {R : List Value} (h : CellsT t W B (ys.flatMap K.cells ++ (K.cells x ++ R))) (hl : ys.length = k) : ∀ j u, (K.cells x)[j]? = some u → W.cell? ⟨B, k * K.k + j, none⟩ = some u := fun j u hu => by
 refine h.at ?_
 have hj := (List.getElem?_eq_some_iff.1 hu).1
 have e := K.flat ys
 rw [hl] at e
 rw [List.getElem?_append_right (by omega), e, show k * K.k + j - k * K.k = j by omega, List.getElem?_append_left hj]
 exact hu
/-- Values put into cells of a block, one behind the other. -/
def putC (W : World) (g : Nat) : Nat → List Value → World
 | _, [] => W
 | o, c :: r => putC (W.setCell ⟨g, o, none⟩ c) g (o + 1) r
theorem putC_size (g : Nat) : ∀ (l : List Value) (W : World) (o : Nat), (putC W g o l).heap.size = W.heap.size
 | [], _, _ => rfl
 | c :: r, W, o => by rw [putC, putC_size g r]; simp
theorem putC_other (g b : Nat) (hb : b ≠ g) : ∀ (l : List Value) (W : World) (o : Nat), (putC W g o l).heap[b]? = W.heap[b]?
 | [], _, _ => rfl
 | c :: r, W, o => by rw [putC, putC_other g b hb r, Below.heap_setCell W ⟨g, o, none⟩ c b hb]
theorem putC_below {n g : Nat} (hg : n ≤ g) : ∀ (l : List Value) (W : World) (o : Nat), Below n W (putC W g o l)
 | [], W, _ => Below.refl _ _
 | c :: r, W, o => by rw [putC]; exact ((Below.refl n W).setCell (p := ⟨g, o, none⟩) hg c).trans (putC_below hg r _ _)
theorem putC_cells {t : TypeId} {g : Nat} (C : List Value) : ∀ (ys xs A : List Value) (W : World), xs.length = ys.length → CellsT t W g (A ++ (xs ++ C)) → CellsT t (putC W g A.length ys) g (A ++ (ys ++ C))
 | [], [], A, W, _, h => h
 | [], _ :: _, _, _, e, _ => by simp at e
 | _ :: _, [], _, _, e, _ => by simp at e
 | y :: r, x :: q, A, W, e, h => by
  rw [putC]
  have h1 := h.set (j := A.length) (by simp) y
  have e1 : (A ++ (x :: q ++ C)).set A.length y = (A ++ [y]) ++ (q ++ C) := by simp [List.set_append]
  rw [e1] at h1
  have h2 := putC_cells C r q (A ++ [y]) _ (by simpa using e) h1
  rw [List.length_append, List.length_singleton] at h2
  rw [List.append_assoc] at h2
  exact h2
/-- A round's state: so many are copied. -/
structure CpS {α β : Type} (K : Kd α) (nf : α → β) (w : World) (B : Nat) (l : List α) (k : Nat) (ys : List α) (wr : World) : Prop where
 len : ys.length = k
 cells : CellsT K.ty wr B ((ys ++ l.drop k).flatMap K.cells)
 ins : ∀ y ∈ ys, K.inn wr.heap.size (frm wr (B + 1)) y
 nrm : ys.map nf = (l.take k).map nf
 low : Below w.heap.size w wr
theorem CpS.top {α β : Type} {K : Kd α} {nf : α → β} {w wr : World} {B k : Nat} {l ys : List α} (h : CpS K nf w B l k ys wr) : B < wr.heap.size := h.cells.lt
theorem CpS.step {α β : Type} {K : Kd α} {nf : α → β} {w wr w1 w2 : World} {B k : Nat} {l ys : List α} {y : α} (h : CpS K nf w B l k ys wr) (hB : w.heap.size ≤ B) (hlt : k < l.length) (hb1 : Below wr.heap.size wr w1) (hb2 : Below w1.heap.size w1 w2) (hy : nf y = nf l[k]) (hyi : K.inn w2.heap.size (frm w2 w1.heap.size) y) :
  CpS K nf w B l (k + 1) (ys ++ [y]) (putC w2 B (k * K.k) (K.cells y)) := by
 have ht := h.top
 have h1 := hb1.size
 have h2 := hb2.size
 have hdr : l.drop k = l[k] :: l.drop (k + 1) := (List.getElem_cons_drop hlt).symm
 have hc0 := h.cells
 rw [hdr, List.flatMap_append, List.flatMap_cons] at hc0
 have hyl : (ys.flatMap K.cells).length = k * K.k := by rw [K.flat, h.len]
 have hc1 := (hc0.block (hb1.block B ht)).block (hb2.block B (by omega))
 have hc2 := putC_cells (W := w2) (g := B) ((l.drop (k + 1)).flatMap K.cells) (K.cells y) (K.cells l[k]) (ys.flatMap K.cells) (by rw [K.len, K.len]) hc1
 rw [hyl] at hc2
 refine ⟨by simp [h.len], ?_, fun z hz => ?_, ?_, ?_⟩
 ·rw [show ((ys ++ [y]) ++ l.drop (k + 1)).flatMap K.cells = ys.flatMap K.cells ++ (K.cells y ++ (l.drop (k + 1)).flatMap K.cells) by simp [List.flatMap_append]]
  exact hc2
 ·rw [putC_size]
  rcases List.mem_append.1 hz with hz | hz
  ·refine K.less (show wr.heap.size ≤ w2.heap.size by omega) _ (K.keep (frm_next (Nat.le_refl _) (fun i hi hi2 => ?_)) _ (h.ins z hz))
   rw [putC_other _ _ (by omega), hb2.block i (by omega), hb1.block i hi2]
  ·rw [List.mem_singleton.1 hz]
   refine K.keep (frm_next (by omega) (fun i hi hi2 => ?_)) _ hyi
   rw [putC_other _ _ (by omega)]
 ·rw [List.map_append, h.nrm, List.take_succ_eq_append_getElem hlt, List.map_append]
  simp [hy]
 ·exact h.low.trans ((hb1.mono h.low.size).trans ((hb2.mono (Nat.le_trans h.low.size h1)).trans (putC_below hB _ _ _)))
theorem CpS.done {α β : Type} {K : Kd α} {nf : α → β} {w wr : World} {B : Nat} {l ys : List α} (h : CpS K nf w B l l.length ys wr) (hB : w.heap.size ≤ B) :
  ys.map nf = l.map nf ∧ InRow K.k K.cells (K.inn wr.heap.size (frm wr w.heap.size)) wr.heap.size (frm wr w.heap.size) ys (some ⟨B, 0, none⟩) := by
 refine ⟨by have := h.nrm; rwa [List.take_length] at this, K.row h.top (fun j u hu => ?_) (fun y hy => ?_)⟩
 ·have hc := h.cells
  rw [List.drop_length, List.append_nil] at hc
  rw [Nat.zero_add]
  exact frm_cell.2 ⟨hB, hc.at hu⟩
 ·exact K.keep (frm_next (by omega) (fun i _ _ => rfl)) _ (h.ins y hy)
/-- A row, as Clone leaves it. -/
theorem CpS.start {α β : Type} {K : Kd α} (nf : α → β) {w wr : World} {B base : Nat} {c : Nat} {l : List α} (ho : wr.ownsRow base K.ty K.k (.slice (some ⟨B, 0, none⟩) l.length c) l.length (l.flatMap K.cells)) (hb : Below w.heap.size w wr) (hbase : w.heap.size ≤ base) : CpS K nf w B l 0 [] wr ∧ w.heap.size ≤ B := by
 rcases ho.2 with ⟨h, _⟩ | ⟨g2, cap, cur, h2, h3, h4, h5, h6, h7, h8⟩
 ·cases h
 ·injection h2 with h9
  injection h9 with h9
  injection h9 with h10
  subst h10
  exact ⟨⟨rfl, ⟨cur, h4, by rw [List.drop_zero, List.nil_append, K.flat]; exact h8⟩, (fun y hy => by cases hy), rfl, hb⟩, by omega⟩
/-- What copying a row leaves. -/
def CpPost {α β : Type} (K : Kd α) (nf : α → β) (l : List α) (w : World) (e : Ending) (W' : World) : Prop := ∃ (a : Option Addr) (c : Nat) (ys : List α), e = .returned (.slice a ys.length c) ∧ ys.map nf = l.map nf ∧ InRow K.k K.cells (K.inn W'.heap.size (frm W' w.heap.size)) W'.heap.size (frm W' w.heap.size) ys a ∧ Below w.heap.size w W'
/-- What copying one leaves. -/
def Cp1 {α β : Type} (K : Kd α) (nf : α → β) (x : α) (w : World) (e : Ending) (W' : World) : Prop := ∃ y : α, e = .returned (.agg (K.cells y).toArray) ∧ nf y = nf x ∧ K.inn W'.heap.size (frm W' w.heap.size) y ∧ Below w.heap.size w W'
/-! ### Trees without their places -/
mutual
def XT.nrm : XT → XT | .mk op nm n wd v _ _ l => .mk op nm n wd v none 0 (XT.nrmL l)
def XT.nrmL : List XT → List XT | [] => [] | x :: r => XT.nrm x :: XT.nrmL r
end
theorem XT.nrmL_map : ∀ l, XT.nrmL l = l.map XT.nrm
 | [] => rfl
 | x :: r => by rw [XT.nrmL, XT.nrmL_map r]; rfl
mutual
def ST.nrm : ST → ST | .mk op nm _ _ xl _ _ sl => .mk op nm none 0 (xl.map XT.nrm) none 0 (ST.nrmL sl)
def ST.nrmL : List ST → List ST | [] => [] | x :: r => ST.nrm x :: ST.nrmL r
end
theorem ST.nrmL_map : ∀ l, ST.nrmL l = l.map ST.nrm
 | [] => rfl
 | x :: r => by rw [ST.nrmL, ST.nrmL_map r]; rfl
def BT.nrm (b : BT) : BT := ⟨b.nm, b.x.nrm⟩
def PT.nrm (b : PT) : PT := ⟨b.nm, b.out, b.x.nrm⟩
mutual
def IT.nrm : IT → IT | .mk op nm nf _ _ xl _ _ sl _ _ ll _ _ el _ _ pl _ _ bl => .mk op nm nf none 0 (xl.map XT.nrm) none 0 (sl.map ST.nrm) none 0 (IT.nrmL ll) none 0 (IT.nrmL el) none 0 (pl.map BT.nrm) none 0 (bl.map BT.nrm)
def IT.nrmL : List IT → List IT | [] => [] | x :: r => IT.nrm x :: IT.nrmL r
end
theorem IT.nrmL_map : ∀ l, IT.nrmL l = l.map IT.nrm
 | [] => rfl
 | x :: r => by rw [IT.nrmL, IT.nrmL_map r]; rfl
def MT.nrm : MT → MT | ⟨nm, _, _, pl, _, _, tl, _, _, il⟩ => ⟨nm, none, 0, pl.map BT.nrm, none, 0, tl.map PT.nrm, none, 0, il.map IT.nrm⟩
end Go.Proofs.YtiipjbafdhijlaaGreatDoor
namespace Go.Proofs.YtiipjbafdhijlaaGreatDoor
open Go Go.RowKit
set_option linter.unusedVariables false
set_option linter.unusedSimpArgs false
open Go.Sort
theorem own_shape6 {w : World} {B e size n : Nat} {v : Value} {xs : List Value} (h : w.ownsRow B e size v n xs) : ∃ a c, v = .slice a n c := by
 rcases h.2 with ⟨rfl, rfl⟩ | ⟨g, cap, cur, rfl, _⟩
 ·exact ⟨none, 0, rfl⟩
 ·exact ⟨_, _, rfl⟩
theorem wpList_append_kd {α : Type} (K : Kd α) (rt : TypeId) (bytes : Nat) (zv : Value) (hu : Tryz.prog.underlying rt = some (.slice K.ty)) (hinfo : (Tryz.prog.info? K.ty).map (fun i => (i.zero, i.size, i.bytes)) = some (some zv, K.k, bytes)) (hzv : zv.cells.size = K.k) (hk : 0 < K.k) (hby : bytes ≤ 200) (hones : ∀ x, ∀ u ∈ K.cells x, u.oneCell' = true)
  {w : World} {ops : Array Oper} {rest : List Oper} {op : Oper} {a : Act} {Q : Exit → Act → World → Prop} (hgd : op.guard = none) (s x : Operand)
  (ho : op.op = .call { callee := .builtin .append, args := #[s, x], argTypes := #[rt, rt] })
  (base : Nat) (v : Value) (n : Nat) (xs : List Value) (hs : a.eval s = v) (hown : w.ownsRow base K.ty K.k v n xs)
  (ad : Option Addr) (l : List α) (c : Nat) (hx : a.eval x = .slice ad l.length c) (hc : ad = none → c = 0) (inn : α → Prop) (n0 : Nat) (hl : InRow K.k K.cells inn n0 w l ad) (hn : n + l.length ≤ 12000000) (hbase : base ≤ w.heap.size)
  (h : ∀ v' w', w'.ownsRow base K.ty K.k v' (n + l.length) (xs ++ l.flatMap K.cells) → w.grownBy w' v.ownBlock → wpList Tryz.prog ops Q rest (a.put op.dst v') w') : wpList Tryz.prog ops Q (op :: rest) a w := by
 obtain ⟨i0, hi0, hz0, hz1, hz2⟩ := info_parts hinfo
 cases ad with
 | none =>
  have hl0 : l = [] := by
   cases l with
   | nil => rfl
   | cons y r => obtain ⟨⟨b, o, h, _⟩, _⟩ := hl; cases h
  subst hl0
  rw [hc rfl] at hx
  refine wpList_append_own_none hgd s x rt ho base K.ty i0 K.k hu hi0 v n xs hs hown hx ?_
  refine h v w ?_ ⟨rfl, rfl, rfl, Nat.le_refl _, fun _ _ _ => rfl⟩
  simpa using hown
 | some ad =>
  have hnews : ∀ j u, (l.flatMap K.cells)[j]? = some u → w.cell? (ad.add j) = some u := by
   cases l with
   | nil => intro j u hu; simp at hu
   | cons y r =>
    have hl2 := hl
    obtain ⟨⟨b, o, h, _⟩, _⟩ := hl
    have h2 := Option.some.inj h
    subst h2
    intro j u hu
    rw [Addr.add_mid]
    exact K.flat_at hl2 j u hu
  refine wpList_append_own w hgd s x rt ho base K.ty i0 _ K.k bytes hu hi0 hz0 hz1 hz2 hzv hk v n xs hs hown ad l.length c (l.flatMap K.cells) hx (K.flat l) hnews (fun u hu => ?_) (by simp only [maxLen]; omega) ?_ hbase (fun v' w' h1 h2 _ => h v' w' h1 h2)
  ·obtain ⟨y, _, hy⟩ := List.mem_flatMap.1 hu
   exact hones y u hy
  ·exact Nat.le_trans (Nat.mul_le_mul hn hby) (by decide)
/-- What Clone leaves. -/
def CloneK {α : Type} (K : Kd α) (l : List α) (w : World) (e : Ending) (w' : World) : Prop := ∃ a c, e = .returned (.slice a l.length c) ∧ w'.ownsRow w.heap.size K.ty K.k (.slice a l.length c) l.length (l.flatMap K.cells) ∧ Below w.heap.size w w'
abbrev kdX : Kd XT := ⟨6, 54, XT.cells, XT.In, (fun x => by obtain ⟨op, nm, n, wd, v, a, c, l⟩ := x; rfl), (fun hk => XT.In.keep hk), (fun hm => XT.In.less hm)⟩
theorem onesX (x : XT) : ∀ u ∈ x.cells, u.oneCell' = true := by
 obtain ⟨op, nm, n, wd, v, a, c, l⟩ := x
 intro u hx
 simp only [XT.cells, XT.cells, List.mem_cons, List.not_mem_nil, or_false] at hx
 rcases hx with rfl | rfl | rfl | rfl | rfl | rfl <;> rfl
theorem infoKX : (Tryz.prog.info? 54).map (fun i => (i.zero, i.size, i.bytes)) = some (some (.agg #[.int .i64 0, .string ⟨#[]⟩, .int .i64 0, .int .i64 0, .int .u64 0, .slice none 0 0]), 6, 72) := by kernel_rfl
set_option maxHeartbeats 4000000 in
set_option maxRecDepth 100000 in
theorem cloneKX (l : List XT) (hll : l.length ≤ 12000000) (a : Option Addr) (c n0 : Nat) (w : World) (hn0 : n0 ≤ w.heap.size) (hin : InRow 6 XT.cells (XT.In n0 w) n0 w l a) : Calls Tryz.prog 127 #[.slice a l.length c] w (CloneK kdX l w) := by
 have qT : ∀ (w : World) (r : Option Addr) (n c : Nat), (binOp .eql 45 (.slice r n c) (.slice none 0 0)).run Tryz.prog w = .ok (.bool r.isNone) w := fun w r n c => Lib.run_eql_slice_nil w _ _ r n c 0 0 Tryz.underlying45
 cases a with
 | none =>
  have hl0 : l = [] := by
   cases l with
   | nil => rfl
   | cons y r => obtain ⟨⟨b, o, h, _⟩, _⟩ := hin; cases h
  subst hl0
  simp only [List.length_nil]
  go_enter Tryz.func127, Tryz.ntmps127
  go_wp2
  go_ret
  exact ⟨none, 0, rfl, ⟨rfl, .inl ⟨rfl, rfl⟩⟩, Below.refl _ _⟩
 | some ad =>
  have hown0 : (w.alloc (.cells #[] 54)).ownsRow w.heap.size 54 6 (.slice (some ⟨w.heap.size, 0, none⟩) 0 0) 0 [] := ⟨rfl, .inr ⟨w.heap.size, 0, #[], rfl, Nat.le_refl _, World.alloc_heap_new w _, Nat.le_refl _, by decide, rfl, rfl⟩⟩
  have kE : Below w.heap.size w (w.alloc (.cells #[] 54)) := (Below.refl _ _).alloc (Nat.le_refl _) _
  have hrow1 := hin.keep (Below.keptTo kE hn0) (fun x _ => XT.In.keep (Below.keptTo kE hn0) x)
  have HR := Lib.hid (And.intro hown0 (And.intro hrow1 kE))
  clear hown0 hrow1 kE hin
  go_enter Tryz.func127, Tryz.ntmps127
  go_upto_region 3 with (fail)
  go_wp2_with (at_builtin; refine wpList_append_kd kdX 45 72 _ Tryz.underlying45 infoKX rfl (by decide) (by decide) onesX rfl (.tmp 5) (.tmp 6) rfl w.heap.size (.slice (some ⟨w.heap.size, 0, none⟩) 0 0) 0 [] rfl HR.out.1 (some ad) l c rfl (fun e => by cases e) _ n0 HR.out.2.1 (by omega) (by simp) ?_; intro v5 w5 own5 hg5; rw [Nat.zero_add, List.nil_append] at own5; obtain ⟨a5, c5, rfl⟩ := own_shape6 own5; have hB5 := HR.out.2.2.grown hg5 (by simp) (fun k e => by cases e; exact Nat.le_refl _))
  go_ret
  exact ⟨a5, c5, rfl, own5, hB5⟩
abbrev kdS : Kd ST := ⟨4, 134, ST.cells, ST.In, (fun x => by obtain ⟨op, nm, xa, xc, xl, sa, sc, sl⟩ := x; rfl), (fun hk => ST.In.keep hk), (fun hm => ST.In.less hm)⟩
theorem onesS (x : ST) : ∀ u ∈ x.cells, u.oneCell' = true := by
 obtain ⟨op, nm, xa, xc, xl, sa, sc, sl⟩ := x
 intro u hx
 simp only [ST.cells, XT.cells, List.mem_cons, List.not_mem_nil, or_false] at hx
 rcases hx with rfl | rfl | rfl | rfl <;> rfl
theorem infoKS : (Tryz.prog.info? 134).map (fun i => (i.zero, i.size, i.bytes)) = some (some (.agg #[.int .i64 0, .string ⟨#[]⟩, .slice none 0 0, .slice none 0 0]), 4, 72) := by kernel_rfl
set_option maxHeartbeats 4000000 in
set_option maxRecDepth 100000 in
theorem cloneKS (l : List ST) (hll : l.length ≤ 12000000) (a : Option Addr) (c n0 : Nat) (w : World) (hn0 : n0 ≤ w.heap.size) (hin : InRow 4 ST.cells (ST.In n0 w) n0 w l a) : Calls Tryz.prog 128 #[.slice a l.length c] w (CloneK kdS l w) := by
 have qT : ∀ (w : World) (r : Option Addr) (n c : Nat), (binOp .eql 46 (.slice r n c) (.slice none 0 0)).run Tryz.prog w = .ok (.bool r.isNone) w := fun w r n c => Lib.run_eql_slice_nil w _ _ r n c 0 0 Tryz.underlying46
 cases a with
 | none =>
  have hl0 : l = [] := by
   cases l with
   | nil => rfl
   | cons y r => obtain ⟨⟨b, o, h, _⟩, _⟩ := hin; cases h
  subst hl0
  simp only [List.length_nil]
  go_enter Tryz.func128, Tryz.ntmps128
  go_wp2
  go_ret
  exact ⟨none, 0, rfl, ⟨rfl, .inl ⟨rfl, rfl⟩⟩, Below.refl _ _⟩
 | some ad =>
  have hown0 : (w.alloc (.cells #[] 134)).ownsRow w.heap.size 134 4 (.slice (some ⟨w.heap.size, 0, none⟩) 0 0) 0 [] := ⟨rfl, .inr ⟨w.heap.size, 0, #[], rfl, Nat.le_refl _, World.alloc_heap_new w _, Nat.le_refl _, by decide, rfl, rfl⟩⟩
  have kE : Below w.heap.size w (w.alloc (.cells #[] 134)) := (Below.refl _ _).alloc (Nat.le_refl _) _
  have hrow1 := hin.keep (Below.keptTo kE hn0) (fun x _ => ST.In.keep (Below.keptTo kE hn0) x)
  have HR := Lib.hid (And.intro hown0 (And.intro hrow1 kE))
  clear hown0 hrow1 kE hin
  go_enter Tryz.func128, Tryz.ntmps128
  go_upto_region 3 with (fail)
  go_wp2_with (at_builtin; refine wpList_append_kd kdS 46 72 _ Tryz.underlying46 infoKS rfl (by decide) (by decide) onesS rfl (.tmp 5) (.tmp 6) rfl w.heap.size (.slice (some ⟨w.heap.size, 0, none⟩) 0 0) 0 [] rfl HR.out.1 (some ad) l c rfl (fun e => by cases e) _ n0 HR.out.2.1 (by omega) (by simp) ?_; intro v5 w5 own5 hg5; rw [Nat.zero_add, List.nil_append] at own5; obtain ⟨a5, c5, rfl⟩ := own_shape6 own5; have hB5 := HR.out.2.2.grown hg5 (by simp) (fun k e => by cases e; exact Nat.le_refl _))
  go_ret
  exact ⟨a5, c5, rfl, own5, hB5⟩
abbrev kdI : Kd IT := ⟨9, 48, IT.cells, IT.In, (fun x => by obtain ⟨op, nm, nf, xa, xc, xl, sa, sc, sl, la, lc, ll, ea, ec, el, pa, pc, pl, ba, bc, bl⟩ := x; rfl), (fun hk => IT.In.keep hk), (fun hm => IT.In.less hm)⟩
theorem onesI (x : IT) : ∀ u ∈ x.cells, u.oneCell' = true := by
 obtain ⟨op, nm, nf, xa, xc, xl, sa, sc, sl, la, lc, ll, ea, ec, el, pa, pc, pl, ba, bc, bl⟩ := x
 intro u hx
 simp only [IT.cells, XT.cells, List.mem_cons, List.not_mem_nil, or_false] at hx
 rcases hx with rfl | rfl | rfl | rfl | rfl | rfl | rfl | rfl | rfl <;> rfl
theorem infoKI : (Tryz.prog.info? 48).map (fun i => (i.zero, i.size, i.bytes)) = some (some (.agg #[.int .i64 0, .string ⟨#[]⟩, .string ⟨#[]⟩, .slice none 0 0, .slice none 0 0, .slice none 0 0, .slice none 0 0, .slice none 0 0, .slice none 0 0]), 9, 184) := by kernel_rfl
set_option maxHeartbeats 4000000 in
set_option maxRecDepth 100000 in
theorem cloneKI (l : List IT) (hll : l.length ≤ 12000000) (a : Option Addr) (c n0 : Nat) (w : World) (hn0 : n0 ≤ w.heap.size) (hin : InRow 9 IT.cells (IT.In n0 w) n0 w l a) : Calls Tryz.prog 104 #[.slice a l.length c] w (CloneK kdI l w) := by
 have qT : ∀ (w : World) (r : Option Addr) (n c : Nat), (binOp .eql 37 (.slice r n c) (.slice none 0 0)).run Tryz.prog w = .ok (.bool r.isNone) w := fun w r n c => Lib.run_eql_slice_nil w _ _ r n c 0 0 Tryz.underlying37
 cases a with
 | none =>
  have hl0 : l = [] := by
   cases l with
   | nil => rfl
   | cons y r => obtain ⟨⟨b, o, h, _⟩, _⟩ := hin; cases h
  subst hl0
  simp only [List.length_nil]
  go_enter Tryz.func104, Tryz.ntmps104
  go_wp2
  go_ret
  exact ⟨none, 0, rfl, ⟨rfl, .inl ⟨rfl, rfl⟩⟩, Below.refl _ _⟩
 | some ad =>
  have hown0 : (w.alloc (.cells #[] 48)).ownsRow w.heap.size 48 9 (.slice (some ⟨w.heap.size, 0, none⟩) 0 0) 0 [] := ⟨rfl, .inr ⟨w.heap.size, 0, #[], rfl, Nat.le_refl _, World.alloc_heap_new w _, Nat.le_refl _, by decide, rfl, rfl⟩⟩
  have kE : Below w.heap.size w (w.alloc (.cells #[] 48)) := (Below.refl _ _).alloc (Nat.le_refl _) _
  have hrow1 := hin.keep (Below.keptTo kE hn0) (fun x _ => IT.In.keep (Below.keptTo kE hn0) x)
  have HR := Lib.hid (And.intro hown0 (And.intro hrow1 kE))
  clear hown0 hrow1 kE hin
  go_enter Tryz.func104, Tryz.ntmps104
  go_upto_region 3 with (fail)
  go_wp2_with (at_builtin; refine wpList_append_kd kdI 37 184 _ Tryz.underlying37 infoKI rfl (by decide) (by decide) onesI rfl (.tmp 5) (.tmp 6) rfl w.heap.size (.slice (some ⟨w.heap.size, 0, none⟩) 0 0) 0 [] rfl HR.out.1 (some ad) l c rfl (fun e => by cases e) _ n0 HR.out.2.1 (by omega) (by simp) ?_; intro v5 w5 own5 hg5; rw [Nat.zero_add, List.nil_append] at own5; obtain ⟨a5, c5, rfl⟩ := own_shape6 own5; have hB5 := HR.out.2.2.grown hg5 (by simp) (fun k e => by cases e; exact Nat.le_refl _))
  go_ret
  exact ⟨a5, c5, rfl, own5, hB5⟩
abbrev kdB : Kd BT := ⟨7, 78, BT.cells, BT.In, (fun x => by obtain ⟨bn, ⟨op, nm, n, wd, v, a, c, l⟩⟩ := x; rfl), (fun hk => BT.In.keep hk), (fun hm => BT.In.less hm)⟩
theorem onesB (x : BT) : ∀ u ∈ x.cells, u.oneCell' = true := by
 obtain ⟨bn, ⟨op, nm, n, wd, v, a, c, l⟩⟩ := x
 intro u hx
 simp only [BT.cells, XT.cells, List.mem_cons, List.not_mem_nil, or_false] at hx
 rcases hx with rfl | rfl | rfl | rfl | rfl | rfl | rfl <;> rfl
theorem infoKB : (Tryz.prog.info? 78).map (fun i => (i.zero, i.size, i.bytes)) = some (some (.agg #[.string ⟨#[]⟩, .int .i64 0, .string ⟨#[]⟩, .int .i64 0, .int .i64 0, .int .u64 0, .slice none 0 0]), 7, 88) := by kernel_rfl
set_option maxHeartbeats 4000000 in
set_option maxRecDepth 100000 in
theorem cloneKB (l : List BT) (hll : l.length ≤ 12000000) (a : Option Addr) (c n0 : Nat) (w : World) (hn0 : n0 ≤ w.heap.size) (hin : InRow 7 BT.cells (BT.In n0 w) n0 w l a) : Calls Tryz.prog 101 #[.slice a l.length c] w (CloneK kdB l w) := by
 have qT : ∀ (w : World) (r : Option Addr) (n c : Nat), (binOp .eql 35 (.slice r n c) (.slice none 0 0)).run Tryz.prog w = .ok (.bool r.isNone) w := fun w r n c => Lib.run_eql_slice_nil w _ _ r n c 0 0 Tryz.underlying35
 cases a with
 | none =>
  have hl0 : l = [] := by
   cases l with
   | nil => rfl
   | cons y r => obtain ⟨⟨b, o, h, _⟩, _⟩ := hin; cases h
  subst hl0
  simp only [List.length_nil]
  go_enter Tryz.func101, Tryz.ntmps101
  go_wp2
  go_ret
  exact ⟨none, 0, rfl, ⟨rfl, .inl ⟨rfl, rfl⟩⟩, Below.refl _ _⟩
 | some ad =>
  have hown0 : (w.alloc (.cells #[] 78)).ownsRow w.heap.size 78 7 (.slice (some ⟨w.heap.size, 0, none⟩) 0 0) 0 [] := ⟨rfl, .inr ⟨w.heap.size, 0, #[], rfl, Nat.le_refl _, World.alloc_heap_new w _, Nat.le_refl _, by decide, rfl, rfl⟩⟩
  have kE : Below w.heap.size w (w.alloc (.cells #[] 78)) := (Below.refl _ _).alloc (Nat.le_refl _) _
  have hrow1 := hin.keep (Below.keptTo kE hn0) (fun x _ => BT.In.keep (Below.keptTo kE hn0) x)
  have HR := Lib.hid (And.intro hown0 (And.intro hrow1 kE))
  clear hown0 hrow1 kE hin
  go_enter Tryz.func101, Tryz.ntmps101
  go_upto_region 3 with (fail)
  go_wp2_with (at_builtin; refine wpList_append_kd kdB 35 88 _ Tryz.underlying35 infoKB rfl (by decide) (by decide) onesB rfl (.tmp 5) (.tmp 6) rfl w.heap.size (.slice (some ⟨w.heap.size, 0, none⟩) 0 0) 0 [] rfl HR.out.1 (some ad) l c rfl (fun e => by cases e) _ n0 HR.out.2.1 (by omega) (by simp) ?_; intro v5 w5 own5 hg5; rw [Nat.zero_add, List.nil_append] at own5; obtain ⟨a5, c5, rfl⟩ := own_shape6 own5; have hB5 := HR.out.2.2.grown hg5 (by simp) (fun k e => by cases e; exact Nat.le_refl _))
  go_ret
  exact ⟨a5, c5, rfl, own5, hB5⟩
abbrev kdP : Kd PT := ⟨8, 76, PT.cells, PT.In, (fun x => by obtain ⟨bn, po, ⟨op, nm, n, wd, v, a, c, l⟩⟩ := x; rfl), (fun hk => PT.In.keep hk), (fun hm => PT.In.less hm)⟩
theorem onesP (x : PT) : ∀ u ∈ x.cells, u.oneCell' = true := by
 obtain ⟨bn, po, ⟨op, nm, n, wd, v, a, c, l⟩⟩ := x
 intro u hx
 simp only [PT.cells, XT.cells, List.mem_cons, List.not_mem_nil, or_false] at hx
 rcases hx with rfl | rfl | rfl | rfl | rfl | rfl | rfl | rfl <;> rfl
theorem infoKP : (Tryz.prog.info? 76).map (fun i => (i.zero, i.size, i.bytes)) = some (some (.agg #[.string ⟨#[]⟩, .bool false, .int .i64 0, .string ⟨#[]⟩, .int .i64 0, .int .i64 0, .int .u64 0, .slice none 0 0]), 8, 96) := by kernel_rfl
set_option maxHeartbeats 4000000 in
set_option maxRecDepth 100000 in
theorem cloneKP (l : List PT) (hll : l.length ≤ 12000000) (a : Option Addr) (c n0 : Nat) (w : World) (hn0 : n0 ≤ w.heap.size) (hin : InRow 8 PT.cells (PT.In n0 w) n0 w l a) : Calls Tryz.prog 103 #[.slice a l.length c] w (CloneK kdP l w) := by
 have qT : ∀ (w : World) (r : Option Addr) (n c : Nat), (binOp .eql 36 (.slice r n c) (.slice none 0 0)).run Tryz.prog w = .ok (.bool r.isNone) w := fun w r n c => Lib.run_eql_slice_nil w _ _ r n c 0 0 Tryz.underlying36
 cases a with
 | none =>
  have hl0 : l = [] := by
   cases l with
   | nil => rfl
   | cons y r => obtain ⟨⟨b, o, h, _⟩, _⟩ := hin; cases h
  subst hl0
  simp only [List.length_nil]
  go_enter Tryz.func103, Tryz.ntmps103
  go_wp2
  go_ret
  exact ⟨none, 0, rfl, ⟨rfl, .inl ⟨rfl, rfl⟩⟩, Below.refl _ _⟩
 | some ad =>
  have hown0 : (w.alloc (.cells #[] 76)).ownsRow w.heap.size 76 8 (.slice (some ⟨w.heap.size, 0, none⟩) 0 0) 0 [] := ⟨rfl, .inr ⟨w.heap.size, 0, #[], rfl, Nat.le_refl _, World.alloc_heap_new w _, Nat.le_refl _, by decide, rfl, rfl⟩⟩
  have kE : Below w.heap.size w (w.alloc (.cells #[] 76)) := (Below.refl _ _).alloc (Nat.le_refl _) _
  have hrow1 := hin.keep (Below.keptTo kE hn0) (fun x _ => PT.In.keep (Below.keptTo kE hn0) x)
  have HR := Lib.hid (And.intro hown0 (And.intro hrow1 kE))
  clear hown0 hrow1 kE hin
  go_enter Tryz.func103, Tryz.ntmps103
  go_upto_region 3 with (fail)
  go_wp2_with (at_builtin; refine wpList_append_kd kdP 36 96 _ Tryz.underlying36 infoKP rfl (by decide) (by decide) onesP rfl (.tmp 5) (.tmp 6) rfl w.heap.size (.slice (some ⟨w.heap.size, 0, none⟩) 0 0) 0 [] rfl HR.out.1 (some ad) l c rfl (fun e => by cases e) _ n0 HR.out.2.1 (by omega) (by simp) ?_; intro v5 w5 own5 hg5; rw [Nat.zero_add, List.nil_append] at own5; obtain ⟨a5, c5, rfl⟩ := own_shape6 own5; have hB5 := HR.out.2.2.grown hg5 (by simp) (fun k e => by cases e; exact Nat.le_refl _))
  go_ret
  exact ⟨a5, c5, rfl, own5, hB5⟩
end Go.Proofs.YtiipjbafdhijlaaGreatDoor
namespace Go.Proofs.YtiipjbafdhijlaaGreatDoor
open Go Go.RowKit
set_option linter.unusedVariables false
set_option linter.unusedSimpArgs false
open Go.Sort
/-- A module with items more, in a new row. -/
def addI (m : MT) (L : List IT) (ia : Option Addr) (ic : Nat) : MT := ⟨m.nm, m.pa, m.pc, m.pl, m.ta, m.tc, m.tl, ia, ic, m.il ++ L⟩
abbrev kdM7 : Kd MT := ⟨4, 39, MT.cells, MT.In, (fun x => by cases x; rfl), (fun hk => MT.In.keep hk), (fun hm => MT.In.less hm)⟩
theorem inrow_one7 (w : World) (x : MT) : InRow 4 MT.cells (fun _ => True) (w.heap.size + 1) (w.alloc (.cells x.cells.toArray 39)) [x] (some ⟨w.heap.size, 0, none⟩) := by
 refine ⟨⟨w.heap.size, 0, rfl, by omega, fun j v hv => ?_⟩, trivial, trivial⟩
 have h := World.alloc_heap_new w (.cells x.cells.toArray 39)
 simp only [World.cell?, h]
 simpa using hv
theorem row_kept7 {n0 n m : Nat} {w W' : World} (hk : KeptTo n0 w W') : ∀ {l : List IT} {b o : Nat}, b < m → W'.heap[b]? = w.heap[b]? → InRow 9 IT.cells (IT.In n0 w) n w l (some ⟨b, o, none⟩) → InRow 9 IT.cells (IT.In n0 W') m W' l (some ⟨b, o, none⟩)
 | [], _, _, _, _, _ => trivial
 | x :: r, b, o, hb, he, h => by
  obtain ⟨⟨b', o', ha, _, hr⟩, hx, ht⟩ := h
  have ha2 := Option.some.inj ha
  injection ha2 with e1 e2
  subst e1
  subst e2
  refine ⟨⟨b, o, rfl, hb, fun j v hv => ?_⟩, IT.In.keep hk _ hx, ?_⟩
  ·rw [World.cell?_of_block (w := w) he]; exact hr j v hv
  ·rw [Option.map_some, show (⟨b, o, none⟩ : Addr).add 9 = ⟨b, o + 9, none⟩ by simp [Addr.add]] at ht ⊢
   exact row_kept7 hk hb he ht
theorem own_emptyI (w : World) : (w.alloc (.cells #[] 48)).ownsRow w.heap.size 48 9 (.slice (some ⟨w.heap.size, 0, none⟩) 0 0) 0 [] := ⟨rfl, .inr ⟨w.heap.size, 0, #[], rfl, Nat.le_refl _, World.alloc_heap_new w _, Nat.le_refl _, by decide, rfl, rfl⟩⟩
theorem own_ty7 {w : World} {B e sz n : Nat} {v : Value} {xs : List Value} (h : w.ownsRow B e sz v n xs) {q : Nat} (hq : v.ownBlock = some q) : ∃ cur, w.heap[q]? = some (.cells cur e (0, 0)) := by
 rcases h.2 with ⟨rfl, _⟩ | ⟨g, cap, cur, rfl, hg, hh, _⟩
 ·cases hq
 ·have : g = q := by simpa [Value.ownBlock] using hq
  subst this
  exact ⟨cur, hh⟩
/-- A round's state: so many modules are taken over. -/
structure PuR (V : World) (gb n0 : Nat) (ml : List MT) (k : Nat) (hk : k < ml.length) (L : List IT) (i : Nat) (gv : Value) (wr : World) : Prop where
 box : wr.heap[gb]? = some (.cells #[gv] 24 (0, 0))
 low : Below gb V wr
 top : gb + 1 ≤ wr.heap.size
 row : ∃ b ic, wr.ownsRow (gb + 1) 39 4 gv i (((ml.set k (addI ml[k] L (some ⟨b, 0, none⟩) ic)).take i).flatMap MT.cells) ∧ (k < i → gb < b ∧ (∃ cur, wr.heap[b]? = some (.cells cur 48 (0, 0))) ∧ InRow 9 IT.cells (IT.In n0 wr) wr.heap.size wr (ml[k].il ++ L) (some ⟨b, 0, none⟩))
/-- A module more: w7 is the world in which its variable is ready. -/
theorem PuR.more {V : World} {gb n0 : Nat} {ml : List MT} {k : Nat} {hk : k < ml.length} {L : List IT} {i : Nat} {gv v5 : Value} {wr w7 w5 : World} {O : Obj} (h : PuR V gb n0 ml k hk L i gv wr) (hn : n0 ≤ gb) (hi : i < ml.length) (hb7 : Below wr.heap.size wr w7) (b ic : Nat)
  (hsame : i ≠ k → (wr.ownsRow (gb + 1) 39 4 gv i (((ml.set k (addI ml[k] L (some ⟨b, 0, none⟩) ic)).take i).flatMap MT.cells) ∧ (k < i → gb < b ∧ (∃ cur, wr.heap[b]? = some (.cells cur 48 (0, 0))) ∧ InRow 9 IT.cells (IT.In n0 wr) wr.heap.size wr (ml[k].il ++ L) (some ⟨b, 0, none⟩))))
  (hnew : i = k → gb < b ∧ (∃ cur, w7.heap[b]? = some (.cells cur 48 (0, 0))) ∧ InRow 9 IT.cells (IT.In n0 w7) w7.heap.size w7 (ml[k].il ++ L) (some ⟨b, 0, none⟩))
  (hl : ((ml.set k (addI ml[k] L (some ⟨b, 0, none⟩) ic))[i]?).isSome = true)
  (ho : ∀ x, (ml.set k (addI ml[k] L (some ⟨b, 0, none⟩) ic))[i]? = some x → w5.ownsRow (gb + 1) 39 4 v5 (i + 1) (((ml.set k (addI ml[k] L (some ⟨b, 0, none⟩) ic)).take i).flatMap MT.cells ++ x.cells)) (hg : (w7.alloc O).grownBy w5 gv.ownBlock) :
  PuR V gb n0 ml k hk L (i + 1) v5 (w5.setCell ⟨gb, 0, none⟩ v5) := by
 obtain ⟨x, hx⟩ := Option.isSome_iff_exists.1 hl
 have ho := ho x hx
 obtain ⟨b0, ic0, hown0, _⟩ := h.row
 have hne : ∀ q, gv.ownBlock = some q → gb + 1 ≤ q ∧ q < wr.heap.size := fun q hq => ⟨(hown0.lt q hq).1, (hown0.lt q hq).2⟩
 have hty := fun q hq => own_ty7 hown0 (q := q) hq
 have hz := hg.size
 rw [World.size_alloc] at hz
 have hz7 := hb7.size
 have ht := h.top
 have hkeep : ∀ j, j < w7.heap.size → gv.ownBlock ≠ some j → j ≠ gb → (w5.setCell ⟨gb, 0, none⟩ v5).heap[j]? = w7.heap[j]? := fun j hj hq hgb => (Below.heap_setCell w5 ⟨gb, 0, none⟩ v5 j hgb).trans ((hg.block j (by rw [World.size_alloc]; omega) (fun e => hq e.symm)).trans (Below.heap_alloc w7 O j hj))
 have hkt : KeptTo n0 w7 (w5.setCell ⟨gb, 0, none⟩ v5) := fun b' o v hb' hv => by
  rw [World.cell?_of_block (w := w7) (hkeep b' (by omega) (fun e => by have := hne b' e; omega) (by omega))]; exact hv
 refine ⟨?_, ?_, by simp; omega, b, ic, ?_, fun hki => ?_⟩
 ·have hkb : w5.heap[gb]? = some (.cells #[gv] 24 (0, 0)) := (hg.block gb (by rw [World.size_alloc]; omega) (fun e2 => by have := hne gb e2.symm; omega)).trans ((Below.heap_alloc w7 O gb (by omega)).trans ((hb7.block gb (by omega)).trans h.box))
  simp [World.setCell, Array.getElem?_modify, hkb]
 ·exact h.low.trans ((hb7.mono (by omega)).trans ((((Below.refl gb w7).alloc (by omega) O).grown hg (by rw [World.size_alloc]; omega) (fun q hq => by have := hne q hq; omega)).setCell (p := ⟨gb, 0, none⟩) (Nat.le_refl _) v5))
 ·have e : ((ml.set k (addI ml[k] L (some ⟨b, 0, none⟩) ic)).take (i + 1)).flatMap MT.cells = ((ml.set k (addI ml[k] L (some ⟨b, 0, none⟩) ic)).take i).flatMap MT.cells ++ x.cells := by
   have hil : i < (ml.set k (addI ml[k] L (some ⟨b, 0, none⟩) ic)).length := by rw [List.length_set]; exact hi
   rw [List.take_succ_eq_append_getElem hil, List.flatMap_append]
   rw [List.getElem?_eq_getElem hil] at hx
   rw [Option.some.inj hx]
   simp
  rw [e]
  exact ownsRow_setCell_below ho (a := ⟨gb, 0, none⟩) (by show gb < gb + 1; omega) v5
 ·have hrow : gb < b ∧ (∃ cur, w7.heap[b]? = some (.cells cur 48 (0, 0))) ∧ InRow 9 IT.cells (IT.In n0 w7) w7.heap.size w7 (ml[k].il ++ L) (some ⟨b, 0, none⟩) := by
   by_cases hik : i = k
   ·exact hnew hik
   ·obtain ⟨h1, ⟨cur, h2⟩, h3⟩ := (hsame hik).2 (by omega)
    have hbl := (Array.getElem?_eq_some_iff.1 h2).1
    have e2 := hb7.block b hbl
    exact ⟨h1, ⟨cur, e2.trans h2⟩, row_kept7 (Below.keptTo hb7 (by omega)) (by omega) e2 h3⟩
  obtain ⟨h1, ⟨cur, h2⟩, h3⟩ := hrow
  have hbl := (Array.getElem?_eq_some_iff.1 h2).1
  have hnq : gv.ownBlock ≠ some b := fun e => by
   have hlt := (hne b e).2
   obtain ⟨cur2, h4⟩ := hty b e
   rw [← hb7.block b hlt, h2] at h4
   injection h4 with h4
   injection h4 with _ h5
   exact absurd h5 (by decide)
  have e3 := hkeep b hbl hnq (by omega)
  have hzs : (w5.setCell ⟨gb, 0, none⟩ v5).heap.size = w5.heap.size := by simp
  exact ⟨h1, ⟨cur, e3.trans h2⟩, row_kept7 hkt (by rw [hzs]; omega) e3 h3⟩
end Go.Proofs.YtiipjbafdhijlaaGreatDoor
namespace Go.Proofs.YtiipjbafdhijlaaGreatDoor
open Go Go.RowKit
set_option linter.unusedVariables false
set_option linter.unusedSimpArgs false
open Go.Sort
theorem frozen_box7 {w : World} {g : Nat} {v : Value} {t : TypeId} (h : w.heap[g]? = some (.cells #[v] t (0, 0))) : w.frozen? ⟨g, 0, none⟩ = false := by simp [World.frozen?, h]
theorem pu_box {w w8 : World} {gb i : Nat} {gv : Value} {xs : List Value} {O : Obj} (hb : w.heap[gb]? = some (.cells #[gv] 24 (0, 0))) (ho : w.ownsRow (gb + 1) 39 4 gv i xs) (hg : (w.alloc O).grownBy w8 gv.ownBlock) (hz : gb + 1 ≤ w.heap.size) : w8.heap[gb]? = some (.cells #[gv] 24 (0, 0)) :=
 (hg.block gb (by rw [World.size_alloc]; omega) (fun e => by have := (ho.lt _ e.symm).1; omega)).trans ((Below.heap_alloc w O gb (by omega)).trans hb)
theorem take_set7 {α : Type} {l : List α} {i k : Nat} {x : α} (h : i ≤ k) : (l.set k x).take i = l.take i := by
 rw [List.take_set, List.set_eq_of_length_le (by rw [List.length_take]; omega)]
theorem pu_grow {wa w5 : World} {t : TypeId} (hg : (wa.alloc (.cells #[] t)).grownBy w5 (some wa.heap.size)) : Below wa.heap.size wa w5 := ((Below.refl _ _).alloc (Nat.le_refl _) _).grown hg (by simp) (fun k e => by cases e; exact Nat.le_refl _)
/-- The new row of items, and the module's variable with it. -/
theorem pu_items {wr wa w5 w6 : World} {gb gm n0 : Nat} {il L : List IT} {v5 : Value} {gv : Value} {x0 x1 x2 x3 : Value} {b6 c6 : Nat} (hgm : wr.heap.size = gm) (hza : wa.heap.size = gm + 1) (hz : gb + 1 ≤ wr.heap.size) (hn : n0 ≤ gb) (hba : Below wr.heap.size wr wa) (BM : wa.heap[gm]? = some (.cells #[x0, x1, x2, x3] 39 (0, 0))) (hbox : wr.heap[gb]? = some (.cells #[gv] 24 (0, 0)))
  (hb5 : Below wa.heap.size wa w5) (ho5 : w5.ownsRow wa.heap.size 48 9 v5 il.length (il.flatMap IT.cells)) (ho6 : w6.ownsRow wa.heap.size 48 9 (.slice (some ⟨b6, 0, none⟩) (il.length + L.length) c6) (il.length + L.length) (il.flatMap IT.cells ++ L.flatMap IT.cells)) (hg6 : w5.grownBy w6 v5.ownBlock)
  (hi : ∀ x ∈ il ++ L, IT.In n0 wr x) :
  w6.heap[gm]? = some (.cells #[x0, x1, x2, x3] 39 (0, 0)) ∧ Below wr.heap.size wr (w6.setCell ⟨gm, 3, none⟩ (.slice (some ⟨b6, 0, none⟩) (il.length + L.length) c6)) ∧ (w6.setCell ⟨gm, 3, none⟩ (.slice (some ⟨b6, 0, none⟩) (il.length + L.length) c6)).heap[gm]? = some (.cells #[x0, x1, x2, .slice (some ⟨b6, 0, none⟩) (il.length + L.length) c6] 39 (0, 0)) ∧ (w6.setCell ⟨gm, 3, none⟩ (.slice (some ⟨b6, 0, none⟩) (il.length + L.length) c6)).heap[gb]? = some (.cells #[gv] 24 (0, 0)) ∧
  gb < b6 ∧ (∃ cur, (w6.setCell ⟨gm, 3, none⟩ (.slice (some ⟨b6, 0, none⟩) (il.length + L.length) c6)).heap[b6]? = some (.cells cur 48 (0, 0))) ∧ InRow 9 IT.cells (IT.In n0 (w6.setCell ⟨gm, 3, none⟩ (.slice (some ⟨b6, 0, none⟩) (il.length + L.length) c6))) (w6.setCell ⟨gm, 3, none⟩ (.slice (some ⟨b6, 0, none⟩) (il.length + L.length) c6)).heap.size (w6.setCell ⟨gm, 3, none⟩ (.slice (some ⟨b6, 0, none⟩) (il.length + L.length) c6)) (il ++ L) (some ⟨b6, 0, none⟩) := by
 have hb6 : Below wa.heap.size w5 w6 := (Below.refl _ _).grown hg6 hb5.size (fun q hq => (ho5.lt q hq).1)
 have hba6 : Below wa.heap.size wa w6 := hb5.trans hb6
 have hb7 : Below wr.heap.size wr w6 := hba.trans (hba6.mono (by omega))
 have hm6 := (hba6.block gm (by omega)).trans BM
 have ho7 := ownsRow_setCell_below ho6 (a := ⟨gm, 3, none⟩) (by show gm < wa.heap.size; omega) (.slice (some ⟨b6, 0, none⟩) (il.length + L.length) c6)
 have hB7 : Below wr.heap.size wr (w6.setCell ⟨gm, 3, none⟩ (.slice (some ⟨b6, 0, none⟩) (il.length + L.length) c6)) := hb7.setCell (p := ⟨gm, 3, none⟩) (by show wr.heap.size ≤ gm; omega) _
 have hbl := ho7.lt b6 rfl
 refine ⟨hm6, hB7, by simp [World.setCell, Array.getElem?_modify, hm6], (hB7.block gb (by omega)).trans hbox, by omega, own_ty7 ho7 rfl, ?_⟩
 refine Kd.row kdI hbl.2 (fun j u hu => ?_) (fun x hx => IT.In.keep (Below.keptTo hB7 (by omega)) _ (hi x hx))
 rw [List.flatMap_append] at hu
 have h9 := ho7.cells (g := b6) rfl j u hu
 rw [Addr.add_mid] at h9
 exact h9
set_option maxHeartbeats 16000000 in
set_option maxRecDepth 100000 in
theorem put_any (W : World) (n0 : Nat) (f : FT) (k : Nat) (hk : k < f.ml.length) (L : List IT) (hL0 : 0 < L.length) (hLl : L.length ≤ 1000) (la : Option Addr) (lc : Nat) (hn0 : n0 ≤ W.heap.size) (hin : f.In n0 W) (hbk : f.bk ≤ 4500000) (hcaps : ∀ m ∈ f.ml, m.ia = none → m.ic = 0) (hlc : la = none → lc = 0) (hLi : InRow 9 IT.cells (IT.In n0 W) n0 W L la) :
  Calls Tryz.prog 19 #[f.val, .int .i64 (k : Int), .slice la L.length lc] W fun e W' => Below W.heap.size W W' ∧ ∃ a c b ic, e = .returned (FT.val ⟨a, c, f.ml.set k (addI f.ml[k] L (some ⟨b, 0, none⟩) ic)⟩) ∧ FT.In W'.heap.size W' ⟨a, c, f.ml.set k (addI f.ml[k] L (some ⟨b, 0, none⟩) ic)⟩ := by
 obtain ⟨ma, mc, ml⟩ := f
 have hbl : MT.bkL ml ≤ 4500000 := by have : 1 + MT.bkL ml ≤ 4500000 := hbk; omega
 have hll := MT.bkL_len ml
 have hk : k < ml.length := hk
 simp only [FT.val, FT.cells]
 obtain ⟨g, hg⟩ : ∃ g, W.heap.size = g := ⟨_, rfl⟩
 obtain ⟨W1, hW1⟩ : ∃ W1, ((W.alloc (.cells #[.slice ma ml.length mc] 24)).alloc (.cells #[.slice none 0 0] 24)).alloc (.cells #[.slice none 0 0] 24) = W1 := ⟨_, rfl⟩
 have hz1 : W1.heap.size = g + 3 := by rw [← hW1]; simp [hg]
 have hB1 : Below g W W1 := by rw [← hW1]; exact ((((Below.refl _ _).alloc (by omega) _).alloc (by simp; omega) _).alloc (by simp; omega) _)
 have BF : W1.heap[g]? = some (.cells #[.slice ma ml.length mc] 24 (0, 0)) := by rw [← hW1, ← hg]; exact block_alloc (block_alloc (World.alloc_heap_new W _) _) _
 have BR : W1.heap[g + 1]? = some (.cells #[.slice none 0 0] 24 (0, 0)) := by
  rw [← hW1, ← hg]
  have h9 := block_alloc (World.alloc_heap_new (W.alloc (.cells #[.slice ma ml.length mc] 24)) (.cells #[.slice none 0 0] 24)) (.cells #[.slice none 0 0] 24)
  rwa [World.size_alloc] at h9
 have BO : W1.heap[g + 2]? = some (.cells #[.slice none 0 0] 24 (0, 0)) := by
  rw [← hW1, ← hg]
  have h9 := World.alloc_heap_new ((W.alloc (.cells #[.slice ma ml.length mc] 24)).alloc (.cells #[.slice none 0 0] 24)) (.cells #[.slice none 0 0] 24)
  rwa [World.size_alloc, World.size_alloc] at h9
 have y0 : W1.cell? ⟨g, 0, none⟩ = some (.slice ma ml.length mc) := (cell_of_box_1 BF).1
 have kt : KeptTo n0 W W1 := Below.keptTo hB1 (by omega)
 have hfi : InRow 4 MT.cells (MT.In n0 W1) n0 W1 ml ma := InRow.keep kt (fun x _ h => MT.In.keep kt x h) hin
 have hli : InRow 9 IT.cells (IT.In n0 W1) n0 W1 L la := InRow.keep kt (fun x _ h => IT.In.keep kt x h) hLi
 obtain ⟨gb, hgb⟩ : ∃ gb, g + 1 + 1 = gb := ⟨_, rfl⟩
 have BO : W1.heap[gb]? = some (.cells #[.slice none 0 0] 24 (0, 0)) := by rw [← hgb]; exact BO
 have hp0 : PuR W1 gb n0 ml k hk L 0 (.slice none 0 0) W1 := ⟨BO, Below.refl _ _, by omega, gb + 1, 0, by simp only [List.take_zero, List.flatMap_nil]; exact World.ownsRow_nil _ _ _ _, fun h => by omega⟩
 have HH := Lib.hid (And.intro hB1 (And.intro BF (And.intro BR (And.intro hfi (And.intro hli hp0)))))
 have hng : n0 ≤ g := by omega
 clear hB1 BF BR BO kt hfi hli hp0 hin hLi hbk hn0
 go_enter Tryz.func19, Tryz.ntmps19
 go_wp2_with fail
 (try rw [hW1])
 clear hW1
 (try rw [hgb])
 go_loopg [8] ml.length (fun gh u wr => ∃ (i : Nat) (gv : Value), u = .int .i64 i ∧ i + gh = ml.length ∧ PuR W1 gb n0 ml k hk L i gv wr)
 case atStart => exact ⟨0, .slice none 0 0, rfl, by omega, HH.out.2.2.2.2.2⟩
 case round =>
  obtain ⟨i, gv, rfl, hi, hp⟩ := hrel
  have hbw : Below gb W1 wr := hp.low
  have HBW := Lib.hid hbw
  have hzr : gb + 1 ≤ wr.heap.size := hp.top
  have HP := Lib.hid hp
  have BF := (hbw.block g (by omega)).trans HH.out.2.1
  clear y0 hp
  have y0 : wr.cell? ⟨g, 0, none⟩ = some (.slice ma ml.length mc) := (cell_of_box_1 BF).1
  have kt : KeptTo n0 W1 wr := Below.keptTo hbw (by omega)
  clear hbw
  by_cases hlt : i < ml.length
  ·have d1 : decide (i < ml.length) = true := by simpa using hlt
   have d2 : decide ((i : Int) < (ml.length : Int)) = true := by rw [decide_eq_true_eq]; omega
   have x1 : (i : Int) < (ml.length : Int) := by omega
   obtain ⟨b, o, rfl, hb, hr, hx⟩ := InRow.at (InRow.keep kt (fun x _ h => MT.In.keep kt x h) HH.out.2.2.2.1) hlt
   have hLr := InRow.keep kt (fun x _ h => IT.In.keep kt x h) HH.out.2.2.2.2.1
   have hset : i ≠ k → ∀ bb bc, (ml.set k (addI ml[k] L (some ⟨bb, 0, none⟩) bc))[i]? = some ml[i] := fun hne bb bc => by
    rw [List.getElem?_set_ne (fun e => hne e.symm), List.getElem?_eq_getElem hlt]
   have hsetk : i = k → ∀ bb bc, (ml.set k (addI ml[k] L (some ⟨bb, 0, none⟩) bc))[i]? = some (addI ml[i] L (some ⟨bb, 0, none⟩) bc) := fun he bb bc => by
    subst he
    rw [List.getElem?_set_self hlt]
   have hcap := hcaps ml[i] (List.getElem_mem hlt)
   have hilb : ml[i].il.length ≤ 4500000 := by
    have h1 := MT.bkL_mem (List.getElem_mem hlt)
    have h2 := IT.bkL_len ml[i].il
    have h3 : IT.bkL ml[i].il ≤ ml[i].bk := by obtain ⟨nm, pa, pc, pl, ta, tc, tl, ia, ic, il⟩ := ml[i]; simp only [MT.bk]; omega
    omega
   have hki : i = k → ml[k].il = ml[i].il := fun e => by subst e; rfl
   obtain ⟨x, hxg⟩ : ∃ x, ml[i] = x := ⟨_, rfl⟩
   rw [hxg] at hr hx hset hsetk hcap hilb hki
   obtain ⟨nm, pa, pc, pl, ta, tc, tl, ia, ic, il⟩ := x
   simp only at hcap hilb hki
   have r0 : wr.cell? ⟨b, o + i * 4, none⟩ = some (.string (bs nm)) := hr 0 _ rfl
   have r1 : wr.cell? ⟨b, o + i * 4 + 1, none⟩ = some (.slice pa pl.length pc) := hr 1 _ rfl
   have r2 : wr.cell? ⟨b, o + i * 4 + 2, none⟩ = some (.slice ta tl.length tc) := hr 2 _ rfl
   have r3 : wr.cell? ⟨b, o + i * 4 + 3, none⟩ = some (.slice ia il.length ic) := hr 3 _ rfl
   obtain ⟨gm, hgm⟩ : ∃ gm, wr.heap.size = gm := ⟨_, rfl⟩
   obtain ⟨wa, hwa⟩ : ∃ wa, wr.alloc (.cells #[.string (bs nm), .slice pa pl.length pc, .slice ta tl.length tc, .slice ia il.length ic] 39) = wa := ⟨_, rfl⟩
   have hba : Below wr.heap.size wr wa := by rw [← hwa]; exact (Below.refl _ _).alloc (Nat.le_refl _) _
   have hza : wa.heap.size = gm + 1 := by rw [← hwa, ← hgm]; simp
   have HZA := Lib.hid hza
   have BM : wa.heap[gm]? = some (.cells #[.string (bs nm), .slice pa pl.length pc, .slice ta tl.length tc, .slice ia il.length ic] 39 (0, 0)) := by rw [← hwa, ← hgm]; exact World.alloc_heap_new wr _
   have hila := hx.2.2
   have HM := Lib.hid (And.intro hset (And.intro hsetk (And.intro hila (And.intro hLr hki))))
   have hgmz : gm < wa.heap.size := by omega
   clear hr hx hxg kt hset hsetk hila hLr hki BF hza
   by_cases hik : i = k
   ·have HIK := Lib.hid hik
    have e1 : ((i : Int) == (k : Int)) = true := by rw [beq_iff_eq]; omega
    clear hik
    have z3 : wa.cell? ⟨gm, 3, none⟩ = some (.slice ia il.length ic) := by simp [World.cell?, BM]
    have z3A := fun O => alloc_cell z3 O
    have kA : Below wa.heap.size wa (wa.alloc (.cells #[] 48)) := (Below.refl _ _).alloc (Nat.le_refl _) _
    have ktA : KeptTo n0 wr (wa.alloc (.cells #[] 48)) := (Below.keptTo hba (by omega)).trans (Below.keptTo kA (by omega))
    have hiA := InRow.keep ktA (fun x _ h => IT.In.keep ktA x h) HM.out.2.2.1
    have HA := Lib.hid (And.intro hba (And.intro BM hiA))
    have HEW := Lib.hid (own_emptyI wa)
    clear hba BM kA ktA hiA
    have hi7 : ∀ x ∈ il ++ L, IT.In n0 wr x := fun x hx => by
     rcases List.mem_append.1 hx with h | h
     ·exact InRow.all HM.out.2.2.1 x h
     ·exact InRow.all HM.out.2.2.2.1 x h
    have HI7 := Lib.hid hi7
    have hilL : (il ++ L).length = il.length + L.length := by simp
    clear hi7
    go_upto_region 8 with (first | (at_builtin; refine wpList_append_kd kdI 37 184 _ Tryz.underlying37 infoKI rfl (by decide) (by decide) onesI rfl (.tmp 25) (.tmp 27) rfl wa.heap.size (.slice (some ⟨wa.heap.size, 0, none⟩) 0 0) 0 [] rfl HEW.out ia il ic rfl hcap _ n0 HA.out.2.2 (by omega) (by simp) ?_; intro v5 w5 own5 hg5; rw [Nat.zero_add, List.nil_append] at own5; have hbw5 := pu_grow hg5; have kt5 : KeptTo n0 wr w5 := (Below.keptTo HA.out.1 (by omega)).trans (Below.keptTo hbw5 (by omega)); have hL5 := InRow.keep kt5 (fun x _ h => IT.In.keep kt5 x h) HM.out.2.2.2.1; have HV5 := Lib.hid (And.intro hbw5 own5); have hsz5 := hbw5.size; clear hg5 kt5 hbw5) | (at_builtin; refine wpList_append_kd kdI 37 184 _ Tryz.underlying37 infoKI rfl (by decide) (by decide) onesI rfl (.tmp 28) (.tmp 29) rfl wa.heap.size v5 il.length (il.flatMap IT.cells) rfl own5 la L lc rfl hlc _ n0 hL5 (by omega) hsz5 ?_; intro v6 w6 own6 hg6; obtain ⟨b6, c6, rfl⟩ := own_some own6 (by omega); have HQ7 := Lib.hid (pu_items hgm HZA.out hzr (by omega) HA.out.1 HA.out.2.1 HP.out.box HV5.out.1 HV5.out.2 own6 hg6 HI7.out); have hm6 := HQ7.out.1; have n3 : w6.cell? ⟨gm, 3, none⟩ = some (.slice ia il.length ic) := (by simp [World.cell?, hm6]); have f3 : w6.frozen? ⟨gm, 3, none⟩ = false := (by simp [World.frozen?, hm6]); obtain ⟨w7, hw7⟩ : ∃ w7, w6.setCell ⟨gm, 3, none⟩ (.slice (some ⟨b6, 0, none⟩) (il.length + L.length) c6) = w7 := ⟨_, rfl⟩; have hq7 := HQ7.out; rw [hw7] at hq7; have HB7 := Lib.hid (And.intro hq7.2.1 (And.intro hq7.2.2.1 hq7.2.2.2.1)); have HR7 := Lib.hid (And.intro hq7.2.2.2.2.1 (And.intro hq7.2.2.2.2.2.1 hq7.2.2.2.2.2.2)); clear hq7 hm6 own6 hg6) | fail)
    (try rw [hw7])
    have hik := HIK.out
    have hilk := HM.out.2.2.2.2 hik
    have HSEL : Hid (wr.ownsRow (gb + 1) 39 4 gv i (((ml.set k (addI ml[k] L (some ⟨b6, 0, none⟩) c6)).take i).flatMap MT.cells)) := Lib.hid (by
     obtain ⟨b0, ic0, h1, _⟩ := HP.out.row
     rw [take_set7 (by omega)] at h1 ⊢
     exact h1)
    have HSEL2 := Lib.hid (And.intro (fun (hne : i ≠ k) => (absurd hik hne : wr.ownsRow (gb + 1) 39 4 gv i (((ml.set k (addI ml[k] L (some ⟨b6, 0, none⟩) c6)).take i).flatMap MT.cells) ∧ (k < i → gb < b6 ∧ (∃ cur, wr.heap[b6]? = some (.cells cur 48 (0, 0))) ∧ InRow 9 IT.cells (IT.In n0 wr) wr.heap.size wr (ml[k].il ++ L) (some ⟨b6, 0, none⟩)))) (fun (_ : i = k) => (show gb < b6 ∧ (∃ cur, w7.heap[b6]? = some (.cells cur 48 (0, 0))) ∧ InRow 9 IT.cells (IT.In n0 w7) w7.heap.size w7 (ml[k].il ++ L) (some ⟨b6, 0, none⟩) by rw [hilk]; exact HR7.out)))
    have HSET := Lib.hid (HM.out.2.1 hik b6 c6)
    clear hik hilk hw7 HR7 HQ7 HV5 HEW HA HI7 HM z3 z3A hL5 own5 hsz5 n3 f3 r0 r1 r2 r3
    have yb : w7.cell? ⟨gb, 0, none⟩ = some gv := (cell_of_box_1 HB7.out.2.2).1
    have m0 : w7.cell? ⟨gm, 0, none⟩ = some (.string (bs nm)) := by simp [World.cell?, HB7.out.2.1]
    have m1 : w7.cell? ⟨gm, 1, none⟩ = some (.slice pa pl.length pc) := by simp [World.cell?, HB7.out.2.1]
    have m2 : w7.cell? ⟨gm, 2, none⟩ = some (.slice ta tl.length tc) := by simp [World.cell?, HB7.out.2.1]
    have m3 : w7.cell? ⟨gm, 3, none⟩ = some (.slice (some ⟨b6, 0, none⟩) (il.length + L.length) c6) := by simp [World.cell?, HB7.out.2.1]
    obtain ⟨TR, hTR⟩ : ∃ T, (addI ⟨nm, pa, pc, pl, ta, tc, tl, ia, ic, il⟩ L (some ⟨b6, 0, none⟩) c6) = T := ⟨_, rfl⟩
    have hin1 : InRow 4 MT.cells (fun _ => True) (w7.heap.size + 1) (w7.alloc (.cells #[.string (bs nm), .slice pa pl.length pc, .slice ta tl.length tc, .slice (some ⟨b6, 0, none⟩) (il.length + L.length) c6] 39)) [TR] (some ⟨w7.heap.size, 0, none⟩) := by
     have h9 := inrow_one7 w7 TR
     rw [show TR.cells.toArray = #[.string (bs nm), .slice pa pl.length pc, .slice ta tl.length tc, .slice (some ⟨b6, 0, none⟩) (il.length + L.length) c6] by rw [← hTR]; simp [MT.cells, addI]] at h9
     exact h9
    obtain ⟨XS, hXS⟩ : ∃ X, ((ml.set k (addI ml[k] L (some ⟨b6, 0, none⟩) c6)).take i).flatMap MT.cells = X := ⟨_, rfl⟩
    have hownx := HSEL.out
    rw [hXS] at hownx
    have own7 := below_own_row hownx HB7.out.1
    have HXS := Lib.hid hXS
    have hz7 : gb + 1 ≤ w7.heap.size := Nat.le_trans hzr HB7.out.1.size
    have HO7 := Lib.hid own7
    have HIN := Lib.hid hin1
    have HTR := Lib.hid hTR
    clear hXS hownx own7 hin1 hTR
    go_wp2_with (at_builtin; refine wpList_append_kd kdM7 22 88 _ Tryz.underlying22 info_mod rfl (by decide) (by decide) ones_mod rfl (.tmp 33) (.tmp 35) rfl (gb + 1) gv i XS rfl (HO7.out.alloc _) (some ⟨w7.heap.size, 0, none⟩) [TR] 1 rfl (by intro h; cases h) _ (w7.heap.size + 1) HIN.out (by simp; omega) (by rw [World.size_alloc]; omega) ?_; intro v8 w8 own8 hg8; obtain ⟨b8, c8, rfl⟩ := own_some own8 (by simp); have hkb8 := pu_box HB7.out.2.2 HO7.out hg8 hz7; have y8 := (cell_of_box_1 hkb8).1; have f8 := (frozen_box7 hkb8))
    have HN := Lib.hid (PuR.more (v5 := .slice (some ⟨b8, 0, none⟩) (i + 1) c8) HP.out (by omega) hlt HB7.out.1 b6 c6 HSEL2.out.1 HSEL2.out.2 (by simp [hlt]) (fun x hx => by rw [HXS.out]; have e9 := HSET.out.symm.trans hx; have e8 := HTR.out.symm.trans (Option.some.inj e9); subst e8; have h9 := own8; simp only [List.flatMap_cons, List.flatMap_nil, List.append_nil] at h9; exact h9) hg8)
    clear own8 hg8 hkb8 y8 f8 yb m0 m1 m2 m3 HO7 HXS HSEL HSEL2 HB7 HP HSET HIN HTR
    cases gk with
    | zero => omega
    | succ gg =>
     go_roundg gg
     case rel => exact ⟨i + 1, _, rfl, by omega, HN.out⟩
     case measure => omega
   ·have e1 : ((i : Int) == (k : Int)) = false := by rw [beq_eq_false_iff_ne]; omega
    obtain ⟨b0, ic0, hown0, hrow0⟩ := HP.out.row
    obtain ⟨w7, hw7⟩ : ∃ w7, wa = w7 := ⟨_, rfl⟩
    rw [hw7] at hba BM hwa
    have HB7 := Lib.hid (And.intro hba (And.intro BM ((hba.block gb (by omega)).trans HP.out.box)))
    have HSEL := Lib.hid hown0
    have HSEL2 := Lib.hid (And.intro (fun (_ : i ≠ k) => And.intro hown0 hrow0) (fun (h : i = k) => (absurd h hik : gb < b0 ∧ (∃ cur, w7.heap[b0]? = some (.cells cur 48 (0, 0))) ∧ InRow 9 IT.cells (IT.In n0 w7) w7.heap.size w7 (ml[k].il ++ L) (some ⟨b0, 0, none⟩))))
    have HSET := Lib.hid (HM.out.1 hik b0 ic0)
    clear hba BM hown0 hrow0 HM hw7 hgmz HZA
    have yb : w7.cell? ⟨gb, 0, none⟩ = some gv := (cell_of_box_1 HB7.out.2.2).1
    have m0 : w7.cell? ⟨gm, 0, none⟩ = some (.string (bs nm)) := by simp [World.cell?, HB7.out.2.1]
    have m1 : w7.cell? ⟨gm, 1, none⟩ = some (.slice pa pl.length pc) := by simp [World.cell?, HB7.out.2.1]
    have m2 : w7.cell? ⟨gm, 2, none⟩ = some (.slice ta tl.length tc) := by simp [World.cell?, HB7.out.2.1]
    have m3 : w7.cell? ⟨gm, 3, none⟩ = some (.slice ia il.length ic) := by simp [World.cell?, HB7.out.2.1]
    obtain ⟨TR, hTR⟩ : ∃ T, (⟨nm, pa, pc, pl, ta, tc, tl, ia, ic, il⟩ : MT) = T := ⟨_, rfl⟩
    have hin1 : InRow 4 MT.cells (fun _ => True) (w7.heap.size + 1) (w7.alloc (.cells #[.string (bs nm), .slice pa pl.length pc, .slice ta tl.length tc, .slice ia il.length ic] 39)) [TR] (some ⟨w7.heap.size, 0, none⟩) := by
     have h9 := inrow_one7 w7 TR
     rw [show TR.cells.toArray = #[.string (bs nm), .slice pa pl.length pc, .slice ta tl.length tc, .slice ia il.length ic] by rw [← hTR]; simp [MT.cells, addI]] at h9
     exact h9
    obtain ⟨XS, hXS⟩ : ∃ X, ((ml.set k (addI ml[k] L (some ⟨b0, 0, none⟩) ic0)).take i).flatMap MT.cells = X := ⟨_, rfl⟩
    have hownx := HSEL.out
    rw [hXS] at hownx
    have own7 := below_own_row hownx HB7.out.1
    have HXS := Lib.hid hXS
    have hz7 : gb + 1 ≤ w7.heap.size := Nat.le_trans hzr HB7.out.1.size
    have HO7 := Lib.hid own7
    have HIN := Lib.hid hin1
    have HTR := Lib.hid hTR
    clear hXS hownx own7 hin1 hTR
    go_wp2_with (at_builtin; refine wpList_append_kd kdM7 22 88 _ Tryz.underlying22 info_mod rfl (by decide) (by decide) ones_mod rfl (.tmp 33) (.tmp 35) rfl (gb + 1) gv i XS rfl (HO7.out.alloc _) (some ⟨w7.heap.size, 0, none⟩) [TR] 1 rfl (by intro h; cases h) _ (w7.heap.size + 1) HIN.out (by simp; omega) (by rw [World.size_alloc]; omega) ?_; intro v8 w8 own8 hg8; obtain ⟨b8, c8, rfl⟩ := own_some own8 (by simp); have hkb8 := pu_box HB7.out.2.2 HO7.out hg8 hz7; have y8 := (cell_of_box_1 hkb8).1; have f8 := (frozen_box7 hkb8))
    have HN := Lib.hid (PuR.more (v5 := .slice (some ⟨b8, 0, none⟩) (i + 1) c8) HP.out (by omega) hlt HB7.out.1 b0 ic0 HSEL2.out.1 HSEL2.out.2 (by simp [hlt]) (fun x hx => by rw [HXS.out]; have e9 := HSET.out.symm.trans hx; have e8 := HTR.out.symm.trans (Option.some.inj e9); subst e8; have h9 := own8; simp only [List.flatMap_cons, List.flatMap_nil, List.append_nil] at h9; exact h9) hg8)
    clear own8 hg8 hkb8 y8 f8 yb m0 m1 m2 m3 HO7 HXS HSEL HSEL2 HB7 HP HSET HIN HTR
    cases gk with
    | zero => omega
    | succ gg =>
     go_roundg gg
     case rel => exact ⟨i + 1, _, rfl, by omega, HN.out⟩
     case measure => omega
  ·have d1 : decide (i < ml.length) = false := by simpa using hlt
   have d2 : decide ((i : Int) < (ml.length : Int)) = false := by rw [decide_eq_false_iff_not]; omega
   have hil : i = ml.length := by omega
   obtain ⟨b0, ic0, hown0, hrow0⟩ := HP.out.row
   have hbg := HP.out.box
   have hbw := HBW.out
   have BR9 : wr.heap[g + 1]? = some (.cells #[.slice none 0 0] 24 (0, 0)) := (hbw.block (g + 1) (by omega)).trans HH.out.2.2.1
   have hsl : (ml.set k (addI ml[k] L (some ⟨b0, 0, none⟩) ic0)).length = ml.length := by rw [List.length_set]
   rw [hil, List.take_of_length_le (by rw [hsl]; exact Nat.le_refl _)] at hown0
   obtain ⟨u, hu⟩ : ∃ u, wr.setCell ⟨g + 1, 0, none⟩ gv = u := ⟨_, rfl⟩
   have hbu : u.heap[g + 1]? = some (.cells #[gv] 24 (0, 0)) := by rw [← hu]; simp [World.setCell, Array.getElem?_modify, BR9]
   have hou : u.ownsRow (gb + 1) 39 4 gv ml.length ((ml.set k (addI ml[k] L (some ⟨b0, 0, none⟩) ic0)).flatMap MT.cells) := by rw [← hu]; exact ownsRow_setCell_below hown0 (a := ⟨g + 1, 0, none⟩) (by show g + 1 < gb + 1; omega) gv
   have hsu : u.heap.size = wr.heap.size := by rw [← hu]; simp
   have hlow : Below g W u := by rw [← hu]; exact (HH.out.1.trans (hbw.mono (by omega))).setCell (p := ⟨g + 1, 0, none⟩) (by show g ≤ g + 1; omega) _
   have hkr : KeptTo n0 wr u := fun b' o' v hb' hv => by
    rw [World.cell?_of_block (w := wr) (by rw [← hu]; exact Below.heap_setCell wr ⟨g + 1, 0, none⟩ gv b' (by show b' ≠ g + 1; omega))]; exact hv
   have hk1 : KeptTo n0 W1 u := (Below.keptTo hbw (by omega)).trans hkr
   obtain ⟨hr1, ⟨cur, hr2⟩, hr3⟩ := hrow0 (by omega)
   have hbl := (Array.getElem?_eq_some_iff.1 hr2).1
   have hrow := row_kept7 (m := u.heap.size) hkr (by omega) (by rw [← hu]; exact Below.heap_setCell wr ⟨g + 1, 0, none⟩ gv b0 (by show b0 ≠ g + 1; omega)) hr3
   have hins : ∀ x ∈ ml.set k (addI ml[k] L (some ⟨b0, 0, none⟩) ic0), MT.In u.heap.size u x := fun x hx => by
    have hold : ∀ y ∈ ml, MT.In u.heap.size u y := fun y hy => MT.In.less (by omega) _ (MT.In.keep hk1 _ (InRow.all HH.out.2.2.2.1 y hy))
    rcases List.mem_or_eq_of_mem_set hx with h | rfl
    ·exact hold x h
    ·obtain ⟨h1, h2, h3⟩ := hold ml[k] (List.getElem_mem hk)
     exact ⟨h1, h2, InRow.less (Nat.le_refl _) (fun y _ hy => IT.In.less (by omega) _ hy) hrow⟩
   rw [show ml.length = (ml.set k (addI ml[k] L (some ⟨b0, 0, none⟩) ic0)).length from hsl.symm] at hou
   obtain ⟨a9, c9, hgv, hfin⟩ := file_of_own (n0 := 0) hou hins
   rw [hsl] at hgv
   subst hgv
   have yb : wr.cell? ⟨gb, 0, none⟩ = some (.slice a9 ml.length c9) := (cell_of_box_1 hbg).1
   have yr : wr.cell? ⟨g + 1, 0, none⟩ = some (.slice none 0 0) := (cell_of_box_1 BR9).1
   have fr : wr.frozen? ⟨g + 1, 0, none⟩ = false := frozen_box7 BR9
   have zr : u.cell? ⟨g + 1, 0, none⟩ = some (.slice a9 ml.length c9) := (cell_of_box_1 hbu).1
   have HZ := Lib.hid (And.intro hu zr)
   have HF := Lib.hid (And.intro hlow hfin)
   clear hu zr hlow hfin hou hins hrow hkr hk1 hbu hown0 hrow0 hbg BR9 hr1 hr2 hr3 hsl hbw hsu HP BF kt
   go_wp2_with fail
   obtain ⟨hu, zr⟩ := HZ.out
   refine bodyPost_ret (v := .agg #[(.slice a9 ml.length c9)]) (by simp [results, Tryz.results19, go_sem, hu, zr]) rfl ?_
   rw [hu]
   obtain ⟨h1, h3⟩ := HF.out
   first
    | exact ⟨h1, a9, c9, b0, ic0, by simp, h3⟩
    | exact ⟨by rw [hg]; exact h1, a9, c9, b0, ic0, by simp, h3⟩
end Go.Proofs.YtiipjbafdhijlaaGreatDoor
namespace Go.Proofs.YtiipjbafdhijlaaGreatDoor
open Go Go.ChangeShapes Go.WideShapes Go.ChangeAt Go.RowKit Go.Joins Go.Sort Go.Deep
set_option linter.unusedVariables false
set_option linter.unusedSimpArgs false
section
variable {H : Type} {enc : TypeId × Value → H}
set_option maxRecDepth 3000000 in
theorem mt_data7 {W : World} : ∀ (fuel : Nat) (cs : List Value) (z : DataW H × List MemPlace), DataW.trod enc Tryz.prog W 0 (fun _ => true) true fuel 39 cs = some z → ∃ t : MT, cs = t.cells ∧ t.In W.heap.size W ∧ (t.Wf ∧ (t.ia = none → t.ic = 0)) ∧ t.bk ≤ Rows.uptoBulk z.1 := by
 intro fuel
 induction fuel using Nat.strongRecOn with
 | ind fuel ih =>
 intro cs z h
 obtain ⟨xs, n, hfu, rfl, hl, hlen, hf⟩ := DataW.trod_struct Tryz.underlying39 h
 have hl5 : cs.length = 4 := hl.trans (by kernel_rfl)
 match cs, hl5 with
 | [c0, c1, c2, c3], _ =>
  have e0 : DataW.trod enc Tryz.prog W 0 (fun _ => true) true n 9 (([c0, c1, c2, c3].drop 0).take (Tryz.prog.cellsOf 9)) = xs[0]? := hf 0 _ rfl
  have e1 : DataW.trod enc Tryz.prog W 0 (fun _ => true) true n 35 (([c0, c1, c2, c3].drop 1).take (Tryz.prog.cellsOf 35)) = xs[1]? := hf 1 _ rfl
  have e2 : DataW.trod enc Tryz.prog W 0 (fun _ => true) true n 36 (([c0, c1, c2, c3].drop 2).take (Tryz.prog.cellsOf 36)) = xs[2]? := hf 2 _ rfl
  have e3 : DataW.trod enc Tryz.prog W 0 (fun _ => true) true n 37 (([c0, c1, c2, c3].drop 3).take (Tryz.prog.cellsOf 37)) = xs[3]? := hf 3 _ rfl
  have k0 : Tryz.prog.cellsOf 9 = 1 := by kernel_rfl
  have k1 : Tryz.prog.cellsOf 35 = 1 := by kernel_rfl
  have k2 : Tryz.prog.cellsOf 36 = 1 := by kernel_rfl
  have k3 : Tryz.prog.cellsOf 37 = 1 := by kernel_rfl
  simp only [k0, k1, k2, k3] at e0 e1 e2 e3
  simp only [List.drop_zero, List.drop_succ_cons, List.take_succ_cons, List.take_zero, List.take_nil] at e0 e1 e2 e3
  match xs, hlen with
  | [x0, x1, x2, x3], _ =>
   obtain ⟨nm, a0, z0, _⟩ := DataW.trod_string Tryz.underlying9 e0
   obtain ⟨pa, pc, pl, a1, i1, g1, b1, m1, n1⟩ := row_open (k := 7) (cells := BT.cells) (inn := BT.In W.heap.size W) (wf := BT.Wf) (bk := BT.bk) Tryz.underlying35 (by kernel_rfl) (by omega) (fun t => by obtain ⟨bn, x⟩ := t; cases x; rfl) (fun m cs z hm hz => bt_data m cs z hz) e1
   rw [← BT.bkL_sum] at b1
   obtain ⟨ta, tc, tl, a2, i2, g2, b2, m2, n2⟩ := row_open (k := 8) (cells := PT.cells) (inn := PT.In W.heap.size W) (wf := PT.Wf) (bk := PT.bk) Tryz.underlying36 (by kernel_rfl) (by omega) (fun t => by obtain ⟨bn, po, x⟩ := t; cases x; rfl) (fun m cs z hm hz => pt_data m cs z hz) e2
   rw [← PT.bkL_sum] at b2
   obtain ⟨ia, ic, il, a3, i3, g3, b3, m3, n3⟩ := row_open (k := 9) (cells := IT.cells) (inn := IT.In W.heap.size W) (wf := IT.Wf) (bk := IT.bk) Tryz.underlying37 (by kernel_rfl) (by omega) (fun t => by cases t; rfl) (fun m cs z hm hz => it_data m cs z hz) e3
   rw [← IT.bkL_sum] at b3
   simp only [List.cons.injEq, and_true] at a0
   subst z0
   refine ⟨⟨nm.data.toList, pa, pc, pl, ta, tc, tl, ia, ic, il⟩, ?_, ?_, ?_, ?_⟩
   ·rw [a0, a1, a2, a3]
    simp only [MT.cells, ← bs_toList]
   ·exact ⟨i1, i2, i3⟩
   ·refine ⟨?_, n3⟩
    show BT.WfL pl ∧ PT.WfL tl ∧ IT.WfL il
    rw [BT.wfL_iff, PT.wfL_iff, IT.wfL_iff]
    exact ⟨g1, g2, g3⟩
   ·simp only [MT.bk, Rows.uptoBulk, Rows.uptoBulkAll, List.map_cons, List.map_nil]
    omega
set_option maxRecDepth 3000000 in
theorem ft_data7 {W : World} : ∀ (fuel : Nat) (cs : List Value) (z : DataW H × List MemPlace), DataW.trod enc Tryz.prog W 0 (fun _ => true) true fuel 24 cs = some z → ∃ t : FT, cs = t.cells ∧ t.In W.heap.size W ∧ t.Wf ∧ t.bk ≤ Rows.uptoBulk z.1 ∧ t.ml.length ≤ t.mc ∧ (t.ma = none → t.mc = 0) ∧ ∀ m ∈ t.ml, m.ia = none → m.ic = 0 := by
 intro fuel
 induction fuel using Nat.strongRecOn with
 | ind fuel ih =>
 intro cs z h
 obtain ⟨xs, n, hfu, rfl, hl, hlen, hf⟩ := DataW.trod_struct Tryz.underlying24 h
 have hl5 : cs.length = 1 := hl.trans (by kernel_rfl)
 match cs, hl5 with
 | [c0], _ =>
  have e0 : DataW.trod enc Tryz.prog W 0 (fun _ => true) true n 22 (([c0].drop 0).take (Tryz.prog.cellsOf 22)) = xs[0]? := hf 0 _ rfl
  have k0 : Tryz.prog.cellsOf 22 = 1 := by kernel_rfl
  simp only [k0] at e0
  simp only [List.drop_zero, List.drop_succ_cons, List.take_succ_cons, List.take_zero, List.take_nil] at e0
  match xs, hlen with
  | [x0], _ =>
   obtain ⟨ma, mc, ml, a0, i0, g0, b0, m0, n0⟩ := row_open (k := 4) (cells := MT.cells) (inn := MT.In W.heap.size W) (wf := fun t : MT => t.Wf ∧ (t.ia = none → t.ic = 0)) (bk := MT.bk) Tryz.underlying22 (by kernel_rfl) (by omega) (fun t => by cases t; rfl) (fun m cs z hm hz => mt_data7 m cs z hz) e0
   rw [← MT.bkL_sum] at b0
   refine ⟨⟨ma, mc, ml⟩, ?_, ?_, ?_, ?_, m0, n0, fun m hm => (g0 m hm).2⟩
   ·rw [a0]
    simp only [FT.cells]
   ·exact i0
   ·show MT.WfL ml
    rw [MT.wfL_iff]
    exact fun t ht => (g0 t ht).1
   ·simp only [FT.bk, Rows.uptoBulk, Rows.uptoBulkAll, List.map_cons, List.map_nil]
    omega
set_option maxRecDepth 3000000 in
theorem ft_of7 {W : World} {base : Nat} {v : Value} {d : DataW H} {p : List MemPlace} (hv : Value.okWide Tryz.prog W .any base 24 v) (h : DataW.Trod enc Tryz.prog W 0 (fun _ => true) true 24 v d p) : ∃ t : FT, v = t.val ∧ t.In W.heap.size W ∧ t.Wf ∧ t.bk ≤ Rows.uptoBulk d ∧ t.ml.length ≤ t.mc ∧ (t.ma = none → t.mc = 0) ∧ ∀ m ∈ t.ml, m.ia = none → m.ic = 0 := by
 obtain ⟨cs, rfl, hsz⟩ := okWide_struct Tryz.underlying24 hv
 obtain ⟨fuel, hf⟩ := h
 obtain ⟨t, h1, h2, h3, h4⟩ := ft_data7 fuel _ _ hf
 refine ⟨t, ?_, h2, h3, h4⟩
 simp only [Value.cells] at h1
 rw [FT.val, ← h1]
end
end Go.Proofs.YtiipjbafdhijlaaGreatDoor
namespace Go.Proofs.YtiipjbafdhijlaaGreatDoor
open Go Go.RowKit
set_option linter.unusedVariables false
set_option linter.unusedSimpArgs false
open Go.Sort
theorem checkP_zero7 {f : FT} (h0 : checkP f = 0) : checkF f = 0 ∧ twiceB [] f.ml = false ∧ hasAllB f.ml = true ∧ ∃ out, ordN f.ml f.ml.length [] = some out := by
 have hF : checkF f = 0 := by
  unfold checkP at h0
  by_cases e : checkF f = 0
  ·exact e
  ·rw [if_pos e] at h0; exact absurd h0 e
 have hN : checkN f.ml = 0 := by
  unfold checkP at h0
  rwa [if_neg (by rw [hF]; simp)] at h0
 unfold checkN at hN
 have hT : twiceB [] f.ml = false := by
  cases e : twiceB [] f.ml
  ·rfl
  ·rw [e, if_pos rfl] at hN; exact absurd hN (by decide)
 rw [hT, if_neg (by decide)] at hN
 have hA : hasAllB f.ml = true := by
  cases e : hasAllB f.ml
  ·rw [e, if_pos rfl] at hN; exact absurd hN (by decide)
  ·rfl
 rw [hA, if_neg (by decide)] at hN
 refine ⟨hF, hT, hA, ?_⟩
 cases e : ordN f.ml f.ml.length []
 ·rw [e, if_pos (by rfl)] at hN; exact absurd hN (by decide)
 ·exact ⟨_, rfl⟩
theorem lies_srow8 {lo : Nat} {W : World} {a : Option Addr} {c n : Nat} {l : List Bytes} (h : SRow lo W (.slice a n c) l) : n = l.length ∧ LiesS W a l := by
 obtain ⟨a', c', e1, e2⟩ := h
 injection e1 with e1 e3 e4
 subst e1
 exact ⟨e3, e2.imp id (fun ⟨b, o, x1, x2, x3, x4⟩ => ⟨b, o, x1, x4⟩)⟩
theorem order_all7 {ml : List MT} {out : List Bytes} (ho : ordN ml ml.length [] = some out) {m : MT} (hm : m ∈ ml) : m.nm ∈ out := by
 have hok := (ordN_ok ml ml.length [] out (OrdOk.nil _) ho).1
 have hlen : out.length = ml.length := by simpa using (ordN_ok ml ml.length [] out (OrdOk.nil _) ho).2
 by_cases hc : m.nm ∈ out
 ·exact hc
 ·exfalso
  have h1 := nodup_sub_len (m.nm :: out) (ml.map (·.nm)) (List.nodup_cons.2 ⟨hc, hok.nodup⟩) (fun n hn => by
   rcases List.mem_cons.1 hn with e | e
   ·rw [e]; exact List.mem_map.2 ⟨m, hm, rfl⟩
   ·obtain ⟨x, hx, hn2⟩ := hok.sub n e
    exact List.mem_map.2 ⟨x, hx, hn2⟩)
  rw [List.length_cons, List.length_map] at h1
  omega
theorem names_set7 {m' : MT} : ∀ (l : List MT) (k : Nat) (h : k < l.length), m'.nm = l[k].nm → (l.set k m').map (·.nm) = l.map (·.nm)
 | [], k, h, _ => by simp at h
 | x :: r, 0, h, e => by simp at e ⊢; exact e
 | x :: r, k + 1, h, e => by
  rw [List.set_cons_succ, List.map_cons, List.map_cons, names_set7 r k (by simpa using h) (by simpa using e)]
theorem twice_set7 {m' : MT} : ∀ (l : List MT) (k : Nat) (h : k < l.length) (seen : List Bytes), m'.nm = l[k].nm → modB m' = modB l[k] → twiceB seen (l.set k m') = twiceB seen l
 | [], k, h, _, _, _ => by simp at h
 | x :: r, 0, h, seen, e, hb => by simp at e hb ⊢; rw [twiceB, twiceB, e, hb]
 | x :: r, k + 1, h, seen, e, hb => by
  rw [List.set_cons_succ, twiceB, twiceB, twice_set7 r k (by simpa using h) _ (by simpa using e) (by simpa using hb)]
theorem szL_set7 {m' : MT} (d : Nat) : ∀ (l : List MT) (k : Nat) (h : k < l.length), m'.sz ≤ l[k].sz + d → MT.szL (l.set k m') ≤ MT.szL l + d
 | [], k, h, _ => by simp at h
 | x :: r, 0, h, e => by simp only [List.set_cons_zero, MT.szL]; simp only [List.getElem_cons_zero] at e; omega
 | x :: r, k + 1, h, e => by
  have := szL_set7 d r k (by simpa using h) (by simpa using e)
  simp only [List.set_cons_succ, MT.szL]; omega
theorem bkL_set7 {m' : MT} (d : Nat) : ∀ (l : List MT) (k : Nat) (h : k < l.length), m'.bk ≤ l[k].bk + d → MT.bkL (l.set k m') ≤ MT.bkL l + d
 | [], k, h, _ => by simp at h
 | x :: r, 0, h, e => by simp only [List.set_cons_zero, MT.bkL]; simp only [List.getElem_cons_zero] at e; omega
 | x :: r, k + 1, h, e => by
  have := bkL_set7 d r k (by simpa using h) (by simpa using e)
  simp only [List.set_cons_succ, MT.bkL]; omega
theorem dpL_set7 {m' : MT} {D : Nat} (h' : m'.dp ≤ D) : ∀ (l : List MT) (k : Nat), MT.dpL l ≤ D → MT.dpL (l.set k m') ≤ D
 | [], k, e => by simpa using e
 | x :: r, 0, e => by simp only [List.set_cons_zero, MT.dpL] at e ⊢; omega
 | x :: r, k + 1, e => by
  have := dpL_set7 h' r k (by simp only [MT.dpL] at e; omega)
  simp only [List.set_cons_succ, MT.dpL] at e ⊢; omega
theorem dpL_mem7 {m : MT} : ∀ {l : List MT}, m ∈ l → m.dp ≤ MT.dpL l
 | [], h => by cases h
 | x :: r, h => by
  simp only [MT.dpL]
  rcases List.mem_cons.1 h with rfl | h
  ·omega
  ·have := dpL_mem7 h; omega
theorem it_szL_app7 : ∀ l m : List IT, IT.szL (l ++ m) = IT.szL l + IT.szL m
 | [], m => by simp [IT.szL]
 | x :: r, m => by rw [List.cons_append, IT.szL, IT.szL, it_szL_app7 r m]; omega
theorem it_dpL_app7 : ∀ l m : List IT, IT.dpL (l ++ m) = max (IT.dpL l) (IT.dpL m)
 | [], m => by simp [IT.dpL]
 | x :: r, m => by rw [List.cons_append, IT.dpL, IT.dpL, it_dpL_app7 r m]; omega
theorem it_bkL_app7 : ∀ l m : List IT, IT.bkL (l ++ m) = IT.bkL l + IT.bkL m
 | [], m => by simp [IT.bkL]
 | x :: r, m => by rw [List.cons_append, IT.bkL, IT.bkL, it_bkL_app7 r m]; omega
theorem addI_dp7 (m : MT) {x : IT} (hx : x.dp ≤ 2) (ia : Option Addr) (ic : Nat) : (addI m [x] ia ic).dp ≤ max m.dp 3 := by
 obtain ⟨nm, pa, pc, pl, ta, tc, tl, ja, jc, il⟩ := m
 simp only [addI, MT.dp, it_dpL_app7, IT.dpL]; omega
theorem addI_sz7 (m : MT) (x : IT) (ia : Option Addr) (ic : Nat) : (addI m [x] ia ic).sz = m.sz + x.sz := by
 obtain ⟨nm, pa, pc, pl, ta, tc, tl, ja, jc, il⟩ := m
 simp only [addI, MT.sz, it_szL_app7, IT.szL]; omega
theorem addI_bk7 (m : MT) (x : IT) (ia : Option Addr) (ic : Nat) : (addI m [x] ia ic).bk = m.bk + x.bk := by
 obtain ⟨nm, pa, pc, pl, ta, tc, tl, ja, jc, il⟩ := m
 simp only [addI, MT.bk, it_bkL_app7, IT.bkL]; omega
/-- An item more, of a fresh name: ast has nothing against it, and no name is told twice. -/
theorem put_ok7 {f : FT} (h0 : checkP f = 0) (hsz : f.sz ≤ 2000) {k : Nat} (hk : k < f.ml.length) {x : IT} (hx : mayI x = true) (hxs : x.sz ≤ 3) (hxd : x.dp ≤ 2) {a ia : Option Addr} {c ic : Nat} {M : List MT} (hM : M = f.ml.set k (addI f.ml[k] [x] ia ic)) (hr : rightM (withI f.ml[k] x) = rightM f.ml[k]) :
  checkF ⟨a, c, M⟩ = 0 ∧ twiceB [] M = false := by
 subst hM
 obtain ⟨hF, hT, -, -⟩ := checkP_zero7 h0
 obtain ⟨f1, f2, f3, f4⟩ := checkF_zero7 hF
 have hm := f4 _ (List.getElem_mem hk)
 have hil : ∀ y ∈ f.ml[k].il, mayI y = true := by
  unfold mayM at hm; simp only [Bool.and_eq_true] at hm; exact List.all_eq_true.1 hm.2.2.2
 have hil2 : ∀ y ∈ f.ml[k].il ++ [x], mayI y = true := fun y hy => by
  rcases List.mem_append.1 hy with h | h
  ·exact hil y h
  ·rw [List.mem_singleton.1 h]; exact hx
 have hd0 := dpL_mem7 (List.getElem_mem hk)
 have hd1 : MT.dpL f.ml ≤ 64 := f3
 have hs1 : MT.szL f.ml ≤ 2000 := hsz
 have hsz2 : (addI f.ml[k] [x] ia ic).sz ≤ f.ml[k].sz + 3 := by
  have h8 := addI_sz7 f.ml[k] x ia ic
  omega
 have hdp2 : (addI f.ml[k] [x] ia ic).dp ≤ 64 := by
  have h9 : f.ml[k].dp ≤ 64 := by omega
  have h8 := addI_dp7 f.ml[k] (x := x) hxd ia ic
  omega
 have hmay2 : mayM (addI f.ml[k] [x] ia ic) = true := by
  unfold mayM at hm ⊢
  simp only [Bool.and_eq_true] at hm ⊢
  exact ⟨hm.1, hm.2.1, hm.2.2.1, List.all_eq_true.2 hil2⟩
 refine ⟨?_, ?_⟩
 ·have e1 := szL_set7 3 f.ml k hk hsz2
  have e2 := dpL_set7 hdp2 f.ml k hd1
  unfold checkF
  rw [if_neg (by simp; omega), if_neg (by
   simp only [Bool.or_eq_true, decide_eq_true_eq, not_or]
   exact ⟨by show ¬ 65536 < MT.szL (f.ml.set k (addI f.ml[k] [x] ia ic)); omega, by show ¬ 64 < MT.dpL (f.ml.set k (addI f.ml[k] [x] ia ic)); omega⟩), if_pos]
  refine List.all_eq_true.2 fun m hm2 => ?_
  rcases List.mem_or_eq_of_mem_set hm2 with h | rfl
  ·exact f4 m h
  ·exact hmay2
 ·rw [twice_set7 (m' := addI f.ml[k] [x] ia ic) f.ml k hk [] rfl (by rw [modB_ref _ hil2, modB_ref _ hil]; exact hr)]
  exact hT
/-- An instance. -/
def inT7 (a b : Bytes) : IT := .mk 7 a b none 0 [] none 0 [] none 0 [] none 0 [] none 0 [] none 0 []
theorem inT_may7 {a b : Bytes} (ha : isNameB a = true) (hb : isNameB b = true) : mayI (inT7 a b) = true := by
 unfold inT7
 rw [mayI]
 have hk : ki (7 : Int).toNat = ki 7 := rfl
 rw [hk]
 simp only [ki, nameB, ha, hb]
 simp [mayIL, headB, countB, amongB]
theorem inT_one7 (a b : Bytes) : OneI (inT7 a b) a := ⟨by unfold inT7; rw [toldI, if_neg (by decide), if_pos (by decide)], fun ar => by unfold inT7; rw [innI]; simp [innL, stBL]⟩
theorem nameX7 {s : Bytes} (h : checkX (.mk 2 s 0 0 0 none 0 []) = 0) : isNameB s = true := by
 unfold checkX at h
 rw [if_neg (by simp [XT.sz, XT.szL, XT.dp, XT.dpL])] at h
 cases hm : mayX (.mk 2 s 0 0 0 none 0 [])
 ·rw [hm, if_neg (by decide)] at h; exact absurd h (by decide)
 ·rw [mayX] at hm
  have hk : kx (2 : Int).toNat = kx 2 := rfl
  rw [hk] at hm
  simp only [kx, nameB, Bool.and_eq_true, if_true] at hm
  exact hm.2.1
/-- A module that is made of itself is found out. -/
theorem ring_put7 {f : FT} {top name : Bytes} (hsz : f.sz ≤ 2000) (hb : belE f top = 0) {k : Nat} (hk : k < f.ml.length) (hkb : f.ml[k].nm ∈ belL f top) (hname : isNameB name = true) (hfr : (allR f.ml[k]).contains name = false) {a ia : Option Addr} {c ic : Nat} {M : List MT} (hM : M = f.ml.set k (addI f.ml[k] [inT7 name top] ia ic)) : checkP ⟨a, c, M⟩ = 72 := by
 have h0 : checkP f = 0 := by
  unfold belE at hb
  by_cases e : checkP f = 0
  ·exact e
  ·rw [if_pos e] at hb; exact absurd hb e
 obtain ⟨hF, hT, hA, out, ho⟩ := checkP_zero7 h0
 obtain ⟨-, -, -, hmay⟩ := checkF_zero7 hF
 have hof : ordF f = out := by unfold ordF; rw [if_neg (by rw [h0]; simp), ho]; rfl
 have hd := (twice_nodup f.ml [] hT).1
 have hok := (ordN_ok f.ml f.ml.length [] out (OrdOk.nil _) ho).1
 have hct : out.contains top = true := by
  unfold belE at hb
  rw [if_neg (by rw [h0]; simp), hof] at hb
  cases e : out.contains top
  ·rw [e, if_neg (by decide)] at hb; exact absurd hb (by decide)
  ·rfl
 have hB : belL f top = belowP (usN f.ml) out top := by unfold belL; rw [if_neg (by rw [h0]; simp), hof, if_pos hct]
 obtain ⟨mt, hmt, hmtn⟩ := hok.sub top (List.contains_iff_mem.1 hct)
 have htn : isNameB top = true := by
  have := hmay mt hmt
  unfold mayM at this
  simp only [Bool.and_eq_true] at this
  rw [← hmtn]; exact this.1
 have hfm : name ∉ allM f.ml[k] := fun h => by rw [(allR_mem _ _).2 h] at hfr; cases hfr
 have hr := right_fresh f.ml[k] (inT7 name top) name (inT_one7 name top) hfm
 obtain ⟨g1, g2⟩ := put_ok7 (a := a) (c := c) h0 hsz hk (inT_may7 hname htn) (by simp [inT7, IT.sz, XT.szL, ST.szL, IT.szL, BT.szL]) (by simp [inT7, IT.dp, XT.dpL, ST.dpL, IT.dpL, BT.dpL]) hM hr
 have hnm : M.map (·.nm) = f.ml.map (·.nm) := by rw [hM]; exact names_set7 f.ml k hk rfl
 have huse : ∀ u, u ∈ usesM (addI f.ml[k] [inT7 name top] ia ic) ↔ u ∈ usesM f.ml[k] ∨ u = top := fun u => by
  have h1 : usesM (addI f.ml[k] [inT7 name top] ia ic) = usesM (withI f.ml[k] (inT7 name top)) := rfl
  rw [h1, usesM_more]
  have h2 : instI (inT7 name top) = [top] := by unfold inT7; rw [instI]; simp [instL]
  rw [h2, List.mem_singleton]
 have hkM : M[k]? = some (addI f.ml[k] [inT7 name top] ia ic) := by rw [hM, List.getElem?_set_self hk]
 have hmem : addI f.ml[k] [inT7 name top] ia ic ∈ M := List.mem_of_getElem? hkM
 have hA2 : hasAllB M = true := by
  unfold hasAllB at hA ⊢
  rw [hnm]
  refine List.all_eq_true.2 fun m hm => List.all_eq_true.2 fun u hu => ?_
  have hA := List.all_eq_true.1 hA
  rw [hM] at hm
  rcases List.mem_or_eq_of_mem_set hm with h | rfl
  ·exact List.all_eq_true.1 (hA m h) u hu
  ·rcases (huse u).1 hu with h | rfl
   ·exact List.all_eq_true.1 (hA _ (List.getElem_mem hk)) u h
   ·exact List.contains_iff_mem.2 (List.mem_map.2 ⟨mt, hmt, hmtn⟩)
 have hO : ordN M M.length [] = none := by
  cases ho2 : ordN M M.length [] with
  | none => rfl
  | some o =>
   exfalso
   have hok2 := (ordN_ok M M.length [] o (OrdOk.nil _) ho2).1
   have hd2 : (M.map (·.nm)).Nodup := by rw [hnm]; exact hd
   rw [hB] at hkb
   unfold belowP at hkb
   rw [List.mem_filter] at hkb
   have hordk : f.ml[k].nm ∈ o := order_all7 (m := addI f.ml[k] [inT7 name top] ia ic) ho2 hmem
   refine no_ring hd2 hok2 (usN f.ml) out.reverse top (fun n hn => ?_) (List.contains_iff_mem.1 hkb.2) hmem rfl (hordk)  ((huse top).2 (.inr rfl))
   obtain ⟨m, hm, hmn⟩ := hok.sub n (by simpa using hn)
   obtain ⟨j, hj, e⟩ := List.mem_iff_getElem.1 hm
   have hus : usN f.ml n = usesM m := by rw [← hmn]; exact usN_of hd hm
   by_cases hjk : j = k
   ·subst hjk
    refine ⟨_, hmem, by rw [← hmn, ← e]; rfl, by rw [← hmn, ← e]; exact hordk, fun u hu => (huse u).2 (.inl ?_)⟩
    rw [hus, ← e] at hu; exact hu
   ·have hmM : m ∈ M := by
     rw [hM]
     refine List.mem_of_getElem? (i := j) ?_
     rw [List.getElem?_set_ne (fun h => hjk h.symm), List.getElem?_eq_getElem hj, e]
    exact ⟨m, hmM, hmn, by rw [← hmn]; exact order_all7 ho2 hmM, fun u hu => by rw [hus] at hu; exact hu⟩
 unfold checkP
 rw [if_neg (by rw [g1]; simp)]
 show checkN M = 72
 unfold checkN
 rw [g2, if_neg (by decide), hA2, if_neg (by decide), hO, if_pos (by rfl)]
end Go.Proofs.YtiipjbafdhijlaaGreatDoor
