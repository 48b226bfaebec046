/-
  NmZ, in one text.
-/
import Derived.Test.YtiipjbafdhijlaaGreatDoorZAn
namespace Go.Proofs.YtiipjbafdhijlaaGreatDoor
open Go Go.RowKit
set_option linter.unusedVariables false
set_option linter.unusedSimpArgs false
open Go.Sort
/-- Does an item tell its name? -/
def tellsI (op : Int) : Bool := (op == 1) || ((op == 2) || ((op == 3) || ((op == 7) || ((op == 9) || (op == 10)))))
/-- A name more. -/
def tell1 (s : List Bytes × Bool) (n : Bytes) : List Bytes × Bool := (s.1 ++ [n], s.2 && !s.1.contains n)
mutual
/-- The names that an item tells in its scope, each once, and whether that is right. -/
def toldI : IT → List Bytes × Bool
 | .mk op nm _ _ _ _ _ _ _ _ _ ll _ _ el _ _ _ _ _ _ => if op = 8 then (addN (toldA ([], true) ll).1 (toldA ([], true) el).1, (toldA ([], true) ll).2 && (toldA ([], true) el).2) else if tellsI op = true then ([nm], true) else ([], true)
/-- Items, behind what is told. -/
def toldA (s : List Bytes × Bool) : List IT → List Bytes × Bool
 | [] => s
 | x :: r => toldA ((toldI x).1.foldl tell1 (s.1, s.2 && (toldI x).2)) r
end
mutual
/-- An item tells its names in a scope that holds S, within others that hold ar: none, if one is there. -/
def telI (ar S : List Bytes) : IT → Option (List Bytes)
 | .mk op nm _ _ _ _ _ _ _ _ _ ll _ _ el _ _ _ _ _ _ => if op = 8 then (match telL (S ++ ar) [] ll with | none => none | some a => match telL (S ++ ar) [] el with | none => none | some b => some (S ++ (a ++ b))) else if tellsI op = true then (if (S ++ ar).contains nm = true then none else some (S ++ [nm])) else some S
def telL (ar S : List Bytes) : List IT → Option (List Bytes)
 | [] => some S
 | x :: r => match telI ar S x with | none => none | some T => telL ar T r
end
theorem tell1_fold : ∀ (ns : List Bytes) (s : List Bytes × Bool), ns.foldl tell1 s = (s.1 ++ ns, (ns.foldl tell1 s).2) ∧ ((ns.foldl tell1 s).2 = true ↔ s.2 = true ∧ ns.Nodup ∧ ∀ n ∈ ns, n ∉ s.1)
 | [], s => by simp
 | n :: r, s => by
  have h := tell1_fold r (tell1 s n)
  rw [List.foldl_cons]
  refine ⟨?_, ?_⟩
  ·rw [h.1]; simp [tell1]
  ·rw [h.2]
   simp only [tell1, Bool.and_eq_true, Bool.not_eq_true', List.nodup_cons, List.mem_append, List.mem_singleton, List.mem_cons]
   constructor
   ·rintro ⟨⟨h1, h2⟩, h3, h4⟩
    have h5 : n ∉ s.1 := by intro h; rw [List.contains_iff_mem.2 h] at h2; cases h2
    refine ⟨h1, ⟨fun h => h4 n h (.inr (by simp)), h3⟩, ?_⟩
    rintro m (rfl | hm)
    ·exact h5
    ·exact fun h => h4 m hm (.inl h)
   ·rintro ⟨h1, ⟨h2, h3⟩, h4⟩
    refine ⟨⟨h1, ?_⟩, h3, ?_⟩
    ·have := h4 n (.inl rfl)
     cases hc : s.1.contains n
     ·rfl
     ·exact absurd (List.contains_iff_mem.1 hc) this
    ·intro m hm h
     rcases h with h | h
     ·exact h4 m (.inr hm) h
     ·have e : m = n := by simpa using h
      subst e; exact h2 hm
/-- What items tell, behind what is told: what they tell by themselves, if none of it is there. -/
theorem toldA_from : ∀ (l : List IT) (s : List Bytes × Bool), (toldA s l).1 = s.1 ++ (toldA ([], true) l).1 ∧ ((toldA s l).2 = true ↔ s.2 = true ∧ (toldA ([], true) l).2 = true ∧ ∀ n ∈ (toldA ([], true) l).1, n ∉ s.1)
 | [], s => by simp [toldA]
 | x :: r, s => by
  have h1 := toldA_from r ((toldI x).1.foldl tell1 (s.1, s.2 && (toldI x).2))
  have h2 := toldA_from r ((toldI x).1.foldl tell1 ([], true && (toldI x).2))
  have f1 := tell1_fold (toldI x).1 (s.1, s.2 && (toldI x).2)
  have f2 := tell1_fold (toldI x).1 ([], true && (toldI x).2)
  have e1 : ((toldI x).1.foldl tell1 (s.1, s.2 && (toldI x).2)).1 = s.1 ++ (toldI x).1 := by rw [f1.1]
  have e2 : ((toldI x).1.foldl tell1 ([], true && (toldI x).2)).1 = (toldI x).1 := by rw [f2.1]; rfl
  rw [toldA, toldA]
  rw [h1.1, h2.1, e1, e2, h1.2, h2.2, e1, e2, f1.2, f2.2]
  refine ⟨by rw [List.append_assoc], ?_⟩
  simp only [Bool.and_eq_true, List.mem_append]
  constructor
  ·rintro ⟨⟨⟨a1, a2⟩, a3, a4⟩, a5, a6⟩
   refine ⟨a1, ⟨⟨⟨trivial, a2⟩, a3, fun n _ h => by cases h⟩, a5, fun n hn h => a6 n hn (.inr h)⟩, ?_⟩
   rintro n (hn | hn)
   ·exact a4 n hn
   ·exact fun h => a6 n hn (.inl h)
  ·rintro ⟨a1, ⟨⟨⟨_, a2⟩, a3, _⟩, a5, a6⟩, a7⟩
   refine ⟨⟨⟨a1, a2⟩, a3, fun n hn => a7 n (.inl hn)⟩, a5, ?_⟩
   rintro n hn (h | h)
   ·exact a7 n (.inr hn) h
   ·exact a6 n hn h
theorem addN_in : ∀ (m out : List Bytes) (s : Bytes), s ∈ addN out m ↔ s ∈ out ∨ s ∈ m
 | [], out, s => by simp [addN]
 | t :: r, out, s => by
  rw [addN, addN_in r]
  by_cases h : out.contains t = true
  ·rw [if_pos h]
   have := List.contains_iff_mem.1 h
   constructor
   ·rintro (h1 | h1)
    ·exact .inl h1
    ·exact .inr (List.mem_cons_of_mem _ h1)
   ·rintro (h1 | h1)
    ·exact .inl h1
    ·rcases List.mem_cons.1 h1 with h2 | h2
     ·subst h2; exact .inl this
     ·exact .inr h2
  ·rw [if_neg h]
   simp only [List.mem_append, List.mem_singleton, List.mem_cons, or_assoc, List.not_mem_nil, false_or]
/-- What is told by itself, each once. -/
def TeP (ar S : List Bytes) (T : Option (List Bytes)) (N : List Bytes) (ok : Bool) : Prop :=
 (∀ S', T = some S' → ok = true ∧ (∀ n ∈ N, n ∉ S ∧ n ∉ ar) ∧ ∀ n, n ∈ S' ↔ n ∈ S ∨ n ∈ N) ∧ (T = none → ¬ (ok = true ∧ ∀ n ∈ N, n ∉ S ∧ n ∉ ar))
theorem toldA_nodup : ∀ (l : List IT) (s : List Bytes × Bool), (toldA s l).2 = true → s.1.Nodup → (toldA s l).1.Nodup
 | [], s, _, h => h
 | x :: r, s, h, hs => by
  rw [toldA] at h ⊢
  refine toldA_nodup r _ h ?_
  have f1 := tell1_fold (toldI x).1 (s.1, s.2 && (toldI x).2)
  have h2 := ((toldA_from r _).2.1 h).1
  rw [f1.2] at h2
  rw [f1.1]
  refine List.nodup_append.2 ⟨hs, h2.2.1, ?_⟩
  intro a ha b hb e
  subst e
  exact h2.2.2 a hb ha
theorem toldI_nodup (x : IT) (h : (toldI x).2 = true) : (toldI x).1.Nodup := by
 obtain ⟨op, nm, nf, xa, xc, xl, sa, sc, sl, la, lc, ll, ea, ec, el, pa, pc, pl, ba, bc, bl⟩ := x
 rw [toldI] at h ⊢
 by_cases h8 : op = 8
 ·rw [if_pos h8] at h ⊢
  simp only [Bool.and_eq_true] at h
  exact addN_nodup _ _ (toldA_nodup ll _ h.1 (by simp))
 ·rw [if_neg h8]
  split <;> simp
theorem telL_of : ∀ (l : List IT) (ar S : List Bytes), (∀ x ∈ l, ∀ ar S, TeP ar S (telI ar S x) (toldI x).1 (toldI x).2) → TeP ar S (telL ar S l) (toldA ([], true) l).1 (toldA ([], true) l).2
 | [], ar, S, _ => by
  refine ⟨fun S' h => ?_, fun h => by cases h⟩
  cases h
  simp [toldA]
 | x :: r, ar, S, hx => by
  have h1 := hx x (by simp) ar S
  have f2 := tell1_fold (toldI x).1 ([], true && (toldI x).2)
  have t2 := toldA_from r ((toldI x).1.foldl tell1 ([], true && (toldI x).2))
  have e2 : ((toldI x).1.foldl tell1 ([], true && (toldI x).2)).1 = (toldI x).1 := by rw [f2.1]; rfl
  have hN : (toldA ([], true) (x :: r)).1 = (toldI x).1 ++ (toldA ([], true) r).1 := by rw [toldA, t2.1, e2]
  have hO : (toldA ([], true) (x :: r)).2 = true ↔ ((toldI x).2 = true ∧ (toldI x).1.Nodup) ∧ (toldA ([], true) r).2 = true ∧ ∀ n ∈ (toldA ([], true) r).1, n ∉ (toldI x).1 := by
   rw [toldA, t2.2, e2, f2.2]
   simp
  rw [telL]
  cases hT : telI ar S x with
  | none =>
   refine ⟨fun S' h => (by cases h), fun _ hh => h1.2 hT ⟨?_, ?_⟩⟩
   ·exact (hO.1 hh.1).1.1
   ·exact fun n hn => hh.2 n (by rw [hN]; exact List.mem_append_left _ hn)
  | some T =>
   have h3 := h1.1 T hT
   have h4 := telL_of r ar T (fun y hy => hx y (by simp [hy]))
   simp only
   refine ⟨fun S' hS => ?_, fun hS hh => ?_⟩
   ·have h5 := h4.1 S' hS
    refine ⟨hO.2 ⟨⟨h3.1, toldI_nodup x h3.1⟩, h5.1, fun n hn hm => (h5.2.1 n hn).1 ((h3.2.2 n).2 (.inr hm))⟩, ?_, ?_⟩
    ·intro n hn
     rw [hN] at hn
     rcases List.mem_append.1 hn with h | h
     ·exact h3.2.1 n h
     ·exact ⟨fun hs => (h5.2.1 n h).1 ((h3.2.2 n).2 (.inl hs)), (h5.2.1 n h).2⟩
    ·intro n
     rw [h5.2.2 n, h3.2.2 n, hN, List.mem_append, or_assoc]
   ·refine h4.2 hS ⟨(hO.1 hh.1).2.1, fun n hn => ⟨fun hT2 => ?_, (hh.2 n (by rw [hN]; exact List.mem_append_right _ hn)).2⟩⟩
    rcases (h3.2.2 n).1 hT2 with h | h
    ·exact (hh.2 n (by rw [hN]; exact List.mem_append_right _ hn)).1 h
    ·exact (hO.1 hh.1).2.2 n hn h
theorem telI_is : ∀ x : IT, ∀ ar S : List Bytes, TeP ar S (telI ar S x) (toldI x).1 (toldI x).2 := IT.ind fun op nm nf xa xc xl sa sc sl la lc ll ea ec el pa pc pl ba bc bl ih0 ih1 ar S => by
 have hl := telL_of ll (S ++ ar) [] ih0
 have he := telL_of el (S ++ ar) [] ih1
 rw [telI, toldI]
 by_cases h8 : op = 8
 ·rw [if_pos h8, if_pos h8]
  simp only
  cases hL : telL (S ++ ar) [] ll with
  | none =>
   refine ⟨fun S' h => (by cases h), fun _ hh => hl.2 hL ⟨?_, ?_⟩⟩
   ·have := hh.1; simp only [Bool.and_eq_true] at this; exact this.1
   ·intro n hn
    have h2 := hh.2 n ((addN_in _ _ _).2 (.inl hn))
    exact ⟨by simp, by simp [h2.1, h2.2]⟩
  | some a =>
   have hl2 := hl.1 a hL
   simp only
   cases hE : telL (S ++ ar) [] el with
   | none =>
    refine ⟨fun S' h => (by cases h), fun _ hh => he.2 hE ⟨?_, ?_⟩⟩
    ·have := hh.1; simp only [Bool.and_eq_true] at this; exact this.2
    ·intro n hn
     have h2 := hh.2 n ((addN_in _ _ _).2 (.inr hn))
     exact ⟨by simp, by simp [h2.1, h2.2]⟩
   | some b =>
    have he2 := he.1 b hE
    refine ⟨fun S' h => ?_, fun h => by cases h⟩
    cases h
    refine ⟨by simp only [Bool.and_eq_true]; exact ⟨hl2.1, he2.1⟩, ?_, ?_⟩
    ·intro n hn
     have h3 : n ∉ S ++ ar := by
      rcases (addN_in _ _ _).1 hn with h | h
      ·exact (hl2.2.1 n h).2
      ·exact (he2.2.1 n h).2
     simp only [List.mem_append, not_or] at h3
     exact h3
    ·intro n
     rw [addN_in, List.mem_append, List.mem_append, hl2.2.2 n, he2.2.2 n]
     simp
 ·rw [if_neg h8, if_neg h8]
  by_cases ht : tellsI op = true
  ·rw [if_pos ht, if_pos ht]
   by_cases hc : (S ++ ar).contains nm = true
   ·rw [if_pos hc]
    refine ⟨fun S' h => (by cases h), fun _ hh => ?_⟩
    have h2 := hh.2 nm (by simp)
    have h3 := List.contains_iff_mem.1 hc
    rw [List.mem_append] at h3
    rcases h3 with h | h
    ·exact h2.1 h
    ·exact h2.2 h
   ·rw [if_neg hc]
    refine ⟨fun S' h => ?_, fun h => by cases h⟩
    cases h
    refine ⟨rfl, ?_, ?_⟩
    ·intro n hn
     simp only [List.mem_singleton] at hn
     subst hn
     refine ⟨fun h => hc (List.contains_iff_mem.2 (List.mem_append_left _ h)), fun h => hc (List.contains_iff_mem.2 (List.mem_append_right _ h))⟩
    ·intro n; simp
  ·rw [if_neg ht, if_neg ht]
   refine ⟨fun S' h => ?_, fun h => by cases h⟩
   cases h
   simp
/-- Items tell their names in a scope, within others: just if what they tell by themselves is right, and none of it is there. -/
theorem telL_is (l : List IT) (ar S : List Bytes) : TeP ar S (telL ar S l) (toldA ([], true) l).1 (toldA ([], true) l).2 := telL_of l ar S (fun x _ => telI_is x)
end Go.Proofs.YtiipjbafdhijlaaGreatDoor
namespace Go.Proofs.YtiipjbafdhijlaaGreatDoor
open Go Go.RowKit
set_option linter.unusedVariables false
set_option linter.unusedSimpArgs false
open Go.Sort
mutual
/-- The scopes of a statement, within names that can be seen. -/
def stB (ch : List Bytes) : ST → Bool
 | .mk op nm _ _ _ _ _ sl => if op = 6 then !ch.contains nm && stBL (ch ++ [nm]) sl else stBL ch sl
def stBL (ch : List Bytes) : List ST → Bool
 | [] => true
 | x :: r => stB ch x && stBL ch r
end
theorem stBL_all (ch : List Bytes) : ∀ l : List ST, stBL ch l = l.all (stB ch)
 | [] => rfl
 | x :: r => by rw [stBL, stBL_all ch r]; rfl
theorem contains_same {ch ar : List Bytes} (h : ∀ n, n ∈ ch ↔ n ∈ ar) (n : Bytes) : ch.contains n = ar.contains n := by
 rw [Bool.eq_iff_iff, List.contains_iff_mem, List.contains_iff_mem]; exact h n
theorem all_same {α : Type} {p q : α → Bool} : ∀ {l : List α}, (∀ x ∈ l, p x = q x) → l.all p = l.all q
 | [], _ => rfl
 | x :: r, h => by rw [List.all_cons, List.all_cons, h x (by simp), all_same (fun y hy => h y (by simp [hy]))]
theorem stB_same : ∀ x : ST, ∀ ch ar : List Bytes, (∀ n, n ∈ ch ↔ n ∈ ar) → stB ch x = stB ar x := ST.ind fun op nm xa xc xl sa sc sl ih ch ar h => by
 rw [stB, stB, contains_same h nm]
 by_cases h6 : op = 6
 ·rw [if_pos h6, if_pos h6, stBL_all, stBL_all, all_same (fun y hy => ih y hy (ch ++ [nm]) (ar ++ [nm]) (fun n => by simp [h n]))]
 ·rw [if_neg h6, if_neg h6, stBL_all, stBL_all, all_same (fun y hy => ih y hy ch ar h)]
theorem stBL_same (l : List ST) (ch ar : List Bytes) (h : ∀ n, n ∈ ch ↔ n ∈ ar) : stBL ch l = stBL ar l := by
 rw [stBL_all, stBL_all]; exact all_same (fun y _ => stB_same y ch ar h)
mutual
/-- The scopes that stand in an item, one within the other: what is told is told into scopes. -/
def inI (ch : List Bytes) : IT → Bool
 | .mk op nm nf _ _ _ _ _ sl _ _ ll _ _ el _ _ _ _ _ _ => if op = 8 then inL ch ll && inL ch el else if op = 9 then !ch.contains nf && (match telL ch [nf] ll with | none => false | some S => inL (S ++ ch) ll) else if op = 5 ∨ op = 6 then stBL ch sl else true
def inL (ch : List Bytes) : List IT → Bool
 | [] => true
 | x :: r => inI ch x && inL ch r
end
mutual
/-- The same, as the document says it. -/
def innI (ar : List Bytes) : IT → Bool
 | .mk op nm nf _ _ _ _ _ sl _ _ ll _ _ el _ _ _ _ _ _ => stBL ar sl && (if op = 8 then innL ar ll && innL ar el else if op = 9 then (tell1 (toldA ([], true) ll) nf).2 && ((tell1 (toldA ([], true) ll) nf).1.all (fun n => !ar.contains n) && innL (ar ++ (tell1 (toldA ([], true) ll) nf).1) ll) else true)
def innL (ar : List Bytes) : List IT → Bool
 | [] => true
 | x :: r => innI ar x && innL ar r
end
theorem inL_all (ch : List Bytes) : ∀ l : List IT, inL ch l = l.all (inI ch)
 | [] => rfl
 | x :: r => by rw [inL, inL_all ch r]; rfl
theorem innL_all (ch : List Bytes) : ∀ l : List IT, innL ch l = l.all (innI ch)
 | [] => rfl
 | x :: r => by rw [innL, innL_all ch r]; rfl
/-- What may be has statements in processes alone. -/
theorem mayI_parts {op : Int} {nm nf : Bytes} {xa : Option Addr} {xc : Nat} {xl : List XT} {sa : Option Addr} {sc : Nat} {sl : List ST} {la : Option Addr} {lc : Nat} {ll : List IT} {ea : Option Addr} {ec : Nat} {el : List IT} {pa : Option Addr} {pc : Nat} {pl : List BT} {ba : Option Addr} {bc : Nat} {bl : List BT} (h : mayI (.mk op nm nf xa xc xl sa sc sl la lc ll ea ec el pa pc pl ba bc bl) = true) :
  (op ≠ 5 → op ≠ 6 → sl = []) ∧ (∀ y ∈ ll, mayI y = true) ∧ (∀ y ∈ el, mayI y = true) := by
 rw [mayI, mayIL_all, mayIL_all] at h
 simp only [Bool.and_eq_true] at h
 obtain ⟨h1, _, _, _, _, _, h7, _, _, h10, _, h12, _⟩ := h
 refine ⟨fun n5 n6 => ?_, fun y hy => List.all_eq_true.1 h10 y hy, fun y hy => List.all_eq_true.1 h12 y hy⟩
 have hr : 1 ≤ op ∧ op < 11 := by unfold amongB at h1; simpa using h1
 have hk : (ki op.toNat).2.2.2.2.1 = false := by
  obtain ⟨k, rfl⟩ : ∃ k : Nat, op = (k : Int) := ⟨op.toNat, by omega⟩
  rw [Int.toNat_natCast]
  have c10 : k = 1 ∨ k = 2 ∨ k = 3 ∨ k = 4 ∨ k = 7 ∨ k = 8 ∨ k = 9 ∨ k = 10 := by omega
  rcases c10 with h | h | h | h | h | h | h | h <;> subst h <;> rfl
 rw [hk] at h7
 have : ((sl.length : Int) == 0) = true := by unfold countB at h7; simpa using h7
 cases sl with
 | nil => rfl
 | cons y r => simp at this; omega
theorem inI_ref : ∀ x : IT, mayI x = true → ∀ ch ar : List Bytes, (∀ n, n ∈ ch ↔ n ∈ ar) → inI ch x = innI ar x := IT.ind fun op nm nf xa xc xl sa sc sl la lc ll ea ec el pa pc pl ba bc bl ih0 ih1 hm ch ar h => by
 obtain ⟨hs, hl, he⟩ := mayI_parts hm
 have hcs := contains_same h
 rw [inI, innI]
 by_cases h8 : op = 8
 ·have hz : sl = [] := hs (by omega) (by omega)
  rw [if_pos h8, if_pos h8, hz, stBL, Bool.true_and, inL_all, inL_all, innL_all, innL_all, all_same (fun y hy => ih0 y hy (hl y hy) ch ar h), all_same (fun y hy => ih1 y hy (he y hy) ch ar h)]
 ·rw [if_neg h8, if_neg h8]
  by_cases h9 : op = 9
  ·have hz : sl = [] := hs (by omega) (by omega)
   rw [if_pos h9, if_pos h9, hz, stBL, Bool.true_and]
   have ht := telL_is ll ch [nf]
   obtain ⟨T, hT⟩ : ∃ T, toldA ([], true) ll = T := ⟨_, rfl⟩
   rw [hT] at ht ⊢
   obtain ⟨L, ok⟩ := T
   simp only [tell1]
   simp only at ht
   cases hS : telL ch [nf] ll with
   | none =>
    simp only [Bool.and_false]
    symm
    rw [Bool.and_eq_false_iff]
    by_cases hok : (ok && !L.contains nf) = true
    ·right
     rw [Bool.and_eq_false_iff]
     left
     simp only [Bool.and_eq_true, Bool.not_eq_true'] at hok
     have hne : nf ∉ L := by intro hc; rw [List.contains_iff_mem.2 hc] at hok; cases hok.2
     rw [List.all_eq_false]
     have hex : ∃ n ∈ L, n ∈ ch := by
      by_cases hq : ∃ n ∈ L, n ∈ ch
      ·exact hq
      ·exfalso
       refine ht.2 hS ⟨hok.1, fun n hn => ⟨fun hn2 => ?_, fun hn2 => hq ⟨n, hn, hn2⟩⟩⟩
       rw [List.mem_singleton] at hn2
       subst hn2
       exact hne hn
     obtain ⟨n, hn, hc⟩ := hex
     exact ⟨n, List.mem_append_left _ hn, by rw [List.contains_iff_mem.2 ((h n).1 hc)]; decide⟩
    ·left
     simpa using hok
   | some S =>
    have h1 := ht.1 S hS
    have hne : nf ∉ L := fun hn => (h1.2.1 nf hn).1 (by simp)
    have e1 : (ok && !L.contains nf) = true := by
     rw [h1.1]
     cases hc : L.contains nf
     ·rfl
     ·exact absurd (List.contains_iff_mem.1 hc) hne
    have e2 : (L ++ [nf]).all (fun n => !ar.contains n) = !ar.contains nf := by
     rw [List.all_append]
     have : L.all (fun n => !ar.contains n) = true := by
      rw [List.all_eq_true]
      intro n hn
      have := (h1.2.1 n hn).2
      cases hc : ar.contains n
      ·rfl
      ·exact absurd ((h n).2 (List.contains_iff_mem.1 hc)) this
     rw [this]; simp
    simp only
    rw [e1, e2, Bool.true_and, hcs nf, inL_all, innL_all, all_same (fun y hy => ih0 y hy (hl y hy) (S ++ ch) (ar ++ (L ++ [nf])) (fun n => by
     rw [List.mem_append, List.mem_append, List.mem_append, h1.2.2 n, h n]
     constructor
     ·rintro ((a | a) | a)
      ·exact .inr (.inr a)
      ·exact .inr (.inl a)
      ·exact .inl a
     ·rintro (a | a | a)
      ·exact .inr a
      ·exact .inl (.inr a)
      ·exact .inl (.inl a)))]
  ·rw [if_neg h9, if_neg h9, Bool.and_true]
   by_cases h56 : op = 5 ∨ op = 6
   ·rw [if_pos h56]
    exact stBL_same sl ch ar h
   ·rw [if_neg h56, hs (fun e => h56 (.inl e)) (fun e => h56 (.inr e)), stBL]
theorem inL_ref (l : List IT) (hm : ∀ y ∈ l, mayI y = true) (ch ar : List Bytes) (h : ∀ n, n ∈ ch ↔ n ∈ ar) : inL ch l = innL ar l := by
 rw [inL_all, innL_all]; exact all_same (fun y hy => inI_ref y (hm y hy) ch ar h)
/-! ### Modules -/
/-- Names told one behind the other into a scope that stands alone. -/
def telN (S : List Bytes) : List Bytes → Option (List Bytes)
 | [] => some S
 | n :: r => if S.contains n = true then none else telN (S ++ [n]) r
def headM (m : MT) : List Bytes := m.pl.map (·.nm) ++ m.tl.map (·.nm)
/-- Are a module's scopes right? Told one by one. -/
def modB (m : MT) : Bool := match telN [] (headM m) with | none => false | some S => match telL [] S m.il with | none => false | some T => inL T m.il
/-- The document's: items, ports, parameters. -/
def toldM (m : MT) : List Bytes × Bool := (m.pl.map (·.nm)).foldl tell1 ((m.tl.map (·.nm)).foldl tell1 (toldA ([], true) m.il))
def rightM (m : MT) : Bool := (toldM m).2 && innL (toldM m).1 m.il
theorem telN_is : ∀ (ns S : List Bytes), (∀ T, telN S ns = some T → (ns.Nodup ∧ ∀ n ∈ ns, n ∉ S) ∧ T = S ++ ns) ∧ (telN S ns = none → ¬ (ns.Nodup ∧ ∀ n ∈ ns, n ∉ S))
 | [], S => by
  refine ⟨fun T h => ?_, fun h => by cases h⟩
  cases h
  simp
 | n :: r, S => by
  rw [telN]
  have hr := telN_is r (S ++ [n])
  by_cases hc : S.contains n = true
  ·rw [if_pos hc]
   refine ⟨fun T h => (by cases h), fun _ hh => hh.2 n (by simp) (List.contains_iff_mem.1 hc)⟩
  ·rw [if_neg hc]
   have hn : n ∉ S := fun h => hc (List.contains_iff_mem.2 h)
   refine ⟨fun T h => ?_, fun h hh => hr.2 h ⟨(List.nodup_cons.1 hh.1).2, fun m hm hm2 => ?_⟩⟩
   ·have h1 := hr.1 T h
    refine ⟨⟨List.nodup_cons.2 ⟨fun hm => h1.1.2 n hm (by simp), h1.1.1⟩, ?_⟩, by rw [h1.2]; simp⟩
    intro m hm hs
    rcases List.mem_cons.1 hm with e | e
    ·subst e; exact hn hs
    ·exact h1.1.2 m e (List.mem_append_left _ hs)
   ·rcases List.mem_append.1 hm2 with e | e
    ·exact hh.2 m (List.mem_cons_of_mem _ hm) e
    ·have e2 : m = n := by simpa using e
     subst e2
     exact (List.nodup_cons.1 hh.1).1 hm
theorem modB_ref (m : MT) (hm : ∀ y ∈ m.il, mayI y = true) : modB m = rightM m := by
 obtain ⟨P, hP⟩ : ∃ P, m.pl.map (·.nm) = P := ⟨_, rfl⟩
 obtain ⟨Q, hQ⟩ : ∃ Q, m.tl.map (·.nm) = Q := ⟨_, rfl⟩
 obtain ⟨T0, hT0⟩ : ∃ T, toldA ([], true) m.il = T := ⟨_, rfl⟩
 have f1 := tell1_fold Q T0
 have f2 := tell1_fold P (Q.foldl tell1 T0)
 have e0 : (Q.foldl tell1 T0).1 = T0.1 ++ Q := by rw [f1.1]
 have e1 : (toldM m).1 = T0.1 ++ Q ++ P := by unfold toldM; rw [hP, hQ, hT0, f2.1, e0]
 have e2 : (toldM m).2 = true ↔ ((T0.2 = true ∧ Q.Nodup ∧ ∀ n ∈ Q, n ∉ T0.1) ∧ P.Nodup ∧ ∀ n ∈ P, n ∉ T0.1 ++ Q) := by
  unfold toldM; rw [hP, hQ, hT0, f2.2, e0, f1.2]
 have hh : headM m = P ++ Q := by unfold headM; rw [hP, hQ]
 have ht := telN_is (P ++ Q) []
 unfold modB rightM
 rw [hh]
 cases hS : telN [] (P ++ Q) with
 | none =>
  simp only
  symm
  rw [Bool.and_eq_false_iff]
  left
  cases hc : (toldM m).2 with
  | false => rfl
  | true =>
   exfalso
   have h3 := e2.1 hc
   refine ht.2 hS ⟨List.nodup_append.2 ⟨h3.2.1, h3.1.2.1, fun a ha b hb e => ?_⟩, fun n _ h => by cases h⟩
   subst e
   exact h3.2.2 a ha (List.mem_append_right _ hb)
 | some S =>
  have h1 := ht.1 S hS
  have hi := telL_is m.il [] S
  rw [hT0] at hi
  have hSe : S = P ++ Q := by rw [h1.2]; rfl
  have hnd := List.nodup_append.1 h1.1.1
  simp only
  cases hT : telL [] S m.il with
  | none =>
   simp only
   symm
   rw [Bool.and_eq_false_iff]
   left
   cases hc : (toldM m).2 with
   | false => rfl
   | true =>
    exfalso
    have h3 := e2.1 hc
    refine hi.2 hT ⟨h3.1.1, fun n hn => ⟨fun h => ?_, by simp⟩⟩
    rw [hSe] at h
    rcases List.mem_append.1 h with h | h
    ·exact h3.2.2 n h (List.mem_append_left _ hn)
    ·exact h3.1.2.2 n h hn
  | some T =>
   have h2 := hi.1 T hT
   have hc : (toldM m).2 = true := by
    refine e2.2 ⟨⟨h2.1, hnd.2.1, fun n hn h => ?_⟩, hnd.1, fun n hn h => ?_⟩
    ·exact (h2.2.1 n h).1 (by rw [hSe]; exact List.mem_append_right _ hn)
    ·rcases List.mem_append.1 h with h | h
     ·exact (h2.2.1 n h).1 (by rw [hSe]; exact List.mem_append_left _ hn)
     ·exact hnd.2.2 n hn n h rfl
   simp only
   rw [hc, Bool.true_and, e1]
   refine inL_ref m.il hm T _ (fun n => ?_)
   rw [h2.2.2 n, hSe]
   simp only [List.mem_append]
   constructor
   ·rintro ((a | a) | a)
    ·exact .inr a
    ·exact .inl (.inr a)
    ·exact .inl (.inl a)
   ·rintro ((a | a) | a)
    ·exact .inr a
    ·exact .inl (.inr a)
    ·exact .inl (.inl a)
/-! ### A file -/
/-- Is a name told twice? Told one by one: modules' names, and each module's scopes. -/
def twiceB (seen : List Bytes) : List MT → Bool
 | [] => false
 | m :: r => seen.contains m.nm || (!modB m || twiceB (seen ++ [m.nm]) r)
/-- The document's. -/
def twiceR (all : List Bytes) : Nat → List MT → Bool
 | _, [] => false
 | i, m :: r => ((all.take i).contains m.nm || !rightM m) || twiceR all (i + 1) r
theorem twice_ref : ∀ (l pre : List MT), (∀ m ∈ l, ∀ y ∈ m.il, mayI y = true) → twiceB (pre.map (·.nm)) l = twiceR ((pre ++ l).map (·.nm)) pre.length l
 | [], pre, _ => rfl
 | m :: r, pre, h => by
  have ih := twice_ref r (pre ++ [m]) (fun x hx => h x (by simp [hx]))
  rw [twiceB, twiceR, modB_ref m (h m (by simp))]
  have e1 : ((pre ++ m :: r).map (·.nm)).take pre.length = pre.map (·.nm) := by
   rw [List.map_append, List.take_left' (by simp)]
  rw [e1]
  rw [List.map_append, List.map_singleton] at ih
  rw [ih, List.length_append, List.append_assoc, List.singleton_append, Bool.or_assoc]
  rfl
end Go.Proofs.YtiipjbafdhijlaaGreatDoor
namespace Go.Proofs.YtiipjbafdhijlaaGreatDoor
open Go Go.RowKit
set_option linter.unusedVariables false
set_option linter.unusedSimpArgs false
open Go.Sort
mutual
/-- The modules that an item has instances of, as they are come to. -/
def instI : IT → List Bytes
 | .mk op _ nf _ _ _ _ _ _ _ _ ll _ _ el _ _ _ _ _ _ => (if op = 7 then [nf] else []) ++ (instL ll ++ instL el)
def instL : List IT → List Bytes
 | [] => []
 | x :: r => instI x ++ instL r
end
def usesM (m : MT) : List Bytes := addN [] (instL m.il)
mutual
/-- The document's: behind what is there. -/
def usesI (out : List Bytes) : IT → List Bytes
 | .mk op _ nf _ _ _ _ _ _ _ _ ll _ _ el _ _ _ _ _ _ => usesL (usesL (if op = 7 then addN out [nf] else out) ll) el
def usesL (out : List Bytes) : List IT → List Bytes
 | [] => out
 | x :: r => usesL (usesI out x) r
end
theorem usesL_of : ∀ (l : List IT) (out : List Bytes), (∀ x ∈ l, ∀ o, usesI o x = addN o (instI x)) → usesL out l = addN out (instL l)
 | [], out, _ => rfl
 | x :: r, out, h => by
  rw [usesL, instL, addN_app, h x (by simp) out]
  exact usesL_of r _ (fun y hy => h y (by simp [hy]))
theorem usesI_is : ∀ (x : IT) (out : List Bytes), usesI out x = addN out (instI x) := IT.ind fun op nm nf xa xc xl sa sc sl la lc ll ea ec el pa pc pl ba bc bl ih0 ih1 out => by
 rw [usesI, instI, usesL_of el _ (fun x hx o => ih1 x hx o), usesL_of ll _ (fun x hx o => ih0 x hx o), addN_app, addN_app]
 by_cases h : op = 7
 ·rw [if_pos h, if_pos h]
 ·rw [if_neg h, if_neg h]; rfl
theorem usesL_is (l : List IT) (out : List Bytes) : usesL out l = addN out (instL l) := usesL_of l out (fun x _ o => usesI_is x o)
/-! ### The order -/
/-- May a module come next? -/
def canN (out : List Bytes) (m : MT) : Bool := !out.contains m.nm && (usesM m).all fun u => out.contains u
def nextN (ms : List MT) (out : List Bytes) : Option Bytes := (ms.find? (canN out)).map (·.nm)
/-- In so many rounds. -/
def ordN (ms : List MT) : Nat → List Bytes → Option (List Bytes)
 | 0, out => some out
 | k + 1, out => match nextN ms out with
  | none => none
  | some n => ordN ms k (out ++ [n])
/-- As far as it goes. -/
def ordR (ms : List MT) : Nat → List Bytes → List Bytes
 | 0, out => out
 | k + 1, out => match nextN ms out with
  | none => out
  | some n => ordR ms k (out ++ [n])
/-- Some of a file's names, each once, each behind all that it is made of. -/
structure OrdOk (ms : List MT) (out : List Bytes) : Prop where
 sub : ∀ n ∈ out, ∃ m ∈ ms, m.nm = n
 nodup : out.Nodup
 behind : ∀ (i : Nat) (h : i < out.length), ∃ m ∈ ms, m.nm = out[i] ∧ ∀ u ∈ usesM m, u ∈ out.take i
theorem nextN_some {ms : List MT} {out : List Bytes} {n : Bytes} (h : nextN ms out = some n) : ∃ m ∈ ms, m.nm = n ∧ n ∉ out ∧ ∀ u ∈ usesM m, u ∈ out := by
 unfold nextN at h
 obtain ⟨m, hm, rfl⟩ := Option.map_eq_some_iff.1 h
 have h1 := List.find?_some hm
 have h2 := List.mem_of_find?_eq_some hm
 unfold canN at h1
 rw [Bool.and_eq_true, List.all_eq_true] at h1
 refine ⟨m, h2, rfl, fun hc => ?_, fun u hu => List.contains_iff_mem.1 (h1.2 u hu)⟩
 rw [List.contains_iff_mem.2 hc] at h1
 cases h1.1
theorem OrdOk.nil (ms : List MT) : OrdOk ms [] := ⟨fun n h => (by cases h), List.nodup_nil, fun i h => (by simp at h)⟩
theorem OrdOk.snoc {ms : List MT} {out : List Bytes} {n : Bytes} (h : OrdOk ms out) (hn : nextN ms out = some n) : OrdOk ms (out ++ [n]) := by
 obtain ⟨m, hm, hmn, hno, hu⟩ := nextN_some hn
 refine ⟨fun x hx => ?_, List.nodup_append.2 ⟨h.nodup, by simp, fun a ha b hb e => ?_⟩, fun i hi => ?_⟩
 ·rcases List.mem_append.1 hx with hx | hx
  ·exact h.sub x hx
  ·have e : x = n := by simpa using hx
   exact ⟨m, hm, hmn.trans e.symm⟩
 ·have e2 : b = n := by simpa using hb
  subst e2; subst e
  exact hno ha
 ·by_cases hi2 : i < out.length
  ·obtain ⟨m2, hm2, h2, h3⟩ := h.behind i hi2
   refine ⟨m2, hm2, by rw [List.getElem_append_left hi2]; exact h2, fun u hu => ?_⟩
   rw [List.take_append_of_le_length (by omega)]
   exact h3 u hu
  ·have hi3 : i = out.length := by rw [List.length_append, List.length_singleton] at hi; omega
   subst hi3
   refine ⟨m, hm, by simp [hmn], fun u hu2 => ?_⟩
   rw [List.take_left]
   exact hu u hu2
theorem nodup_sub_len : ∀ (l m : List Bytes), l.Nodup → (∀ n ∈ l, n ∈ m) → l.length ≤ m.length
 | [], m, _, _ => Nat.zero_le _
 | n :: r, m, h, hs => by
  have hn := hs n (by simp)
  have hr := nodup_sub_len r (m.erase n) (List.nodup_cons.1 h).2 (fun x hx => by
   have hne : x ≠ n := fun e => by subst e; exact (List.nodup_cons.1 h).1 hx
   exact (List.mem_erase_of_ne hne).2 (hs x (by simp [hx])))
  have h1 := List.length_erase_of_mem hn
  have h2 := List.length_pos_of_mem hn
  rw [List.length_cons]; omega
theorem OrdOk.len {ms : List MT} {out : List Bytes} (h : OrdOk ms out) : out.length ≤ ms.length := by
 have hs : ∀ n ∈ out, n ∈ ms.map (·.nm) := fun n hn => by
  obtain ⟨m, hm, e⟩ := h.sub n hn
  exact List.mem_map.2 ⟨m, hm, e⟩
 have := nodup_sub_len out _ h.nodup hs
 simpa using this
theorem ordN_ok (ms : List MT) : ∀ (k : Nat) (out l : List Bytes), OrdOk ms out → ordN ms k out = some l → OrdOk ms l ∧ l.length = out.length + k
 | 0, out, l, h, e => by cases e; exact ⟨h, rfl⟩
 | k + 1, out, l, h, e => by
  rw [ordN] at e
  cases hn : nextN ms out with
  | none => rw [hn] at e; cases e
  | some n =>
   rw [hn] at e
   have := ordN_ok ms k _ l (h.snoc hn) e
   refine ⟨this.1, ?_⟩
   rw [this.2, List.length_append, List.length_singleton]; omega
/-- As far as it goes in so many rounds or more, or it stops for want of a next one. -/
theorem ordR_is (ms : List MT) : ∀ (k : Nat) (out : List Bytes), (∀ l, ordN ms k out = some l → ordR ms k out = l) ∧ (ordN ms k out = none → (ordR ms k out).length < out.length + k)
 | 0, out => ⟨fun l e => by cases e; rfl, fun e => by cases e⟩
 | k + 1, out => by
  rw [ordN, ordR]
  cases hn : nextN ms out with
  | none => exact ⟨fun l e => (by cases e), fun _ => by simp⟩
  | some n =>
   have h := ordR_is ms k (out ++ [n])
   refine ⟨h.1, fun e => ?_⟩
   have := h.2 e
   rw [List.length_append, List.length_singleton] at this
   simp only; omega
/-- Do all names of a list stand among others? -/
def hasAllB (ms : List MT) : Bool := ms.all fun m => (usesM m).all fun u => (ms.map (·.nm)).contains u
/-- Check's answer behind layer 3's. -/
def checkN (ms : List MT) : Int := if twiceB [] ms = true then 70 else if hasAllB ms = false then 71 else if (ordN ms ms.length []).isNone = true then 72 else 0
end Go.Proofs.YtiipjbafdhijlaaGreatDoor
namespace Go.Proofs.YtiipjbafdhijlaaGreatDoor
open Go Go.RowKit
set_option linter.unusedVariables false
set_option linter.unusedSimpArgs false
open Go.Sort
/-- What a module of a name uses: the first one's. -/
def usN (ms : List MT) (n : Bytes) : List Bytes := match ms.find? (fun m => m.nm == n) with | none => [] | some m => usesM m
/-- Going from the last one back: what is wanted. -/
def wantR (us : Bytes → List Bytes) (W : List Bytes) : List Bytes → List Bytes
 | [] => W
 | n :: r => wantR us (if W.contains n = true then W ++ us n else W) r
/-- The program's: all that are wanted in the end. -/
def belowP (us : Bytes → List Bytes) (l : List Bytes) (top : Bytes) : List Bytes := l.filter fun n => (wantR us [top] l.reverse).contains n
/-- The document's: each that is wanted when it is come to. -/
def belowR (us : Bytes → List Bytes) : List Bytes → List Bytes → List Bytes → List Bytes
 | _, out, [] => out
 | W, out, n :: r => if W.contains n = true then belowR us (addN W (us n)) (n :: out) r else belowR us W out r
theorem wantR_keeps (us : Bytes → List Bytes) : ∀ (r W : List Bytes) (x : Bytes), x ∈ W → x ∈ wantR us W r
 | [], W, x, h => h
 | n :: r, W, x, h => by
  rw [wantR]
  refine wantR_keeps us r _ x ?_
  split
  ·exact List.mem_append_left _ h
  ·exact h
/-- What no one behind uses is not wanted later on. -/
theorem wantR_later (us : Bytes → List Bytes) : ∀ (r W : List Bytes) (x : Bytes), x ∈ wantR us W r → x ∈ W ∨ ∃ n ∈ r, x ∈ us n
 | [], W, x, h => .inl h
 | n :: r, W, x, h => by
  rw [wantR] at h
  rcases wantR_later us r _ x h with h1 | ⟨m, hm, h1⟩
  ·split at h1
   ·rcases List.mem_append.1 h1 with h2 | h2
    ·exact .inl h2
    ·exact .inr ⟨n, by simp, h2⟩
   ·exact .inl h1
  ·exact .inr ⟨m, by simp [hm], h1⟩
theorem wantR_same (us : Bytes → List Bytes) : ∀ (r W V : List Bytes), (∀ x, x ∈ W ↔ x ∈ V) → ∀ x, x ∈ wantR us W r ↔ x ∈ wantR us V r
 | [], W, V, h, x => h x
 | n :: r, W, V, h, x => by
  rw [wantR, wantR, contains_same h n]
  refine wantR_same us r _ _ (fun y => ?_) x
  split
  ·rw [List.mem_append, List.mem_append, h y]
  ·exact h y
/-- From the last one back: none uses one that stands behind it. -/
def BackOk (us : Bytes → List Bytes) : List Bytes → Prop
 | [] => True
 | n :: r => (n ∉ us n ∧ ∀ m ∈ r, n ∉ us m) ∧ BackOk us r
theorem belowR_is (us : Bytes → List Bytes) : ∀ (r W out : List Bytes), BackOk us r → belowR us W out r = (r.filter fun n => (wantR us W r).contains n).reverse ++ out
 | [], W, out, _ => rfl
 | n :: r, W, out, h => by
  obtain ⟨⟨h0, h1⟩, h2⟩ := h
  have hs : ∀ x, x ∈ wantR us (addN W (us n)) r ↔ x ∈ wantR us (W ++ us n) r := wantR_same us r _ _ (fun y => by rw [addN_in, List.mem_append])
  rw [belowR, List.filter_cons, wantR]
  by_cases hc : W.contains n = true
  ·rw [if_pos hc, if_pos hc, belowR_is us r _ _ h2]
   have hn : (wantR us (W ++ us n) r).contains n = true := List.contains_iff_mem.2 (wantR_keeps us r _ n (List.mem_append_left _ (List.contains_iff_mem.1 hc)))
   rw [if_pos hn, List.reverse_cons, List.append_assoc]
   congr 1
   congr 1
   refine List.filter_congr (fun x _ => ?_)
   exact contains_same hs x
  ·rw [if_neg hc, if_neg hc, belowR_is us r _ _ h2]
   have hn : (wantR us W r).contains n = false := by
    cases hq : (wantR us W r).contains n
    ·rfl
    ·exfalso
     rcases wantR_later us r W n (List.contains_iff_mem.1 hq) with h3 | ⟨m, hm, h3⟩
     ·exact hc (List.contains_iff_mem.2 h3)
     ·exact h1 m hm h3
   rw [if_neg (by rw [hn]; decide)]
/-- The document's is the program's. -/
theorem below_ref (us : Bytes → List Bytes) (l : List Bytes) (top : Bytes) (h : BackOk us l.reverse) : belowR us [top] [] l.reverse = belowP us l top := by
 rw [belowR_is us _ _ _ h, List.append_nil, belowP, List.filter_reverse, List.reverse_reverse]
theorem find_nm {ms : List MT} (hd : (ms.map (·.nm)).Nodup) {m : MT} (hm : m ∈ ms) : ms.find? (fun x => x.nm == m.nm) = some m := by
 induction ms with
 | nil => cases hm
 | cons y r ih =>
  rw [List.map_cons, List.nodup_cons] at hd
  rw [List.find?_cons]
  by_cases e : y.nm = m.nm
  ·have : (y.nm == m.nm) = true := by simpa using e
   rw [this]
   rcases List.mem_cons.1 hm with h | h
   ·rw [h]
   ·exact absurd (List.mem_map.2 ⟨m, h, e.symm⟩) hd.1
  ·have : (y.nm == m.nm) = false := by rw [beq_eq_false_iff_ne]; exact e
   rw [this]
   rcases List.mem_cons.1 hm with h | h
   ·rw [h] at e; exact absurd rfl e
   ·exact ih hd.2 h
theorem usN_of {ms : List MT} (hd : (ms.map (·.nm)).Nodup) {m : MT} (hm : m ∈ ms) : usN ms m.nm = usesM m := by
 unfold usN; rw [find_nm hd hm]
/-- An order is one to go back over. -/
theorem back_of {ms : List MT} (hd : (ms.map (·.nm)).Nodup) : ∀ {l : List Bytes}, OrdOk ms l → BackOk (usN ms) l.reverse := by
 have key : ∀ (k : Nat) (l : List Bytes), OrdOk ms l → k ≤ l.length → BackOk (usN ms) (l.take k).reverse := by
  intro k
  induction k with
  | zero => intro l _ _; trivial
  | succ k ih =>
   intro l h hk
   have hlt : k < l.length := by omega
   rw [List.take_succ_eq_append_getElem hlt, List.reverse_append, List.reverse_singleton, List.singleton_append]
   have hnd : l[k] ∉ l.take k := by
    have h1 := h.nodup
    rw [← List.take_append_drop (k + 1) l, List.take_succ_eq_append_getElem hlt] at h1
    have h2 := (List.nodup_append.1 (List.nodup_append.1 h1).1).2.2
    exact fun hm => h2 _ hm _ (by simp) rfl
   refine ⟨⟨?_, fun m hm => ?_⟩, ih l h (by omega)⟩
   ·obtain ⟨x, hx, hn, hu⟩ := h.behind k hlt
    rw [← hn, usN_of hd hx]
    intro hc
    have := hu _ hc
    rw [hn] at this
    exact hnd this
   ·rw [List.mem_reverse] at hm
    obtain ⟨i, hi, rfl⟩ := List.mem_iff_getElem.1 hm
    rw [List.length_take] at hi
    rw [List.getElem_take]
    obtain ⟨x, hx, hn, hu⟩ := h.behind i (by omega)
    rw [← hn, usN_of hd hx]
    intro hc
    have h3 := hu _ hc
    have h4 : l[k] ∈ l.take k := by
     have e : l.take i = (l.take k).take i := by rw [List.take_take, Nat.min_eq_left (by omega)]
     rw [e] at h3
     exact List.mem_of_mem_take h3
    exact hnd h4
 intro l h
 have := key l.length l h (Nat.le_refl _)
 rwa [List.take_length] at this
end Go.Proofs.YtiipjbafdhijlaaGreatDoor
namespace Go.Proofs.YtiipjbafdhijlaaGreatDoor
open Go Go.RowKit
set_option linter.unusedVariables false
set_option linter.unusedSimpArgs false
open Go.Sort
end Go.Proofs.YtiipjbafdhijlaaGreatDoor
namespace Go.Proofs.YtiipjbafdhijlaaGreatDoor
open Go Go.RowKit
set_option linter.unusedVariables false
set_option linter.unusedSimpArgs false
open Go.Sort
end Go.Proofs.YtiipjbafdhijlaaGreatDoor
namespace Go.Proofs.YtiipjbafdhijlaaGreatDoor
open Go Go.RowKit
set_option linter.unusedVariables false
set_option linter.unusedSimpArgs false
open Go.Sort
end Go.Proofs.YtiipjbafdhijlaaGreatDoor
namespace Go.Proofs.YtiipjbafdhijlaaGreatDoor
open Go Go.RowKit
set_option linter.unusedVariables false
set_option linter.unusedSimpArgs false
open Go.Sort
end Go.Proofs.YtiipjbafdhijlaaGreatDoor
