/-
  NgA, in one text.
-/
import Derived.Test.YtiipjbafdhijlaaGreatDoorZlP
import Derived.Test.YtiipjbafdhijlaaGreatDoorZR1
namespace Go.Proofs.YtiipjbafdhijlaaGreatDoor
open Go Go.RowKit
set_option linter.unusedVariables false
set_option linter.unusedSimpArgs false
open Go.Sort
theorem allL_app8 (l : List IT) (x : IT) : allL (l ++ [x]) = allL l ++ allI x := by
 induction l with
 | nil => rw [List.nil_append, allL, allL, allL]; simp
 | cons y r ih => rw [List.cons_append, allL, allL, ih, List.append_assoc]
theorem toldM_all8 (m : MT) : ∀ k ∈ (toldM m).1, k ∈ allM m := fun k hk => by
 unfold toldM at hk
 rw [(tell1_fold _ _).1, (tell1_fold _ _).1] at hk
 unfold allM headM
 simp only [List.mem_append] at hk ⊢
 rcases hk with (h | h) | h
 ·exact .inl (toldA_all m.il k h)
 ·exact .inr (.inr h)
 ·exact .inr (.inl h)
/-- A loop of fresh names may be told. -/
theorem right_loop8 (m : MT) (x : IT) (n nf : Bytes) (ht : toldI x = ([n], true)) (hi : ∀ ar, nf ∉ ar → innI ar x = true) (hn : n ∉ allM m) (hnf : nf ∉ allM m) (hne : nf ≠ n) : rightM (withI m x) = rightM m := by
 have h1 := right_fresh m (wireT n 0) n ⟨by unfold wireT; rw [toldI, if_neg (by decide), if_pos (by decide)], fun ar => by unfold wireT; rw [innI]; simp [innL, stBL]⟩ hn
 rw [← h1]
 have hw : toldI (wireT n 0) = ([n], true) := by unfold wireT; rw [toldI, if_neg (by decide), if_pos (by decide)]
 have ht2 : toldM (withI m x) = toldM (withI m (wireT n 0)) := by
  unfold toldM
  show (m.pl.map (·.nm)).foldl tell1 ((m.tl.map (·.nm)).foldl tell1 (toldA ([], true) (m.il ++ [x]))) = (m.pl.map (·.nm)).foldl tell1 ((m.tl.map (·.nm)).foldl tell1 (toldA ([], true) (m.il ++ [wireT n 0])))
  rw [toldA_app, toldA_app, ht, hw]
 have har : nf ∉ (toldM (withI m (wireT n 0))).1 := fun h => by
  have h2 := toldM_all8 _ _ h
  unfold allM at h2
  rw [show (withI m (wireT n 0)).il = m.il ++ [wireT n 0] from rfl, allL_app8, show headM (withI m (wireT n 0)) = headM m from rfl] at h2
  have h3 : allI (wireT n 0) = [n] := by unfold wireT; rw [allI]; simp [allL, labSL]
  rw [h3] at h2
  simp only [List.mem_append, List.mem_singleton] at h2
  rcases h2 with (h | h) | h
  ·exact hnf (List.mem_append_left _ h)
  ·exact hne h
  ·exact hnf (List.mem_append_right _ h)
 unfold rightM
 rw [ht2]
 congr 1
 show innL _ (m.il ++ [x]) = innL _ (m.il ++ [wireT n 0])
 rw [innL_all, innL_all, List.all_append, List.all_append]
 have e1 : [x].all (innI (toldM (withI m (wireT n 0))).1) = true := by simp [hi _ har]
 have e2 : [wireT n 0].all (innI (toldM (withI m (wireT n 0))).1) = true := by unfold wireT; simp [innI, innL, stBL]
 rw [e1, e2]
theorem find_set8 {p : MT → Bool} {m' : MT} : ∀ (l : List MT) (k : Nat) (h : k < l.length), p m' = p l[k] → m'.nm = l[k].nm → ((l.set k m').find? p).map (·.nm) = (l.find? p).map (·.nm)
 | [], k, h, _, _ => by simp at h
 | x :: r, 0, h, e, en => by
  simp at e en
  rw [List.set_cons_zero, List.find?_cons, List.find?_cons, e]
  cases p x
  ·rfl
  ·simp [en]
 | x :: r, k + 1, h, e, en => by
  rw [List.set_cons_succ, List.find?_cons, List.find?_cons]
  cases p x
  ·exact find_set8 r k (by simpa using h) (by simpa using e) (by simpa using en)
  ·rfl
theorem ordN_set8 {m' : MT} (l : List MT) (k : Nat) (h : k < l.length) (en : m'.nm = l[k].nm) (eu : usesM m' = usesM l[k]) : ∀ (j : Nat) (out : List Bytes), ordN (l.set k m') j out = ordN l j out
 | 0, out => rfl
 | j + 1, out => by
  have e : nextN (l.set k m') out = nextN l out := by
   unfold nextN
   exact find_set8 l k h (by unfold canN; rw [en, eu]) en
  rw [ordN, ordN, e]
  cases nextN l out with
  | none => rfl
  | some n => exact ordN_set8 l k h en eu j _
theorem put_okF8 {f : FT} (h0 : checkP f = 0) (hsz : f.sz ≤ 2000) {k : Nat} (hk : k < f.ml.length) {x : IT} (hx : mayI x = true) (hxs : x.sz ≤ 3) (hxd : x.dp ≤ 2) {a ia : Option Addr} {c ic : Nat} {M : List MT} (hM : M = f.ml.set k (addI f.ml[k] [x] ia ic)) : checkF ⟨a, c, M⟩ = 0 := by
 subst hM
 obtain ⟨hF, -, -, -⟩ := checkP_zero7 h0
 obtain ⟨f1, f2, f3, f4⟩ := checkF_zero7 hF
 have hm := f4 _ (List.getElem_mem hk)
 have hil : ∀ y ∈ f.ml[k].il, mayI y = true := by
  unfold mayM at hm; simp only [Bool.and_eq_true] at hm; exact List.all_eq_true.1 hm.2.2.2
 have hil2 : ∀ y ∈ f.ml[k].il ++ [x], mayI y = true := fun y hy => by
  rcases List.mem_append.1 hy with h | h
  ·exact hil y h
  ·rw [List.mem_singleton.1 h]; exact hx
 have hd0 := dpL_mem7 (List.getElem_mem hk)
 have hd1 : MT.dpL f.ml ≤ 64 := f3
 have hs1 : MT.szL f.ml ≤ 2000 := hsz
 have hsz2 : (addI f.ml[k] [x] ia ic).sz ≤ f.ml[k].sz + 3 := by
  have h8 := addI_sz7 f.ml[k] x ia ic
  omega
 have hdp2 : (addI f.ml[k] [x] ia ic).dp ≤ 64 := by
  have h9 : f.ml[k].dp ≤ 64 := by omega
  have h8 := addI_dp7 f.ml[k] (x := x) hxd ia ic
  omega
 have hmay2 : mayM (addI f.ml[k] [x] ia ic) = true := by
  unfold mayM at hm ⊢
  simp only [Bool.and_eq_true] at hm ⊢
  exact ⟨hm.1, hm.2.1, hm.2.2.1, List.all_eq_true.2 hil2⟩
 have e1 := szL_set7 3 f.ml k hk hsz2
 have e2 := dpL_set7 hdp2 f.ml k hd1
 unfold checkF
 rw [if_neg (by simp; omega), if_neg (by
  simp only [Bool.or_eq_true, decide_eq_true_eq, not_or]
  exact ⟨by show ¬ 65536 < MT.szL (f.ml.set k (addI f.ml[k] [x] ia ic)); omega, by show ¬ 64 < MT.dpL (f.ml.set k (addI f.ml[k] [x] ia ic)); omega⟩), if_pos]
 refine List.all_eq_true.2 fun m hm2 => ?_
 rcases List.mem_or_eq_of_mem_set hm2 with h | rfl
 ·exact f4 m h
 ·exact hmay2
/-- An item that is no instance: the file is right, or a name is told twice. -/
theorem put_either8 {f : FT} (h0 : checkP f = 0) (hsz : f.sz ≤ 2000) {k : Nat} (hk : k < f.ml.length) {x : IT} (hx : mayI x = true) (hxs : x.sz ≤ 3) (hxd : x.dp ≤ 2) (hxi : instI x = []) {a ia : Option Addr} {c ic : Nat} {M : List MT} (hM : M = f.ml.set k (addI f.ml[k] [x] ia ic)) :
  (checkP ⟨a, c, M⟩ = 0 ∨ checkP ⟨a, c, M⟩ = 70) ∧ (twiceB [] M = false → checkP ⟨a, c, M⟩ = 0) := by
 have hF := put_okF8 (a := a) (c := c) h0 hsz hk hx hxs hxd hM
 obtain ⟨-, hT, hA, out, ho⟩ := checkP_zero7 h0
 have hnm : M.map (·.nm) = f.ml.map (·.nm) := by rw [hM]; exact names_set7 f.ml k hk rfl
 have hus : usesM (addI f.ml[k] [x] ia ic) = usesM f.ml[k] := by
  show addN [] (instL (f.ml[k].il ++ [x])) = addN [] (instL f.ml[k].il)
  rw [instL_app, hxi, List.append_nil]
 have hA2 : hasAllB M = true := by
  unfold hasAllB at hA ⊢
  rw [hnm]
  refine List.all_eq_true.2 fun m hm => ?_
  have hA := List.all_eq_true.1 hA
  rw [hM] at hm
  rcases List.mem_or_eq_of_mem_set hm with h | rfl
  ·exact hA m h
  ·rw [hus]; exact hA _ (List.getElem_mem hk)
 have hO : ordN M M.length [] = some out := by
  rw [hM, List.length_set, ordN_set8 (m' := addI f.ml[k] [x] ia ic) f.ml k hk rfl hus]; exact ho
 have hP : checkP ⟨a, c, M⟩ = checkN M := by
  unfold checkP
  rw [if_neg (by rw [hF]; simp)]
 have hN : checkN M = if twiceB [] M = true then 70 else 0 := by
  unfold checkN
  rw [hA2, if_neg (by decide : ¬ (true = false)), hO]
  simp
 rw [hP, hN]
 cases twiceB [] M
 ·exact ⟨.inl (by simp), fun _ => by simp⟩
 ·exact ⟨.inr (by simp), fun h => by cases h⟩
theorem wire_may8 {a : Bytes} (ha : isNameB a = true) (z : Nat) : mayI (wireT a z) = true := by
 unfold wireT
 rw [mayI]
 have hk : ki (2 : Int).toNat = ki 2 := rfl
 rw [hk]
 have hn : mayX numT = true := by unfold numT; rw [mayX]; decide
 simp only [ki, nameB, ha]
 simp [mayIL, headB, countB, amongB, hn]
theorem wire_one8 (a : Bytes) (z : Nat) : OneI (wireT a z) a := ⟨by unfold wireT; rw [toldI, if_neg (by decide), if_pos (by decide)], fun ar => by unfold wireT; rw [innI]; simp [innL, stBL]⟩
/-- A loop without items. -/
def loopT8 (a b : Bytes) (z : Nat) (la : Option Addr) (lc : Nat) : IT := .mk 9 a b (some ⟨z, 0, none⟩) 2 [numT, numT] none 0 [] la lc [] none 0 [] none 0 [] none 0 []
theorem loop_may8 {a b : Bytes} (ha : isNameB a = true) (hb : isNameB b = true) (z : Nat) (la : Option Addr) (lc : Nat) : mayI (loopT8 a b z la lc) = true := by
 unfold loopT8
 rw [mayI]
 have hk : ki (9 : Int).toNat = ki 9 := rfl
 rw [hk]
 have hn : mayX numT = true := by unfold numT; rw [mayX]; decide
 simp only [ki, nameB, ha, hb]
 simp [mayIL, headB, countB, amongB, hn]
theorem name_more8 {s : Bytes} (h : isNameB s = true) (hl : s.length < 64) : isNameB (s ++ [95]) = true := by
 cases s with
 | nil => exact absurd h (by decide)
 | cons c t =>
  unfold isNameB at h ⊢
  simp only [Bool.and_eq_true, decide_eq_true_eq, Bool.not_eq_true'] at h
  simp only [List.cons_append, Bool.and_eq_true, decide_eq_true_eq, Bool.not_eq_true']
  obtain ⟨h1, h2, h3, h4⟩ := h
  refine ⟨h1, by simp only [List.length_cons, List.length_append, List.length_nil] at hl ⊢; omega, ?_, ?_⟩
  ·rw [← List.cons_append, List.all_append, h3]; decide
  ·have hw : ∀ w ∈ wordList, w.getLast? ≠ some 95 := by decide
   cases e : isWord (c :: (t ++ [95]))
   ·rfl
   ·exact absurd (by rw [← List.cons_append, List.getLast?_append]; rfl) (hw _ (List.contains_iff_mem.1 e))
theorem more_ne8 (s : Bytes) : s ++ [95] ≠ s := fun h => by have := congrArg List.length h; simp at this
/-- A wire of a name: the file is right, or the name is told twice; right, if the name stands nowhere. -/
theorem wire_put8 {f : FT} {name : Bytes} (h0 : checkP f = 0) (hsz : f.sz ≤ 2000) {k : Nat} (hk : k < f.ml.length) (hname : isNameB name = true) (z : Nat) {a ia : Option Addr} {c ic : Nat} :
  (checkP ⟨a, c, f.ml.set k (addI f.ml[k] [wireT name z] ia ic)⟩ = 0 ∨ checkP ⟨a, c, f.ml.set k (addI f.ml[k] [wireT name z] ia ic)⟩ = 70) ∧ ((allR f.ml[k]).contains name = false → checkP ⟨a, c, f.ml.set k (addI f.ml[k] [wireT name z] ia ic)⟩ = 0) := by
 have hs : (wireT name z).sz ≤ 3 := by simp [wireT, numT, IT.sz, XT.sz, XT.szL, ST.szL, IT.szL, BT.szL]
 have hd : (wireT name z).dp ≤ 2 := by simp [wireT, numT, IT.dp, XT.dp, XT.dpL, ST.dpL, IT.dpL, BT.dpL]
 have h1 := put_either8 (a := a) (c := c) h0 hsz hk (wire_may8 hname z) hs hd (by unfold wireT; rw [instI]; simp [instL]) (ia := ia) (ic := ic) rfl
 refine ⟨h1.1, fun hfr => h1.2 ?_⟩
 have hfm : name ∉ allM f.ml[k] := fun h => by rw [(allR_mem _ _).2 h] at hfr; cases hfr
 exact (put_ok7 (a := a) (c := c) h0 hsz hk (wire_may8 hname z) hs hd rfl (right_fresh _ _ _ (wire_one8 name z) hfm)).2
/-- A loop of fresh names. -/
theorem loop_put8 {f : FT} {name : Bytes} (h0 : checkP f = 0) (hsz : f.sz ≤ 2000) {k : Nat} (hk : k < f.ml.length) (hname : isNameB name = true) (hl : name.length < 64) (h1 : (allR f.ml[k]).contains name = false) (h2 : (allR f.ml[k]).contains (name ++ [95]) = false) (z : Nat) (la : Option Addr) (lc : Nat) {a ia : Option Addr} {c ic : Nat} : checkP ⟨a, c, f.ml.set k (addI f.ml[k] [loopT8 name (name ++ [95]) z la lc] ia ic)⟩ = 0 := by
 have hs : (loopT8 name (name ++ [95]) z la lc).sz ≤ 3 := by simp [loopT8, numT, IT.sz, XT.sz, XT.szL, ST.szL, IT.szL, BT.szL]
 have hd : (loopT8 name (name ++ [95]) z la lc).dp ≤ 2 := by simp [loopT8, numT, IT.dp, XT.dp, XT.dpL, ST.dpL, IT.dpL, BT.dpL]
 have hm := loop_may8 hname (name_more8 hname hl) z la lc
 have hfm : name ∉ allM f.ml[k] := fun h => by rw [(allR_mem _ _).2 h] at h1; cases h1
 have hfm2 : name ++ [95] ∉ allM f.ml[k] := fun h => by rw [(allR_mem _ _).2 h] at h2; cases h2
 have hlo : LoopI (loopT8 name (name ++ [95]) z la lc) name (name ++ [95]) [] := loop_of _ _ _ _ _ _ _ _ _ _ _ _ _ _ _ _ _ _ _
 have hr := right_loop8 f.ml[k] _ name (name ++ [95]) hlo.told (fun ar h => by
  rw [hlo.inn]
  simp only [toldA, tell1, innL]
  simp only [List.nil_append, List.contains_nil, Bool.not_false, Bool.and_true, List.all_cons, List.all_nil]
  simpa using h) hfm hfm2 (more_ne8 name)
 exact (put_either8 (a := a) (c := c) h0 hsz hk hm hs hd (by unfold loopT8; rw [instI]; simp [instL]) (ia := ia) (ic := ic) rfl).2 (put_ok7 (a := a) (c := c) h0 hsz hk hm hs hd rfl hr).2
end Go.Proofs.YtiipjbafdhijlaaGreatDoor
