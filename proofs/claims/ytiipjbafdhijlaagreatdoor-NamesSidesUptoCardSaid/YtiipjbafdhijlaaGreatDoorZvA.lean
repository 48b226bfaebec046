/-
  NvA, NvB, in one text.
-/
import Derived.Test.YtiipjbafdhijlaaGreatDoorZgA
namespace Go.Proofs.YtiipjbafdhijlaaGreatDoor
open Go Go.RowKit
set_option linter.unusedVariables false
set_option linter.unusedSimpArgs false
open Go.Sort
def solF (L : List IT) : FT := ⟨none, 0, [soleM [97] L none 0]⟩
def solC (L : List IT) : Int := checkP (solF L)
theorem sol_sz (a ia : Option Addr) (c ic : Nat) (L : List IT) : FT.sz ⟨a, c, [soleM [97] L ia ic]⟩ = 1 + IT.szL L := by simp [soleM, FT.sz, MT.szL, MT.sz, BT.szL, PT.szL]
theorem sol_dp (a ia : Option Addr) (c ic : Nat) (L : List IT) : FT.dp ⟨a, c, [soleM [97] L ia ic]⟩ = 1 + IT.dpL L := by simp [soleM, FT.dp, MT.dpL, MT.dp, BT.dpL, PT.dpL]
theorem sol_may (ia : Option Addr) (ic : Nat) (L : List IT) : [soleM [97] L ia ic].all mayM = L.all mayI := by
 simp only [soleM, List.all_cons, List.all_nil, Bool.and_true]
 unfold mayM
 have h : isNameB [97] = true := by decide
 simp [h]
/-- It is small enough. -/
def solOk (L : List IT) : Bool := decide (1 + IT.szL L ≤ 65536) && decide (1 + IT.dpL L ≤ 64)
theorem sol_checkF (a ia : Option Addr) (c ic : Nat) (L : List IT) : checkF ⟨a, c, [soleM [97] L ia ic]⟩ = if solOk L = false then 2 else if L.all mayI = true then 0 else 1 := by
 unfold checkF
 rw [sol_may, sol_sz, sol_dp, if_neg (by simp)]
 cases e : solOk L with
 | true =>
  unfold solOk at e
  simp only [Bool.and_eq_true, decide_eq_true_eq] at e
  have h : (decide (65536 < 1 + IT.szL L) || decide (64 < 1 + IT.dpL L)) = false := by
   simp only [Bool.or_eq_false_iff, decide_eq_false_iff_not]; omega
  rw [h]; rfl
 | false =>
  have h : (decide (65536 < 1 + IT.szL L) || decide (64 < 1 + IT.dpL L)) = true := by
   cases h9 : (decide (65536 < 1 + IT.szL L) || decide (64 < 1 + IT.dpL L)) with
   | true => rfl
   | false =>
    simp only [Bool.or_eq_false_iff, decide_eq_false_iff_not] at h9
    unfold solOk at e
    rw [decide_eq_true (by omega), decide_eq_true (by omega)] at e
    cases e
  rw [h]; rfl
theorem solF_check (L : List IT) : checkF (solF L) = if solOk L = false then 2 else if L.all mayI = true then 0 else 1 := sol_checkF _ _ _ _ L
theorem sol_check (a ia : Option Addr) (c ic : Nat) (L : List IT) : checkP ⟨a, c, [soleM [97] L ia ic]⟩ = solC L := by
 have hn : nextN [soleM [97] L ia ic] [] = nextN [soleM [97] L none 0] [] := by
  unfold nextN
  have e : canN [] (soleM [97] L ia ic) = canN [] (soleM [97] L none 0) := rfl
  rw [List.find?_cons, List.find?_cons, e]
  cases canN [] (soleM [97] L none 0) <;> rfl
 have ho : ordN [soleM [97] L ia ic] [soleM [97] L ia ic].length [] = ordN [soleM [97] L none 0] [soleM [97] L none 0].length [] := by
  show ordN _ 1 [] = ordN _ 1 []
  rw [ordN, ordN, hn]
  cases nextN [soleM [97] L none 0] [] <;> rfl
 have ht : twiceB [] [soleM [97] L ia ic] = twiceB [] [soleM [97] L none 0] := by simp only [twiceB, modB, headM, soleM]
 have hh : hasAllB [soleM [97] L ia ic] = hasAllB [soleM [97] L none 0] := by simp only [hasAllB, usesM, soleM, List.all_cons, List.map_cons]
 have hc : checkF ⟨a, c, [soleM [97] L ia ic]⟩ = checkF (solF L) := by rw [sol_checkF, solF_check]
 unfold solC checkP checkN
 rw [hc]
 show (if checkF (solF L) ≠ 0 then _ else if twiceB [] [soleM [97] L ia ic] = true then _ else if hasAllB [soleM [97] L ia ic] = false then _ else if (ordN [soleM [97] L ia ic] [soleM [97] L ia ic].length []).isNone = true then _ else _) = _
 rw [ht, hh, ho]
 rfl
theorem sol_uses (L : List IT) : usesM (soleM [97] L none 0) = [] ↔ instL L = [] := by
 show addN [] (instL L) = [] ↔ _
 constructor
 ·intro h
  cases e : instL L with
  | nil => rfl
  | cons n r =>
   have : n ∈ addN [] (instL L) := (addN_in _ _ _).2 (.inr (by rw [e]; simp))
   rw [h] at this; cases this
 ·intro h; rw [h]; rfl
def solR (L : List IT) : Bool := (toldA ([], true) L).2 && innL (toldA ([], true) L).1 L
theorem sol_is (L : List IT) (h1 : solOk L = true) (h2 : L.all mayI = true) : (solR L = false → solC L = 70) ∧ (solR L = true → instL L = [] → solC L = 0) ∧ (solR L = true → instL L ≠ [] → solC L ≠ 0) := by
 have hF : checkF (solF L) = 0 := by rw [solF_check, if_neg (by rw [h1]; decide), if_pos h2]
 have hP : solC L = checkN [soleM [97] L none 0] := by
  unfold solC checkP
  rw [if_neg (by rw [hF]; simp)]
  rfl
 have hT : twiceB [] [soleM [97] L none 0] = !solR L := by
  rw [twiceB, twiceB, modB_ref _ (fun y hy => List.all_eq_true.1 h2 y hy), sole_right]
  simp [solR]
 refine ⟨fun hR => ?_, fun hR hi => ?_, fun hR hi => ?_⟩
 ·rw [hP]; unfold checkN; rw [hT, hR, if_pos (by rfl)]
 ·have hu := (sol_uses L).2 hi
  rw [hP]; unfold checkN
  have hA : hasAllB [soleM [97] L none 0] = true := by unfold hasAllB; simp [hu]
  have hcn : canN [] (soleM [97] L none 0) = true := by unfold canN; rw [hu]; rfl
  have hN : nextN [soleM [97] L none 0] [] = some [97] := by unfold nextN; rw [List.find?_cons, hcn]; rfl
  have hO : ordN [soleM [97] L none 0] [soleM [97] L none 0].length [] = some [[97]] := by
   show ordN [soleM [97] L none 0] 1 [] = _
   rw [ordN, hN]; rfl
  rw [hT, hR, hA, hO]; rfl
 ·have hu : usesM (soleM [97] L none 0) ≠ [] := fun h => hi ((sol_uses L).1 h)
  rw [hP]; unfold checkN
  rw [hT, hR, if_neg (by decide)]
  have hN : nextN [soleM [97] L none 0] [] = none := by
   unfold nextN
   have : canN [] (soleM [97] L none 0) = false := by
    unfold canN
    cases e : usesM (soleM [97] L none 0) with
    | nil => exact absurd e hu
    | cons n r => simp
   rw [List.find?_cons, this]; rfl
  have hO : ordN [soleM [97] L none 0] [soleM [97] L none 0].length [] = none := by
   show ordN [soleM [97] L none 0] 1 [] = _
   rw [ordN, hN]
  rw [hO]
  split <;> simp
theorem sol_zero {L : List IT} (h : solC L = 0) : solOk L = true ∧ L.all mayI = true ∧ solR L = true ∧ instL L = [] := by
 have hF : checkF (solF L) = 0 := by
  unfold solC checkP at h
  by_cases e : checkF (solF L) = 0
  ·exact e
  ·rw [if_pos e] at h; exact absurd h e
 rw [solF_check] at hF
 have h1 : solOk L = true := by
  cases e : solOk L
  ·rw [e, if_pos rfl] at hF; exact absurd hF (by decide)
  ·rfl
 rw [h1, if_neg (by decide)] at hF
 have h2 : L.all mayI = true := by
  cases e : L.all mayI
  ·rw [e, if_neg (by decide)] at hF; exact absurd hF (by decide)
  ·rfl
 obtain ⟨i1, i2, i3⟩ := sol_is L h1 h2
 refine ⟨h1, h2, ?_, ?_⟩
 ·cases e : solR L
  ·rw [i1 e] at h; exact absurd h (by decide)
  ·rfl
 ·cases e : solR L
  ·rw [i1 e] at h; exact absurd h (by decide)
  ·by_cases hi : instL L = []
   ·exact hi
   ·exact absurd h (i3 e hi)
theorem sol_great {L : List IT} (h : solOk L = false) : solC L = 2 := by
 have hF : checkF (solF L) = 2 := by rw [solF_check, if_pos h]
 unfold solC checkP
 rw [hF]; rfl
theorem sol_bad {L : List IT} (h : solOk L = true) (h2 : L.all mayI = false) : solC L = 1 := by
 have hF : checkF (solF L) = 1 := by rw [solF_check, if_neg (by rw [h]; decide), if_neg (by rw [h2]; decide)]
 unfold solC checkP
 rw [hF]; rfl
/-- A loop of items. -/
def loopI9 (a b : Bytes) (z : Nat) (la : Option Addr) (lc : Nat) (l : List IT) : IT := .mk 9 a b (some ⟨z, 0, none⟩) 2 [numT, numT] none 0 [] la lc l none 0 [] none 0 [] none 0 []
theorem loopI9_loop (a b : Bytes) (z : Nat) (la : Option Addr) (lc : Nat) (l : List IT) : LoopI (loopI9 a b z la lc l) a b l := loop_of _ _ _ _ _ _ _ _ _ _ _ _ _ _ _ _ _ _ _
theorem loopI9_may (a b : Bytes) (z : Nat) (la : Option Addr) (lc : Nat) (l : List IT) : mayI (loopI9 a b z la lc l) = (isNameB a && (isNameB b && l.all mayI)) := by
 unfold loopI9
 rw [mayI]
 have hk : ki (9 : Int).toNat = ki 9 := rfl
 rw [hk]
 have hn : mayX numT = true := by unfold numT; rw [mayX]; decide
 simp only [ki, nameB]
 simp [mayIL_all, headB, countB, amongB, hn]
 cases l <;> simp
theorem loopI9_inst (a b : Bytes) (z : Nat) (la : Option Addr) (lc : Nat) (l : List IT) : instI (loopI9 a b z la lc l) = instL l := by
 unfold loopI9; rw [instI]; simp [instL]
theorem loopI9_sz (a b : Bytes) (z : Nat) (la : Option Addr) (lc : Nat) (l : List IT) : (loopI9 a b z la lc l).sz = 3 + IT.szL l := by
 simp [loopI9, numT, IT.sz, XT.sz, XT.szL, ST.szL, IT.szL, BT.szL]
/-- What is right with more items is right with one of them. -/
theorem sol_first {x y : IT} {a v : Bytes} {l : List IT} (hx : LoopI x a v l) (h : solC [x, y] = 0) : solC [x] = 0 := by
 obtain ⟨h1, h2, h3, h4⟩ := sol_zero h
 have o1 : solOk [x] = true := by
  unfold solOk at h1 ⊢
  rw [Bool.and_eq_true] at h1 ⊢
  obtain ⟨q1, q2⟩ := h1
  have p1 : 1 + (x.sz + (y.sz + 0)) ≤ 65536 := of_decide_eq_true q1
  have p2 : 1 + max x.dp (max y.dp 0) ≤ 64 := of_decide_eq_true q2
  have r1 : 1 + (x.sz + 0) ≤ 65536 := by omega
  have r2 : 1 + max x.dp 0 ≤ 64 := Nat.le_trans (Nat.add_le_add_left (Nat.max_le.2 ⟨Nat.le_max_left _ _, Nat.zero_le _⟩) 1) p2
  exact ⟨decide_eq_true r1, decide_eq_true r2⟩
 have o2 : [x].all mayI = true := by
  simp only [List.all_cons, List.all_nil, Bool.and_true, Bool.and_eq_true] at h2 ⊢
  exact h2.1
 refine (sol_is [x] o1 o2).2.1 ?_ ?_
 ·unfold solR at h3 ⊢
  rw [Bool.and_eq_true] at h3 ⊢
  have t1 := toldA_one x
  refine ⟨t1.2.2 (by rw [hx.told]), ?_⟩
  have h5 := h3.2
  rw [innL, Bool.and_eq_true] at h5
  rw [t1.1, innL, innL, Bool.and_true]
  refine innI_mono x _ _ (fun k hk => ?_) h5.1
  rw [toldA, (toldA_from _ _).1, (tell1_fold _ _).1]
  simp only [List.nil_append, List.mem_append]
  exact .inl hk
 ·rw [instL, instL, List.append_nil]
  rw [instL] at h4
  exact (List.append_eq_nil_iff.1 h4).1
theorem loops_law {l : List IT} {lab var : Bytes} (hl1 : lab.length ≤ 40) (hl2 : var.length ≤ 40) (z : Nat) (la da : Option Addr) (lc dc : Nat) {A B D : IT} (hA : A = loopI9 lab var z la lc l) (hB : B = loopI9 (lab ++ [95]) var z la lc l) (hD : D = loopI9 (lab ++ [95]) (var ++ [95]) z da dc [A]) :
  (solC [A] ≠ 0 → solC [A, B] ≠ 0 ∧ solC [A, D] ≠ 0) ∧ (solC [A] = 0 → (((allL l).contains (lab ++ [95]) = true ∨ var = lab ++ [95]) ∨ solC [A, B] = 0 ∨ solC [A, B] = 2) ∧ (solC [A, D] = 70 ∨ solC [A, D] = 2 ∨ solC [A, D] = 71)) := by
 have lA : LoopI A lab var l := by rw [hA]; exact loopI9_loop _ _ _ _ _ _
 have lB : LoopI B (lab ++ [95]) var l := by rw [hB]; exact loopI9_loop _ _ _ _ _ _
 have lD : LoopI D (lab ++ [95]) (var ++ [95]) [A] := by rw [hD]; exact loopI9_loop _ _ _ _ _ _
 refine ⟨fun h => ⟨fun h2 => h (sol_first lA h2), fun h2 => h (sol_first lA h2)⟩, fun h => ?_⟩
 obtain ⟨h1, h2, h3, h4⟩ := sol_zero h
 have mA : mayI A = true := by simpa using h2
 have mA2 := mA
 rw [hA, loopI9_may] at mA2
 simp only [Bool.and_eq_true] at mA2
 obtain ⟨m1, m2, m3⟩ := mA2
 have n1 := name_more8 m1 (by omega)
 have n2 := name_more8 m2 (by omega)
 have iA : instL l = [] := by
  rw [instL, instL, List.append_nil, hA, loopI9_inst] at h4; exact h4
 have mB : [A, B].all mayI = true := by
  simp only [List.all_cons, List.all_nil, Bool.and_true, mA, Bool.true_and]
  rw [hB, loopI9_may, n1, m2, m3]; rfl
 have mD : [A, D].all mayI = true := by
  simp only [List.all_cons, List.all_nil, Bool.and_true, mA, Bool.true_and]
  rw [hD, loopI9_may, n1, n2]
  simp [mA]
 refine ⟨?_, ?_⟩
 ·by_cases ht : (allL l).contains (lab ++ [95]) = true ∨ var = lab ++ [95]
  ·exact .inl ht
  ·right
   have ht1 : lab ++ [95] ∉ allL l := fun hm => ht (.inl (List.contains_iff_mem.2 hm))
   have ht2 : var ≠ lab ++ [95] := fun hm => ht (.inr hm)
   cases ho : solOk [A, B] with
   | false => exact .inr (sol_great ho)
   | true =>
    left
    refine (sol_is [A, B] ho mB).2.1 (loops_beside lA lB h3 (more_ne8 lab) ht1 ht2) ?_
    rw [instL, instL, instL, hA, hB, loopI9_inst, loopI9_inst, iA]; rfl
 ·cases ho : solOk [A, D] with
  | false => exact .inr (.inl (sol_great ho))
  | true => exact .inl ((sol_is [A, D] ho mD).1 (loops_deep lA lD))
end Go.Proofs.YtiipjbafdhijlaaGreatDoor
namespace Go.Proofs.YtiipjbafdhijlaaGreatDoor
open Go Go.RowKit
set_option linter.unusedVariables false
set_option linter.unusedSimpArgs false
open Go.Sort
/-- A row of items in a world. -/
def RA (V : World) (L : List IT) (a : Option Addr) : Prop := InRow 9 IT.cells (IT.In V.heap.size V) V.heap.size V L a
theorem itin_keep9 {V V' : World} {x : IT} (h : x.In V.heap.size V) (hb : Below V.heap.size V V') : x.In V'.heap.size V' := IT.In.less hb.size _ (IT.In.keep (Below.keptTo hb (Nat.le_refl _)) _ h)
theorem RA.keep {V V' : World} {L : List IT} {a : Option Addr} (h : RA V L a) (hb : Below V.heap.size V V') : RA V' L a :=
 InRow.less hb.size (fun x _ h => IT.In.less hb.size x h) (InRow.keep (Below.keptTo hb (Nat.le_refl _)) (fun x _ h => IT.In.keep (Below.keptTo hb (Nat.le_refl _)) x h) h)
theorem RA.of {n0 : Nat} {V : World} {L : List IT} {a : Option Addr} (hn : n0 ≤ V.heap.size) (h : InRow 9 IT.cells (IT.In n0 V) n0 V L a) : RA V L a := InRow.less hn (fun x _ h => IT.In.less hn x h) h
theorem RA.blk {V : World} {L : List IT} {p : Nat} {cs : Array Value} (hp : V.heap[p]? = some (.cells cs 48 (0, 0))) (hc : cs.toList = L.flatMap IT.cells) (hi : ∀ x ∈ L, IT.In V.heap.size V x) : RA V L (some ⟨p, 0, none⟩) :=
 Kd.row kdI (Array.getElem?_eq_some_iff.1 hp).1 (fun j u hu => by
  simp only [World.cell?, hp, Nat.zero_add]
  have h : (L.flatMap IT.cells)[j]? = some u := hu
  rw [← hc] at h
  simpa using h) hi
theorem loopI9_in {V : World} {a b : Bytes} {z : Nat} {la : Option Addr} {lc : Nat} {l : List IT} (hz : V.heap[z]? = some (.cells #[.int .i64 1, .string ⟨#[]⟩, .int .i64 0, .int .i64 0, .int .u64 1, .slice none 0 0, .int .i64 1, .string ⟨#[]⟩, .int .i64 0, .int .i64 0, .int .u64 1, .slice none 0 0] 54 (0, 0))) (hl : RA V l la) : IT.In V.heap.size V (loopI9 a b z la lc l) := by
 have hzl := (Array.getElem?_eq_some_iff.1 hz).1
 unfold loopI9
 rw [IT.In_mk]
 refine ⟨⟨⟨z, 0, rfl, hzl, fun j v hv => ?_⟩, numT_in _ _, ⟨z, 6, rfl, hzl, fun j v hv => ?_⟩, numT_in _ _, trivial⟩, trivial, hl, trivial, trivial, trivial⟩
 ·simp only [World.cell?, hz]
  have hj : j < 6 := by have := (List.getElem?_eq_some_iff.1 hv).1; simpa [numT, XT.cells] using this
  match j, hj with
  | 0, _ => simpa [numT, XT.cells, show bs [] = ⟨#[]⟩ from rfl] using hv
  | 1, _ => simpa [numT, XT.cells, show bs [] = ⟨#[]⟩ from rfl] using hv
  | 2, _ => simpa [numT, XT.cells, show bs [] = ⟨#[]⟩ from rfl] using hv
  | 3, _ => simpa [numT, XT.cells, show bs [] = ⟨#[]⟩ from rfl] using hv
  | 4, _ => simpa [numT, XT.cells, show bs [] = ⟨#[]⟩ from rfl] using hv
  | 5, _ => simpa [numT, XT.cells, show bs [] = ⟨#[]⟩ from rfl] using hv
 ·simp only [World.cell?, hz]
  have hj : j < 6 := by have := (List.getElem?_eq_some_iff.1 hv).1; simpa [numT, XT.cells] using this
  match j, hj with
  | 0, _ => simpa [numT, XT.cells, show bs [] = ⟨#[]⟩ from rfl] using hv
  | 1, _ => simpa [numT, XT.cells, show bs [] = ⟨#[]⟩ from rfl] using hv
  | 2, _ => simpa [numT, XT.cells, show bs [] = ⟨#[]⟩ from rfl] using hv
  | 3, _ => simpa [numT, XT.cells, show bs [] = ⟨#[]⟩ from rfl] using hv
  | 4, _ => simpa [numT, XT.cells, show bs [] = ⟨#[]⟩ from rfl] using hv
  | 5, _ => simpa [numT, XT.cells, show bs [] = ⟨#[]⟩ from rfl] using hv
theorem loopI9_cells (a b : Bytes) (z : Nat) (la : Option Addr) (lc : Nat) (l : List IT) : IT.cells (loopI9 a b z la lc l) = [.int .i64 9, .string (bs a), .string (bs b), .slice (some ⟨z, 0, none⟩) 2 2, .slice none 0 0, .slice la l.length lc, .slice none 0 0, .slice none 0 0, .slice none 0 0] := rfl
theorem loopI9_wf {a b : Bytes} {z : Nat} {la : Option Addr} {lc : Nat} {l : List IT} (h : IT.WfL l) : (loopI9 a b z la lc l).Wf := by
 have hn : numT.Wf := by unfold numT; rw [XT.wf_mk]; exact ⟨by decide, fun x h => by cases h⟩
 unfold loopI9; rw [IT.Wf]; exact ⟨⟨hn, hn, trivial⟩, trivial, h, trivial, trivial, trivial⟩
/-- A module of a row alone, in a file. -/
theorem sol_in {nm : Bytes} {V : World} {L : List IT} {a : Option Addr} {c : Nat} (h : RA V L a) : FT.In (V.heap.size + 1) (V.alloc (.cells #[.string (bs nm), .slice none 0 0, .slice none 0 0, .slice a L.length c] 39)) ⟨some ⟨V.heap.size, 0, none⟩, 1, [soleM nm L a c]⟩ := by
 have hb : Below V.heap.size V (V.alloc (.cells #[.string (bs nm), .slice none 0 0, .slice none 0 0, .slice a L.length c] 39)) := (Below.refl _ _).alloc (Nat.le_refl _) _
 have h1 := h.keep hb
 unfold RA at h1
 rw [World.size_alloc] at h1
 refine ⟨⟨V.heap.size, 0, rfl, Nat.lt_succ_self _, fun j v hv => ?_⟩, ⟨trivial, trivial, h1⟩, trivial⟩
 have h9 := World.alloc_heap_new V (.cells #[.string (bs nm), .slice none 0 0, .slice none 0 0, .slice a L.length c] 39)
 simp only [World.cell?, h9]
 simpa [soleM, MT.cells] using hv
theorem sol_ck (V : World) (L : List IT) (a : Option Addr) (c : Nat) (he : EnvA V) (h : RA V L a) (hwf : IT.WfL L) (hbk : IT.bkL L ≤ 4200000) :
  Calls Tryz.prog 10 #[.agg #[.slice (some ⟨V.heap.size, 0, none⟩) 1 1]] (V.alloc (.cells #[.string (bs [97]), .slice none 0 0, .slice none 0 0, .slice a L.length c] 39)) fun e V' => e = .returned (.int .i64 (solC L)) ∧ Below V.heap.size V V' := by
 have hb : Below V.heap.size V (V.alloc (.cells #[.string (bs [97]), .slice none 0 0, .slice none 0 0, .slice a L.length c] 39)) := (Below.refl _ _).alloc (Nat.le_refl _) _
 have h2 := namesCheck_any (V.alloc (.cells #[.string (bs [97]), .slice none 0 0, .slice none 0 0, .slice a L.length c] 39)) (V.heap.size + 1) ⟨some ⟨V.heap.size, 0, none⟩, 1, [soleM [97] L a c]⟩ (by rw [World.size_alloc]; exact Nat.le_refl _) (he.keep hb) (show MT.WfL [soleM [97] L a c] from (MT.wfL_iff _).2 (fun m hm => by
   rw [List.mem_singleton.1 hm]; exact ⟨trivial, trivial, hwf⟩)) (sol_in h) (by
   show 1 + MT.bkL [soleM [97] L a c] ≤ _
   simp only [MT.bkL, soleM, MT.bk, BT.bkL, PT.bkL, List.length_cons, List.length_nil]
   omega)
 simp only [FT.val, FT.cells, sol_check] at h2
 exact h2.mono fun e V' h => ⟨h.1, hb.trans (h.2.mono hb.size)⟩
theorem module97 (ia : Option Addr) (n c : Nat) (w : World) : Calls Tryz.prog 17 #[.string ⟨#[97]⟩, .slice ia n c] w fun e w' => e = .returned (.agg #[.string (bs [97]), .slice none 0 0, .slice none 0 0, .slice ia n c]) ∧ Below w.heap.size w w' := module7_any [97] ia n c w
theorem module109 (ia : Option Addr) (n c : Nat) (w : World) : Calls Tryz.prog 17 #[.string ⟨#[109]⟩, .slice ia n c] w fun e w' => e = .returned (.agg #[.string (bs [109]), .slice none 0 0, .slice none 0 0, .slice ia n c]) ∧ Below w.heap.size w w' := module7_any [109] ia n c w
set_option maxHeartbeats 4000000 in
set_option maxRecDepth 100000 in
theorem fewl_any (l : List IT) (hsz : IT.szL l ≤ 4200000) (a : Option Addr) (c : Nat) (w : World) (h : RA w l a) : Calls Tryz.prog 21 #[.slice a l.length c] w fun e w' => ∃ b : Bool, e = .returned (.bool b) ∧ Below w.heap.size w w' := by
 have hq : ∀ V : World, Below w.heap.size w V → Calls Tryz.prog 9 #[.agg #[.slice (some ⟨V.heap.size, 0, none⟩) 1 1]] (V.alloc (.cells #[.string (bs [109]), .slice none 0 0, .slice none 0 0, .slice a l.length c] 39)) fun e V' => ∃ b : Bool, e = .returned (.bool b) ∧ Below w.heap.size w V' := fun V hV => by
  have hb : Below V.heap.size V (V.alloc (.cells #[.string (bs [109]), .slice none 0 0, .slice none 0 0, .slice a l.length c] 39)) := (Below.refl _ _).alloc (Nat.le_refl _) _
  have h2 := few7_any ⟨some ⟨V.heap.size, 0, none⟩, 1, [soleM [109] l a c]⟩ (by simp [soleM, FT.sz, MT.szL, MT.sz, BT.szL, PT.szL]; omega) (V.heap.size + 1) (V.alloc (.cells #[.string (bs [109]), .slice none 0 0, .slice none 0 0, .slice a l.length c] 39)) (by rw [World.size_alloc]; exact Nat.le_refl _) (sol_in (h.keep hV))
  simp only [FT.val, FT.cells] at h2
  exact h2.mono fun e V' h => ⟨_, h.1, hV.trans ((hb.trans (h.2.mono hb.size)).mono hV.size)⟩
 have HQ := Lib.hid hq
 clear hq
 go_enter Tryz.func21, Tryz.ntmps21
 go_wp2_with fail
 refine (module109 _ _ _ _).mono ?_
 rintro e wm ⟨rfl, hb⟩
 have q := HQ.out wm hb
 clear hb
 go_wp2_with fail
 refine q.mono ?_
 clear q
 rintro e w2 ⟨b, rfl, hb2⟩
 go_wp2
 go_ret
 exact ⟨b, rfl, hb2⟩
end Go.Proofs.YtiipjbafdhijlaaGreatDoor
