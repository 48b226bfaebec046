/-
  NvA, NvB, NvL, NvO, in one text.
-/
import Derived.Test.YtiipjbafdhijlaaGreatDoorNgA
import Derived.Test.YtiipjbafdhijlaaGreatDoorAsOp
namespace Go.Proofs.YtiipjbafdhijlaaGreatDoor
open Go Go.RowKit
set_option linter.unusedVariables false
set_option linter.unusedSimpArgs false
open Go.Sort

def solF (L : List IT) : FT := ⟨none, 0, [soleM [97] L none 0]⟩
def solC (L : List IT) : Int := checkP (solF L)
theorem sol_sz (a ia : Option Addr) (c ic : Nat) (L : List IT) : FT.sz ⟨a, c, [soleM [97] L ia ic]⟩ = 1 + IT.szL L := by simp [soleM, FT.sz, MT.szL, MT.sz, BT.szL, PT.szL]
theorem sol_dp (a ia : Option Addr) (c ic : Nat) (L : List IT) : FT.dp ⟨a, c, [soleM [97] L ia ic]⟩ = 1 + IT.dpL L := by simp [soleM, FT.dp, MT.dpL, MT.dp, BT.dpL, PT.dpL]
theorem sol_may (ia : Option Addr) (ic : Nat) (L : List IT) : [soleM [97] L ia ic].all mayM = L.all mayI := by
  simp only [soleM, List.all_cons, List.all_nil, Bool.and_true]
  unfold mayM
  have h : isNameB [97] = true := by decide
  simp [h]
/-- It is small enough. -/
def solOk (L : List IT) : Bool := decide (1 + IT.szL L ≤ 65536) && decide (1 + IT.dpL L ≤ 64)
theorem sol_checkF (a ia : Option Addr) (c ic : Nat) (L : List IT) : checkF ⟨a, c, [soleM [97] L ia ic]⟩ = if solOk L = false then 2 else if L.all mayI = true then 0 else 1 := by
  unfold checkF
  rw [sol_may, sol_sz, sol_dp, if_neg (by simp)]
  cases e : solOk L with
  | true =>
    unfold solOk at e
    simp only [Bool.and_eq_true, decide_eq_true_eq] at e
    have h : (decide (65536 < 1 + IT.szL L) || decide (64 < 1 + IT.dpL L)) = false := by
      simp only [Bool.or_eq_false_iff, decide_eq_false_iff_not]; omega
    rw [h]; rfl
  | false =>
    have h : (decide (65536 < 1 + IT.szL L) || decide (64 < 1 + IT.dpL L)) = true := by
      cases h9 : (decide (65536 < 1 + IT.szL L) || decide (64 < 1 + IT.dpL L)) with
      | true => rfl
      | false =>
        simp only [Bool.or_eq_false_iff, decide_eq_false_iff_not] at h9
        unfold solOk at e
        rw [decide_eq_true (by omega), decide_eq_true (by omega)] at e
        cases e
    rw [h]; rfl
theorem solF_check (L : List IT) : checkF (solF L) = if solOk L = false then 2 else if L.all mayI = true then 0 else 1 := sol_checkF _ _ _ _ L
theorem sol_check (a ia : Option Addr) (c ic : Nat) (L : List IT) : checkP ⟨a, c, [soleM [97] L ia ic]⟩ = solC L := by
  have hn : nextN [soleM [97] L ia ic] [] = nextN [soleM [97] L none 0] [] := by
    unfold nextN
    have e : canN [] (soleM [97] L ia ic) = canN [] (soleM [97] L none 0) := rfl
    rw [List.find?_cons, List.find?_cons, e]
    cases canN [] (soleM [97] L none 0) <;> rfl
  have ho : ordN [soleM [97] L ia ic] [soleM [97] L ia ic].length [] = ordN [soleM [97] L none 0] [soleM [97] L none 0].length [] := by
    show ordN _ 1 [] = ordN _ 1 []
    rw [ordN, ordN, hn]
    cases nextN [soleM [97] L none 0] [] <;> rfl
  have ht : twiceB [] [soleM [97] L ia ic] = twiceB [] [soleM [97] L none 0] := by simp only [twiceB, modB, headM, soleM]
  have hh : hasAllB [soleM [97] L ia ic] = hasAllB [soleM [97] L none 0] := by simp only [hasAllB, usesM, soleM, List.all_cons, List.map_cons]
  have hc : checkF ⟨a, c, [soleM [97] L ia ic]⟩ = checkF (solF L) := by rw [sol_checkF, solF_check]
  unfold solC checkP checkN
  rw [hc]
  show (if checkF (solF L) ≠ 0 then _ else if twiceB [] [soleM [97] L ia ic] = true then _ else if hasAllB [soleM [97] L ia ic] = false then _ else if (ordN [soleM [97] L ia ic] [soleM [97] L ia ic].length []).isNone = true then _ else _) = _
  rw [ht, hh, ho]
  rfl
theorem sol_uses (L : List IT) : usesM (soleM [97] L none 0) = [] ↔ instL L = [] := by
  show addN [] (instL L) = [] ↔ _
  constructor
  · intro h
    cases e : instL L with
    | nil => rfl
    | cons n r =>
      have : n ∈ addN [] (instL L) := (addN_in _ _ _).2 (.inr (by rw [e]; simp))
      rw [h] at this; cases this
  · intro h; rw [h]; rfl
def solR (L : List IT) : Bool := (toldA ([], true) L).2 && innL (toldA ([], true) L).1 L
theorem sol_is (L : List IT) (h1 : solOk L = true) (h2 : L.all mayI = true) : (solR L = false → solC L = 70) ∧ (solR L = true → instL L = [] → solC L = 0) ∧ (solR L = true → instL L ≠ [] → solC L ≠ 0) := by
  have hF : checkF (solF L) = 0 := by rw [solF_check, if_neg (by rw [h1]; decide), if_pos h2]
  have hP : solC L = checkN [soleM [97] L none 0] := by
    unfold solC checkP
    rw [if_neg (by rw [hF]; simp)]
    rfl
  have hT : twiceB [] [soleM [97] L none 0] = !solR L := by
    rw [twiceB, twiceB, modB_ref _ (fun y hy => List.all_eq_true.1 h2 y hy), sole_right]
    simp [solR]
  refine ⟨fun hR => ?_, fun hR hi => ?_, fun hR hi => ?_⟩
  · rw [hP]; unfold checkN; rw [hT, hR, if_pos (by rfl)]
  · have hu := (sol_uses L).2 hi
    rw [hP]; unfold checkN
    have hA : hasAllB [soleM [97] L none 0] = true := by unfold hasAllB; simp [hu]
    have hcn : canN [] (soleM [97] L none 0) = true := by unfold canN; rw [hu]; rfl
    have hN : nextN [soleM [97] L none 0] [] = some [97] := by unfold nextN; rw [List.find?_cons, hcn]; rfl
    have hO : ordN [soleM [97] L none 0] [soleM [97] L none 0].length [] = some [[97]] := by
      show ordN [soleM [97] L none 0] 1 [] = _
      rw [ordN, hN]; rfl
    rw [hT, hR, hA, hO]; rfl
  · have hu : usesM (soleM [97] L none 0) ≠ [] := fun h => hi ((sol_uses L).1 h)
    rw [hP]; unfold checkN
    rw [hT, hR, if_neg (by decide)]
    have hN : nextN [soleM [97] L none 0] [] = none := by
      unfold nextN
      have : canN [] (soleM [97] L none 0) = false := by
        unfold canN
        cases e : usesM (soleM [97] L none 0) with
        | nil => exact absurd e hu
        | cons n r => simp
      rw [List.find?_cons, this]; rfl
    have hO : ordN [soleM [97] L none 0] [soleM [97] L none 0].length [] = none := by
      show ordN [soleM [97] L none 0] 1 [] = _
      rw [ordN, hN]
    rw [hO]
    split <;> simp
theorem sol_zero {L : List IT} (h : solC L = 0) : solOk L = true ∧ L.all mayI = true ∧ solR L = true ∧ instL L = [] := by
  have hF : checkF (solF L) = 0 := by
    unfold solC checkP at h
    by_cases e : checkF (solF L) = 0
    · exact e
    · rw [if_pos e] at h; exact absurd h e
  rw [solF_check] at hF
  have h1 : solOk L = true := by
    cases e : solOk L
    · rw [e, if_pos rfl] at hF; exact absurd hF (by decide)
    · rfl
  rw [h1, if_neg (by decide)] at hF
  have h2 : L.all mayI = true := by
    cases e : L.all mayI
    · rw [e, if_neg (by decide)] at hF; exact absurd hF (by decide)
    · rfl
  obtain ⟨i1, i2, i3⟩ := sol_is L h1 h2
  refine ⟨h1, h2, ?_, ?_⟩
  · cases e : solR L
    · rw [i1 e] at h; exact absurd h (by decide)
    · rfl
  · cases e : solR L
    · rw [i1 e] at h; exact absurd h (by decide)
    · by_cases hi : instL L = []
      · exact hi
      · exact absurd h (i3 e hi)
theorem sol_great {L : List IT} (h : solOk L = false) : solC L = 2 := by
  have hF : checkF (solF L) = 2 := by rw [solF_check, if_pos h]
  unfold solC checkP
  rw [hF]; rfl
theorem sol_bad {L : List IT} (h : solOk L = true) (h2 : L.all mayI = false) : solC L = 1 := by
  have hF : checkF (solF L) = 1 := by rw [solF_check, if_neg (by rw [h]; decide), if_neg (by rw [h2]; decide)]
  unfold solC checkP
  rw [hF]; rfl
/-- A loop of items. -/
def loopI9 (a b : Bytes) (z : Nat) (la : Option Addr) (lc : Nat) (l : List IT) : IT := .mk 9 a b (some ⟨z, 0, none⟩) 2 [numT, numT] none 0 [] la lc l none 0 [] none 0 [] none 0 []
theorem loopI9_loop (a b : Bytes) (z : Nat) (la : Option Addr) (lc : Nat) (l : List IT) : LoopI (loopI9 a b z la lc l) a b l := loop_of _ _ _ _ _ _ _ _ _ _ _ _ _ _ _ _ _ _ _
theorem loopI9_may (a b : Bytes) (z : Nat) (la : Option Addr) (lc : Nat) (l : List IT) : mayI (loopI9 a b z la lc l) = (isNameB a && (isNameB b && l.all mayI)) := by
  unfold loopI9
  rw [mayI]
  have hk : ki (9 : Int).toNat = ki 9 := rfl
  rw [hk]
  have hn : mayX numT = true := by unfold numT; rw [mayX]; decide
  simp only [ki, nameB]
  simp [mayIL_all, headB, countB, amongB, hn]
  cases l <;> simp
theorem loopI9_inst (a b : Bytes) (z : Nat) (la : Option Addr) (lc : Nat) (l : List IT) : instI (loopI9 a b z la lc l) = instL l := by
  unfold loopI9; rw [instI]; simp [instL]
theorem loopI9_sz (a b : Bytes) (z : Nat) (la : Option Addr) (lc : Nat) (l : List IT) : (loopI9 a b z la lc l).sz = 3 + IT.szL l := by
  simp [loopI9, numT, IT.sz, XT.sz, XT.szL, ST.szL, IT.szL, BT.szL]
/-- What is right with more items is right with one of them. -/
theorem sol_first {x y : IT} {a v : Bytes} {l : List IT} (hx : LoopI x a v l) (h : solC [x, y] = 0) : solC [x] = 0 := by
  obtain ⟨h1, h2, h3, h4⟩ := sol_zero h
  have o1 : solOk [x] = true := by
    unfold solOk at h1 ⊢
    rw [Bool.and_eq_true] at h1 ⊢
    obtain ⟨q1, q2⟩ := h1
    have p1 : 1 + (x.sz + (y.sz + 0)) ≤ 65536 := of_decide_eq_true q1
    have p2 : 1 + max x.dp (max y.dp 0) ≤ 64 := of_decide_eq_true q2
    have r1 : 1 + (x.sz + 0) ≤ 65536 := by omega
    have r2 : 1 + max x.dp 0 ≤ 64 := Nat.le_trans (Nat.add_le_add_left (Nat.max_le.2 ⟨Nat.le_max_left _ _, Nat.zero_le _⟩) 1) p2
    exact ⟨decide_eq_true r1, decide_eq_true r2⟩
  have o2 : [x].all mayI = true := by
    simp only [List.all_cons, List.all_nil, Bool.and_true, Bool.and_eq_true] at h2 ⊢
    exact h2.1
  refine (sol_is [x] o1 o2).2.1 ?_ ?_
  · unfold solR at h3 ⊢
    rw [Bool.and_eq_true] at h3 ⊢
    have t1 := toldA_one x
    refine ⟨t1.2.2 (by rw [hx.told]), ?_⟩
    have h5 := h3.2
    rw [innL, Bool.and_eq_true] at h5
    rw [t1.1, innL, innL, Bool.and_true]
    refine innI_mono x _ _ (fun k hk => ?_) h5.1
    rw [toldA, (toldA_from _ _).1, (tell1_fold _ _).1]
    simp only [List.nil_append, List.mem_append]
    exact .inl hk
  · rw [instL, instL, List.append_nil]
    rw [instL] at h4
    exact (List.append_eq_nil_iff.1 h4).1
theorem loops_law {l : List IT} {lab var : Bytes} (hl1 : lab.length ≤ 40) (hl2 : var.length ≤ 40) (z : Nat) (la da : Option Addr) (lc dc : Nat) {A B D : IT} (hA : A = loopI9 lab var z la lc l) (hB : B = loopI9 (lab ++ [95]) var z la lc l) (hD : D = loopI9 (lab ++ [95]) (var ++ [95]) z da dc [A]) :
    (solC [A] ≠ 0 → solC [A, B] ≠ 0 ∧ solC [A, D] ≠ 0) ∧ (solC [A] = 0 → (((allL l).contains (lab ++ [95]) = true ∨ var = lab ++ [95]) ∨ solC [A, B] = 0 ∨ solC [A, B] = 2) ∧ (solC [A, D] = 70 ∨ solC [A, D] = 2 ∨ solC [A, D] = 71)) := by
  have lA : LoopI A lab var l := by rw [hA]; exact loopI9_loop _ _ _ _ _ _
  have lB : LoopI B (lab ++ [95]) var l := by rw [hB]; exact loopI9_loop _ _ _ _ _ _
  have lD : LoopI D (lab ++ [95]) (var ++ [95]) [A] := by rw [hD]; exact loopI9_loop _ _ _ _ _ _
  refine ⟨fun h => ⟨fun h2 => h (sol_first lA h2), fun h2 => h (sol_first lA h2)⟩, fun h => ?_⟩
  obtain ⟨h1, h2, h3, h4⟩ := sol_zero h
  have mA : mayI A = true := by simpa using h2
  have mA2 := mA
  rw [hA, loopI9_may] at mA2
  simp only [Bool.and_eq_true] at mA2
  obtain ⟨m1, m2, m3⟩ := mA2
  have n1 := name_more8 m1 (by omega)
  have n2 := name_more8 m2 (by omega)
  have iA : instL l = [] := by
    rw [instL, instL, List.append_nil, hA, loopI9_inst] at h4; exact h4
  have mB : [A, B].all mayI = true := by
    simp only [List.all_cons, List.all_nil, Bool.and_true, mA, Bool.true_and]
    rw [hB, loopI9_may, n1, m2, m3]; rfl
  have mD : [A, D].all mayI = true := by
    simp only [List.all_cons, List.all_nil, Bool.and_true, mA, Bool.true_and]
    rw [hD, loopI9_may, n1, n2]
    simp [mA]
  refine ⟨?_, ?_⟩
  · by_cases ht : (allL l).contains (lab ++ [95]) = true ∨ var = lab ++ [95]
    · exact .inl ht
    · right
      have ht1 : lab ++ [95] ∉ allL l := fun hm => ht (.inl (List.contains_iff_mem.2 hm))
      have ht2 : var ≠ lab ++ [95] := fun hm => ht (.inr hm)
      cases ho : solOk [A, B] with
      | false => exact .inr (sol_great ho)
      | true =>
        left
        refine (sol_is [A, B] ho mB).2.1 (loops_beside lA lB h3 (more_ne8 lab) ht1 ht2) ?_
        rw [instL, instL, instL, hA, hB, loopI9_inst, loopI9_inst, iA]; rfl
  · cases ho : solOk [A, D] with
    | false => exact .inr (.inl (sol_great ho))
    | true => exact .inl ((sol_is [A, D] ho mD).1 (loops_deep lA lD))
end Go.Proofs.YtiipjbafdhijlaaGreatDoor
namespace Go.Proofs.YtiipjbafdhijlaaGreatDoor
open Go Go.RowKit
set_option linter.unusedVariables false
set_option linter.unusedSimpArgs false
open Go.Sort

/-- A row of items in a world. -/
def RA (V : World) (L : List IT) (a : Option Addr) : Prop := InRow 9 IT.cells (IT.In V.heap.size V) V.heap.size V L a
theorem itin_keep9 {V V' : World} {x : IT} (h : x.In V.heap.size V) (hb : Below V.heap.size V V') : x.In V'.heap.size V' := IT.In.less hb.size _ (IT.In.keep (Below.keptTo hb (Nat.le_refl _)) _ h)
theorem RA.keep {V V' : World} {L : List IT} {a : Option Addr} (h : RA V L a) (hb : Below V.heap.size V V') : RA V' L a :=
  InRow.less hb.size (fun x _ h => IT.In.less hb.size x h) (InRow.keep (Below.keptTo hb (Nat.le_refl _)) (fun x _ h => IT.In.keep (Below.keptTo hb (Nat.le_refl _)) x h) h)
theorem RA.of {n0 : Nat} {V : World} {L : List IT} {a : Option Addr} (hn : n0 ≤ V.heap.size) (h : InRow 9 IT.cells (IT.In n0 V) n0 V L a) : RA V L a := InRow.less hn (fun x _ h => IT.In.less hn x h) h
theorem RA.blk {V : World} {L : List IT} {p : Nat} {cs : Array Value} (hp : V.heap[p]? = some (.cells cs 48 (0, 0))) (hc : cs.toList = L.flatMap IT.cells) (hi : ∀ x ∈ L, IT.In V.heap.size V x) : RA V L (some ⟨p, 0, none⟩) :=
  Kd.row kdI (Array.getElem?_eq_some_iff.1 hp).1 (fun j u hu => by
    simp only [World.cell?, hp, Nat.zero_add]
    have h : (L.flatMap IT.cells)[j]? = some u := hu
    rw [← hc] at h
    simpa using h) hi
theorem loopI9_in {V : World} {a b : Bytes} {z : Nat} {la : Option Addr} {lc : Nat} {l : List IT} (hz : V.heap[z]? = some (.cells #[.int .i64 1, .string ⟨#[]⟩, .int .i64 0, .int .i64 0, .int .u64 1, .slice none 0 0, .int .i64 1, .string ⟨#[]⟩, .int .i64 0, .int .i64 0, .int .u64 1, .slice none 0 0] 54 (0, 0))) (hl : RA V l la) : IT.In V.heap.size V (loopI9 a b z la lc l) := by
  have hzl := (Array.getElem?_eq_some_iff.1 hz).1
  unfold loopI9
  rw [IT.In_mk]
  refine ⟨⟨⟨z, 0, rfl, hzl, fun j v hv => ?_⟩, numT_in _ _, ⟨z, 6, rfl, hzl, fun j v hv => ?_⟩, numT_in _ _, trivial⟩, trivial, hl, trivial, trivial, trivial⟩
  · simp only [World.cell?, hz]
    have hj : j < 6 := by have := (List.getElem?_eq_some_iff.1 hv).1; simpa [numT, XT.cells] using this
    match j, hj with
    | 0, _ => simpa [numT, XT.cells, show bs [] = ⟨#[]⟩ from rfl] using hv
    | 1, _ => simpa [numT, XT.cells, show bs [] = ⟨#[]⟩ from rfl] using hv
    | 2, _ => simpa [numT, XT.cells, show bs [] = ⟨#[]⟩ from rfl] using hv
    | 3, _ => simpa [numT, XT.cells, show bs [] = ⟨#[]⟩ from rfl] using hv
    | 4, _ => simpa [numT, XT.cells, show bs [] = ⟨#[]⟩ from rfl] using hv
    | 5, _ => simpa [numT, XT.cells, show bs [] = ⟨#[]⟩ from rfl] using hv
  · simp only [World.cell?, hz]
    have hj : j < 6 := by have := (List.getElem?_eq_some_iff.1 hv).1; simpa [numT, XT.cells] using this
    match j, hj with
    | 0, _ => simpa [numT, XT.cells, show bs [] = ⟨#[]⟩ from rfl] using hv
    | 1, _ => simpa [numT, XT.cells, show bs [] = ⟨#[]⟩ from rfl] using hv
    | 2, _ => simpa [numT, XT.cells, show bs [] = ⟨#[]⟩ from rfl] using hv
    | 3, _ => simpa [numT, XT.cells, show bs [] = ⟨#[]⟩ from rfl] using hv
    | 4, _ => simpa [numT, XT.cells, show bs [] = ⟨#[]⟩ from rfl] using hv
    | 5, _ => simpa [numT, XT.cells, show bs [] = ⟨#[]⟩ from rfl] using hv
theorem loopI9_cells (a b : Bytes) (z : Nat) (la : Option Addr) (lc : Nat) (l : List IT) : IT.cells (loopI9 a b z la lc l) = [.int .i64 9, .string (bs a), .string (bs b), .slice (some ⟨z, 0, none⟩) 2 2, .slice none 0 0, .slice la l.length lc, .slice none 0 0, .slice none 0 0, .slice none 0 0] := rfl
theorem loopI9_wf {a b : Bytes} {z : Nat} {la : Option Addr} {lc : Nat} {l : List IT} (h : IT.WfL l) : (loopI9 a b z la lc l).Wf := by
  have hn : numT.Wf := by unfold numT; rw [XT.wf_mk]; exact ⟨by decide, fun x h => by cases h⟩
  unfold loopI9; rw [IT.Wf]; exact ⟨⟨hn, hn, trivial⟩, trivial, h, trivial, trivial, trivial⟩
/-- A module of a row alone, in a file. -/
theorem sol_in {nm : Bytes} {V : World} {L : List IT} {a : Option Addr} {c : Nat} (h : RA V L a) : FT.In (V.heap.size + 1) (V.alloc (.cells #[.string (bs nm), .slice none 0 0, .slice none 0 0, .slice a L.length c] 39)) ⟨some ⟨V.heap.size, 0, none⟩, 1, [soleM nm L a c]⟩ := by
  have hb : Below V.heap.size V (V.alloc (.cells #[.string (bs nm), .slice none 0 0, .slice none 0 0, .slice a L.length c] 39)) := (Below.refl _ _).alloc (Nat.le_refl _) _
  have h1 := h.keep hb
  unfold RA at h1
  rw [World.size_alloc] at h1
  refine ⟨⟨V.heap.size, 0, rfl, Nat.lt_succ_self _, fun j v hv => ?_⟩, ⟨trivial, trivial, h1⟩, trivial⟩
  have h9 := World.alloc_heap_new V (.cells #[.string (bs nm), .slice none 0 0, .slice none 0 0, .slice a L.length c] 39)
  simp only [World.cell?, h9]
  simpa [soleM, MT.cells] using hv
theorem sol_ck (V : World) (L : List IT) (a : Option Addr) (c : Nat) (he : EnvA V) (h : RA V L a) (hwf : IT.WfL L) (hbk : IT.bkL L ≤ 4200000) :
    Calls Tryz.prog 10 #[.agg #[.slice (some ⟨V.heap.size, 0, none⟩) 1 1]] (V.alloc (.cells #[.string (bs [97]), .slice none 0 0, .slice none 0 0, .slice a L.length c] 39)) fun e V' => e = .returned (.int .i64 (solC L)) ∧ Below V.heap.size V V' := by
  have hb : Below V.heap.size V (V.alloc (.cells #[.string (bs [97]), .slice none 0 0, .slice none 0 0, .slice a L.length c] 39)) := (Below.refl _ _).alloc (Nat.le_refl _) _
  have h2 := namesCheck_any (V.alloc (.cells #[.string (bs [97]), .slice none 0 0, .slice none 0 0, .slice a L.length c] 39)) (V.heap.size + 1) ⟨some ⟨V.heap.size, 0, none⟩, 1, [soleM [97] L a c]⟩ (by rw [World.size_alloc]; exact Nat.le_refl _) (he.keep hb) (show MT.WfL [soleM [97] L a c] from (MT.wfL_iff _).2 (fun m hm => by
      rw [List.mem_singleton.1 hm]; exact ⟨trivial, trivial, hwf⟩)) (sol_in h) (by
      show 1 + MT.bkL [soleM [97] L a c] ≤ _
      simp only [MT.bkL, soleM, MT.bk, BT.bkL, PT.bkL, List.length_cons, List.length_nil]
      omega)
  simp only [FT.val, FT.cells, sol_check] at h2
  exact h2.mono fun e V' h => ⟨h.1, hb.trans (h.2.mono hb.size)⟩
theorem module97 (ia : Option Addr) (n c : Nat) (w : World) : Calls Tryz.prog 17 #[.string ⟨#[97]⟩, .slice ia n c] w fun e w' => e = .returned (.agg #[.string (bs [97]), .slice none 0 0, .slice none 0 0, .slice ia n c]) ∧ Below w.heap.size w w' := module7_any [97] ia n c w
theorem module109 (ia : Option Addr) (n c : Nat) (w : World) : Calls Tryz.prog 17 #[.string ⟨#[109]⟩, .slice ia n c] w fun e w' => e = .returned (.agg #[.string (bs [109]), .slice none 0 0, .slice none 0 0, .slice ia n c]) ∧ Below w.heap.size w w' := module7_any [109] ia n c w
set_option maxHeartbeats 4000000 in
set_option maxRecDepth 100000 in
theorem fewl_any (l : List IT) (hsz : IT.szL l ≤ 4200000) (a : Option Addr) (c : Nat) (w : World) (h : RA w l a) : Calls Tryz.prog 21 #[.slice a l.length c] w fun e w' => ∃ b : Bool, e = .returned (.bool b) ∧ Below w.heap.size w w' := by
  have hq : ∀ V : World, Below w.heap.size w V → Calls Tryz.prog 9 #[.agg #[.slice (some ⟨V.heap.size, 0, none⟩) 1 1]] (V.alloc (.cells #[.string (bs [109]), .slice none 0 0, .slice none 0 0, .slice a l.length c] 39)) fun e V' => ∃ b : Bool, e = .returned (.bool b) ∧ Below w.heap.size w V' := fun V hV => by
    have hb : Below V.heap.size V (V.alloc (.cells #[.string (bs [109]), .slice none 0 0, .slice none 0 0, .slice a l.length c] 39)) := (Below.refl _ _).alloc (Nat.le_refl _) _
    have h2 := few7_any ⟨some ⟨V.heap.size, 0, none⟩, 1, [soleM [109] l a c]⟩ (by simp [soleM, FT.sz, MT.szL, MT.sz, BT.szL, PT.szL]; omega) (V.heap.size + 1) (V.alloc (.cells #[.string (bs [109]), .slice none 0 0, .slice none 0 0, .slice a l.length c] 39)) (by rw [World.size_alloc]; exact Nat.le_refl _) (sol_in (h.keep hV))
    simp only [FT.val, FT.cells] at h2
    exact h2.mono fun e V' h => ⟨_, h.1, hV.trans ((hb.trans (h.2.mono hb.size)).mono hV.size)⟩
  have HQ := Lib.hid hq
  clear hq
  go_enter Tryz.func21, Tryz.ntmps21
  go_wp2_with fail
  refine (module109 _ _ _ _).mono ?_
  rintro e wm ⟨rfl, hb⟩
  have q := HQ.out wm hb
  clear hb
  go_wp2_with fail
  refine q.mono ?_
  clear q
  rintro e w2 ⟨b, rfl, hb2⟩
  go_wp2
  go_ret
  exact ⟨b, rfl, hb2⟩
end Go.Proofs.YtiipjbafdhijlaaGreatDoor
namespace Go.Proofs.YtiipjbafdhijlaaGreatDoor
open Go Go.RowKit
set_option linter.unusedVariables false
set_option linter.unusedSimpArgs false
open Go.Sort

structure LoW (W V : World) (l : List IT) (a : Option Addr) : Prop where
  env : EnvA V
  low : Below W.heap.size W V
  row : RA V l a
theorem LoW.keep {W V V' : World} {l : List IT} {a : Option Addr} (h : LoW W V l a) (hb : Below V.heap.size V V') : LoW W V' l a := ⟨h.env.keep hb, h.low.trans (hb.mono h.low.size), h.row.keep hb⟩
/-- A variable of one item, made and stored. -/
theorem item_var9 (V : World) (p : Nat) (hp : V.heap.size = p) (c0 c1 c2 c3 c4 c5 c6 c7 c8 : Value) :
    ((V.alloc (.cells #[c0, c1, c2, c3, c4, c5, c6, c7, c8] 48))).heap[p]? = some (.cells #[c0, c1, c2, c3, c4, c5, c6, c7, c8] 48 (0, 0)) ∧ Below V.heap.size V ((V.alloc (.cells #[c0, c1, c2, c3, c4, c5, c6, c7, c8] 48))) := by
  subst hp
  exact ⟨World.alloc_heap_new V _, (Below.refl _ _).alloc (Nat.le_refl _) _⟩
theorem ra_l1 {V : World} {a b : Bytes} {z : Nat} {la : Option Addr} {lc : Nat} {l : List IT} (hz : V.heap[z]? = some (.cells #[.int .i64 1, .string ⟨#[]⟩, .int .i64 0, .int .i64 0, .int .u64 1, .slice none 0 0, .int .i64 1, .string ⟨#[]⟩, .int .i64 0, .int .i64 0, .int .u64 1, .slice none 0 0] 54 (0, 0))) (hl : RA V l la) :
    RA (V.alloc (.cells #[.int .i64 9, .string (bs a), .string (bs b), .slice (some ⟨z, 0, none⟩) 2 2, .slice none 0 0, .slice la l.length lc, .slice none 0 0, .slice none 0 0, .slice none 0 0] 48)) [loopI9 a b z la lc l] (some ⟨V.heap.size, 0, none⟩) := by
  have hb : Below V.heap.size V (V.alloc (.cells #[.int .i64 9, .string (bs a), .string (bs b), .slice (some ⟨z, 0, none⟩) 2 2, .slice none 0 0, .slice la l.length lc, .slice none 0 0, .slice none 0 0, .slice none 0 0] 48)) := (Below.refl _ _).alloc (Nat.le_refl _) _
  refine RA.blk (World.alloc_heap_new V _) rfl (fun x hx => ?_)
  rw [List.mem_singleton.1 hx]
  exact itin_keep9 (loopI9_in hz hl) hb
theorem ra_l2 {V : World} {a b a2 b2 : Bytes} {z z2 : Nat} {la la2 : Option Addr} {lc lc2 : Nat} {l l2 : List IT} (hz : V.heap[z]? = some (.cells #[.int .i64 1, .string ⟨#[]⟩, .int .i64 0, .int .i64 0, .int .u64 1, .slice none 0 0, .int .i64 1, .string ⟨#[]⟩, .int .i64 0, .int .i64 0, .int .u64 1, .slice none 0 0] 54 (0, 0))) (hl : RA V l la) (hz2 : V.heap[z2]? = some (.cells #[.int .i64 1, .string ⟨#[]⟩, .int .i64 0, .int .i64 0, .int .u64 1, .slice none 0 0, .int .i64 1, .string ⟨#[]⟩, .int .i64 0, .int .i64 0, .int .u64 1, .slice none 0 0] 54 (0, 0))) (hl2 : RA V l2 la2) :
    RA (V.alloc (.cells #[.int .i64 9, .string (bs a), .string (bs b), .slice (some ⟨z, 0, none⟩) 2 2, .slice none 0 0, .slice la l.length lc, .slice none 0 0, .slice none 0 0, .slice none 0 0, .int .i64 9, .string (bs a2), .string (bs b2), .slice (some ⟨z2, 0, none⟩) 2 2, .slice none 0 0, .slice la2 l2.length lc2, .slice none 0 0, .slice none 0 0, .slice none 0 0] 48)) [loopI9 a b z la lc l, loopI9 a2 b2 z2 la2 lc2 l2] (some ⟨V.heap.size, 0, none⟩) := by
  have hb : Below V.heap.size V (V.alloc (.cells #[.int .i64 9, .string (bs a), .string (bs b), .slice (some ⟨z, 0, none⟩) 2 2, .slice none 0 0, .slice la l.length lc, .slice none 0 0, .slice none 0 0, .slice none 0 0, .int .i64 9, .string (bs a2), .string (bs b2), .slice (some ⟨z2, 0, none⟩) 2 2, .slice none 0 0, .slice la2 l2.length lc2, .slice none 0 0, .slice none 0 0, .slice none 0 0] 48)) := (Below.refl _ _).alloc (Nat.le_refl _) _
  refine RA.blk (World.alloc_heap_new V _) rfl (fun x hx => ?_)
  rcases List.mem_cons.1 hx with e | hx
  · rw [e]; exact itin_keep9 (loopI9_in hz hl) hb
  · rw [List.mem_singleton.1 hx]; exact itin_keep9 (loopI9_in hz2 hl2) hb
theorem loopI9_bk (a b : Bytes) (z : Nat) (la : Option Addr) (lc : Nat) (l : List IT) : (loopI9 a b z la lc l).bk = 1 + a.length + b.length + 2 * numT.bk + IT.bkL l := by
  simp only [loopI9, IT.bk, XT.bkL, ST.bkL, IT.bkL, BT.bkL]; omega
theorem sol_ck1 (V : World) (x : IT) (a : Option Addr) (he : EnvA V) (h : RA V [x] a) (hwf : x.Wf) (hbk : x.bk ≤ 4200000) :
    Calls Tryz.prog 10 #[.agg #[.slice (some ⟨V.heap.size, 0, none⟩) 1 1]] (V.alloc (.cells #[.string (bs [97]), .slice none 0 0, .slice none 0 0, .slice a 1 1] 39)) fun e V' => e = .returned (.int .i64 (solC [x])) ∧ Below V.heap.size V V' :=
  sol_ck V [x] a 1 he h (show x.Wf ∧ True from ⟨hwf, trivial⟩) (show x.bk + 0 ≤ _ from hbk)
theorem sol_ck2 (V : World) (x y : IT) (a : Option Addr) (he : EnvA V) (h : RA V [x, y] a) (hx : x.Wf) (hy : y.Wf) (hbk : x.bk + y.bk ≤ 4200000) :
    Calls Tryz.prog 10 #[.agg #[.slice (some ⟨V.heap.size, 0, none⟩) 1 1]] (V.alloc (.cells #[.string (bs [97]), .slice none 0 0, .slice none 0 0, .slice a 2 2] 39)) fun e V' => e = .returned (.int .i64 (solC [x, y])) ∧ Below V.heap.size V V' :=
  sol_ck V [x, y] a 2 he h (show x.Wf ∧ y.Wf ∧ True from ⟨hx, hy, trivial⟩) (show x.bk + (y.bk + 0) ≤ _ from hbk)
theorem allR_len9 (m : MT) : (allR m).length ≤ 4 * m.sz := by
  unfold allR
  have h1 := addN_len7 (m.pl.map (·.nm)) (addN (addN [] (allL m.il)) (m.tl.map (·.nm)))
  have h2 := addN_len7 (m.tl.map (·.nm)) (addN [] (allL m.il))
  have h3 := addN_len7 (allL m.il) []
  have h4 := allL_len7 m.il
  obtain ⟨mn, pa, pc, pl, ta, tc, tl, ja, jc, il⟩ := m
  have h5 := PT.szL_len7 tl
  have h6 := BT.szL_len7 pl
  simp only [MT.sz, List.length_map, List.length_nil] at h1 h2 h3 h4 ⊢
  omega
theorem sole_all (nm : Bytes) (l : List IT) (ia : Option Addr) (ic : Nat) (s : Bytes) : (allR (soleM nm l ia ic)).contains s = (allL l).contains s := by
  rw [Bool.eq_iff_iff, allR_mem, List.contains_iff_mem]
  simp [allM, headM, soleM]
set_option maxHeartbeats 16000000 in
set_option maxRecDepth 100000 in
theorem loops_any (W : World) (l : List IT) (a : Option Addr) (c : Nat) (lab var : Bytes) (hs1 : lab.length ≤ 1100000) (hs2 : var.length ≤ 1100000) (he : EnvA W) (hwf : IT.WfL l) (hin : RA W l a) (hbk : IT.bkL l ≤ 1100000) :
    Calls Tryz.prog 7 #[.slice a l.length c, .string (bs lab), .string (bs var)] W fun e W' => e = .returned (.bool true) ∧ Below W.heap.size W W' := by
  have hszl : IT.szL l ≤ 1100000 := Nat.le_trans (IT.szL_bk l) hbk
  have HO : Hid (LoW W W l a) := Lib.hid ⟨he, Below.refl _ _, hin⟩
  have HWF := Lib.hid hwf
  have HBK := Lib.hid hbk
  have HSZ := Lib.hid hszl
  clear he hwf hin hbk hszl
  go_enter Tryz.func7, Tryz.ntmps7
  go_wp2_with fail
  refine (live7_any _ HO.out.env).mono ?_
  rintro e V1 ⟨rfl, hb⟩
  replace HO := Lib.hid (HO.out.keep hb)
  clear hb
  have q := fewl_any l (by have := HSZ.out; omega) a c V1 HO.out.row
  go_wp2_with fail
  refine q.mono ?_
  clear q
  rintro e V2 ⟨fw, rfl, hb⟩
  replace HO := Lib.hid (HO.out.keep hb)
  clear hb
  cases fw with
  | false =>
    go_wp2
    go_ret
    exact ⟨rfl, HO.out.low⟩
  | true =>
    by_cases hl1 : 40 < lab.length
    · have d1 : decide (40 < lab.length) = true := by simpa using hl1
      have d2 : decide ((40 : Int) < (lab.length : Int)) = true := by rw [decide_eq_true_eq]; omega
      go_wp2
      go_ret
      exact ⟨rfl, HO.out.low⟩
    · have d1 : decide (40 < lab.length) = false := by simpa using hl1
      have d2 : decide ((40 : Int) < (lab.length : Int)) = false := by rw [decide_eq_false_iff_not]; omega
      by_cases hl2 : 40 < var.length
      · have d3 : decide (40 < var.length) = true := by simpa using hl2
        have d4 : decide ((40 : Int) < (var.length : Int)) = true := by rw [decide_eq_true_eq]; omega
        go_wp2
        go_ret
        exact ⟨rfl, HO.out.low⟩
      · have d3 : decide (40 < var.length) = false := by simpa using hl2
        have d4 : decide ((40 : Int) < (var.length : Int)) = false := by rw [decide_eq_false_iff_not]; omega
        have HQ : Hid (lab.length ≤ 40 ∧ var.length ≤ 40) := Lib.hid ⟨by omega, by omega⟩
        have happ1 : bs lab ++ (⟨#[95]⟩ : ByteArray) = bs (lab ++ [95]) := bs_append lab [95]
        have happ2 : bs var ++ (⟨#[95]⟩ : ByteArray) = bs (var ++ [95]) := bs_append var [95]
        have e1 : lab.length + 1 ≤ 9223372036854775807 := by omega
        have e2 : ¬ (9223372036854775807 < lab.length + 1) := by omega
        have e3 : ¬ (9223372036854775806 < lab.length) := by omega
        have e4 : lab.length ≤ 9223372036854775806 := by omega
        have e5 : var.length + 1 ≤ 9223372036854775807 := by omega
        have e6 : ¬ (9223372036854775807 < var.length + 1) := by omega
        have e7 : ¬ (9223372036854775806 < var.length) := by omega
        have e8 : var.length ≤ 9223372036854775806 := by omega
        clear hs1 hs2 hl1 hl2
        go_upto_region 6 with (fail)
        go_cut [8] from 33 to 35 (fun p8 wx => ∃ z : Nat, p8 = .slice (some ⟨z, 0, none⟩) 2 2 ∧ wx.heap[z]? = some (.cells #[.int .i64 1, .string ⟨#[]⟩, .int .i64 0, .int .i64 0, .int .u64 1, .slice none 0 0, .int .i64 1, .string ⟨#[]⟩, .int .i64 0, .int .i64 0, .int .u64 1, .slice none 0 0] 54 (0, 0)) ∧ LoW W wx l a)
        case first =>
          go_wp2_with fail
          refine (one7_any _).mono ?_
          rintro e V3 ⟨rfl, hb⟩
          replace HO := Lib.hid (HO.out.keep hb)
          clear hb
          go_wp2_with fail
          refine (one7_any _).mono ?_
          rintro e V4 ⟨rfl, hb⟩
          replace HO := Lib.hid (HO.out.keep hb)
          clear hb
          go_wp2_with fail
          go_meet
          exact ⟨_, rfl, World.alloc_heap_new _ _, HO.out.keep ((Below.refl _ _).alloc (Nat.le_refl _) _)⟩
        case rest =>
          obtain ⟨z, rfl, hz, ho⟩ := hcut
          generalize wc = V5 at *
          replace HO := Lib.hid ho
          have HZ := Lib.hid hz
          clear ho hz
          go_upto_region 7 with (fail)
          go_cut [9] from 36 to 40 (fun p9 wx => ∃ g : Nat, p9 = .pointer (some ⟨g, 0, none⟩) ∧ wx.heap[g]? = some (.cells #[.int .i64 9, .string (bs lab), .string (bs var), .slice (some ⟨z, 0, none⟩) 2 2, .slice none 0 0, .slice a l.length c, .slice none 0 0, .slice none 0 0, .slice none 0 0] 48 (0, 0)) ∧ Below V5.heap.size V5 wx)
          case first =>
            go_wp2_with fail
            go_meet
            exact ⟨_, rfl, World.alloc_heap_new _ _, (Below.refl _ _).alloc (Nat.le_refl _) _⟩
          case rest =>
            obtain ⟨pA, rfl, hp, hb⟩ := hcut
            generalize wc = V6 at *
            replace HO := Lib.hid (HO.out.keep hb)
            replace HZ := Lib.hid ((hb.block _ (Array.getElem?_eq_some_iff.1 HZ.out).1).trans HZ.out)
            have HpA := Lib.hid hp
            clear hp hb
            go_upto_region 8 with (fail)
            go_cut [10] from 41 to 46 (fun p9 wx => ∃ g : Nat, p9 = .pointer (some ⟨g, 0, none⟩) ∧ wx.heap[g]? = some (.cells #[.int .i64 9, .string (bs (lab ++ [95])), .string (bs var), .slice (some ⟨z, 0, none⟩) 2 2, .slice none 0 0, .slice a l.length c, .slice none 0 0, .slice none 0 0, .slice none 0 0] 48 (0, 0)) ∧ Below V6.heap.size V6 wx)
            case first =>
              go_wp2_with fail
              go_meet
              exact ⟨_, rfl, World.alloc_heap_new _ _, (Below.refl _ _).alloc (Nat.le_refl _) _⟩
            case rest =>
              obtain ⟨pB, rfl, hp, hb⟩ := hcut
              generalize wc = V7 at *
              replace HO := Lib.hid (HO.out.keep hb)
              replace HZ := Lib.hid ((hb.block _ (Array.getElem?_eq_some_iff.1 HZ.out).1).trans HZ.out)
              replace HpA := Lib.hid ((hb.block _ (Array.getElem?_eq_some_iff.1 HpA.out).1).trans HpA.out)
              have HpB := Lib.hid hp
              clear hp hb
              have ho := HpA.out
              have pAz0 : V7.cell? ⟨pA, 0, none⟩ = some (.int .i64 9) := by simp [World.cell?, ho]
              have pAz1 : V7.cell? ⟨pA, 1, none⟩ = some (.string (bs lab)) := by simp [World.cell?, ho]
              have pAz2 : V7.cell? ⟨pA, 2, none⟩ = some (.string (bs var)) := by simp [World.cell?, ho]
              have pAz3 : V7.cell? ⟨pA, 3, none⟩ = some (.slice (some ⟨z, 0, none⟩) 2 2) := by simp [World.cell?, ho]
              have pAz4 : V7.cell? ⟨pA, 4, none⟩ = some (.slice none 0 0) := by simp [World.cell?, ho]
              have pAz5 : V7.cell? ⟨pA, 5, none⟩ = some (.slice a l.length c) := by simp [World.cell?, ho]
              have pAz6 : V7.cell? ⟨pA, 6, none⟩ = some (.slice none 0 0) := by simp [World.cell?, ho]
              have pAz7 : V7.cell? ⟨pA, 7, none⟩ = some (.slice none 0 0) := by simp [World.cell?, ho]
              have pAz8 : V7.cell? ⟨pA, 8, none⟩ = some (.slice none 0 0) := by simp [World.cell?, ho]
              clear ho
              obtain ⟨A, hA⟩ : ∃ A, loopI9 lab var z a c l = A := ⟨_, rfl⟩
              have hrD := ra_l1 (a := lab) (b := var) (lc := c) HZ.out HO.out.row
              rw [hA] at hrD
              have HA := Lib.hid hA
              go_upto_region 9 with (fail)
              go_cut [11] from 47 to 54 (fun p9 wx => ∃ g qD : Nat, p9 = .pointer (some ⟨g, 0, none⟩) ∧ wx.heap[g]? = some (.cells #[.int .i64 9, .string (bs (lab ++ [95])), .string (bs (var ++ [95])), .slice (some ⟨z, 0, none⟩) 2 2, .slice none 0 0, .slice (some ⟨qD, 0, none⟩) 1 1, .slice none 0 0, .slice none 0 0, .slice none 0 0] 48 (0, 0)) ∧ RA wx [A] (some ⟨qD, 0, none⟩) ∧ Below V7.heap.size V7 wx)
              case first =>
                go_wp2_with fail
                go_meet
                have hb1 : Below V7.heap.size V7 (V7.alloc (.cells #[.int .i64 9, .string (bs lab), .string (bs var), .slice (some ⟨z, 0, none⟩) 2 2, .slice none 0 0, .slice a l.length c, .slice none 0 0, .slice none 0 0, .slice none 0 0] 48)) := (Below.refl _ _).alloc (Nat.le_refl _) _
                have hr2 := hrD.keep ((Below.refl _ _).alloc (Nat.le_refl _) (.cells #[.int .i64 9, .string (bs (lab ++ [95])), .string (bs (var ++ [95])), .slice (some ⟨z, 0, none⟩) 2 2, .slice none 0 0, .slice (some ⟨V7.heap.size, 0, none⟩) 1 1, .slice none 0 0, .slice none 0 0, .slice none 0 0] 48))
                first
                  | exact ⟨_, _, rfl, World.alloc_heap_new _ _, hr2, hb1.alloc hb1.size _⟩
                  | (refine ⟨_, _, rfl, ?_, hr2, hb1.alloc hb1.size _⟩; have h9 := World.alloc_heap_new (V7.alloc (.cells #[.int .i64 9, .string (bs lab), .string (bs var), .slice (some ⟨z, 0, none⟩) 2 2, .slice none 0 0, .slice a l.length c, .slice none 0 0, .slice none 0 0, .slice none 0 0] 48)) (.cells #[.int .i64 9, .string (bs (lab ++ [95])), .string (bs (var ++ [95])), .slice (some ⟨z, 0, none⟩) 2 2, .slice none 0 0, .slice (some ⟨V7.heap.size, 0, none⟩) 1 1, .slice none 0 0, .slice none 0 0, .slice none 0 0] 48); rwa [World.size_alloc] at h9)
              case rest =>
                obtain ⟨pD, qD, rfl, hp, hr, hb⟩ := hcut
                generalize wc = V9 at *
                replace HO := Lib.hid (HO.out.keep hb)
                replace HZ := Lib.hid ((hb.block _ (Array.getElem?_eq_some_iff.1 HZ.out).1).trans HZ.out)
                replace HpA := Lib.hid ((hb.block _ (Array.getElem?_eq_some_iff.1 HpA.out).1).trans HpA.out)
                replace HpB := Lib.hid ((hb.block _ (Array.getElem?_eq_some_iff.1 HpB.out).1).trans HpB.out)
                have HpD := Lib.hid hp
                have HRD := Lib.hid hr
                clear hp hr hb hrD hA
                clear pAz0 pAz1 pAz2 pAz3 pAz4 pAz5 pAz6 pAz7 pAz8
                have HWA : Hid (A.Wf ∧ A.bk ≤ 1100000 + 200) := Lib.hid (by
                  rw [← HA.out]
                  refine ⟨loopI9_wf HWF.out, ?_⟩
                  rw [loopI9_bk]
                  have h1 := HQ.out
                  have h2 := HBK.out
                  have h3 : numT.bk ≤ 20 := by decide
                  omega)
                obtain ⟨B, hB⟩ : ∃ B, loopI9 (lab ++ [95]) var z a c l = B := ⟨_, rfl⟩
                have HB := Lib.hid hB
                clear hB
                have HWB : Hid (B.Wf ∧ B.bk ≤ 1100000 + 200) := Lib.hid (by
                  rw [← HB.out]
                  refine ⟨loopI9_wf HWF.out, ?_⟩
                  rw [loopI9_bk, List.length_append, List.length_singleton]
                  have h1 := HQ.out
                  have h2 := HBK.out
                  have h3 : numT.bk ≤ 20 := by decide
                  omega)
                obtain ⟨D, hD⟩ : ∃ D, loopI9 (lab ++ [95]) (var ++ [95]) z (some ⟨qD, 0, none⟩) 1 [A] = D := ⟨_, rfl⟩
                have HD := Lib.hid hD
                clear hD
                have HWD : Hid (D.Wf ∧ D.bk ≤ 1100000 + 400) := Lib.hid (by
                  rw [← HD.out]
                  refine ⟨loopI9_wf (show A.Wf ∧ True from ⟨HWA.out.1, trivial⟩), ?_⟩
                  rw [loopI9_bk, List.length_append, List.length_singleton, List.length_append, List.length_singleton]
                  have h1 := HQ.out
                  have h2 : A.bk ≤ 1100000 + 200 := HWA.out.2
                  have h3 : numT.bk ≤ 20 := by decide
                  have h4 : IT.bkL [A] = A.bk + 0 := rfl
                  omega)
                obtain ⟨C1, hC1⟩ : ∃ C, solC [A] = C := ⟨_, rfl⟩
                obtain ⟨C2, hC2⟩ : ∃ C, solC [A, B] = C := ⟨_, rfl⟩
                obtain ⟨C3, hC3⟩ : ∃ C, solC [A, D] = C := ⟨_, rfl⟩
                obtain ⟨TO, hTO⟩ : ∃ T, (allL l).contains (lab ++ [95]) = T := ⟨_, rfl⟩
                have hlaw := loops_law (l := l) (lab := lab) (var := var) HQ.out.1 HQ.out.2 z a (some ⟨qD, 0, none⟩) c 1 HA.out.symm HB.out.symm HD.out.symm
                rw [hC1, hC2, hC3, hTO] at hlaw
                have HLAW := Lib.hid hlaw
                have HC1 := Lib.hid hC1
                have HC2 := Lib.hid hC2
                have HC3 := Lib.hid hC3
                have HTO := Lib.hid hTO
                clear hlaw hC1 hC2 hC3 hTO
                have ho := HpA.out
                have pAz0 : V9.cell? ⟨pA, 0, none⟩ = some (.int .i64 9) := by simp [World.cell?, ho]
                have pAz1 : V9.cell? ⟨pA, 1, none⟩ = some (.string (bs lab)) := by simp [World.cell?, ho]
                have pAz2 : V9.cell? ⟨pA, 2, none⟩ = some (.string (bs var)) := by simp [World.cell?, ho]
                have pAz3 : V9.cell? ⟨pA, 3, none⟩ = some (.slice (some ⟨z, 0, none⟩) 2 2) := by simp [World.cell?, ho]
                have pAz4 : V9.cell? ⟨pA, 4, none⟩ = some (.slice none 0 0) := by simp [World.cell?, ho]
                have pAz5 : V9.cell? ⟨pA, 5, none⟩ = some (.slice a l.length c) := by simp [World.cell?, ho]
                have pAz6 : V9.cell? ⟨pA, 6, none⟩ = some (.slice none 0 0) := by simp [World.cell?, ho]
                have pAz7 : V9.cell? ⟨pA, 7, none⟩ = some (.slice none 0 0) := by simp [World.cell?, ho]
                have pAz8 : V9.cell? ⟨pA, 8, none⟩ = some (.slice none 0 0) := by simp [World.cell?, ho]
                clear ho
                obtain ⟨q10, hq⟩ : ∃ q, V9.heap.size = q := ⟨_, rfl⟩
                obtain ⟨V9b, hVb⟩ : ∃ v, V9.alloc (.cells #[.int .i64 9, .string (bs lab), .string (bs var), .slice (some ⟨z, 0, none⟩) 2 2, .slice none 0 0, .slice a l.length c, .slice none 0 0, .slice none 0 0, .slice none 0 0] 48) = v := ⟨_, rfl⟩
                have hbb : Below V9.heap.size V9 V9b := by rw [← hVb]; exact (Below.refl _ _).alloc (Nat.le_refl _) _
                have hr := ra_l1 (a := lab) (b := var) (lc := c) HZ.out HO.out.row
                rw [HA.out] at hr
                rw [hVb, hq] at hr
                go_wp2_with fail
                (try rw [hq])
                (try rw [hVb])
                clear hVb hq
                clear pAz0 pAz1 pAz2 pAz3 pAz4 pAz5 pAz6 pAz7 pAz8
                replace HO := Lib.hid (HO.out.keep hbb)
                replace HRD := Lib.hid (HRD.out.keep hbb)
                replace HZ := Lib.hid ((hbb.block _ (Array.getElem?_eq_some_iff.1 HZ.out).1).trans HZ.out)
                replace HpA := Lib.hid ((hbb.block _ (Array.getElem?_eq_some_iff.1 HpA.out).1).trans HpA.out)
                replace HpB := Lib.hid ((hbb.block _ (Array.getElem?_eq_some_iff.1 HpB.out).1).trans HpB.out)
                replace HpD := Lib.hid ((hbb.block _ (Array.getElem?_eq_some_iff.1 HpD.out).1).trans HpD.out)
                clear hbb
                refine (module97 (some ⟨q10, 0, none⟩) 1 1 _).mono ?_
                rintro e V9c ⟨rfl, hbb⟩
                replace HO := Lib.hid (HO.out.keep hbb)
                replace HRD := Lib.hid (HRD.out.keep hbb)
                replace hr := hr.keep hbb
                replace HZ := Lib.hid ((hbb.block _ (Array.getElem?_eq_some_iff.1 HZ.out).1).trans HZ.out)
                replace HpA := Lib.hid ((hbb.block _ (Array.getElem?_eq_some_iff.1 HpA.out).1).trans HpA.out)
                replace HpB := Lib.hid ((hbb.block _ (Array.getElem?_eq_some_iff.1 HpB.out).1).trans HpB.out)
                replace HpD := Lib.hid ((hbb.block _ (Array.getElem?_eq_some_iff.1 HpD.out).1).trans HpD.out)
                clear hbb
                have qk := sol_ck1 V9c A (some ⟨q10, 0, none⟩) HO.out.env hr HWA.out.1 (by have := HWA.out.2; omega)
                rw [HC1.out] at qk
                clear hr
                go_wp2_with fail
                refine qk.mono ?_
                clear qk
                rintro e V10 ⟨rfl, hbb⟩
                replace HO := Lib.hid (HO.out.keep hbb)
                replace HRD := Lib.hid (HRD.out.keep hbb)
                replace HZ := Lib.hid ((hbb.block _ (Array.getElem?_eq_some_iff.1 HZ.out).1).trans HZ.out)
                replace HpA := Lib.hid ((hbb.block _ (Array.getElem?_eq_some_iff.1 HpA.out).1).trans HpA.out)
                replace HpB := Lib.hid ((hbb.block _ (Array.getElem?_eq_some_iff.1 HpB.out).1).trans HpB.out)
                replace HpD := Lib.hid ((hbb.block _ (Array.getElem?_eq_some_iff.1 HpD.out).1).trans HpD.out)
                clear hbb
                have ho := HpA.out
                have pAz0 : V10.cell? ⟨pA, 0, none⟩ = some (.int .i64 9) := by simp [World.cell?, ho]
                have pAz1 : V10.cell? ⟨pA, 1, none⟩ = some (.string (bs lab)) := by simp [World.cell?, ho]
                have pAz2 : V10.cell? ⟨pA, 2, none⟩ = some (.string (bs var)) := by simp [World.cell?, ho]
                have pAz3 : V10.cell? ⟨pA, 3, none⟩ = some (.slice (some ⟨z, 0, none⟩) 2 2) := by simp [World.cell?, ho]
                have pAz4 : V10.cell? ⟨pA, 4, none⟩ = some (.slice none 0 0) := by simp [World.cell?, ho]
                have pAz5 : V10.cell? ⟨pA, 5, none⟩ = some (.slice a l.length c) := by simp [World.cell?, ho]
                have pAz6 : V10.cell? ⟨pA, 6, none⟩ = some (.slice none 0 0) := by simp [World.cell?, ho]
                have pAz7 : V10.cell? ⟨pA, 7, none⟩ = some (.slice none 0 0) := by simp [World.cell?, ho]
                have pAz8 : V10.cell? ⟨pA, 8, none⟩ = some (.slice none 0 0) := by simp [World.cell?, ho]
                clear ho
                have ho := HpB.out
                have pBz0 : V10.cell? ⟨pB, 0, none⟩ = some (.int .i64 9) := by simp [World.cell?, ho]
                have pBz1 : V10.cell? ⟨pB, 1, none⟩ = some (.string (bs (lab ++ [95]))) := by simp [World.cell?, ho]
                have pBz2 : V10.cell? ⟨pB, 2, none⟩ = some (.string (bs var)) := by simp [World.cell?, ho]
                have pBz3 : V10.cell? ⟨pB, 3, none⟩ = some (.slice (some ⟨z, 0, none⟩) 2 2) := by simp [World.cell?, ho]
                have pBz4 : V10.cell? ⟨pB, 4, none⟩ = some (.slice none 0 0) := by simp [World.cell?, ho]
                have pBz5 : V10.cell? ⟨pB, 5, none⟩ = some (.slice a l.length c) := by simp [World.cell?, ho]
                have pBz6 : V10.cell? ⟨pB, 6, none⟩ = some (.slice none 0 0) := by simp [World.cell?, ho]
                have pBz7 : V10.cell? ⟨pB, 7, none⟩ = some (.slice none 0 0) := by simp [World.cell?, ho]
                have pBz8 : V10.cell? ⟨pB, 8, none⟩ = some (.slice none 0 0) := by simp [World.cell?, ho]
                clear ho
                obtain ⟨q11, hq⟩ : ∃ q, V10.heap.size = q := ⟨_, rfl⟩
                obtain ⟨V10b, hVb⟩ : ∃ v, V10.alloc (.cells #[.int .i64 9, .string (bs lab), .string (bs var), .slice (some ⟨z, 0, none⟩) 2 2, .slice none 0 0, .slice a l.length c, .slice none 0 0, .slice none 0 0, .slice none 0 0, .int .i64 9, .string (bs (lab ++ [95])), .string (bs var), .slice (some ⟨z, 0, none⟩) 2 2, .slice none 0 0, .slice a l.length c, .slice none 0 0, .slice none 0 0, .slice none 0 0] 48) = v := ⟨_, rfl⟩
                have hbb : Below V10.heap.size V10 V10b := by rw [← hVb]; exact (Below.refl _ _).alloc (Nat.le_refl _) _
                have hr := ra_l2 (a := lab) (b := var) (a2 := lab ++ [95]) (b2 := var) (lc := c) (lc2 := c) HZ.out HO.out.row HZ.out HO.out.row
                rw [HA.out, HB.out] at hr
                rw [hVb, hq] at hr
                go_wp2_with fail
                (try rw [hq])
                (try rw [hVb])
                clear hVb hq
                clear pAz0 pAz1 pAz2 pAz3 pAz4 pAz5 pAz6 pAz7 pAz8
                clear pBz0 pBz1 pBz2 pBz3 pBz4 pBz5 pBz6 pBz7 pBz8
                replace HO := Lib.hid (HO.out.keep hbb)
                replace HRD := Lib.hid (HRD.out.keep hbb)
                replace HZ := Lib.hid ((hbb.block _ (Array.getElem?_eq_some_iff.1 HZ.out).1).trans HZ.out)
                replace HpA := Lib.hid ((hbb.block _ (Array.getElem?_eq_some_iff.1 HpA.out).1).trans HpA.out)
                replace HpB := Lib.hid ((hbb.block _ (Array.getElem?_eq_some_iff.1 HpB.out).1).trans HpB.out)
                replace HpD := Lib.hid ((hbb.block _ (Array.getElem?_eq_some_iff.1 HpD.out).1).trans HpD.out)
                clear hbb
                refine (module97 (some ⟨q11, 0, none⟩) 2 2 _).mono ?_
                rintro e V10c ⟨rfl, hbb⟩
                replace HO := Lib.hid (HO.out.keep hbb)
                replace HRD := Lib.hid (HRD.out.keep hbb)
                replace hr := hr.keep hbb
                replace HZ := Lib.hid ((hbb.block _ (Array.getElem?_eq_some_iff.1 HZ.out).1).trans HZ.out)
                replace HpA := Lib.hid ((hbb.block _ (Array.getElem?_eq_some_iff.1 HpA.out).1).trans HpA.out)
                replace HpB := Lib.hid ((hbb.block _ (Array.getElem?_eq_some_iff.1 HpB.out).1).trans HpB.out)
                replace HpD := Lib.hid ((hbb.block _ (Array.getElem?_eq_some_iff.1 HpD.out).1).trans HpD.out)
                clear hbb
                have qk := sol_ck2 V10c A B (some ⟨q11, 0, none⟩) HO.out.env hr HWA.out.1 HWB.out.1 (by have := HWA.out.2; have := HWB.out.2; omega)
                rw [HC2.out] at qk
                clear hr
                go_wp2_with fail
                refine qk.mono ?_
                clear qk
                rintro e V11 ⟨rfl, hbb⟩
                replace HO := Lib.hid (HO.out.keep hbb)
                replace HRD := Lib.hid (HRD.out.keep hbb)
                replace HZ := Lib.hid ((hbb.block _ (Array.getElem?_eq_some_iff.1 HZ.out).1).trans HZ.out)
                replace HpA := Lib.hid ((hbb.block _ (Array.getElem?_eq_some_iff.1 HpA.out).1).trans HpA.out)
                replace HpB := Lib.hid ((hbb.block _ (Array.getElem?_eq_some_iff.1 HpB.out).1).trans HpB.out)
                replace HpD := Lib.hid ((hbb.block _ (Array.getElem?_eq_some_iff.1 HpD.out).1).trans HpD.out)
                clear hbb
                have ho := HpA.out
                have pAz0 : V11.cell? ⟨pA, 0, none⟩ = some (.int .i64 9) := by simp [World.cell?, ho]
                have pAz1 : V11.cell? ⟨pA, 1, none⟩ = some (.string (bs lab)) := by simp [World.cell?, ho]
                have pAz2 : V11.cell? ⟨pA, 2, none⟩ = some (.string (bs var)) := by simp [World.cell?, ho]
                have pAz3 : V11.cell? ⟨pA, 3, none⟩ = some (.slice (some ⟨z, 0, none⟩) 2 2) := by simp [World.cell?, ho]
                have pAz4 : V11.cell? ⟨pA, 4, none⟩ = some (.slice none 0 0) := by simp [World.cell?, ho]
                have pAz5 : V11.cell? ⟨pA, 5, none⟩ = some (.slice a l.length c) := by simp [World.cell?, ho]
                have pAz6 : V11.cell? ⟨pA, 6, none⟩ = some (.slice none 0 0) := by simp [World.cell?, ho]
                have pAz7 : V11.cell? ⟨pA, 7, none⟩ = some (.slice none 0 0) := by simp [World.cell?, ho]
                have pAz8 : V11.cell? ⟨pA, 8, none⟩ = some (.slice none 0 0) := by simp [World.cell?, ho]
                clear ho
                have ho := HpD.out
                have pDz0 : V11.cell? ⟨pD, 0, none⟩ = some (.int .i64 9) := by simp [World.cell?, ho]
                have pDz1 : V11.cell? ⟨pD, 1, none⟩ = some (.string (bs (lab ++ [95]))) := by simp [World.cell?, ho]
                have pDz2 : V11.cell? ⟨pD, 2, none⟩ = some (.string (bs (var ++ [95]))) := by simp [World.cell?, ho]
                have pDz3 : V11.cell? ⟨pD, 3, none⟩ = some (.slice (some ⟨z, 0, none⟩) 2 2) := by simp [World.cell?, ho]
                have pDz4 : V11.cell? ⟨pD, 4, none⟩ = some (.slice none 0 0) := by simp [World.cell?, ho]
                have pDz5 : V11.cell? ⟨pD, 5, none⟩ = some (.slice (some ⟨qD, 0, none⟩) 1 1) := by simp [World.cell?, ho]
                have pDz6 : V11.cell? ⟨pD, 6, none⟩ = some (.slice none 0 0) := by simp [World.cell?, ho]
                have pDz7 : V11.cell? ⟨pD, 7, none⟩ = some (.slice none 0 0) := by simp [World.cell?, ho]
                have pDz8 : V11.cell? ⟨pD, 8, none⟩ = some (.slice none 0 0) := by simp [World.cell?, ho]
                clear ho
                obtain ⟨q12, hq⟩ : ∃ q, V11.heap.size = q := ⟨_, rfl⟩
                obtain ⟨V11b, hVb⟩ : ∃ v, V11.alloc (.cells #[.int .i64 9, .string (bs lab), .string (bs var), .slice (some ⟨z, 0, none⟩) 2 2, .slice none 0 0, .slice a l.length c, .slice none 0 0, .slice none 0 0, .slice none 0 0, .int .i64 9, .string (bs (lab ++ [95])), .string (bs (var ++ [95])), .slice (some ⟨z, 0, none⟩) 2 2, .slice none 0 0, .slice (some ⟨qD, 0, none⟩) 1 1, .slice none 0 0, .slice none 0 0, .slice none 0 0] 48) = v := ⟨_, rfl⟩
                have hbb : Below V11.heap.size V11 V11b := by rw [← hVb]; exact (Below.refl _ _).alloc (Nat.le_refl _) _
                have hr := ra_l2 (a := lab) (b := var) (a2 := lab ++ [95]) (b2 := var ++ [95]) (lc := c) (lc2 := 1) HZ.out HO.out.row HZ.out HRD.out
                rw [show [A].length = 1 from rfl] at hr
                rw [HA.out, HD.out] at hr
                rw [hVb, hq] at hr
                go_wp2_with fail
                (try rw [hq])
                (try rw [hVb])
                clear hVb hq
                clear pAz0 pAz1 pAz2 pAz3 pAz4 pAz5 pAz6 pAz7 pAz8
                clear pDz0 pDz1 pDz2 pDz3 pDz4 pDz5 pDz6 pDz7 pDz8
                replace HO := Lib.hid (HO.out.keep hbb)
                replace HRD := Lib.hid (HRD.out.keep hbb)
                replace HZ := Lib.hid ((hbb.block _ (Array.getElem?_eq_some_iff.1 HZ.out).1).trans HZ.out)
                replace HpA := Lib.hid ((hbb.block _ (Array.getElem?_eq_some_iff.1 HpA.out).1).trans HpA.out)
                replace HpB := Lib.hid ((hbb.block _ (Array.getElem?_eq_some_iff.1 HpB.out).1).trans HpB.out)
                replace HpD := Lib.hid ((hbb.block _ (Array.getElem?_eq_some_iff.1 HpD.out).1).trans HpD.out)
                clear hbb
                refine (module97 (some ⟨q12, 0, none⟩) 2 2 _).mono ?_
                rintro e V11c ⟨rfl, hbb⟩
                replace HO := Lib.hid (HO.out.keep hbb)
                replace HRD := Lib.hid (HRD.out.keep hbb)
                replace hr := hr.keep hbb
                replace HZ := Lib.hid ((hbb.block _ (Array.getElem?_eq_some_iff.1 HZ.out).1).trans HZ.out)
                replace HpA := Lib.hid ((hbb.block _ (Array.getElem?_eq_some_iff.1 HpA.out).1).trans HpA.out)
                replace HpB := Lib.hid ((hbb.block _ (Array.getElem?_eq_some_iff.1 HpB.out).1).trans HpB.out)
                replace HpD := Lib.hid ((hbb.block _ (Array.getElem?_eq_some_iff.1 HpD.out).1).trans HpD.out)
                clear hbb
                have qk := sol_ck2 V11c A D (some ⟨q12, 0, none⟩) HO.out.env hr HWA.out.1 HWD.out.1 (by have := HWA.out.2; have := HWD.out.2; omega)
                rw [HC3.out] at qk
                clear hr
                go_wp2_with fail
                refine qk.mono ?_
                clear qk
                rintro e V12 ⟨rfl, hbb⟩
                replace HO := Lib.hid (HO.out.keep hbb)
                replace HRD := Lib.hid (HRD.out.keep hbb)
                replace HZ := Lib.hid ((hbb.block _ (Array.getElem?_eq_some_iff.1 HZ.out).1).trans HZ.out)
                replace HpA := Lib.hid ((hbb.block _ (Array.getElem?_eq_some_iff.1 HpA.out).1).trans HpA.out)
                replace HpB := Lib.hid ((hbb.block _ (Array.getElem?_eq_some_iff.1 HpB.out).1).trans HpB.out)
                replace HpD := Lib.hid ((hbb.block _ (Array.getElem?_eq_some_iff.1 HpD.out).1).trans HpD.out)
                clear hbb
                clear HRD HZ HpA HpB HpD
                by_cases hc1 : C1 = 0
                · subst hc1
                  obtain ⟨g1, g2⟩ := HLAW.out.2 rfl
                  go_wp2_with fail
                  refine (module97 a l.length c _).mono ?_
                  rintro e V13 ⟨rfl, hbb⟩
                  replace HO := Lib.hid (HO.out.keep hbb)
                  clear hbb
                  have qa := refAll_any (soleM [97] l a c) (by simp only [soleM, MT.sz, BT.szL, PT.szL]; have := HSZ.out; omega) V13.heap.size V13 (Nat.le_refl _) ⟨trivial, trivial, HO.out.row⟩
                  simp only [MT.val, MT.cells, soleM, List.length_nil] at qa
                  obtain ⟨AL, hAL⟩ : ∃ L, allR (soleM [97] l a c) = L := ⟨_, rfl⟩
                  have hAL2 : AL.contains (lab ++ [95]) = TO := by rw [← hAL, sole_all, HTO.out]
                  have hALn : AL.length ≤ 9000000 := by rw [← hAL]; exact Nat.le_trans (allR_len9 _) (by simp only [soleM, MT.sz, BT.szL, PT.szL]; have := HSZ.out; omega)
                  rw [show allR ⟨[97], none, 0, [], none, 0, [], a, c, l⟩ = AL from hAL] at qa
                  have HAL := Lib.hid (And.intro hAL2 hALn)
                  clear hAL hAL2 hALn
                  go_wp2_with fail
                  refine qa.mono ?_
                  clear qa
                  rintro e V14 ⟨v, rfl, ht, hbb⟩
                  replace HO := Lib.hid (HO.out.keep hbb)
                  obtain ⟨ta, tc, rfl, htc, htl⟩ := ht
                  clear hbb
                  have qm := amongS_any ta tc AL (lab ++ [95]) (by have := HAL.out.2; omega) V14 htl
                  rw [HAL.out.1] at qm
                  go_wp2_with fail
                  refine qm.mono ?_
                  clear qm htl
                  rintro e V15 ⟨rfl, nn, rfl⟩
                  replace HO := Lib.hid (HO.out.keep (below_drewN (Below.refl _ _) nn))
                  clear HLAW HC1 HC2 HC3 HTO HAL HWA HWB HWD HA HB HD HQ e5 e6 e7 e8 happ2
                  cases TO with
                  | true =>
                    clear g1
                    rcases g2 with rfl | rfl | rfl
                    all_goals
                      go_wp2
                      go_ret
                      exact ⟨rfl, HO.out.low⟩
                  | false =>
                    by_cases hv : var = lab ++ [95]
                    · have ev : (var == lab ++ [95]) = true := by simpa using hv
                      clear g1 hv
                      rcases g2 with rfl | rfl | rfl
                      all_goals
                        go_wp2
                        go_ret
                        exact ⟨rfl, HO.out.low⟩
                    · have ev : (var == lab ++ [95]) = false := by simpa using hv
                      have g3 : C2 = 0 ∨ C2 = 2 := by
                        rcases g1 with (h | h) | h
                        · exact absurd h (by decide)
                        · exact absurd h hv
                        · exact h
                      clear g1 hv
                      rcases g3 with rfl | rfl
                      all_goals
                        rcases g2 with rfl | rfl | rfl
                        all_goals
                          go_wp2
                          go_ret
                          exact ⟨rfl, HO.out.low⟩
                · have g3 := HLAW.out.1 hc1
                  have n1 : (C1 != 0) = true := by simpa using hc1
                  have n2 : (C2 != 0) = true := by simpa using g3.1
                  have n3 : (C3 != 0) = true := by simpa using g3.2
                  go_wp2
                  go_ret
                  exact ⟨rfl, HO.out.low⟩
end Go.Proofs.YtiipjbafdhijlaaGreatDoor
namespace Go.Proofs.YtiipjbafdhijlaaGreatDoor
open Go Go.ChangeShapes Go.WideShapes Go.ChangeAt Go.RowKit Go.Joins Go.Sort Go.Deep
set_option linter.unusedVariables false
set_option linter.unusedSimpArgs false

section
variable {H : Type} {enc : TypeId × Value → H}
set_option maxRecDepth 3000000 in
theorem rowI_of {W : World} {base : Nat} {v : Value} {d : DataW H} {p : List MemPlace} (hv : Value.okWide Tryz.prog W .any base 37 v) (h : DataW.Trod enc Tryz.prog W 0 (fun _ => true) true 37 v d p) : ∃ (a : Option Addr) (c : Nat) (l : List IT), v = .slice a l.length c ∧ InRow 9 IT.cells (IT.In W.heap.size W) W.heap.size W l a ∧ IT.WfL l ∧ IT.bkL l ≤ Rows.uptoBulk d ∧ (a = none → c = 0) := by
  obtain ⟨a0, n0, c0, rfl⟩ := okWide_slice Tryz.underlying37 hv
  obtain ⟨fuel, hf⟩ := h
  obtain ⟨a, c, l, h1, h2, h3, h4, h5, h6⟩ := row_open (k := 9) (cells := IT.cells) (inn := IT.In W.heap.size W) (wf := IT.Wf) (bk := IT.bk) Tryz.underlying37 (by kernel_rfl) (by omega) (fun t => by cases t; rfl) (fun m cs z hm hz => it_data m cs z hz) (show DataW.trod enc Tryz.prog W 0 (fun _ => true) true fuel 37 [.slice a0 n0 c0] = some _ from hf)
  exact ⟨a, c, l, h1, h2, (IT.wfL_iff l).2 h3, by
    have h4' : (l.map IT.bk).sum + 1 ≤ Rows.uptoBulk d := by first | exact h4 | exact h5
    rw [IT.bkL_sum]; omega, h6⟩
end
end Go.Proofs.YtiipjbafdhijlaaGreatDoor
