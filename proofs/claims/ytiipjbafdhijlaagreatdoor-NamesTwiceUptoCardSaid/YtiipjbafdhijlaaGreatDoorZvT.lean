/-
  NvT, NvU, in one text.
-/
import Derived.Test.YtiipjbafdhijlaaGreatDoorZgC
import Derived.Test.YtiipjbafdhijlaaGreatDoorZuD
import Derived.Deep.RegionLaw
import Derived.Deep.RegionHeld3
import Derived.RegionTactic
import Derived.BigRegion
import Derived.BigQuiet
import Derived.Deep.QuietTactic
import Derived.Deep.DeepCutAuto
namespace Go.Proofs.YtiipjbafdhijlaaGreatDoor
open Go Go.RowKit
set_option linter.unusedVariables false
set_option linter.unusedSimpArgs false
open Go.Sort
theorem szL_app9 (l : List MT) (m : MT) : MT.szL (l ++ [m]) = MT.szL l + m.sz := by
 induction l with
 | nil => simp [MT.szL]
 | cons x r ih => rw [List.cons_append, MT.szL, MT.szL, ih]; omega
theorem dpL_app9 (l : List MT) (m : MT) : MT.dpL (l ++ [m]) = max (MT.dpL l) m.dp := by
 induction l with
 | nil => simp [MT.dpL]
 | cons x r ih => rw [List.cons_append, MT.dpL, MT.dpL, ih, Nat.max_assoc]
theorem bkL_app9 (l : List MT) (m : MT) : MT.bkL (l ++ [m]) = MT.bkL l + m.bk := by
 induction l with
 | nil => simp [MT.bkL]
 | cons x r ih => rw [List.cons_append, MT.bkL, MT.bkL, ih]; omega
/-- A module of a name that is told once more. -/
theorem again_check {f : FT} (h0 : checkP f = 0) (hsz : f.sz ≤ 2000) {k : Nat} (hk : k < f.ml.length) (hlen : f.ml.length < 64) {a : Option Addr} {c : Nat} : checkP ⟨a, c, f.ml ++ [soleM f.ml[k].nm [] none 0]⟩ = 70 ∧ f.ml[k].nm.length ≤ 64 := by
 obtain ⟨hF, -, -, -⟩ := checkP_zero7 h0
 obtain ⟨f1, f2, f3, f4⟩ := checkF_zero7 hF
 have hm := f4 _ (List.getElem_mem hk)
 have hn : isNameB f.ml[k].nm = true := by
  unfold mayM at hm; simp only [Bool.and_eq_true] at hm; exact hm.1
 have hl : f.ml[k].nm.length ≤ 64 := by
  have h := hn
  have h9 : ∀ t : Bytes, isNameB t = true → t.length ≤ 64 := by
   intro t ht
   cases t with
   | nil => simp
   | cons c r =>
    unfold isNameB at ht
    simp only [Bool.and_eq_true, decide_eq_true_eq, Bool.not_eq_true'] at ht
    exact ht.2.1
  exact h9 _ h
 refine ⟨?_, hl⟩
 have hs1 : MT.szL f.ml ≤ 2000 := hsz
 have hd1 : MT.dpL f.ml ≤ 64 := f3
 have hFn : checkF ⟨a, c, f.ml ++ [soleM f.ml[k].nm [] none 0]⟩ = 0 := by
  unfold checkF
  have e1 : FT.sz ⟨a, c, f.ml ++ [soleM f.ml[k].nm [] none 0]⟩ = MT.szL f.ml + 1 := by
   show MT.szL _ = _
   rw [szL_app9]
   simp [soleM, MT.sz, BT.szL, PT.szL, IT.szL]
  have e2 : FT.dp ⟨a, c, f.ml ++ [soleM f.ml[k].nm [] none 0]⟩ ≤ 64 := by
   show MT.dpL _ ≤ _
   rw [dpL_app9]
   exact Nat.max_le.2 ⟨hd1, by simp [soleM, MT.dp, BT.dpL, PT.dpL, IT.dpL]⟩
  have e3 : (f.ml ++ [soleM f.ml[k].nm [] none 0]).all mayM = true := by
   rw [List.all_append, List.all_eq_true.2 f4]
   simp only [List.all_cons, List.all_nil, Bool.and_true, Bool.true_and]
   unfold mayM soleM
   simp [hn]
  rw [e1, e3, if_neg (by simp; omega), if_neg (by
   simp only [Bool.or_eq_true, decide_eq_true_eq, not_or]
   exact ⟨by omega, by omega⟩), if_pos rfl]
 have hT : twiceB [] (f.ml ++ [soleM f.ml[k].nm [] none 0]) = true := by
  cases e : twiceB [] (f.ml ++ [soleM f.ml[k].nm [] none 0]) with
  | true => rfl
  | false =>
   exfalso
   have h1 := (twice_nodup _ _ e).1
   rw [List.map_append, List.nodup_append] at h1
   exact h1.2.2 f.ml[k].nm (List.mem_map_of_mem (List.getElem_mem hk)) f.ml[k].nm (by simp [soleM]) rfl
 unfold checkP
 rw [if_neg (by rw [hFn]; simp)]
 show checkN (f.ml ++ _) = 70
 unfold checkN
 rw [hT, if_pos rfl]
theorem twice_set9 {m' : MT} (hr : rightM m' = false) : ∀ (l : List MT) (k : Nat) (seen : List Bytes) (h : k < l.length), (∀ y ∈ m'.il, mayI y = true) → twiceB seen (l.set k m') = true
 | [], k, _, h, _ => by simp at h
 | x :: r, 0, seen, h, hm => by
  rw [List.set_cons_zero, twiceB, modB_ref m' hm, hr]; simp
 | x :: r, k + 1, seen, h, hm => by
  rw [List.set_cons_succ, twiceB, twice_set9 hr r k _ (by simpa using h) hm]; simp
/-- A name told once more in a module. -/
theorem told_again {f : FT} (h0 : checkP f = 0) (hsz : f.sz ≤ 2000) {k : Nat} (hk : k < f.ml.length) {n : Bytes} (hn : n ∈ (toldM f.ml[k]).1) (hnm : isNameB n = true) (z : Nat) {a ia : Option Addr} {c ic : Nat} : checkP ⟨a, c, f.ml.set k (addI f.ml[k] [wireT n z] ia ic)⟩ = 70 := by
 have hs : (wireT n z).sz ≤ 3 := by simp [wireT, numT, IT.sz, XT.sz, XT.szL, ST.szL, IT.szL, BT.szL]
 have hd : (wireT n z).dp ≤ 2 := by simp [wireT, numT, IT.dp, XT.dp, XT.dpL, ST.dpL, IT.dpL, BT.dpL]
 have hF := put_okF8 (a := a) (c := c) (ia := ia) (ic := ic) h0 hsz hk (wire_may8 hnm z) hs hd rfl
 have hr : rightM (addI f.ml[k] [wireT n z] ia ic) = false := right_again f.ml[k] (wireT n z) n (wire_one8 n z) hn
 have hmay : ∀ y ∈ (addI f.ml[k] [wireT n z] ia ic).il, mayI y = true := by
  obtain ⟨-, -, -, g4⟩ := checkF_zero7 hF
  have h5 := g4 (addI f.ml[k] [wireT n z] ia ic) (List.mem_iff_getElem.2 ⟨k, by simpa using hk, by simp⟩)
  unfold mayM at h5; simp only [Bool.and_eq_true] at h5; exact List.all_eq_true.1 h5.2.2.2
 unfold checkP
 rw [if_neg (by rw [hF]; simp)]
 show checkN (f.ml.set k _) = 70
 unfold checkN
 rw [twice_set9 hr f.ml k [] hk hmay, if_pos rfl]
/-- What is told is a name. -/
theorem told_names {f : FT} (h0 : checkP f = 0) {k : Nat} (hk : k < f.ml.length) : ∀ n ∈ (toldM f.ml[k]).1, isNameB n = true := by
 obtain ⟨hF, -, -, -⟩ := checkP_zero7 h0
 obtain ⟨f1, f2, f3, f4⟩ := checkF_zero7 hF
 have hm := f4 _ (List.getElem_mem hk)
 generalize f.ml[k] = m at hm
 obtain ⟨nm, pa, pc, pl, ta, tc, tl, ia, ic, il⟩ := m
 unfold mayM at hm
 simp only [Bool.and_eq_true] at hm
 obtain ⟨-, h2, h3, h4⟩ := hm
 intro n hn
 unfold toldM at hn
 rw [(tell1_fold _ _).1, (tell1_fold _ _).1] at hn
 simp only [List.mem_append, List.mem_map] at hn
 rcases hn with (hn | ⟨p, hp, rfl⟩) | ⟨p, hp, rfl⟩
 ·have hI : ∀ x : IT, mayI x = true → ∀ n ∈ (toldI x).1, isNameB n = true := IT.ind fun op nm nf xa xc xl sa sc sl la lc ll ea ec el pa pc pl ba bc bl ih0 ih1 hx n hn => by
   have hL : ∀ (l : List IT), (∀ x ∈ l, mayI x = true → ∀ n ∈ (toldI x).1, isNameB n = true) → (∀ x ∈ l, mayI x = true) → ∀ n ∈ (toldA ([], true) l).1, isNameB n = true := by
    intro l
    induction l with
    | nil => intro _ _ n hn; simp [toldA] at hn
    | cons x r ih =>
     intro g1 g2 n hn
     rw [toldA, (toldA_from r _).1, (tell1_fold _ _).1] at hn
     simp only [List.nil_append, List.mem_append] at hn
     rcases hn with hn | hn
     ·exact g1 x (by simp) (g2 x (by simp)) n hn
     ·exact ih (fun y hy => g1 y (by simp [hy])) (fun y hy => g2 y (by simp [hy])) n hn
   obtain ⟨-, p2, p3⟩ := mayI_parts hx
   rw [toldI] at hn
   split at hn
   ·rw [addN_in] at hn
    rcases hn with hn | hn
    ·exact hL ll ih0 p2 n hn
    ·exact hL el ih1 p3 n hn
   ·split at hn
    ·rename_i h8 ht
     have e : n = nm := by simpa using hn
     subst e
     rw [mayI] at hx
     simp only [Bool.and_eq_true] at hx
     have hn2 := hx.2.1
     unfold tellsI at ht
     have ht6 : op = 1 ∨ op = 2 ∨ op = 3 ∨ op = 7 ∨ op = 9 ∨ op = 10 := by simpa using ht
     rcases ht6 with rfl | rfl | rfl | rfl | rfl | rfl <;> simpa [nameB, ki] using hn2
    ·simp at hn
  have hL2 : ∀ (l : List IT), (∀ x ∈ l, mayI x = true) → ∀ n ∈ (toldA ([], true) l).1, isNameB n = true := by
   intro l
   induction l with
   | nil => intro _ n hn; simp [toldA] at hn
   | cons x r ih =>
    intro g2 n hn
    rw [toldA, (toldA_from r _).1, (tell1_fold _ _).1] at hn
    simp only [List.nil_append, List.mem_append] at hn
    rcases hn with hn | hn
    ·exact hI x (g2 x (by simp)) n hn
    ·exact ih (fun y hy => g2 y (by simp [hy])) n hn
  exact hL2 il (List.all_eq_true.1 h4) n hn
 ·have h9 := List.all_eq_true.1 h3 p hp
  unfold mayP at h9
  simp only [Bool.and_eq_true] at h9
  exact h9.1
 ·have h9 := List.all_eq_true.1 h2 p hp
  unfold mayB' at h9
  simp only [Bool.and_eq_true] at h9
  exact h9.1
end Go.Proofs.YtiipjbafdhijlaaGreatDoor
namespace Go.Proofs.YtiipjbafdhijlaaGreatDoor
open Go Go.RowKit
set_option linter.unusedVariables false
set_option linter.unusedSimpArgs false
open Go.Sort
/-- A row of modules appended, at a step of a region. -/
theorem step_append_mods9 {w : World} {ops : Array Oper} {o : Oper} {a : Act} {K : Act → World → Prop} {Q : Exit → Act → World → Prop} {E : Prop} (hw : Region.wanted o (yielded ops a.tmps) = true) (s x : Operand)
  (ho : o.op = .call { callee := .builtin .append, args := #[s, x], argTypes := #[22, 22] })
  (base : Nat) (v : Value) (n : Nat) (xs : List Value) (hs : a.eval s = v) (hown : w.ownsRow base 39 4 v n xs)
  (ad : Option Addr) (l : List MT) (c : Nat) (hx : a.eval x = .slice ad l.length c) (hc : ad = none → c = 0) (inn : MT → Prop) (n0 : Nat) (hl : InRow 4 MT.cells inn n0 w l ad) (hn : n + l.length ≤ 12000000) (hbase : base ≤ w.heap.size)
  (h : ∀ v' w', w'.ownsRow base 39 4 v' (n + l.length) (xs ++ l.flatMap MT.cells) → w.grownBy w' v.ownBlock → K (a.put o.dst v') w') :
  if Region.wanted o (yielded ops a.tmps) = true then Oper.wp Tryz.prog o a w K Q else E := by
 rw [if_pos hw]
 obtain ⟨i0, hi0, hz0, hz1, hz2⟩ := info_parts info_mod
 cases ad with
 | none =>
  have hl0 : l = [] := by
   cases l with
   | nil => rfl
   | cons y r => obtain ⟨⟨b, o, h, _⟩, _⟩ := hl; cases h
  subst hl0
  rw [hc rfl] at hx
  have hrun := run_append_owned_none (P := Tryz.prog) (w := w) base 22 o.type 39 i0 4 Tryz.underlying22 hi0 v n xs hown
  have hk := h v w (by simpa using hown) ⟨rfl, rfl, rfl, Nat.le_refl _, fun _ _ _ => rfl⟩
  unfold Oper.wp
  simp [execOp, ho, resolve, invoke, builtin, hs, hx, hrun, Result.andThen]
  exact hk
 | some ad =>
  have hnews : ∀ j u, (l.flatMap MT.cells)[j]? = some u → w.cell? (ad.add j) = some u := by
   cases l with
   | nil => intro j u hu; simp at hu
   | cons y r =>
    have hl2 := hl
    obtain ⟨⟨b, o, h, _⟩, _⟩ := hl
    have h2 := Option.some.inj h
    subst h2
    intro j u hu
    rw [Addr.add_mid]
    exact kdM7.flat_at hl2 j u hu
  refine wp_append_own w s x 22 ho base 39 i0 _ 4 88 Tryz.underlying22 hi0 hz0 hz1 hz2 rfl (by decide) v n xs hs hown ad l.length c (l.flatMap MT.cells) hx (kdM7.flat l) hnews (fun u hu => ?_) (by simp only [maxLen]; omega) ?_ hbase (fun v' w' h1 h2 _ => h v' w' h1 h2)
  ·obtain ⟨y, _, hy⟩ := List.mem_flatMap.1 hu
   exact ones_mod y u hy
  ·exact Nat.le_trans (Nat.mul_le_mul_right 88 hn) (by decide)
theorem own_emptyM (w : World) : (w.alloc (.cells #[] 39)).ownsRow w.heap.size 39 4 (.slice (some ⟨w.heap.size, 0, none⟩) 0 0) 0 [] := ⟨rfl, .inr ⟨w.heap.size, 0, #[], rfl, Nat.le_refl _, World.alloc_heap_new w _, Nat.le_refl _, by decide, rfl, rfl⟩⟩
theorem below_step8 {w v u : World} (h : Below w.heap.size w v) (hb : Below v.heap.size v u) : Below w.heap.size w u := h.trans (hb.mono h.size)
theorem below_alloc8 {w v : World} (h : Below w.heap.size w v) (O : Obj) : Below w.heap.size w (v.alloc O) := h.alloc h.size O
theorem block_step8 {v u : World} {b : Nat} {O : Obj} (hb : Below v.heap.size v u) (h : v.heap[b]? = some O) : u.heap[b]? = some O := (hb.block b (Array.getElem?_eq_some_iff.1 h).1).trans h
theorem far8 {w : World} {g gm : Nat} {x v : Value} (h : w.cell? ⟨g, 0, none⟩ = some x) (hne : gm ≠ g) : (w.setCell ⟨gm, 0, none⟩ v).cell? ⟨g, 0, none⟩ = some x := by
 rw [World.cell?_of_block (w := w) (Below.heap_setCell w ⟨gm, 0, none⟩ v g (fun e => hne e.symm))]; exact h
theorem far89 {w : World} {b k gm : Nat} {x v : Value} (h : w.cell? ⟨b, k, none⟩ = some x) (hne : gm ≠ b) : (w.setCell ⟨gm, 0, none⟩ v).cell? ⟨b, k, none⟩ = some x := by
 rw [World.cell?_of_block (w := w) (Below.heap_setCell w ⟨gm, 0, none⟩ v b (fun e => hne e.symm))]; exact h
theorem own_emptyB {w : World} {B p : Nat} (h : w.heap[p]? = some (Obj.cells #[] 39 (0, 0))) (hB : B ≤ p) : w.ownsRow B 39 4 (.slice (some ⟨p, 0, none⟩) 0 0) 0 [] := ⟨rfl, .inr ⟨p, 0, #[], rfl, hB, h, Nat.le_refl _, by decide, rfl, rfl⟩⟩
theorem grown_ne9 {w w' : World} {p q : Nat} {O : Obj} (hB : w.heap[q]? = some (Obj.cells #[] 39 (0, 0))) (hg : w.grownBy w' (some q)) (h : w.heap[p]? = some O) (hne : O ≠ (Obj.cells #[] 39 (0, 0))) : w'.heap[p]? = some O :=
 (hg.block p (Array.getElem?_eq_some_iff.1 h).1 (fun e => by
   have e2 := Option.some.inj e
   subst e2
   rw [h] at hB
   exact hne (Option.some.inj hB))).trans h
theorem fz_ne9 : (Obj.cells #[.slice none 0 0] 24 (0, 0)) ≠ (Obj.cells #[] 39 (0, 0)) := by intro h; injection h with h1 h2; cases h2
theorem mb_ne9 (nm : Bytes) : (Obj.cells #[.string (bs nm), .slice none 0 0, .slice none 0 0, .slice none 0 0] 39 (0, 0)) ≠ (Obj.cells #[] 39 (0, 0)) := by intro h; injection h with h1 h2; simp at h1
theorem grown_file9 {w w' : World} {p B n : Nat} {v : Value} {xs : List Value} (ho : w.ownsRow B 39 4 v n xs) (hg : w.grownBy w' v.ownBlock) (h : w.heap[p]? = some (Obj.cells #[.slice none 0 0] 24 (0, 0))) : w'.heap[p]? = some (Obj.cells #[.slice none 0 0] 24 (0, 0)) :=
 (hg.block p (Array.getElem?_eq_some_iff.1 h).1 (fun e => by
   obtain ⟨cur, h2⟩ := own_ty7 ho e.symm
   rw [h] at h2
   injection h2 with h3
   injection h3 with h4 h5
   cases h5)).trans h
theorem grown_low9 {V w w' : World} {n : Nat} {v : Value} {xs : List Value} (hb : Below V.heap.size V w) (ho : w.ownsRow V.heap.size 39 4 v n xs) (hg : w.grownBy w' v.ownBlock) : Below V.heap.size V w' := hb.grown hg hb.size (fun q hq => (ho.lt q hq).1)
theorem inrow_mod9 {w : World} {p : Nat} {nm : Bytes} (h : w.heap[p]? = some (Obj.cells #[.string (bs nm), .slice none 0 0, .slice none 0 0, .slice none 0 0] 39 (0, 0))) : InRow 4 MT.cells (fun _ => True) w.heap.size w [soleM nm [] none 0] (some ⟨p, 0, none⟩) := by
 refine ⟨⟨p, 0, rfl, (Array.getElem?_eq_some_iff.1 h).1, fun j v hv => ?_⟩, trivial, trivial⟩
 simp only [World.cell?, h]
 simpa [soleM, MT.cells] using hv
theorem fi_again {V w6 : World} {n0 b6 c6 : Nat} {ma : Option Addr} {ml : List MT} {nm : Bytes} (hlow : Below V.heap.size V w6) (hn0 : n0 ≤ V.heap.size) (hin : InRow 4 MT.cells (MT.In n0 V) n0 V ml ma) (own6 : w6.ownsRow V.heap.size 39 4 (.slice (some ⟨b6, 0, none⟩) (ml.length + 1) c6) (ml.length + 1) (ml.flatMap MT.cells ++ MT.cells (soleM nm [] none 0))) (hwf : MT.WfL ml) (hbk : MT.bkL ml ≤ 4200000) (hnm : nm.length ≤ 64) (hck : checkP ⟨some ⟨b6, 0, none⟩, c6, ml ++ [soleM nm [] none 0]⟩ = 70) : FI w6 (some ⟨b6, 0, none⟩) (ml.length + 1) c6 70 := by
 have hbl := own6.lt b6 rfl
 refine ⟨ml ++ [soleM nm [] none 0], by simp, ?_, ?_, ?_, hck⟩
 ·have hold : ∀ y ∈ ml, MT.In w6.heap.size w6 y := fun y hy => MT.In.less (Nat.le_trans hn0 hlow.size) _ (MT.In.keep (Below.keptTo hlow hn0) _ (InRow.all hin y hy))
  show InRow 4 MT.cells (MT.In w6.heap.size w6) w6.heap.size w6 (ml ++ [soleM nm [] none 0]) (some ⟨b6, 0, none⟩)
  refine Kd.row kdM7 hbl.2 (fun j u hu => ?_) (fun y hy => ?_)
  ·rw [List.flatMap_append] at hu
   have hu : (ml.flatMap MT.cells ++ ([soleM nm [] none 0].flatMap MT.cells))[j]? = some u := hu
   rw [show [soleM nm [] none 0].flatMap MT.cells = MT.cells (soleM nm [] none 0) by simp] at hu
   have h9 := own6.cells (g := b6) rfl j u hu
   rw [Addr.add_mid] at h9
   exact h9
  ·rcases List.mem_append.1 hy with h | h
   ·exact hold y h
   ·rw [List.mem_singleton.1 h]; exact ⟨trivial, trivial, trivial⟩
 ·rw [MT.wfL_iff] at hwf ⊢
  intro y hy
  rcases List.mem_append.1 hy with h | h
  ·exact hwf y h
  ·rw [List.mem_singleton.1 h]; exact ⟨trivial, trivial, trivial⟩
 ·show 1 + MT.bkL (ml ++ [soleM nm [] none 0]) ≤ _
  rw [MT.bkL_sum, List.map_append, List.sum_append, ← MT.bkL_sum]
  simp only [List.map_cons, List.map_nil, List.sum_cons, List.sum_nil, soleM, MT.bk, BT.bkL, PT.bkL, IT.bkL]
  omega
theorem name_len9 {t : Bytes} (ht : isNameB t = true) : t.length ≤ 64 := by
 cases t with
 | nil => simp
 | cons c r =>
  unfold isNameB at ht
  simp only [Bool.and_eq_true, decide_eq_true_eq, Bool.not_eq_true'] at ht
  exact ht.2.1
theorem step_A1 {w : World} {ops : Array Oper} {o : Oper} {a : Act} {K : Act → World → Prop} {Q : Exit → Act → World → Prop} {E : Prop} (V : World) (ma : Option Addr) (mc : Nat) (ml : List MT) (p : Nat) (hw : Region.wanted o (yielded ops a.tmps) = true)
  (ho : o.op = .call { callee := .builtin .append, args := #[.tmp 39, .tmp 41], argTypes := #[22, 22] })
  (hs : a.eval (.tmp 39) = .slice (some ⟨p, 0, none⟩) 0 0) (hx : a.eval (.tmp 41) = .slice ma ml.length mc) (hc : ma = none → mc = 0) (hEB : w.heap[p]? = some (Obj.cells #[] 39 (0, 0))) (hlow : Below V.heap.size V w) (hp : V.heap.size ≤ p) (inn : MT → Prop) (n0 : Nat) (hl : InRow 4 MT.cells inn n0 w ml ma) (hn : ml.length ≤ 4500000)
  (h : ∀ (v' : Value) (w' : World), w'.ownsRow V.heap.size 39 4 v' ml.length (ml.flatMap MT.cells) → Below V.heap.size V w' → (∀ (q : Nat) (O : Obj), w.heap[q]? = some O → O ≠ (Obj.cells #[] 39 (0, 0)) → w'.heap[q]? = some O) → K (a.put o.dst v') w') :
  if Region.wanted o (yielded ops a.tmps) = true then Oper.wp Tryz.prog o a w K Q else E := by
 refine step_append_mods9 hw (.tmp 39) (.tmp 41) ho V.heap.size _ 0 [] hs (own_emptyB hEB hp) ma ml mc hx hc inn n0 hl (by omega) hlow.size (fun v' w' h1 h2 => ?_)
 rw [Nat.zero_add, List.nil_append] at h1
 exact h v' w' h1 (grown_low9 hlow (own_emptyB hEB hp) h2) (fun q O hq hne => grown_ne9 hEB h2 hq hne)
theorem step_A2 {w : World} {ops : Array Oper} {o : Oper} {a : Act} {K : Act → World → Prop} {Q : Exit → Act → World → Prop} {E : Prop} (V : World) (ml : List MT) (nm : Bytes) (v5 : Value) (p : Nat) (hw : Region.wanted o (yielded ops a.tmps) = true)
  (ho : o.op = .call { callee := .builtin .append, args := #[.tmp 42, .tmp 50], argTypes := #[22, 22] })
  (hs : a.eval (.tmp 42) = v5) (hx : a.eval (.tmp 50) = .slice (some ⟨p, 0, none⟩) 1 1) (hown : w.ownsRow V.heap.size 39 4 v5 ml.length (ml.flatMap MT.cells)) (hMB : w.heap[p]? = some (Obj.cells #[.string (bs nm), .slice none 0 0, .slice none 0 0, .slice none 0 0] 39 (0, 0))) (hlow : Below V.heap.size V w) (hn : ml.length ≤ 4500000)
  (h : ∀ (b6 c6 : Nat) (w' : World), w'.ownsRow V.heap.size 39 4 (.slice (some ⟨b6, 0, none⟩) (ml.length + 1) c6) (ml.length + 1) (ml.flatMap MT.cells ++ MT.cells (soleM nm [] none 0)) → Below V.heap.size V w' → (∀ (q : Nat), w.heap[q]? = some (Obj.cells #[.slice none 0 0] 24 (0, 0)) → w'.heap[q]? = some (Obj.cells #[.slice none 0 0] 24 (0, 0))) → K (a.put o.dst (.slice (some ⟨b6, 0, none⟩) (ml.length + 1) c6)) w') :
  if Region.wanted o (yielded ops a.tmps) = true then Oper.wp Tryz.prog o a w K Q else E := by
 refine step_append_mods9 hw (.tmp 42) (.tmp 50) ho V.heap.size v5 ml.length (ml.flatMap MT.cells) hs hown (some ⟨p, 0, none⟩) [soleM nm [] none 0] 1 hx (by intro h; cases h) (fun _ => True) w.heap.size (inrow_mod9 hMB) (by simp; omega) hlow.size (fun v' w' h1 h2 => ?_)
 rw [show ml.length + [soleM nm [] none 0].length = ml.length + 1 from rfl, show [soleM nm [] none 0].flatMap MT.cells = MT.cells (soleM nm [] none 0) by simp] at h1
 obtain ⟨b6, c6, rfl⟩ := own_some h1 (by omega)
 exact h b6 c6 w' h1 (grown_low9 hlow hown h2) (fun q hq => grown_file9 hown h2 hq)
theorem kb5 (v : World) {u : World} (hk : ∀ (q : Nat) (O : Obj), v.heap[q]? = some O → O ≠ (Obj.cells #[] 39 (0, 0)) → u.heap[q]? = some O) {q : Nat} {O : Obj} (h : v.heap[q]? = some O) (hne : O ≠ (Obj.cells #[] 39 (0, 0))) : u.heap[q]? = some O := hk q O h hne
theorem kb6 (v : World) {u : World} (hk : ∀ (q : Nat), v.heap[q]? = some (Obj.cells #[.slice none 0 0] 24 (0, 0)) → u.heap[q]? = some (Obj.cells #[.slice none 0 0] 24 (0, 0))) {q : Nat} (h : v.heap[q]? = some (Obj.cells #[.slice none 0 0] 24 (0, 0))) : u.heap[q]? = some (Obj.cells #[.slice none 0 0] 24 (0, 0)) := hk q h
set_option maxHeartbeats 16000000 in
set_option maxRecDepth 100000 in
theorem twice_law (W : World) (n0 : Nat) (f : FT) (kk n : Int) (hn0 : n0 ≤ W.heap.size) (he : EnvA W) (hwf : f.Wf) (hin : f.In n0 W) (hbk : f.bk ≤ 4200000) (hcaps : ∀ m ∈ f.ml, m.ia = none → m.ic = 0) (hmc : f.ma = none → f.mc = 0) :
  Calls Tryz.prog 5 #[f.val, .int .i64 kk, .int .i64 n] W fun e W' => e = .returned (.bool true) ∧ Below W.heap.size W W' := by
 obtain ⟨ma, mc, ml⟩ := f
 have hbl : MT.bkL ml ≤ 4200000 := by have : 1 + MT.bkL ml ≤ 4200000 := hbk; omega
 have hll := MT.bkL_len ml
 have hsz : FT.sz ⟨ma, mc, ml⟩ ≤ 4500000 := by have := MT.szL_bk ml; show MT.szL ml ≤ _; omega
 obtain ⟨g, hg⟩ : ∃ g, W.heap.size = g := ⟨_, rfl⟩
 obtain ⟨W1, hW1⟩ : ∃ W1, W.alloc (.cells #[.slice ma ml.length mc] 24) = W1 := ⟨_, rfl⟩
 have hB1 : Below W.heap.size W W1 := by rw [← hW1]; exact (Below.refl _ _).alloc (Nat.le_refl _) _
 have hwo : Wo7 W W1 n0 g ⟨ma, mc, ml⟩ := ⟨he.keep hB1, hB1, Nat.le_trans hn0 hB1.size, FT.In.keep (Below.keptTo hB1 hn0) _ hin, by rw [← hW1, ← hg]; exact World.alloc_heap_new W _⟩
 have HO := Lib.hid hwo
 have HWF := Lib.hid hwf
 have HS := Lib.hid hsz
 have HBK := Lib.hid hbk
 have HGW := Lib.hid hg
 have HCP := Lib.hid hcaps
 have HMC : Hid (ma = none → mc = 0) := Lib.hid hmc
 simp only [FT.val, FT.cells]
 clear he hwf hin hB1 hwo hsz hbk hcaps hmc
 go_enter Tryz.func5, Tryz.ntmps5
 go_wp2_with fail
 (try rw [hW1])
 refine (live7_any _ HO.out.env).mono ?_
 rintro e V1 ⟨rfl, hb⟩
 replace HO := Lib.hid (HO.out.keep hb)
 clear hW1 hb
 have y0 := (cell_of_box_1 HO.out.box).1
 have q2 := few7_any ⟨ma, mc, ml⟩ HS.out n0 V1 HO.out.hn HO.out.fin
 obtain ⟨fw, hfw⟩ : ∃ b, (decide (FT.sz ⟨ma, mc, ml⟩ ≤ 2000) && decide (FT.dp ⟨ma, mc, ml⟩ ≤ 100)) = b := ⟨_, rfl⟩
 have HFW := Lib.hid hfw
 rw [hfw] at q2
 simp only [FT.val, FT.cells] at q2
 clear hfw
 go_wp2_with fail
 refine q2.mono ?_
 rintro e V2 ⟨rfl, hb⟩
 replace HO := Lib.hid (HO.out.keep hb)
 clear hb y0 q2
 have y0 := (cell_of_box_1 HO.out.box).1
 cases fw with
 | false =>
  go_wp2
  go_ret
  exact ⟨rfl, HO.out.low⟩
 | true =>
  obtain ⟨CP, hCP⟩ : ∃ CP, checkP ⟨ma, mc, ml⟩ = CP := ⟨_, rfl⟩
  have qc := namesCheck_any V2 n0 ⟨ma, mc, ml⟩ HO.out.hn HO.out.env HWF.out HO.out.fin (Nat.le_trans HBK.out (by omega))
  rw [hCP] at qc
  simp only [FT.val, FT.cells] at qc
  have HCK := Lib.hid hCP
  clear hCP
  go_wp2_with fail
  refine qc.mono ?_
  rintro e V4 ⟨rfl, hb⟩
  replace HO := Lib.hid (HO.out.keep hb)
  clear hb y0 qc
  have y0 := (cell_of_box_1 HO.out.box).1
  by_cases hc0 : CP ≠ 0
  ·have e1 : (CP != 0) = true := by simpa using hc0
   go_wp2
   go_ret
   exact ⟨rfl, HO.out.low⟩
  ·replace hc0 : CP = 0 := Decidable.byContradiction hc0
   subst hc0
   by_cases hneg : kk < 0
   ·have d5 : decide (kk < 0) = true := by simpa using hneg
    go_wp2
    go_ret
    exact ⟨rfl, HO.out.low⟩
   ·have d5 : decide (kk < 0) = false := by simpa using hneg
    by_cases hbig : (ml.length : Int) ≤ kk
    ·have d6 : decide ((ml.length : Int) ≤ kk) = true := by simpa using hbig
     go_wp2
     go_ret
     exact ⟨rfl, HO.out.low⟩
    ·have d6 : decide ((ml.length : Int) ≤ kk) = false := by simpa using hbig
     obtain ⟨j, rfl⟩ := Int.eq_ofNat_of_zero_le (show 0 ≤ kk by omega)
     have hj : j < ml.length := by omega
     have hj2 : (j : Int) < (ml.length : Int) := by omega
     have hj3 : (0 : Int) ≤ (j : Int) := by omega
     have d6b : decide (ml.length ≤ j) = false := by rw [decide_eq_false_iff_not]; omega
     by_cases hmax : 64 ≤ ml.length
     ·have d7 : decide (64 ≤ ml.length) = true := by simpa using hmax
      have d8 : decide ((64 : Int) ≤ (ml.length : Int)) = true := by rw [decide_eq_true_eq]; omega
      go_wp2
      go_ret
      exact ⟨rfl, HO.out.low⟩
     ·have d7 : decide (64 ≤ ml.length) = false := by simpa using hmax
      have d8 : decide ((64 : Int) ≤ (ml.length : Int)) = false := by rw [decide_eq_false_iff_not]; omega
      have hsz2 : FT.sz ⟨ma, mc, ml⟩ ≤ 2000 := by have := HFW.out; simp only [Bool.and_eq_true, decide_eq_true_eq] at this; exact this.1
      have HAG := Lib.hid (fun (a : Option Addr) (c : Nat) => again_check (f := ⟨ma, mc, ml⟩) (a := a) (c := c) HCK.out hsz2 (k := j) hj (Nat.lt_of_not_le hmax))
      have HTA := Lib.hid (fun (n : Bytes) (hn : n ∈ (toldM ml[j]).1) (z : Nat) (a ia : Option Addr) (c ic : Nat) => told_again (f := ⟨ma, mc, ml⟩) (a := a) (c := c) (ia := ia) (ic := ic) HCK.out hsz2 (k := j) hj hn (told_names (f := ⟨ma, mc, ml⟩) HCK.out (k := j) hj n hn) z)
      obtain ⟨b, o, rfl, hb, hr, hmi⟩ := InRow.at HO.out.fin hj
      have r0 : V4.cell? ⟨b, o + j * 4, none⟩ = some (.string (bs ml[j].nm)) := hr 0 _ rfl
      have hnml : ml[j].nm.length ≤ 64 := (HAG.out none 0).2
      obtain ⟨nm, hnm⟩ : ∃ nm, ml[j].nm = nm := ⟨_, rfl⟩
      rw [hnm] at r0 hnml
      have HNM := Lib.hid hnm
      clear hnm hr hb hmi
      go_upto_region 6 with (fail)
      go_cut [8] from 39 to 52 (fun p wx => ∃ gm : Nat, p = .pointer (some ⟨gm, 0, none⟩) ∧ PutAt V4 wx gm (ml.length + 1) (fun cv => cv = 70))
      case first =>
       have HROW := Lib.hid (fun (V : World) (hV : Below V4.heap.size V4 V) => (show InRow 4 MT.cells (MT.In n0 V) n0 V ml (some ⟨b, o, none⟩) from FT.In.keep (Below.keptTo hV HO.out.hn) _ HO.out.fin))
       have HFI := Lib.hid (fun (b6 c6 : Nat) (w6 : World) (hlow : Below V4.heap.size V4 w6) own6 => fi_again hlow HO.out.hn HO.out.fin own6 HWF.out hbl hnml (by have h9 := (HAG.out (some ⟨b6, 0, none⟩) c6).1; simp only [HNM.out] at h9; exact h9))
       have HBc := Lib.hid ((Below.refl V4.heap.size V4).drew)
       have y0A := fun O => alloc_cell y0 O
       have y0B := fun O O' => alloc_cell (alloc_cell y0 O) O'
       have r0A := fun O => alloc_cell r0 O
       have r0B := fun O O' => alloc_cell (alloc_cell r0 O) O'
       have hgl := cell_lt y0
       have hbl4 := cell_lt r0
       have hll9 : ml.length ≤ 4500000 := by omega
       clear HAG HTA HNM HO HFW HWF HS HBK HGW HCP HCK
       clear hbl hll hn0 d5 d6 d6b d7 d8 hneg hbig hmax hnml
       go_region_held3 (fun u1 => u1.cell? ⟨g, 0, none⟩ = some (.slice (some ⟨b, o, none⟩) ml.length mc) ∧ u1.cell? ⟨b, o + j * 4, none⟩ = some (.string (bs nm))) (first | exact ⟨y0, r0⟩ | exact ⟨y0A _, r0A _⟩ | exact ⟨y0B _ _, r0B _ _⟩ | exact ⟨y9, r9⟩ | exact ⟨y9A _, r9A _⟩ | exact ⟨y9B _ _, r9B _ _⟩ | exact ⟨y9C _ _ _, r9C _ _ _⟩ | exact ⟨far89 y9 (by omega), far89 r9 (by omega)⟩) (first | (go_at_call 17; refine (module7_any nm none 0 0 _).mono ?_; rintro e w7 ⟨rfl, hb7⟩; have HBn := Lib.hid (below_step8 (by first | exact HBc.out | exact below_alloc8 (HBc.out) _ | exact below_alloc8 (below_alloc8 (HBc.out) _) _ | exact below_alloc8 (below_alloc8 (below_alloc8 (HBc.out) _) _) _ | exact below_alloc8 (below_alloc8 (below_alloc8 (below_alloc8 (HBc.out) _) _) _) _) hb7); (first | (have hg9 := block_step8 hb7 (hE0); have hE9 := hg9; clear hg9) | (have hg9 := block_step8 hb7 (block_alloc (hE0) _); have hE9 := hg9; clear hg9) | (have hg9 := block_step8 hb7 (block_alloc (block_alloc (hE0) _) _); have hE9 := hg9; clear hg9) | (have hg9 := block_step8 hb7 (block_alloc (block_alloc (block_alloc (hE0) _) _) _); have hE9 := hg9; clear hg9) | (have hg9 : w7.heap[V4.heap.size]? = some (Obj.cells #[] 39 (0, 0)) := (by exact block_step8 (v := (V4.drew).alloc (Obj.cells #[] 39)) hb7 (alloc_at8 (by first | rfl | (simp only [World.size_alloc]; omega) | (simp; done)))); have hE9 := hg9; clear hg9) | (have hg9 : w7.heap[V4.heap.size]? = some (Obj.cells #[] 39 (0, 0)) := (by exact block_step8 (v := ((V4.drew).alloc (Obj.cells #[] 39)).alloc _) hb7 (block_alloc (alloc_at8 (by first | rfl | (simp only [World.size_alloc]; omega) | (simp; done))) _)); have hE9 := hg9; clear hg9) | (have hg9 : w7.heap[V4.heap.size + 1]? = some (Obj.cells #[] 39 (0, 0)) := (by exact block_step8 (v := ((V4.drew).alloc _).alloc (Obj.cells #[] 39)) hb7 (alloc_at8 (by first | rfl | (simp only [World.size_alloc]; omega) | (simp; done)))); have hE9 := hg9; clear hg9) | skip); (first | (have hg9 := block_step8 hb7 (hL9); have hL9 := hg9; clear hg9) | (have hg9 := block_step8 hb7 (block_alloc (hL9) _); have hL9 := hg9; clear hg9) | (have hg9 := block_step8 hb7 (block_alloc (block_alloc (hL9) _) _); have hL9 := hg9; clear hg9) | (have hg9 := block_step8 hb7 (block_alloc (block_alloc (block_alloc (hL9) _) _) _); have hL9 := hg9; clear hg9) | (have hg9 : w7.heap[V4.heap.size]? = some (Obj.cells #[.slice none 0 0] 24 (0, 0)) := (by exact block_step8 (v := (V4.drew).alloc (Obj.cells #[.slice none 0 0] 24)) hb7 (alloc_at8 (by first | rfl | (simp only [World.size_alloc]; omega) | (simp; done)))); have hL9 := hg9; clear hg9) | (have hg9 : w7.heap[V4.heap.size]? = some (Obj.cells #[.slice none 0 0] 24 (0, 0)) := (by exact block_step8 (v := ((V4.drew).alloc (Obj.cells #[.slice none 0 0] 24)).alloc _) hb7 (block_alloc (alloc_at8 (by first | rfl | (simp only [World.size_alloc]; omega) | (simp; done))) _)); have hL9 := hg9; clear hg9) | (have hg9 : w7.heap[V4.heap.size + 1]? = some (Obj.cells #[.slice none 0 0] 24 (0, 0)) := (by exact block_step8 (v := ((V4.drew).alloc _).alloc (Obj.cells #[.slice none 0 0] 24)) hb7 (alloc_at8 (by first | rfl | (simp only [World.size_alloc]; omega) | (simp; done)))); have hL9 := hg9; clear hg9) | (have hg9 : w7.heap[w5.heap.size]? = some (Obj.cells #[.slice none 0 0] 24 (0, 0)) := (by exact block_step8 (v := (w5).alloc (Obj.cells #[.slice none 0 0] 24)) hb7 (alloc_at8 (by first | rfl | (simp only [World.size_alloc]; omega) | (simp; done)))); have hL9 := hg9; clear hg9) | skip); (first | (have hg9 := below_own_row (own5) hb7; have own5 := hg9; clear hg9) | (have hg9 := below_own_row (own5.alloc _) hb7; have own5 := hg9; clear hg9) | skip); have y9 := keep_cell HBn.out y0; have r9 := keep_cell HBn.out r0; have y9A := fun O => alloc_cell y9 O; have r9A := fun O => alloc_cell r9 O; have y9B := fun O O' => alloc_cell (alloc_cell y9 O) O'; have r9B := fun O O' => alloc_cell (alloc_cell r9 O) O'; have y9C := fun O O' O'' => alloc_cell (alloc_cell (alloc_cell y9 O) O') O''; have r9C := fun O O' O'' => alloc_cell (alloc_cell (alloc_cell r9 O) O') O''; have hz9 := HBn.out.size; have HBc := HBn; clear hb7 HBn) | (refine step_A1 V4 (some ⟨b, o, none⟩) mc ml _ (by rfl) rfl rfl rfl HMC.out (by first | exact hE9 | exact block_alloc (hE9) _ | exact block_alloc (block_alloc (hE9) _) _ | exact block_alloc (block_alloc (block_alloc (hE9) _) _) _ | exact alloc_at8 (by first | rfl | (simp only [World.size_alloc]; omega) | (simp; done)) | exact block_alloc (alloc_at8 (by first | rfl | (simp only [World.size_alloc]; omega) | (simp; done))) _ | exact block_alloc (block_alloc (alloc_at8 (by first | rfl | (simp only [World.size_alloc]; omega) | (simp; done))) _) _ | exact block_alloc (block_alloc (block_alloc (alloc_at8 (by first | rfl | (simp only [World.size_alloc]; omega) | (simp; done))) _) _) _) (by first | exact HBc.out | exact below_alloc8 (HBc.out) _ | exact below_alloc8 (below_alloc8 (HBc.out) _) _ | exact below_alloc8 (below_alloc8 (below_alloc8 (HBc.out) _) _) _ | exact below_alloc8 (below_alloc8 (below_alloc8 (below_alloc8 (HBc.out) _) _) _) _) (by first | exact Nat.le_refl _ | omega) (MT.In n0 _) n0 (HROW.out _ (by first | exact HBc.out | exact below_alloc8 (HBc.out) _ | exact below_alloc8 (below_alloc8 (HBc.out) _) _ | exact below_alloc8 (below_alloc8 (below_alloc8 (HBc.out) _) _) _ | exact below_alloc8 (below_alloc8 (below_alloc8 (below_alloc8 (HBc.out) _) _) _) _)) (by omega) ?_; intro v5 w5 own5 hbn hk5; have HBn := Lib.hid hbn; (first | (have hg9 := kb5 (_) hk5 (hL9) fz_ne9; have hL9 := hg9; clear hg9) | (have hg9 := kb5 (_) hk5 (block_alloc (hL9) _) fz_ne9; have hL9 := hg9; clear hg9) | (have hg9 := kb5 (_) hk5 (block_alloc (block_alloc (hL9) _) _) fz_ne9; have hL9 := hg9; clear hg9) | (have hg9 := kb5 (_) hk5 (block_alloc (block_alloc (block_alloc (hL9) _) _) _) fz_ne9; have hL9 := hg9; clear hg9) | (have hg9 : w5.heap[V4.heap.size]? = some (Obj.cells #[.slice none 0 0] 24 (0, 0)) := (by exact kb5 ((V4.drew).alloc (Obj.cells #[.slice none 0 0] 24)) hk5 (alloc_at8 (by first | rfl | (simp only [World.size_alloc]; omega) | (simp; done))) fz_ne9); have hL9 := hg9; clear hg9) | (have hg9 : w5.heap[V4.heap.size]? = some (Obj.cells #[.slice none 0 0] 24 (0, 0)) := (by exact kb5 (((V4.drew).alloc (Obj.cells #[.slice none 0 0] 24)).alloc _) hk5 (block_alloc (alloc_at8 (by first | rfl | (simp only [World.size_alloc]; omega) | (simp; done))) _) fz_ne9); have hL9 := hg9; clear hg9) | (have hg9 : w5.heap[V4.heap.size + 1]? = some (Obj.cells #[.slice none 0 0] 24 (0, 0)) := (by exact kb5 (((V4.drew).alloc _).alloc (Obj.cells #[.slice none 0 0] 24)) hk5 (alloc_at8 (by first | rfl | (simp only [World.size_alloc]; omega) | (simp; done))) fz_ne9); have hL9 := hg9; clear hg9) | (have hg9 : w5.heap[w7.heap.size]? = some (Obj.cells #[.slice none 0 0] 24 (0, 0)) := (by exact kb5 ((w7).alloc (Obj.cells #[.slice none 0 0] 24)) hk5 (alloc_at8 (by first | rfl | (simp only [World.size_alloc]; omega) | (simp; done))) fz_ne9); have hL9 := hg9; clear hg9) | (have hg9 : w5.heap[w7.heap.size]? = some (Obj.cells #[.slice none 0 0] 24 (0, 0)) := (by exact kb5 (((w7).alloc (Obj.cells #[.slice none 0 0] 24)).alloc _) hk5 (block_alloc (alloc_at8 (by first | rfl | (simp only [World.size_alloc]; omega) | (simp; done))) _) fz_ne9); have hL9 := hg9; clear hg9) | (have hg9 : w5.heap[w7.heap.size + 1]? = some (Obj.cells #[.slice none 0 0] 24 (0, 0)) := (by exact kb5 (((w7).alloc _).alloc (Obj.cells #[.slice none 0 0] 24)) hk5 (alloc_at8 (by first | rfl | (simp only [World.size_alloc]; omega) | (simp; done))) fz_ne9); have hL9 := hg9; clear hg9) | (have hg9 : w5.heap[w7.heap.size]? = some (Obj.cells #[.slice none 0 0] 24 (0, 0)) := (by exact kb5 ((((w7).alloc (Obj.cells #[.slice none 0 0] 24)).alloc _).alloc _) hk5 (block_alloc (block_alloc (alloc_at8 (by first | rfl | (simp only [World.size_alloc]; omega) | (simp; done))) _) _) fz_ne9); have hL9 := hg9; clear hg9) | (have hg9 : w5.heap[w7.heap.size + 1]? = some (Obj.cells #[.slice none 0 0] 24 (0, 0)) := (by exact kb5 ((((w7).alloc _).alloc (Obj.cells #[.slice none 0 0] 24)).alloc _) hk5 (block_alloc (alloc_at8 (by first | rfl | (simp only [World.size_alloc]; omega) | (simp; done))) _) fz_ne9); have hL9 := hg9; clear hg9) | (have hg9 : w5.heap[w7.heap.size + 1 + 1]? = some (Obj.cells #[.slice none 0 0] 24 (0, 0)) := (by exact kb5 ((((w7).alloc _).alloc _).alloc (Obj.cells #[.slice none 0 0] 24)) hk5 (alloc_at8 (by first | rfl | (simp only [World.size_alloc]; omega) | (simp; done))) fz_ne9); have hL9 := hg9; clear hg9) | skip); (first | (have hg9 := kb5 (_) hk5 (hD0) (mb_ne9 _); have hD9 := hg9; clear hg9) | (have hg9 := kb5 (_) hk5 (block_alloc (hD0) _) (mb_ne9 _); have hD9 := hg9; clear hg9) | (have hg9 := kb5 (_) hk5 (block_alloc (block_alloc (hD0) _) _) (mb_ne9 _); have hD9 := hg9; clear hg9) | (have hg9 := kb5 (_) hk5 (block_alloc (block_alloc (block_alloc (hD0) _) _) _) (mb_ne9 _); have hD9 := hg9; clear hg9) | (have hg9 : w5.heap[w7.heap.size]? = some (Obj.cells #[.string (bs nm), .slice none 0 0, .slice none 0 0, .slice none 0 0] 39 (0, 0)) := (by exact kb5 ((w7).alloc (Obj.cells #[.string (bs nm), .slice none 0 0, .slice none 0 0, .slice none 0 0] 39)) hk5 (alloc_at8 (by first | rfl | (simp only [World.size_alloc]; omega) | (simp; done))) (mb_ne9 _)); have hD9 := hg9; clear hg9) | (have hg9 : w5.heap[w7.heap.size]? = some (Obj.cells #[.string (bs nm), .slice none 0 0, .slice none 0 0, .slice none 0 0] 39 (0, 0)) := (by exact kb5 (((w7).alloc (Obj.cells #[.string (bs nm), .slice none 0 0, .slice none 0 0, .slice none 0 0] 39)).alloc _) hk5 (block_alloc (alloc_at8 (by first | rfl | (simp only [World.size_alloc]; omega) | (simp; done))) _) (mb_ne9 _)); have hD9 := hg9; clear hg9) | (have hg9 : w5.heap[w7.heap.size + 1]? = some (Obj.cells #[.string (bs nm), .slice none 0 0, .slice none 0 0, .slice none 0 0] 39 (0, 0)) := (by exact kb5 (((w7).alloc _).alloc (Obj.cells #[.string (bs nm), .slice none 0 0, .slice none 0 0, .slice none 0 0] 39)) hk5 (alloc_at8 (by first | rfl | (simp only [World.size_alloc]; omega) | (simp; done))) (mb_ne9 _)); have hD9 := hg9; clear hg9) | (have hg9 : w5.heap[w7.heap.size]? = some (Obj.cells #[.string (bs nm), .slice none 0 0, .slice none 0 0, .slice none 0 0] 39 (0, 0)) := (by exact kb5 ((((w7).alloc (Obj.cells #[.string (bs nm), .slice none 0 0, .slice none 0 0, .slice none 0 0] 39)).alloc _).alloc _) hk5 (block_alloc (block_alloc (alloc_at8 (by first | rfl | (simp only [World.size_alloc]; omega) | (simp; done))) _) _) (mb_ne9 _)); have hD9 := hg9; clear hg9) | (have hg9 : w5.heap[w7.heap.size + 1]? = some (Obj.cells #[.string (bs nm), .slice none 0 0, .slice none 0 0, .slice none 0 0] 39 (0, 0)) := (by exact kb5 ((((w7).alloc _).alloc (Obj.cells #[.string (bs nm), .slice none 0 0, .slice none 0 0, .slice none 0 0] 39)).alloc _) hk5 (block_alloc (alloc_at8 (by first | rfl | (simp only [World.size_alloc]; omega) | (simp; done))) _) (mb_ne9 _)); have hD9 := hg9; clear hg9) | (have hg9 : w5.heap[w7.heap.size + 1 + 1]? = some (Obj.cells #[.string (bs nm), .slice none 0 0, .slice none 0 0, .slice none 0 0] 39 (0, 0)) := (by exact kb5 ((((w7).alloc _).alloc _).alloc (Obj.cells #[.string (bs nm), .slice none 0 0, .slice none 0 0, .slice none 0 0] 39)) hk5 (alloc_at8 (by first | rfl | (simp only [World.size_alloc]; omega) | (simp; done))) (mb_ne9 _)); have hD9 := hg9; clear hg9) | skip); have y9 := keep_cell HBn.out y0; have r9 := keep_cell HBn.out r0; have y9A := fun O => alloc_cell y9 O; have r9A := fun O => alloc_cell r9 O; have y9B := fun O O' => alloc_cell (alloc_cell y9 O) O'; have r9B := fun O O' => alloc_cell (alloc_cell r9 O) O'; have y9C := fun O O' O'' => alloc_cell (alloc_cell (alloc_cell y9 O) O') O''; have r9C := fun O O' O'' => alloc_cell (alloc_cell (alloc_cell r9 O) O') O''; have hz9 := HBn.out.size; have HBc := HBn; clear hbn hk5 HBn) | (refine step_A2 V4 ml nm _ _ (by rfl) rfl rfl rfl (by first | exact own5 | exact own5.alloc _ | exact (own5.alloc _).alloc _ | exact ((own5.alloc _).alloc _).alloc _) (by first | exact hD9 | exact block_alloc (hD9) _ | exact block_alloc (block_alloc (hD9) _) _ | exact block_alloc (block_alloc (block_alloc (hD9) _) _) _ | exact alloc_at8 (by first | rfl | (simp only [World.size_alloc]; omega) | (simp; done)) | exact block_alloc (alloc_at8 (by first | rfl | (simp only [World.size_alloc]; omega) | (simp; done))) _ | exact block_alloc (block_alloc (alloc_at8 (by first | rfl | (simp only [World.size_alloc]; omega) | (simp; done))) _) _ | exact block_alloc (block_alloc (block_alloc (alloc_at8 (by first | rfl | (simp only [World.size_alloc]; omega) | (simp; done))) _) _) _) (by first | exact HBc.out | exact below_alloc8 (HBc.out) _ | exact below_alloc8 (below_alloc8 (HBc.out) _) _ | exact below_alloc8 (below_alloc8 (below_alloc8 (HBc.out) _) _) _ | exact below_alloc8 (below_alloc8 (below_alloc8 (below_alloc8 (HBc.out) _) _) _) _) (by omega) ?_; intro b6 c6 w6 own6 hbn hk6; have HBn := Lib.hid hbn; have HF6 := Lib.hid (HFI.out _ _ _ hbn own6); (first | (have hg9 := kb6 (_) hk6 (hL9); have hL6 := hg9; have z8 := (cell_of_box_1 hL6).1; have f8 := frozen_box7 hL6; clear hg9) | (have hg9 := kb6 (_) hk6 (block_alloc (hL9) _); have hL6 := hg9; have z8 := (cell_of_box_1 hL6).1; have f8 := frozen_box7 hL6; clear hg9) | (have hg9 := kb6 (_) hk6 (block_alloc (block_alloc (hL9) _) _); have hL6 := hg9; have z8 := (cell_of_box_1 hL6).1; have f8 := frozen_box7 hL6; clear hg9) | (have hg9 := kb6 (_) hk6 (block_alloc (block_alloc (block_alloc (hL9) _) _) _); have hL6 := hg9; have z8 := (cell_of_box_1 hL6).1; have f8 := frozen_box7 hL6; clear hg9) | (have hg9 : w6.heap[w5.heap.size]? = some (Obj.cells #[.slice none 0 0] 24 (0, 0)) := (by exact kb6 ((w5).alloc (Obj.cells #[.slice none 0 0] 24)) hk6 (alloc_at8 (by first | rfl | (simp only [World.size_alloc]; omega) | (simp; done)))); have hL6 := hg9; have z8 := (cell_of_box_1 hL6).1; have f8 := frozen_box7 hL6; clear hg9) | (have hg9 : w6.heap[w5.heap.size]? = some (Obj.cells #[.slice none 0 0] 24 (0, 0)) := (by exact kb6 (((w5).alloc (Obj.cells #[.slice none 0 0] 24)).alloc _) hk6 (block_alloc (alloc_at8 (by first | rfl | (simp only [World.size_alloc]; omega) | (simp; done))) _)); have hL6 := hg9; have z8 := (cell_of_box_1 hL6).1; have f8 := frozen_box7 hL6; clear hg9) | (have hg9 : w6.heap[w5.heap.size + 1]? = some (Obj.cells #[.slice none 0 0] 24 (0, 0)) := (by exact kb6 (((w5).alloc _).alloc (Obj.cells #[.slice none 0 0] 24)) hk6 (alloc_at8 (by first | rfl | (simp only [World.size_alloc]; omega) | (simp; done)))); have hL6 := hg9; have z8 := (cell_of_box_1 hL6).1; have f8 := frozen_box7 hL6; clear hg9) | (have hg9 : w6.heap[w7.heap.size]? = some (Obj.cells #[.slice none 0 0] 24 (0, 0)) := (by exact kb6 ((w7).alloc (Obj.cells #[.slice none 0 0] 24)) hk6 (alloc_at8 (by first | rfl | (simp only [World.size_alloc]; omega) | (simp; done)))); have hL6 := hg9; have z8 := (cell_of_box_1 hL6).1; have f8 := frozen_box7 hL6; clear hg9) | (have hg9 : w6.heap[w7.heap.size]? = some (Obj.cells #[.slice none 0 0] 24 (0, 0)) := (by exact kb6 (((w7).alloc (Obj.cells #[.slice none 0 0] 24)).alloc _) hk6 (block_alloc (alloc_at8 (by first | rfl | (simp only [World.size_alloc]; omega) | (simp; done))) _)); have hL6 := hg9; have z8 := (cell_of_box_1 hL6).1; have f8 := frozen_box7 hL6; clear hg9) | (have hg9 : w6.heap[w7.heap.size + 1]? = some (Obj.cells #[.slice none 0 0] 24 (0, 0)) := (by exact kb6 (((w7).alloc _).alloc (Obj.cells #[.slice none 0 0] 24)) hk6 (alloc_at8 (by first | rfl | (simp only [World.size_alloc]; omega) | (simp; done)))); have hL6 := hg9; have z8 := (cell_of_box_1 hL6).1; have f8 := frozen_box7 hL6; clear hg9) | (have hg9 : w6.heap[w7.heap.size]? = some (Obj.cells #[.slice none 0 0] 24 (0, 0)) := (by exact kb6 ((((w7).alloc (Obj.cells #[.slice none 0 0] 24)).alloc _).alloc _) hk6 (block_alloc (block_alloc (alloc_at8 (by first | rfl | (simp only [World.size_alloc]; omega) | (simp; done))) _) _)); have hL6 := hg9; have z8 := (cell_of_box_1 hL6).1; have f8 := frozen_box7 hL6; clear hg9) | (have hg9 : w6.heap[w7.heap.size + 1]? = some (Obj.cells #[.slice none 0 0] 24 (0, 0)) := (by exact kb6 ((((w7).alloc _).alloc (Obj.cells #[.slice none 0 0] 24)).alloc _) hk6 (block_alloc (alloc_at8 (by first | rfl | (simp only [World.size_alloc]; omega) | (simp; done))) _)); have hL6 := hg9; have z8 := (cell_of_box_1 hL6).1; have f8 := frozen_box7 hL6; clear hg9) | (have hg9 : w6.heap[w7.heap.size + 1 + 1]? = some (Obj.cells #[.slice none 0 0] 24 (0, 0)) := (by exact kb6 ((((w7).alloc _).alloc _).alloc (Obj.cells #[.slice none 0 0] 24)) hk6 (alloc_at8 (by first | rfl | (simp only [World.size_alloc]; omega) | (simp; done)))); have hL6 := hg9; have z8 := (cell_of_box_1 hL6).1; have f8 := frozen_box7 hL6; clear hg9) | skip); have y9 := keep_cell HBn.out y0; have r9 := keep_cell HBn.out r0; have y9A := fun O => alloc_cell y9 O; have r9A := fun O => alloc_cell r9 O; have y9B := fun O O' => alloc_cell (alloc_cell y9 O) O'; have r9B := fun O O' => alloc_cell (alloc_cell r9 O) O'; have y9C := fun O O' O'' => alloc_cell (alloc_cell (alloc_cell y9 O) O') O''; have r9C := fun O O' O'' => alloc_cell (alloc_cell (alloc_cell r9 O) O') O''; have hz9 := HBn.out.size; have HBc := HBn; clear hbn hk6 own6 HBn))
       all_goals (go_wp2_with fail; go_meet; first | exact ⟨_, rfl, PutAt.put (by first | exact Nat.le_refl _ | omega) HBc.out rfl HF6.out hL6⟩ | exact ⟨_, rfl, PutAt.new HBc.out rfl HF6.out⟩)
      case rest =>
       obtain ⟨gm, rfl, hpa⟩ := hcut
       generalize wc = w6 at *
       have HPA := Lib.hid hpa
       replace HO := Lib.hid (HO.out.keep hpa.low)
       obtain ⟨aa, ac, cv, hcv, hgb, hfi⟩ := hpa.ex
       subst hcv
       have ga := (cell_of_box_1 hgb).1
       have q7 := hfi.check (Below.refl _ _) HO.out.env
       clear hpa hgb hfi y0 r0
       have y0 := (cell_of_box_1 HO.out.box).1
       go_wp2_with fail
       refine q7.mono ?_
       clear q7 ga
       rintro e V5 ⟨rfl, hb⟩
       replace HO := Lib.hid (HO.out.keep hb)
       clear hb y0 HPA
       have y0 := (cell_of_box_1 HO.out.box).1
       have hmsz : ml[j].sz ≤ 4200000 := by
        have h1 := MT.szL_mem (List.getElem_mem hj)
        have h2 := MT.szL_bk ml
        omega
       obtain ⟨b2, o2, hbo, hb2, hr2, hmi⟩ := InRow.at HO.out.fin hj
       have hbo2 := Option.some.inj hbo
       injection hbo2 with hbo3 hbo4
       subst hbo3
       subst hbo4
       have q9 := refTold_any ml[j] hmsz n0 V5 HO.out.hn hmi
       obtain ⟨TL, hTL⟩ : ∃ T, toldM ml[j] = T := ⟨_, rfl⟩
       rw [hTL] at q9
       have HTL := Lib.hid hTL
       clear hTL hbo hmsz hb2
       obtain ⟨TM, hTM⟩ : ∃ T, ml[j] = T := ⟨_, rfl⟩
       rw [hTM] at hr2 hmi q9
       have HTM := Lib.hid hTM
       clear hTM
       obtain ⟨mn, pa, pc, pl, ta, tc, tl, ia, ic, il⟩ := TM
       have s0 : V5.cell? ⟨b, o + j * 4, none⟩ = some (.string (bs mn)) := hr2 0 _ rfl
       have s1 : V5.cell? ⟨b, o + j * 4 + 1, none⟩ = some (.slice pa pl.length pc) := hr2 1 _ rfl
       have s2 : V5.cell? ⟨b, o + j * 4 + 2, none⟩ = some (.slice ta tl.length tc) := hr2 2 _ rfl
       have s3 : V5.cell? ⟨b, o + j * 4 + 3, none⟩ = some (.slice ia il.length ic) := hr2 3 _ rfl
       simp only [MT.val, MT.cells] at q9
       clear hr2 hmi
       go_wp2_with fail
       refine q9.mono ?_
       clear q9 s0 s1 s2 s3
       rintro e V6 ⟨v, rfl, hv, hb⟩
       obtain ⟨va, vc, rfl, -, hvl⟩ := hv
       replace HO := Lib.hid (HO.out.keep hb)
       clear hb y0
       have y0 := (cell_of_box_1 HO.out.box).1
       have HVL := Lib.hid hvl
       clear hvl
       have hfd : ∀ w : World, (Instr.field 42 (.agg #[.slice va TL.1.length vc, .bool TL.2]) 0).run Tryz.prog w = .ok (.slice va TL.1.length vc) w := fun _ => by kernel_rfl
       by_cases hn0' : n < 0
       ·have c1 : decide (n < 0) = true := by simpa using hn0'
        go_wp2
        go_ret
        first | exact ⟨rfl, HO.out.low⟩ | exact ⟨rfl, by rw [← HGW.out]; exact HO.out.low⟩
       ·have c1 : decide (n < 0) = false := by simpa using hn0'
        by_cases hn1 : (TL.1.length : Int) ≤ n
        ·have c2 : decide ((TL.1.length : Int) ≤ n) = true := by simpa using hn1
         go_wp2
         go_ret
         first | exact ⟨rfl, HO.out.low⟩ | exact ⟨rfl, by rw [← HGW.out]; exact HO.out.low⟩
        ·have c2 : decide ((TL.1.length : Int) ≤ n) = false := by simpa using hn1
         obtain ⟨i, rfl⟩ := Int.eq_ofNat_of_zero_le (show 0 ≤ n by omega)
         have hi : i < TL.1.length := by omega
         have hi2 : (i : Int) < (TL.1.length : Int) := by omega
         have hi3 : (0 : Int) ≤ (i : Int) := by omega
         have c3 : decide (TL.1.length ≤ i) = false := by rw [decide_eq_false_iff_not]; omega
         obtain ⟨ub, uo, rfl, hucl⟩ := (HVL.out).resolve_left (by intro h; rw [h] at hi; cases hi)
         have u0 : V6.cell? ⟨ub, uo + i, none⟩ = some (.string (bs TL.1[i])) := hucl i hi
         have hmem : TL.1[i] ∈ TL.1 := List.getElem_mem hi
         obtain ⟨tn, htn⟩ : ∃ t, TL.1[i] = t := ⟨_, rfl⟩
         rw [htn] at u0 hmem
         clear hucl htn
         have hmem2 : tn ∈ (toldM ml[j]).1 := by rw [HTL.out]; exact hmem
         have hnmB := told_names (f := ⟨some ⟨b, o, none⟩, mc, ml⟩) HCK.out (k := j) hj tn hmem2
         have htl : tn.length ≤ 64 := name_len9 hnmB
         have HPW := Lib.hid (fun (V : World) (p z : Nat) (hv : Below V6.heap.size V6 V) (hp : V.heap[p]? = some (.cells #[.int .i64 2, .string (bs tn), .string ⟨#[]⟩, .slice (some ⟨z, 0, none⟩) 1 1, .slice none 0 0, .slice none 0 0, .slice none 0 0, .slice none 0 0, .slice none 0 0] 48)) (hz : V.heap[z]? = some (.cells #[.int .i64 1, .string ⟨#[]⟩, .int .i64 0, .int .i64 0, .int .u64 1, .slice none 0 0] 54)) => put_call8 V n0 ⟨some ⟨b, o, none⟩, mc, ml⟩ j hj (wireT tn z) p (Nat.le_trans HO.out.hn hv.size) HWF.out (HO.out.keep hv).fin HBK.out HCP.out (by unfold wireT; rw [IT.Wf]; exact ⟨⟨numT_wf8, trivial⟩, trivial, trivial, trivial, trivial, trivial⟩) (by simp only [wireT, numT, IT.bk, XT.bkL, XT.bk, ST.bkL, IT.bkL, BT.bkL, List.length_nil]; omega) (wire_row8 hp hz) (fun cv => cv = 70) (fun a c ia ic => HTA.out tn hmem2 z a ia c ic))
         simp only at HPW
         have HBc := Lib.hid ((Below.refl V6.heap.size V6).drew)
         have e70 : ((70 : Int) == 70) = true := by decide
         clear hnmB hmem hmem2 htl HTL HTM HTA HAG HCK HVL hn0' hn1
         go_upto_region 12 with (fail)
         go_region_held3 (fun u1 => u1.cell? ⟨g, 0, none⟩ = some (.slice (some ⟨b, o, none⟩) ml.length mc) ∧ u1.cell? ⟨ub, uo + i, none⟩ = some (.string (bs tn))) (first | exact ⟨y0, u0⟩ | exact ⟨y9, r9⟩ | exact ⟨y9A _, r9A _⟩) (first | (go_at_call 20; refine (wire7_any tn _).mono ?_; rintro e w7 ⟨z, rfl, hzl, hzb, hb7⟩; have HBn := Lib.hid (below_step8 (by first | exact HBc.out | exact below_alloc8 (HBc.out) _ | exact below_alloc8 (below_alloc8 (HBc.out) _) _ | exact below_alloc8 (below_alloc8 (below_alloc8 (HBc.out) _) _) _) hb7); have HZ := Lib.hid hzb; have y9 := keep_cell HBn.out y0; have r9 := keep_cell HBn.out u0; have y9A := fun O => alloc_cell y9 O; have r9A := fun O => alloc_cell r9 O; have hz9 := HBn.out.size; have HBc := HBn; clear hzl hzb hb7 HBn) | (go_at_call 19; refine (HPW.out _ _ _ (by first | exact HBc.out | exact below_alloc8 (HBc.out) _ | exact below_alloc8 (below_alloc8 (HBc.out) _) _ | exact below_alloc8 (below_alloc8 (below_alloc8 (HBc.out) _) _) _) (by first | exact alloc_at8 (by first | rfl | (simp only [World.size_alloc]; omega) | (simp; done)) | exact block_alloc (alloc_at8 (by first | rfl | (simp only [World.size_alloc]; omega) | (simp; done))) _ | exact block_alloc (block_alloc (alloc_at8 (by first | rfl | (simp only [World.size_alloc]; omega) | (simp; done))) _) _) (by first | exact HZ.out | exact block_alloc (HZ.out) _ | exact block_alloc (block_alloc (HZ.out) _) _)).mono ?_; rintro e w8 ⟨hb8, pa, pc, cv, rfl, rfl, hf8⟩; have HBn := Lib.hid (below_step8 (by first | exact HBc.out | exact below_alloc8 (HBc.out) _ | exact below_alloc8 (below_alloc8 (HBc.out) _) _ | exact below_alloc8 (below_alloc8 (below_alloc8 (HBc.out) _) _) _) hb8); have HF8 := Lib.hid hf8; have he8 := HO.out.env.keep HBn.out; have HE8 := Lib.hid he8; have y9 := keep_cell HBn.out y0; have r9 := keep_cell HBn.out u0; have y9A := fun O => alloc_cell y9 O; have r9A := fun O => alloc_cell r9 O; have hz9 := HBn.out.size; have HBc := HBn; clear hb8 hf8 HBn he8) | (go_at_call 10; refine (HF8.out.check (Below.refl _ _) HE8.out).mono ?_; rintro e w9 ⟨rfl, hb9⟩; have HBn := Lib.hid (below_step8 HBc.out hb9); have HL9 := Lib.hid (HO.out.keep HBn.out).low; have y9 := keep_cell HBn.out y0; have r9 := keep_cell HBn.out u0; have y9A := fun O => alloc_cell y9 O; have r9A := fun O => alloc_cell r9 O; have hz9 := HBn.out.size; have HBc := HBn; clear hb9 HBn))
         all_goals (go_wp2_with fail; go_ret; first | exact ⟨rfl, HL9.out⟩ | exact ⟨rfl, by rw [← HGW.out]; exact HL9.out⟩)
end Go.Proofs.YtiipjbafdhijlaaGreatDoor
