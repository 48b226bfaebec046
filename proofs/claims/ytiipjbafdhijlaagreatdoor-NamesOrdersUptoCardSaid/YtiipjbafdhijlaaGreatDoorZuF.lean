/-
  NuF, in one text.
-/
import Derived.Test.YtiipjbafdhijlaaGreatDoorZuE
import Derived.Test.YtiipjbafdhijlaaGreatDoorZlP
import Derived.Deep.QuietTactic
import Derived.BigQuiet
namespace Go.Proofs.YtiipjbafdhijlaaGreatDoor
open Go Go.RowKit
set_option linter.unusedVariables false
set_option linter.unusedSimpArgs false
open Go.Sort
theorem ordR_len (ml : List MT) : ∀ (k : Nat) (out : List Bytes), OrdOk ml out → OrdOk ml (ordR ml k out)
 | 0, out, h => h
 | k + 1, out, h => by
  rw [ordR]
  cases hn : nextN ml out with
  | none => exact h
  | some n => exact ordR_len ml k _ (h.snoc hn)
set_option maxHeartbeats 8000000 in
set_option maxRecDepth 100000 in
theorem reforder_any (f : FT) (hll : f.ml.length ≤ 5700000) (hus : ∀ m ∈ f.ml, IT.szL m.il ≤ 6000000) (n0 : Nat) (w : World) (hn0 : n0 ≤ w.heap.size) (hin : f.In n0 w) : Calls Tryz.prog 36 #[f.val] w (RowR (ordR f.ml f.ml.length []) w) := by
 have qn : ∀ (V : World) (out : List Bytes) (a : Option Addr) (c : Nat), Below w.heap.size w V → (a = none → c = 0) → out.length ≤ 6000000 → LiesS V a out → Calls Tryz.prog 59 #[f.val, .slice a out.length c] V fun e w' => ∃ r : Int, e = .returned (.int .i64 r) ∧ NxP f.ml out r ∧ Below V.heap.size V w' := fun V out a c hV h1 h2 h3 =>
  refnext_any f (by omega) hus out a c h1 h2 n0 V (by have := hV.size; omega) h3 (FT.In.keep (Below.keptTo hV hn0) _ hin)
 obtain ⟨ma, mc, ml⟩ := f
 have hll : ml.length ≤ 5700000 := hll
 simp only [FT.val, FT.cells] at qn ⊢
 obtain ⟨F, hF⟩ : ∃ F, ordR ml ml.length [] = F := ⟨_, rfl⟩
 rw [hF]
 obtain ⟨gx, hgx⟩ : ∃ gx, w.heap.size = gx := ⟨_, rfl⟩
 obtain ⟨W1, hW1⟩ : ∃ W1, w.alloc (.cells #[.slice ma ml.length mc] 24) = W1 := ⟨_, rfl⟩
 have hb0 : Below w.heap.size w W1 := by rw [← hW1]; exact (Below.refl _ _).alloc (Nat.le_refl _) _
 have BX : W1.heap[gx]? = some (.cells #[.slice ma ml.length mc] 24 (0, 0)) := by rw [← hW1, ← hgx]; exact World.alloc_heap_new w _
 have y0 : W1.cell? ⟨gx, 0, none⟩ = some (.slice ma ml.length mc) := by simp [World.cell?, BX]
 obtain ⟨zb, hzb⟩ : ∃ zb, W1.heap.size = zb := ⟨_, rfl⟩
 have hgz : gx < zb := by rw [← hzb, ← hW1]; simp [hgx]
 have HB := Lib.hid (And.intro hb0 BX)
 have HI := Lib.hid hin
 have HZB := Lib.hid hzb
 have HQN := Lib.hid qn
 have HF := Lib.hid hF
 clear hb0 BX hin hzb qn hus hF
 go_enter Tryz.func36, Tryz.ntmps36
 go_wp2_with fail
 (try rw [hW1])
 clear hW1 y0
 go_loopg [3] (ml.length + 1) (fun gh v wr => ∃ (M : List Bytes), M.length + gh = ml.length + 1 ∧ OrdOk ml M ∧ ordR ml (ml.length - M.length) M = F ∧ wr.ownsRow zb 9 1 v M.length (strs M) ∧ Below zb W1 wr)
 case atStart => exact ⟨[], by simp, OrdOk.nil _, HF.out, World.ownsRow_nil _ _ _ _, Below.refl _ _⟩
 case round =>
  obtain ⟨M, hk, hok, hM, hown, hbw⟩ := hrel
  have BXr := (hbw.block gx hgz).trans HB.out.2
  have y0 : wr.cell? ⟨gx, 0, none⟩ = some (.slice ma ml.length mc) := by simp [World.cell?, BXr]
  have hzr : zb ≤ wr.heap.size := by
   have h9 := hbw.size
   have h8 := HZB.out
   omega
  have hml := hok.len
  have hbW : Below w.heap.size w wr := HB.out.1.trans (hbw.mono (by omega))
  obtain ⟨aM, cM, rfl, hcM, hrM, hlM⟩ := own_row9 hown
  have q := HQN.out wr M aM cM hbW hrM (by omega) hlM
  have HOW := Lib.hid (And.intro hown (And.intro hlM hrM))
  have HBW := Lib.hid (And.intro hbw (And.intro hbW BXr))
  have HM := Lib.hid (And.intro hok hM)
  clear hown hbw hbW BXr hM hok hlM hrM hcM
  go_wp2_with fail
  refine q.mono ?_
  clear q
  rintro e w1 ⟨r, rfl, hr, hb1⟩
  have BX1 := block_kept HBW.out.2.2 hb1
  have y0 : w1.cell? ⟨gx, 0, none⟩ = some (.slice ma ml.length mc) := by simp [World.cell?, BX1]
  have own1 := below_own_row HOW.out.1 hb1
  have HB1 := Lib.hid (And.intro (HBW.out.1.trans (hb1.mono hzr)) (HBW.out.2.1.trans (hb1.mono HBW.out.2.1.size)))
  have hzr1 : zb ≤ w1.heap.size := Nat.le_trans hzr hb1.size
  have HOW1 := Lib.hid own1
  have HR := Lib.hid hr
  clear own1 hb1 BX1 HOW HBW hr
  by_cases hneg : r < 0
  ·have e1 : decide (r < 0) = true := by simpa using hneg
   have HE : Hid (M = F) := Lib.hid (by
    have hn : nextN ml M = none := by
     rcases HR.out with ⟨-, h⟩ | ⟨i, -, h, -⟩
     ·exact h
     ·exfalso; omega
    rw [← HM.out.2]
    cases ml.length - M.length with
    | zero => rfl
    | succ j => rw [ordR, hn])
   have HRR := Lib.hid (own_row9 HOW1.out)
   clear HR HM
   go_wp2
   go_ret
   obtain ⟨a9, c9, e9, h1, h2, h3⟩ := HRR.out
   injection e9 with e1 e2 e3
   subst e1; subst e3
   rw [← HE.out]
   first
    | exact ⟨_, _, rfl, h1, h2, h3, HB1.out.2⟩
    | exact ⟨_, _, rfl, h1, h2, h3, by have h9 := HB1.out.2; rw [hgx] at h9; exact h9⟩
  ·have e1 : decide (r < 0) = false := by simpa using hneg
   obtain ⟨i, hi, rfl, hn⟩ : ∃ (i : Nat) (h : i < ml.length), r = i ∧ nextN ml M = some ml[i].nm := by
    rcases HR.out with ⟨h, -⟩ | h
    ·exfalso; omega
    ·exact h
   have hkt : KeptTo n0 w w1 := Below.keptTo HB1.out.2 hn0
   obtain ⟨b, o, rfl, hb, hr2, -⟩ := InRow.at (InRow.keep hkt (fun x _ h => MT.In.keep hkt x h) HI.out) hi
   have x1 : (i : Int) < (ml.length : Int) := by omega
   have x2 : (0 : Int) ≤ (i : Int) := by omega
   have hok2 := HM.out.1.snoc hn
   have hl2 := hok2.len
   have hst : ordR ml (ml.length - (M ++ [ml[i].nm]).length) (M ++ [ml[i].nm]) = F := by
    rw [← HM.out.2]
    rw [List.length_append, List.length_singleton] at hl2 ⊢
    obtain ⟨j, hj⟩ : ∃ j, ml.length - M.length = j + 1 := ⟨ml.length - M.length - 1, by omega⟩
    rw [hj, show ml.length - (M.length + 1) = j by omega, ordR, hn]
   obtain ⟨s, hs⟩ : ∃ s, ml[i].nm = s := ⟨_, rfl⟩
   have r0 : w1.cell? ⟨b, o + i * 4, none⟩ = some (.string (bs ml[i].nm)) := hr2 0 _ rfl
   rw [hs] at r0 hok2 hst hl2
   rw [List.length_append, List.length_singleton] at hl2
   have HNX := Lib.hid (And.intro hok2 hst)
   clear hr2 hs hok2 hst HR hn hkt HM
   go_wp2_with (at_builtin; refine wpList_append_strs7 rfl (.tmp 11) (.tmp 18) rfl zb (.slice aM M.length cM) M.length (strs M) rfl (HOW1.out.alloc _) (some ⟨w1.heap.size, 0, none⟩) [s] 1 rfl (by intro h; cases h) (lies_new7 _ _ _) (by simp; omega) (by rw [World.size_alloc]; omega) ?_; intro v7 w7 own7 hg7; have HN7 := Lib.hid (own_snoc9 HB1.out.1 hzr1 HOW1.out own7 hg7); obtain ⟨a7, c7, rfl, hc7⟩ := own_shape7 own7; clear own7 hg7)
   obtain ⟨gg, rfl⟩ : ∃ gg, gk = gg + 1 := ⟨gk - 1, by omega⟩
   go_roundg gg
   case rel => exact ⟨_, by rw [List.length_append, List.length_singleton]; omega, HNX.out.1, HNX.out.2, HN7.out.1, HN7.out.2⟩
   case measure => omega
theorem lies_take9 {w : World} {a : Option Addr} {l : List Bytes} (h : LiesS w a l) (k : Nat) : LiesS w a (l.take k) := by
 rcases h with h | ⟨b, o, h1, h2⟩
 ·exact .inl (by rw [h]; simp)
 ·refine .inr ⟨b, o, h1, fun i hi => ?_⟩
  have hi2 : i < l.length := by rw [List.length_take] at hi; omega
  have h3 := h2 i hi2
  rw [List.getElem_take]
  exact h3
theorem twiceR_drop (N : List Bytes) (ml : List MT) (k : Nat) (h : k < ml.length) : twiceR N k (ml.drop k) = (((N.take k).contains ml[k].nm || !rightM ml[k]) || twiceR N (k + 1) (ml.drop (k + 1))) := by
 rw [← List.getElem_cons_drop h, twiceR]
theorem all_drop9 {α : Type} (p : α → Bool) (l : List α) (k : Nat) (h : k < l.length) : (l.drop k).all p = (p l[k] && (l.drop (k + 1)).all p) := by
 rw [← List.getElem_cons_drop h, List.all_cons]
theorem usesM_len9 (m : MT) : (usesM m).length ≤ IT.szL m.il := by
 have h1 := usesL_len7 m.il []
 rw [usesL_is] at h1
 have h2 : (addN [] (instL m.il)).length ≤ IT.szL m.il := by simpa using h1
 exact h2
set_option maxHeartbeats 16000000 in
set_option maxRecDepth 100000 in
theorem refCheck_any (W : World) (n0 : Nat) (f : FT) (hn0 : n0 ≤ W.heap.size) (he : EnvA W) (hwf : f.Wf) (hin : f.In n0 W) (hbk : f.bk ≤ 4500000) (hsz : f.sz ≤ 2000)
  (q1 : ∀ V, Below W.heap.size W V → Calls Tryz.prog 31 #[f.val] V fun e w' => e = .returned (.int .i64 (checkF f)) ∧ Below V.heap.size V w') :
  Calls Tryz.prog 11 #[f.val] W fun e W' => e = .returned (.int .i64 (checkP f)) ∧ Below W.heap.size W W' := by
 have hall : ∀ m ∈ f.ml, m.sz ≤ 2000 := fun m hm => by
  have h1 := MT.szL_mem hm
  have h2 : MT.szL f.ml ≤ 2000 := hsz
  omega
 have hil : ∀ m ∈ f.ml, IT.szL m.il ≤ 2000 := fun m hm => Nat.le_trans (toldM_sz m).2 (hall m hm)
 have hll : f.ml.length ≤ 4500000 := by
  have h1 := MT.bkL_len f.ml
  have h2 : 1 + MT.bkL f.ml ≤ 4500000 := hbk
  omega
 have q2 : ∀ V, Below W.heap.size W V → Calls Tryz.prog 32 #[f.val] V (RowR (f.ml.map (·.nm)) V) := fun V hV => refnames_any f (by omega) n0 V (by have := hV.size; omega) (FT.In.keep (Below.keptTo hV hn0) _ hin)
 have q3 : ∀ V, Below W.heap.size W V → Calls Tryz.prog 36 #[f.val] V (RowR (ordR f.ml f.ml.length []) V) := fun V hV => reforder_any f (by omega) (fun m hm => by have := hil m hm; omega) n0 V (by have := hV.size; omega) (FT.In.keep (Below.keptTo hV hn0) _ hin)
 obtain ⟨F, hF⟩ : ∃ F, checkP f = F := ⟨_, rfl⟩
 rw [hF]
 unfold checkP at hF
 obtain ⟨E, hE⟩ : ∃ E, checkF f = E := ⟨_, rfl⟩
 rw [hE] at hF
 simp only [hE] at q1
 have HMAY : Hid (E = 0 → ∀ m ∈ f.ml, ∀ y ∈ m.il, mayI y = true) := Lib.hid (fun h m hm => by
  obtain ⟨-, -, -, h4⟩ := checkF_zero7 (hE.trans h)
  have h5 := h4 m hm
  unfold mayM at h5; simp only [Bool.and_eq_true] at h5; exact List.all_eq_true.1 h5.2.2.2)
 have HF := Lib.hid hF
 have HALL := Lib.hid (And.intro hall hil)
 clear hF hE he hwf hbk hsz hall hil
 obtain ⟨ma, mc, ml⟩ := f
 have hll : ml.length ≤ 4500000 := hll
 have HF : Hid ((if E ≠ 0 then E else checkN ml) = F) := HF
 have HALL : Hid ((∀ m ∈ ml, m.sz ≤ 2000) ∧ ∀ m ∈ ml, IT.szL m.il ≤ 2000) := HALL
 have HMAY : Hid (E = 0 → ∀ m ∈ ml, ∀ y ∈ m.il, mayI y = true) := HMAY
 simp only [FT.val, FT.cells] at q1 q2 q3 ⊢
 obtain ⟨gx, hgx⟩ : ∃ gx, W.heap.size = gx := ⟨_, rfl⟩
 obtain ⟨W1, hW1⟩ : ∃ W1, W.alloc (.cells #[.slice ma ml.length mc] 24) = W1 := ⟨_, rfl⟩
 have hb0 : Below W.heap.size W W1 := by rw [← hW1]; exact (Below.refl _ _).alloc (Nat.le_refl _) _
 have BX : W1.heap[gx]? = some (.cells #[.slice ma ml.length mc] 24 (0, 0)) := by rw [← hW1, ← hgx]; exact World.alloc_heap_new W _
 have y0 : W1.cell? ⟨gx, 0, none⟩ = some (.slice ma ml.length mc) := by simp [World.cell?, BX]
 have q := q1 W1 hb0
 have HB := Lib.hid (And.intro hb0 BX)
 have HI := Lib.hid hin
 have HQ := Lib.hid (And.intro q2 q3)
 clear hb0 BX hin q1 q2 q3
 go_enter Tryz.func11, Tryz.ntmps11
 go_wp2_with fail
 (try rw [hW1])
 refine q.mono ?_
 clear q hW1 y0
 rintro e V1 ⟨rfl, hb1⟩
 have HB1 := Lib.hid (And.intro (HB.out.1.trans (hb1.mono HB.out.1.size)) (block_kept HB.out.2 hb1))
 clear hb1 HB
 by_cases hE0 : E ≠ 0
 ·have e1 : (E != 0) = true := by simpa using hE0
  obtain rfl : E = F := by rw [← HF.out, if_pos hE0]
  clear HF
  go_wp2
  go_ret
  first
   | exact ⟨rfl, HB1.out.1⟩
   | exact ⟨rfl, by have h9 := HB1.out.1; rw [hgx] at h9; exact h9⟩
 ·replace hE0 : E = 0 := Decidable.byContradiction hE0
  subst hE0
  have HF2 : Hid (checkN ml = F) := Lib.hid (by rw [← HF.out, if_neg (by decide)])
  have y0 : V1.cell? ⟨gx, 0, none⟩ = some (.slice ma ml.length mc) := by simp [World.cell?, HB1.out.2]
  have q := HQ.out.1 V1 HB1.out.1
  obtain ⟨N, hN⟩ : ∃ N, ml.map (·.nm) = N := ⟨_, rfl⟩
  rw [hN] at q
  have HNL : Hid (N.length = ml.length) := Lib.hid (by rw [← hN]; simp)
  have HN := Lib.hid hN
  have HTW : Hid (twiceB [] ml = twiceR N 0 ml) := Lib.hid (by
   have h := twice_ref ml [] (HMAY.out rfl)
   rw [← hN]; exact h)
  clear hN HF
  go_wp2_with fail
  refine q.mono ?_
  clear q y0
  rintro e V2 ⟨na, nc, rfl, hncap, hnn, hln, hb2⟩
  have HB2 := Lib.hid (And.intro (HB1.out.1.trans (hb2.mono HB1.out.1.size)) (And.intro (block_kept HB1.out.2 hb2) hln))
  obtain ⟨R, hR⟩ : ∃ R, twiceR N 0 ml = R := ⟨_, rfl⟩
  rw [hR] at HTW
  have HR0 := Lib.hid hR
  clear hb2 hln hR HB1
  go_wp2_with fail
  go_loopg [5] ml.length (fun gh u wr => ∃ k : Nat, u = .int .i64 k ∧ k + gh = ml.length ∧ twiceR N k (ml.drop k) = R ∧ Below V2.heap.size V2 wr)
  case atStart => exact ⟨0, rfl, by omega, by rw [List.drop_zero]; exact HR0.out, Below.refl _ _⟩
  case round =>
   obtain ⟨k, rfl, hk, hdr, hbw⟩ := hrel
   clear HR0
   have HD := Lib.hid hdr
   have BXr := block_kept HB2.out.2.1 hbw
   have y0 : wr.cell? ⟨gx, 0, none⟩ = some (.slice ma ml.length mc) := by simp [World.cell?, BXr]
   have hbW : Below W.heap.size W wr := HB2.out.1.trans (hbw.mono HB2.out.1.size)
   have hlnr := lies_keep7 HB2.out.2.2 hbw
   clear hdr
   by_cases hlt : k < ml.length
   ·have d1 : decide (k < ml.length) = true := by simpa using hlt
    have d2 : decide ((k : Int) < (ml.length : Int)) = true := by rw [decide_eq_true_eq]; omega
    have x1 : (k : Int) < (ml.length : Int) := by omega
    have hltN : k < N.length := by rw [HNL.out]; exact hlt
    have x3 : (k : Int) < (N.length : Int) := by omega
    have x4 : (0 : Int) ≤ (k : Int) := by omega
    have hkt : KeptTo n0 W wr := Below.keptTo hbW hn0
    obtain ⟨b, o, rfl, hb, hr, hx⟩ := InRow.at (InRow.keep hkt (fun x _ h => MT.In.keep hkt x h) HI.out) hlt
    have hdk := twiceR_drop N ml k hlt
    have hNk : N[k] = ml[k].nm := by
     have h : ∀ (L : List Bytes) (e : ml.map (·.nm) = L) (h : k < L.length), L[k] = ml[k].nm := by intro L e h; subst e; simp
     exact h N HN.out hltN
    obtain ⟨bn, on, rfl, hLn⟩ := id (hlnr.resolve_left (by intro h; rw [h] at hltN; simp at hltN))
    have r9 := hLn k hltN
    rw [hNk] at r9
    have hTl : (N.take k).length = k := by rw [List.length_take]; omega
    have hkc : k ≤ nc := by omega
    have dc : ¬ nc < k := by omega
    have dc2 : ¬ (nc : Int) < (k : Int) := by omega
    have qR := fun (V : World) (hV : Below wr.heap.size wr V) => refRight_any ml[k] (HALL.out.1 _ (List.getElem_mem hlt)) n0 V (by have := hV.size; have := hbW.size; omega) (MT.In.keep (Below.keptTo hV (by have := hbW.size; omega)) _ hx)
    have qA := fun (V : World) (hV : Below wr.heap.size wr V) => amongS_any (some ⟨bn, on, none⟩) nc (N.take k) ml[k].nm (by omega) V (lies_take9 (lies_keep7 hlnr hV) k)
    rw [hTl] at qA
    obtain ⟨x, hxg⟩ : ∃ x, ml[k] = x := ⟨_, rfl⟩
    rw [hxg] at hr hdk qR r9
    simp only [hxg] at qA
    obtain ⟨KK, hKK⟩ : ∃ KK, (N.take k).contains x.nm = KK := ⟨_, rfl⟩
    simp only [hKK] at qA
    obtain ⟨RR, hRR⟩ : ∃ RR, rightM x = RR := ⟨_, rfl⟩
    simp only [hRR] at qR
    rw [hKK, hRR] at hdk
    obtain ⟨nm, pa, pc, pl, ta, tc, tl, ia, ic, il⟩ := x
    simp only [MT.val, MT.cells] at qR
    simp only at qA r9
    have r0 : wr.cell? ⟨b, o + k * 4, none⟩ = some (.string (bs nm)) := hr 0 _ rfl
    have r1 : wr.cell? ⟨b, o + k * 4 + 1, none⟩ = some (.slice pa pl.length pc) := hr 1 _ rfl
    have r2 : wr.cell? ⟨b, o + k * 4 + 2, none⟩ = some (.slice ta tl.length tc) := hr 2 _ rfl
    have r3 : wr.cell? ⟨b, o + k * 4 + 3, none⟩ = some (.slice ia il.length ic) := hr 3 _ rfl
    have HDK := Lib.hid hdk
    have qA2 : ∀ (V : World), Below wr.heap.size wr V → Calls Tryz.prog 23 #[.slice (some ⟨bn, on, none⟩) k nc, .string (bs nm)] V fun e w' => e = .returned (.bool KK) ∧ Below V.heap.size V w' := fun V hV => (qA V hV).mono fun e w' h => ⟨h.1, by obtain ⟨n, e9⟩ := h.2; rw [e9]; exact below_drewN (Below.refl _ _) n⟩
    have HQA := Lib.hid (fun d os => qA2 (grow (redrawn wr d) os) (below_regrown wr d os))
    have HQR := Lib.hid (fun d os => qR (grow (redrawn wr d) os) (below_regrown wr d os))
    have y0R := cell_regrown y0
    have r9R := cell_regrown r9
    have r0R := cell_regrown r0
    have r1R := cell_regrown r1
    have r2R := cell_regrown r2
    have r3R := cell_regrown r3
    have HBW := Lib.hid hbw
    clear hr hx hdk hNk hLn hTl qR qA qA2 hxg hKK hRR hbW hbw hkt BXr hlnr
    cases KK with
    | true =>
     have HE : Hid (R = true) := Lib.hid (by rw [← HD.out, HDK.out]; simp)
     go_upto_region 8 with (fail)
     refine wp_region_quiet_below (by kernel_rfl) (by kernel_rfl) ?_
     repeat (go_big_quiet_step ((go_at_call 23; exact Calls.regrown_of (HQA.out _ _))))
     refine wpQuiet_nil ?_
     intro _ hw'
     obtain ⟨⟨dq, osq⟩, hw''⟩ := hw'
     subst hw''
     have HBQ := Lib.hid (HB2.out.1.trans ((HBW.out.trans ((below_regrown wr dq osq).mono HBW.out.size)).mono HB2.out.1.size))
     have HFE : Hid ((70 : Int) = F) := Lib.hid (by rw [← HF2.out]; unfold checkN; rw [HTW.out, HE.out, if_pos rfl])
     obtain rfl := HFE.out
     clear HFE HF2
     go_wp2
     go_ret
     first
      | exact ⟨rfl, HBQ.out⟩
      | exact ⟨rfl, by have h9 := HBQ.out; rw [hgx] at h9; exact h9⟩
    | false =>
     go_upto_region 8 with (fail)
     refine wp_region_quiet_below (by kernel_rfl) (by kernel_rfl) ?_
     repeat (go_big_quiet_step (first | (go_at_call 23; exact Calls.regrown_of (HQA.out _ _)) | (go_at_call 33; exact Calls.regrown_of (HQR.out _ _))))
     refine wpQuiet_nil ?_
     intro _ hw'
     obtain ⟨⟨dq, osq⟩, hw''⟩ := hw'
     subst hw''
     have hbq := HBW.out.trans ((below_regrown wr dq osq).mono HBW.out.size)
     have HBQ := Lib.hid (HB2.out.1.trans (hbq.mono HB2.out.1.size))
     have HBX := Lib.hid hbq
     clear hbq y0 y0R r9R r0R r1R r2R r3R r0 r1 r2 r3 r9 HQA HQR
     cases RR with
     | false =>
      have HE : Hid (R = true) := Lib.hid (by rw [← HD.out, HDK.out]; simp)
      have HFE : Hid ((70 : Int) = F) := Lib.hid (by rw [← HF2.out]; unfold checkN; rw [HTW.out, HE.out, if_pos rfl])
      obtain rfl := HFE.out
      clear HFE HF2
      go_wp2
      go_ret
      first
       | exact ⟨rfl, HBQ.out⟩
       | exact ⟨rfl, by have h9 := HBQ.out; rw [hgx] at h9; exact h9⟩
     | true =>
      have HE : Hid (twiceR N (k + 1) (ml.drop (k + 1)) = R) := Lib.hid (by rw [← HD.out, HDK.out]; simp)
      clear HD HDK
      go_wp2
      obtain ⟨gg, rfl⟩ : ∃ gg, gk = gg + 1 := ⟨gk - 1, by omega⟩
      go_roundg gg
      case rel => exact ⟨k + 1, rfl, by omega, HE.out, HBX.out⟩
      case measure => omega
   ·have d1 : decide (k < ml.length) = false := by simpa using hlt
    have d2 : decide ((k : Int) < (ml.length : Int)) = false := by rw [decide_eq_false_iff_not]; omega
    obtain rfl : false = R := by rw [← HD.out, List.drop_eq_nil_of_le (by omega)]; rfl
    obtain ⟨w4, hw4⟩ : ∃ w4, wr = w4 := ⟨_, rfl⟩
    have HBZ := Lib.hid (And.intro hbW (And.intro BXr hlnr))
    rw [hw4] at HBZ y0 ⊢
    obtain ⟨G, hG⟩ : ∃ G, hasAllB ml = G := ⟨_, rfl⟩
    have HG := Lib.hid hG
    clear hbw hbW BXr hlnr hw4 HD hG
    go_wp2_with fail
    clear y0
    go_loopg [6] ml.length (fun gh u wr => ∃ k : Nat, u = .int .i64 k ∧ k + gh = ml.length ∧ ((ml.drop k).all fun m => (usesM m).all fun u => N.contains u) = G ∧ Below w4.heap.size w4 wr)
    case atStart => exact ⟨0, rfl, by omega, by rw [List.drop_zero, ← HG.out, ← HN.out]; rfl, Below.refl _ _⟩
    case round =>
     obtain ⟨j, rfl, hj, hdr, hbw⟩ := hrel
     have HD := Lib.hid hdr
     have BXr := block_kept HBZ.out.2.1 hbw
     have y0 : wr.cell? ⟨gx, 0, none⟩ = some (.slice ma ml.length mc) := by simp [World.cell?, BXr]
     have hbW : Below W.heap.size W wr := HBZ.out.1.trans (hbw.mono HBZ.out.1.size)
     have hlnr := lies_keep7 HBZ.out.2.2 hbw
     clear hdr
     by_cases hlt2 : j < ml.length
     ·have d1 : decide (j < ml.length) = true := by simpa using hlt2
      have d2 : decide ((j : Int) < (ml.length : Int)) = true := by rw [decide_eq_true_eq]; omega
      have x1 : (j : Int) < (ml.length : Int) := by omega
      have hkt : KeptTo n0 W wr := Below.keptTo hbW hn0
      obtain ⟨b, o, rfl, hb, hr, hx⟩ := InRow.at (InRow.keep hkt (fun x _ h => MT.In.keep hkt x h) HI.out) hlt2
      have hdk := all_drop9 (fun m => (usesM m).all fun u => N.contains u) ml j hlt2
      have hisl := HALL.out.2 ml[j] (List.getElem_mem hlt2)
      have hul := usesM_len9 ml[j]
      have q := refUses_any ml[j] (by omega) n0 wr (by have := hbW.size; omega) hx
      obtain ⟨x, hxg⟩ : ∃ x, ml[j] = x := ⟨_, rfl⟩
      rw [hxg] at hr hdk q hul hisl
      obtain ⟨U, hU⟩ : ∃ U, usesM x = U := ⟨_, rfl⟩
      rw [hU] at q hul
      simp only [hU] at hdk
      have HDK := Lib.hid hdk
      have hul2 : U.length ≤ 2000 := by omega
      obtain ⟨nm, pa, pc, pl, ta, tc, tl, ia, ic, il⟩ := x
      simp only [MT.val, MT.cells] at q
      have r0 : wr.cell? ⟨b, o + j * 4, none⟩ = some (.string (bs nm)) := hr 0 _ rfl
      have r1 : wr.cell? ⟨b, o + j * 4 + 1, none⟩ = some (.slice pa pl.length pc) := hr 1 _ rfl
      have r2 : wr.cell? ⟨b, o + j * 4 + 2, none⟩ = some (.slice ta tl.length tc) := hr 2 _ rfl
      have r3 : wr.cell? ⟨b, o + j * 4 + 3, none⟩ = some (.slice ia il.length ic) := hr 3 _ rfl
      have HBW := Lib.hid hbw
      have HLN := Lib.hid hlnr
      clear hr hx hdk hxg hU hbW hbw hkt BXr hul hlnr hisl
      go_wp2_with fail
      refine q.mono ?_
      clear q y0 r0 r1 r2 r3
      rintro e w5 ⟨v, rfl, ⟨au, cu, rfl, hcu, hlu⟩, hb5⟩
      have hNl2 : N.length ≤ 12000000 := by have := HNL.out; omega
      have q := refbehind_any U N (by omega) hNl2 au na cu nc w5 hlu (lies_keep7 HLN.out hb5)
      obtain ⟨BB, hBB⟩ : ∃ BB, (U.all fun n => N.contains n) = BB := ⟨_, rfl⟩
      rw [hBB] at q
      have HBB := Lib.hid hBB
      have HB5 := Lib.hid (HBW.out.trans (hb5.mono HBW.out.size))
      clear hBB hb5 hlu hcu HLN
      go_wp2_with fail
      refine q.mono ?_
      clear q
      rintro e w6 ⟨rfl, hb6⟩
      have HB6 := Lib.hid (HB5.out.trans (hb6.mono HB5.out.size))
      clear hb6
      cases BB with
      | false =>
       have HE : Hid (G = false) := Lib.hid (by rw [← HD.out, HDK.out, HBB.out]; rfl)
       have HFE : Hid ((71 : Int) = F) := Lib.hid (by rw [← HF2.out]; unfold checkN; rw [HTW.out, if_neg (by decide), HG.out, HE.out, if_pos rfl])
       obtain rfl := HFE.out
       have HBQ := Lib.hid (HBZ.out.1.trans (HB6.out.mono HBZ.out.1.size))
       clear HFE HF2
       go_wp2
       go_ret
       first
        | exact ⟨rfl, HBQ.out⟩
        | exact ⟨rfl, by have h9 := HBQ.out; rw [hgx] at h9; exact h9⟩
      | true =>
       have HE : Hid (((ml.drop (j + 1)).all fun m => (usesM m).all fun u => N.contains u) = G) := Lib.hid (by rw [← HD.out, HDK.out, HBB.out]; rfl)
       clear HD HDK
       go_wp2
       obtain ⟨gi, rfl⟩ : ∃ gi, gk = gi + 1 := ⟨gk - 1, by omega⟩
       go_roundg gi
       case rel => exact ⟨j + 1, rfl, by omega, HE.out, HB6.out⟩
       case measure => omega
     ·have d1 : decide (j < ml.length) = false := by simpa using hlt2
      have d2 : decide ((j : Int) < (ml.length : Int)) = false := by rw [decide_eq_false_iff_not]; omega
      obtain rfl : true = G := by rw [← HD.out, List.drop_eq_nil_of_le (by omega)]; rfl
      have q := HQ.out.2 wr hbW
      obtain ⟨OR, hOR⟩ : ∃ O, ordR ml ml.length [] = O := ⟨_, rfl⟩
      rw [hOR] at q
      have HBQ0 := Lib.hid hbW
      have hcmp : (OR.length < ml.length ∧ F = 72) ∨ (OR.length = ml.length ∧ F = 0) := by
       have h9 := ordR_is ml ml.length []
       rw [hOR] at h9
       cases hN9 : ordN ml ml.length [] with
       | none =>
        left
        have h8 := h9.2 hN9
        refine ⟨by simpa using h8, ?_⟩
        rw [← HF2.out]; unfold checkN
        rw [HTW.out, if_neg (by decide), HG.out, if_neg (by decide), hN9]; rfl
       | some l9 =>
        right
        have h8 := h9.1 l9 hN9
        have h7 := (ordN_ok ml ml.length [] l9 (OrdOk.nil _) hN9).2
        refine ⟨by rw [h8]; simpa using h7, ?_⟩
        rw [← HF2.out]; unfold checkN
        rw [HTW.out, if_neg (by decide), HG.out, if_neg (by decide), hN9]; rfl
      have HCM := Lib.hid hcmp
      clear hcmp hOR hbW hbw BXr hlnr
      go_wp2_with fail
      refine q.mono ?_
      clear q y0
      rintro e w7 ⟨oa, oc, rfl, -, -, -, hb7⟩
      have HBQ := Lib.hid (HBQ0.out.trans (hb7.mono HBQ0.out.size))
      clear hb7
      rcases HCM.out with ⟨h1, h2⟩ | ⟨h1, h2⟩
      ·subst h2
       have g1 : decide (OR.length < N.length) = true := by rw [decide_eq_true_eq, HNL.out]; exact h1
       have g2 : decide ((OR.length : Int) < (N.length : Int)) = true := by rw [decide_eq_true_eq, HNL.out]; omega
       clear h1
       go_wp2
       go_ret
       first
        | exact ⟨rfl, HBQ.out⟩
        | exact ⟨rfl, by have h9 := HBQ.out; rw [hgx] at h9; exact h9⟩
      ·subst h2
       have g1 : decide (OR.length < N.length) = false := by rw [decide_eq_false_iff_not, HNL.out]; omega
       have g2 : decide ((OR.length : Int) < (N.length : Int)) = false := by rw [decide_eq_false_iff_not, HNL.out]; omega
       clear h1
       go_wp2
       go_ret
       first
        | exact ⟨rfl, HBQ.out⟩
        | exact ⟨rfl, by have h9 := HBQ.out; rw [hgx] at h9; exact h9⟩
end Go.Proofs.YtiipjbafdhijlaaGreatDoor
