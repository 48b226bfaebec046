/-
  NuE, in one text.
-/
import Derived.Test.YtiipjbafdhijlaaGreatDoorZuD
namespace Go.Proofs.YtiipjbafdhijlaaGreatDoor
open Go Go.RowKit
set_option linter.unusedVariables false
set_option linter.unusedSimpArgs false
open Go.Sort
theorem toldM_sz (x : MT) : (toldM x).1.length ≤ x.sz ∧ IT.szL x.il ≤ x.sz := by
 have h1 := toldM_len x
 have h2 := PT.szL_len7 x.tl
 have h3 := BT.szL_len7 x.pl
 obtain ⟨nm, pa, pc, pl, ta, tc, tl, ia, ic, il⟩ := x
 simp only [MT.sz] at *
 omega
set_option maxHeartbeats 8000000 in
set_option maxRecDepth 100000 in
theorem refRight_any (x : MT) (hsz : x.sz ≤ 2000) (n0 : Nat) (w : World) (hn0 : n0 ≤ w.heap.size) (hx : x.In n0 w) : Calls Tryz.prog 33 #[x.val] w fun e w' => e = .returned (.bool (rightM x)) ∧ Below w.heap.size w w' := by
 have hq : ∀ V, Below w.heap.size w V → Calls Tryz.prog 18 #[x.val] V fun e w' => ∃ v, e = .returned v ∧ ScV w' v (toldM x) ∧ Below V.heap.size V w' := fun V hV =>
  refTold_any x (by omega) n0 V (by have := hV.size; omega) (MT.In.keep (Below.keptTo hV hn0) _ hx)
 obtain ⟨hl1, hl2⟩ := toldM_sz x
 have hsq := sq_mono (Nat.le_trans hl2 hsz)
 obtain ⟨F, hF⟩ : ∃ F, rightM x = F := ⟨_, rfl⟩
 rw [hF]
 unfold rightM at hF
 obtain ⟨⟨TL, tO⟩, hT⟩ : ∃ T, toldM x = T := ⟨_, rfl⟩
 rw [hT] at hF hq hl1
 have hqi : ∀ (V : World) (a : Option Addr) (c : Nat), Below w.heap.size w V → (a = none → c = 0) → LiesS V a TL → Calls Tryz.prog 57 #[.slice x.ia x.il.length x.ic, .slice a TL.length c] V fun e w' => e = .returned (.bool (innL TL x.il)) ∧ Below V.heap.size V w' := fun V a c hV h1 h2 =>
  refinner_any x.il n0 TL a c x.ia x.ic V (by simp only at hl1; omega) (by omega) (by have := hV.size; omega) h1 h2 (InRow.keep (Below.keptTo hV hn0) (fun y _ h => IT.In.keep (Below.keptTo hV hn0) y h) hx.2.2)
 obtain ⟨S, hS⟩ : ∃ S, innL TL x.il = S := ⟨_, rfl⟩
 simp only [hS] at hqi hF
 have HF := Lib.hid hF
 have HQI := Lib.hid hqi
 clear hx hF hT hS hqi hl1 hl2 hsq
 obtain ⟨nm, pa, pc, pl, ta, tc, tl, ia, ic, il⟩ := x
 simp only [MT.val, MT.cells] at hq ⊢
 have HQI : Hid (∀ (V : World) (a : Option Addr) (c : Nat), Below w.heap.size w V → (a = none → c = 0) → LiesS V a TL → Calls Tryz.prog 57 #[.slice ia il.length ic, .slice a TL.length c] V fun e w' => e = .returned (.bool S) ∧ Below V.heap.size V w') := HQI
 obtain ⟨gx, hgx⟩ : ∃ gx, w.heap.size = gx := ⟨_, rfl⟩
 obtain ⟨W1, hW1⟩ : ∃ W1, w.alloc (.cells #[.string (bs nm), .slice pa pl.length pc, .slice ta tl.length tc, .slice ia il.length ic] 39) = W1 := ⟨_, rfl⟩
 have hb0 : Below w.heap.size w W1 := by rw [← hW1]; exact (Below.refl _ _).alloc (Nat.le_refl _) _
 have BX : W1.heap[gx]? = some (.cells #[.string (bs nm), .slice pa pl.length pc, .slice ta tl.length tc, .slice ia il.length ic] 39 (0, 0)) := by rw [← hW1, ← hgx]; exact World.alloc_heap_new w _
 have y0 : W1.cell? ⟨gx, 0, none⟩ = some (.string (bs nm)) := by simp [World.cell?, BX]
 have y1 : W1.cell? ⟨gx, 1, none⟩ = some (.slice pa pl.length pc) := by simp [World.cell?, BX]
 have y2 : W1.cell? ⟨gx, 2, none⟩ = some (.slice ta tl.length tc) := by simp [World.cell?, BX]
 have y3 : W1.cell? ⟨gx, 3, none⟩ = some (.slice ia il.length ic) := by simp [World.cell?, BX]
 have q := hq W1 hb0
 have HB := Lib.hid (And.intro hb0 BX)
 clear hq hb0 BX
 go_enter Tryz.func33, Tryz.ntmps33
 go_wp2_with fail
 (try rw [hW1])
 refine q.mono ?_
 clear q hW1 y0 y1 y2 y3
 rintro e w2 ⟨v, rfl, ⟨at2, ct2, rfl, hct2, hlt2⟩, hb3⟩
 simp only at hlt2
 obtain ⟨gs, hgs⟩ : ∃ gs, w2.heap.size = gs := ⟨_, rfl⟩
 obtain ⟨w3, hw3⟩ : ∃ w3, w2.alloc (.cells #[.slice at2 TL.length ct2, .bool tO] 42) = w3 := ⟨_, rfl⟩
 have hba3 : Below w2.heap.size w2 w3 := by rw [← hw3]; exact (Below.refl _ _).alloc (Nat.le_refl _) _
 have BT3 : w3.heap[gs]? = some (.cells #[.slice at2 TL.length ct2, .bool tO] 42 (0, 0)) := by rw [← hw3, ← hgs]; exact World.alloc_heap_new w2 _
 have BX3 := block_kept (block_kept HB.out.2 hb3) hba3
 obtain ⟨s0, s1, f0, f1⟩ := scope_cells BT3
 have y3 : w3.cell? ⟨gx, 3, none⟩ = some (.slice ia il.length ic) := by simp [World.cell?, BX3]
 have hb4 : Below w.heap.size w w3 := HB.out.1.trans ((hb3.trans (hba3.mono hb3.size)).mono HB.out.1.size)
 have q := HQI.out w3 at2 ct2 hb4 hct2 (lies_keep7 hlt2 hba3)
 have HB4 := Lib.hid hb4
 have HLE : Hid (w.heap.size ≤ gs) := Lib.hid (by have h1 := hb3.size; have h2 := HB.out.1.size; omega)
 clear hb3 hba3 BT3 BX3 hb4 hct2 hlt2 HQI
 cases tO with
 | false =>
  obtain rfl : false = F := by rw [← HF.out]; rfl
  clear q
  go_wp2_with fail
  (try rw [hw3])
  clear hw3
  go_wp2
  go_ret
  first
   | exact ⟨rfl, HB4.out.setCell (p := ⟨gs, 1, none⟩) HLE.out _⟩
   | exact ⟨rfl, HB4.out⟩
   | (have h9 := HB4.out; rw [hgx] at h9; exact ⟨rfl, h9⟩)
 | true =>
  obtain rfl : S = F := by rw [← HF.out]; simp
  go_wp2_with fail
  (try rw [hw3])
  refine q.mono ?_
  clear q hw3 s0 s1 y3
  rintro e w5 ⟨rfl, hb5⟩
  have HB5 := Lib.hid (HB4.out.trans (hb5.mono HB4.out.size))
  clear hb5
  go_wp2
  go_ret
  first
   | exact ⟨rfl, HB5.out⟩
   | (have h9 := HB5.out; rw [hgx] at h9; exact ⟨rfl, h9⟩)
/-- A row of texts that a call made: with its room. -/
def RowR (F : List Bytes) (w : World) (e : Ending) (w' : World) : Prop := ∃ a c, e = .returned (.slice a F.length c) ∧ F.length ≤ c ∧ (a = none → c = 0) ∧ LiesS w' a F ∧ Below w.heap.size w w'
theorem own_row9 {w : World} {base : Nat} {v : Value} {l : List Bytes} (h : w.ownsRow base 9 1 v l.length (strs l)) : ∃ a c, v = .slice a l.length c ∧ l.length ≤ c ∧ (a = none → c = 0) ∧ LiesS w a l := by
 have h2 := TV.own h
 obtain ⟨a, c, e1, e2, e3⟩ := h2
 refine ⟨a, c, e1, ?_, e2, e3⟩
 rcases h.2 with ⟨hv, h0⟩ | ⟨g, cap, cur, hv, _, _, hc, _⟩
 ·omega
 ·rw [hv] at e1
  injection e1 with a1 a2 a3
  omega
/-- One text behind an own row. -/
theorem own_snoc9 {w w7 : World} {zb : Nat} {v v7 : Value} {l : List Bytes} {s : Bytes} {O : Obj} {W : World} (hlow : Below zb W w) (hz : zb ≤ w.heap.size) (own : w.ownsRow zb 9 1 v l.length (strs l)) (own7 : w7.ownsRow zb 9 1 v7 (l.length + [s].length) (strs l ++ strs [s])) (hg : (w.alloc O).grownBy w7 v.ownBlock) : w7.ownsRow zb 9 1 v7 (l ++ [s]).length (strs (l ++ [s])) ∧ Below zb W w7 := by
 constructor
 ·have e1 : (l ++ [s]).length = l.length + [s].length := by simp
  have e2 : strs (l ++ [s]) = strs l ++ strs [s] := by simp [strs]
  rw [e1, e2]; exact own7
 ·exact (hlow.alloc (by omega) O).grown hg (by rw [World.size_alloc]; omega) (fun k e => (own.lt k e).1)
set_option maxHeartbeats 8000000 in
set_option maxRecDepth 100000 in
theorem refnames_any (f : FT) (hll : f.ml.length ≤ 6000000) (n0 : Nat) (w : World) (hn0 : n0 ≤ w.heap.size) (hin : f.In n0 w) : Calls Tryz.prog 32 #[f.val] w (RowR (f.ml.map (·.nm)) w) := by
 obtain ⟨ma, mc, ml⟩ := f
 have hll : ml.length ≤ 6000000 := hll
 simp only [FT.val, FT.cells]
 obtain ⟨gx, hgx⟩ : ∃ gx, w.heap.size = gx := ⟨_, rfl⟩
 obtain ⟨W1, hW1⟩ : ∃ W1, w.alloc (.cells #[.slice ma ml.length mc] 24) = W1 := ⟨_, rfl⟩
 have hb0 : Below w.heap.size w W1 := by rw [← hW1]; exact (Below.refl _ _).alloc (Nat.le_refl _) _
 have BX : W1.heap[gx]? = some (.cells #[.slice ma ml.length mc] 24 (0, 0)) := by rw [← hW1, ← hgx]; exact World.alloc_heap_new w _
 have y0 : W1.cell? ⟨gx, 0, none⟩ = some (.slice ma ml.length mc) := by simp [World.cell?, BX]
 obtain ⟨zb, hzb⟩ : ∃ zb, W1.heap.size = zb := ⟨_, rfl⟩
 have hgz : gx < zb := by rw [← hzb, ← hW1]; simp [hgx]
 have HB := Lib.hid (And.intro hb0 BX)
 have HI := Lib.hid hin
 have HZB := Lib.hid hzb
 clear hb0 BX hin hzb
 go_enter Tryz.func32, Tryz.ntmps32
 go_wp2_with fail
 (try rw [hW1])
 clear hW1 y0
 go_loopg [3, 4] ml.length (fun gh v u wr => ∃ (k : Nat) (M : List Bytes), u = .int .i64 k ∧ k + gh = ml.length ∧ (ml.map (·.nm)).take k = M ∧ wr.ownsRow zb 9 1 v M.length (strs M) ∧ Below zb W1 wr)
 case atStart => exact ⟨0, [], rfl, by omega, rfl, World.ownsRow_nil _ _ _ _, Below.refl _ _⟩
 case round =>
  obtain ⟨k, M, rfl, hk, hM, hown, hbw⟩ := hrel
  have BXr := (hbw.block gx hgz).trans HB.out.2
  have y0 : wr.cell? ⟨gx, 0, none⟩ = some (.slice ma ml.length mc) := by simp [World.cell?, BXr]
  have hzr : zb ≤ wr.heap.size := by
   have h9 := hbw.size
   have h8 := HZB.out
   omega
  have hml : M.length ≤ k := by rw [← hM]; simp; omega
  by_cases hlt : k < ml.length
  ·have d1 : decide (k < ml.length) = true := by simpa using hlt
   have d2 : decide ((k : Int) < (ml.length : Int)) = true := by rw [decide_eq_true_eq]; omega
   have x1 : (k : Int) < (ml.length : Int) := by omega
   have hbW : Below w.heap.size w wr := HB.out.1.trans (hbw.mono (by omega))
   have hkt : KeptTo n0 w wr := Below.keptTo hbW hn0
   obtain ⟨b, o, rfl, hb, hr, -⟩ := InRow.at (InRow.keep hkt (fun x _ h => MT.In.keep hkt x h) HI.out) hlt
   have hnx : (ml.map (·.nm)).take (k + 1) = M ++ [ml[k].nm] := by rw [List.take_succ_eq_append_getElem (by simpa using hlt), hM, List.getElem_map]
   obtain ⟨x, hxg⟩ : ∃ x, ml[k] = x := ⟨_, rfl⟩
   rw [hxg] at hr hnx
   have r0 : wr.cell? ⟨b, o + k * 4, none⟩ = some (.string (bs x.nm)) := hr 0 _ rfl
   obtain ⟨s, hs⟩ : ∃ s, x.nm = s := ⟨_, rfl⟩
   rw [hs] at r0 hnx
   have HOW := Lib.hid hown
   have HNX := Lib.hid hnx
   have HBW := Lib.hid hbw
   obtain ⟨aM, cM, rfl, -⟩ := own_shape7 hown
   clear hr hxg hs hnx hM hown hbw hbW hkt BXr
   go_wp2_with (at_builtin; refine wpList_append_strs7 rfl (.tmp 12) (.tmp 19) rfl zb (.slice aM M.length cM) M.length (strs M) rfl (HOW.out.alloc _) (some ⟨wr.heap.size, 0, none⟩) [s] 1 rfl (by intro h; cases h) (lies_new7 _ _ _) (by simp; omega) (by rw [World.size_alloc]; omega) ?_; intro v7 w7 own7 hg7; have HN7 := Lib.hid (own_snoc9 HBW.out hzr HOW.out own7 hg7); obtain ⟨a7, c7, rfl, hc7⟩ := own_shape7 own7; clear own7 hg7)
   obtain ⟨gg, rfl⟩ : ∃ gg, gk = gg + 1 := ⟨gk - 1, by omega⟩
   go_roundg gg
   case rel => exact ⟨k + 1, _, rfl, by omega, HNX.out, HN7.out.1, HN7.out.2⟩
   case measure => omega
  ·have d1 : decide (k < ml.length) = false := by simpa using hlt
   have d2 : decide ((k : Int) < (ml.length : Int)) = false := by rw [decide_eq_false_iff_not]; omega
   obtain rfl : ml.map (·.nm) = M := by rw [← hM, List.take_of_length_le (by simp; omega)]
   have HR := Lib.hid (own_row9 hown)
   have HBW : Hid (Below w.heap.size w wr) := Lib.hid (HB.out.1.trans (hbw.mono (by omega)))
   obtain ⟨a7, c7, rfl, hc7⟩ := own_shape7 hown
   clear hown hbw hM BXr
   go_wp2
   go_ret
   obtain ⟨a9, c9, e9, h1, h2, h3⟩ := HR.out
   injection e9 with e1 e2 e3
   subst e1; subst e3
   first
    | exact ⟨_, _, rfl, h1, h2, h3, HBW.out⟩
    | exact ⟨_, _, rfl, h1, h2, h3, by have h9 := HBW.out; rw [hgx] at h9; exact h9⟩
    | exact ⟨_, _, by simp, h1, h2, h3, HBW.out⟩
/-- What next tells. -/
def NxP (ml : List MT) (out : List Bytes) (r : Int) : Prop := (r = -1 ∧ nextN ml out = none) ∨ ∃ (i : Nat) (h : i < ml.length), r = i ∧ nextN ml out = some ml[i].nm
set_option maxHeartbeats 8000000 in
set_option maxRecDepth 100000 in
theorem refnext_any (f : FT) (hll : f.ml.length ≤ 6000000) (hus : ∀ m ∈ f.ml, IT.szL m.il ≤ 6000000) (out : List Bytes) (a : Option Addr) (c : Nat) (hcn : a = none → c = 0) (hol : out.length ≤ 6000000) (n0 : Nat) (w : World) (hn0 : n0 ≤ w.heap.size) (hl : LiesS w a out) (hin : f.In n0 w) : Calls Tryz.prog 59 #[f.val, .slice a out.length c] w fun e w' => ∃ r : Int, e = .returned (.int .i64 r) ∧ NxP f.ml out r ∧ Below w.heap.size w w' := by
 obtain ⟨ma, mc, ml⟩ := f
 have hll : ml.length ≤ 6000000 := hll
 have HUS : Hid (∀ m ∈ ml, IT.szL m.il ≤ 6000000) := hus
 simp only [FT.val, FT.cells]
 obtain ⟨gx, hgx⟩ : ∃ gx, w.heap.size = gx := ⟨_, rfl⟩
 obtain ⟨W1, hW1⟩ : ∃ W1, w.alloc (.cells #[.slice ma ml.length mc] 24) = W1 := ⟨_, rfl⟩
 have hb0 : Below w.heap.size w W1 := by rw [← hW1]; exact (Below.refl _ _).alloc (Nat.le_refl _) _
 have BX : W1.heap[gx]? = some (.cells #[.slice ma ml.length mc] 24 (0, 0)) := by rw [← hW1, ← hgx]; exact World.alloc_heap_new w _
 have y0 : W1.cell? ⟨gx, 0, none⟩ = some (.slice ma ml.length mc) := by simp [World.cell?, BX]
 have HB := Lib.hid (And.intro hb0 BX)
 have HI := Lib.hid hin
 have HL := Lib.hid (lies_keep7 hl hb0)
 clear hb0 BX hin hl hus
 go_enter Tryz.func59, Tryz.ntmps59
 go_wp2_with fail
 (try rw [hW1])
 clear hW1 y0
 go_loopg [5] ml.length (fun gh u wr => ∃ k : Nat, u = .int .i64 k ∧ k + gh = ml.length ∧ (ml.drop k).find? (canN out) = ml.find? (canN out) ∧ Below W1.heap.size W1 wr)
 case atStart => exact ⟨0, rfl, by omega, by rw [List.drop_zero], Below.refl _ _⟩
 case round =>
  obtain ⟨k, rfl, hk, hfd, hbw⟩ := hrel
  have HFD := Lib.hid hfd
  have BXr := block_kept HB.out.2 hbw
  have y0 : wr.cell? ⟨gx, 0, none⟩ = some (.slice ma ml.length mc) := by simp [World.cell?, BXr]
  have hbW : Below w.heap.size w wr := HB.out.1.trans (hbw.mono HB.out.1.size)
  clear hfd
  by_cases hlt : k < ml.length
  ·have d1 : decide (k < ml.length) = true := by simpa using hlt
   have d2 : decide ((k : Int) < (ml.length : Int)) = true := by rw [decide_eq_true_eq]; omega
   have x1 : (k : Int) < (ml.length : Int) := by omega
   have hkt : KeptTo n0 w wr := Below.keptTo hbW hn0
   obtain ⟨b, o, rfl, hb, hr, hx⟩ := InRow.at (InRow.keep hkt (fun x _ h => MT.In.keep hkt x h) HI.out) hlt
   have hdr : (ml.drop k).find? (canN out) = if canN out ml[k] = true then some ml[k] else (ml.drop (k + 1)).find? (canN out) := by
    rw [← List.getElem_cons_drop hlt, List.find?_cons]
    cases canN out ml[k] <;> rfl
   have hsl := HUS.out ml[k] (List.getElem_mem hlt)
   have hlk := lies_keep7 HL.out hbw
   have hul : (usesM ml[k]).length ≤ 6000000 := by
    have h1 := usesL_len7 ml[k].il []
    rw [usesL_is] at h1
    show (addN [] (instL ml[k].il)).length ≤ _
    simp at h1
    omega
   have qU := fun (V : World) (hV : Below wr.heap.size wr V) => refUses_any ml[k] (by omega) n0 V (by have := hV.size; have := hbW.size; omega) (MT.In.keep (Below.keptTo hV (by have := hbW.size; omega)) _ hx)
   have hcan : canN out ml[k] = (!out.contains ml[k].nm && (usesM ml[k]).all fun u => out.contains u) := rfl
   obtain ⟨x, hxg⟩ : ∃ x, ml[k] = x := ⟨_, rfl⟩
   have HMK : Hid (canN out x = true → NxP ml out k) := Lib.hid (fun h => .inr ⟨k, hlt, rfl, by unfold nextN; rw [← HFD.out, hdr, if_pos (by rw [hxg]; exact h)]; rfl⟩)
   rw [hxg] at hr hdr qU hcan hul
   obtain ⟨U, hU⟩ : ∃ U, usesM x = U := ⟨_, rfl⟩
   simp only [hU] at qU hcan hul
   have HDR : Hid (canN out x = false → (ml.drop (k + 1)).find? (canN out) = ml.find? (canN out)) := Lib.hid (fun h => by rw [← HFD.out, hdr, if_neg (by rw [h]; decide)])
   have HCN := Lib.hid hcan
   obtain ⟨nm, pa, pc, pl, ta, tc, tl, ia, ic, il⟩ := x
   simp only [MT.val, MT.cells] at qU
   have HQU := Lib.hid qU
   have r0 : wr.cell? ⟨b, o + k * 4, none⟩ = some (.string (bs nm)) := hr 0 _ rfl
   have r1 : wr.cell? ⟨b, o + k * 4 + 1, none⟩ = some (.slice pa pl.length pc) := hr 1 _ rfl
   have r2 : wr.cell? ⟨b, o + k * 4 + 2, none⟩ = some (.slice ta tl.length tc) := hr 2 _ rfl
   have r3 : wr.cell? ⟨b, o + k * 4 + 3, none⟩ = some (.slice ia il.length ic) := hr 3 _ rfl
   obtain ⟨gm, hgm⟩ : ∃ gm, wr.heap.size = gm := ⟨_, rfl⟩
   obtain ⟨wa, hwa⟩ : ∃ wa, wr.alloc (.cells #[.string (bs nm), .slice pa pl.length pc, .slice ta tl.length tc, .slice ia il.length ic] 39) = wa := ⟨_, rfl⟩
   have hba : Below wr.heap.size wr wa := by rw [← hwa]; exact (Below.refl _ _).alloc (Nat.le_refl _) _
   have BM : wa.heap[gm]? = some (.cells #[.string (bs nm), .slice pa pl.length pc, .slice ta tl.length tc, .slice ia il.length ic] 39 (0, 0)) := by rw [← hwa, ← hgm]; exact World.alloc_heap_new wr _
   have z0 : wa.cell? ⟨gm, 0, none⟩ = some (.string (bs nm)) := by simp [World.cell?, BM]
   have q := amongS_any a c out nm (by omega) wa (lies_keep7 hlk hba)
   obtain ⟨KK, hKK⟩ : ∃ KK, out.contains nm = KK := ⟨_, rfl⟩
   rw [hKK] at q
   have HKK := Lib.hid hKK
   have HBW := Lib.hid hbw
   have HA := Lib.hid (And.intro BM (And.intro hba (lies_keep7 hlk hba)))
   clear hr hx hdr hsl hlk qU hcan hxg hU hbW hkt BXr hKK BM hba hbw
   go_wp2_with fail
   (try rw [hwa])
   refine q.mono ?_
   clear q hwa z0 r0 r1 r2 r3 y0
   rintro e w1 ⟨rfl, n, hw1⟩
   have hb1 : Below wa.heap.size wa w1 := by rw [hw1]; exact below_drewN (Below.refl _ _) n
   have HB1 := Lib.hid (HA.out.2.1.trans (hb1.mono HA.out.2.1.size))
   have BM1 := Lib.hid (block_kept HA.out.1 hb1)
   have HL1 := Lib.hid (lies_keep7 HA.out.2.2 hb1)
   clear hw1 hb1 HA
   cases KK with
   | true =>
    have HE := Lib.hid (HDR.out (by rw [HCN.out, HKK.out]; rfl))
    have HBX := Lib.hid (HBW.out.trans (HB1.out.mono HBW.out.size))
    clear HDR HCN HKK HMK HQU
    go_wp2
    obtain ⟨gg, rfl⟩ : ∃ gg, gk = gg + 1 := ⟨gk - 1, by omega⟩
    go_roundg gg
    case rel => exact ⟨k + 1, rfl, by omega, HE.out, HBX.out⟩
    case measure => omega
   | false =>
    have z0 : w1.cell? ⟨gm, 0, none⟩ = some (.string (bs nm)) := by simp [World.cell?, BM1.out]
    have z1 : w1.cell? ⟨gm, 1, none⟩ = some (.slice pa pl.length pc) := by simp [World.cell?, BM1.out]
    have z2 : w1.cell? ⟨gm, 2, none⟩ = some (.slice ta tl.length tc) := by simp [World.cell?, BM1.out]
    have z3 : w1.cell? ⟨gm, 3, none⟩ = some (.slice ia il.length ic) := by simp [World.cell?, BM1.out]
    have q := HQU.out w1 HB1.out
    go_wp2_with fail
    refine q.mono ?_
    clear q z0 z1 z2 z3
    rintro e w2 ⟨v, rfl, ⟨au, cu, rfl, hcu, hlu⟩, hb2⟩
    have q := refbehind_any U out (by omega) (by omega) au a cu c w2 hlu (lies_keep7 HL1.out hb2)
    obtain ⟨BB, hBB⟩ : ∃ BB, (U.all fun n => out.contains n) = BB := ⟨_, rfl⟩
    rw [hBB] at q
    have HBB : Hid (canN out ⟨nm, pa, pc, pl, ta, tc, tl, ia, ic, il⟩ = BB) := Lib.hid (by rw [HCN.out, HKK.out, hBB]; rfl)
    have HB2 := Lib.hid (HB1.out.trans (hb2.mono HB1.out.size))
    clear hBB hb2 hlu hcu HKK HCN
    go_wp2_with fail
    refine q.mono ?_
    clear q
    rintro e w3 ⟨rfl, hb3⟩
    have HB3 := Lib.hid (HBW.out.trans ((HB2.out.trans (hb3.mono HB2.out.size)).mono HBW.out.size))
    clear hb3
    cases BB with
    | true =>
     have HE := Lib.hid (HMK.out HBB.out)
     have HLo := Lib.hid (HB.out.1.trans (HB3.out.mono HB.out.1.size))
     clear HDR HMK HQU
     go_wp2
     go_ret
     first
      | exact ⟨_, rfl, HE.out, HLo.out⟩
      | exact ⟨_, rfl, HE.out, by have h9 := HLo.out; rw [hgx] at h9; exact h9⟩
    | false =>
     have HE := Lib.hid (HDR.out HBB.out)
     clear HDR HMK HQU
     go_wp2
     obtain ⟨gg, rfl⟩ : ∃ gg, gk = gg + 1 := ⟨gk - 1, by omega⟩
     go_roundg gg
     case rel => exact ⟨k + 1, rfl, by omega, HE.out, HB3.out⟩
     case measure => omega
  ·have d1 : decide (k < ml.length) = false := by simpa using hlt
   have d2 : decide ((k : Int) < (ml.length : Int)) = false := by rw [decide_eq_false_iff_not]; omega
   have HE : Hid (NxP ml out (-1)) := Lib.hid (.inl ⟨rfl, by unfold nextN; rw [← HFD.out, List.drop_eq_nil_of_le (by omega)]; rfl⟩)
   have HLo := Lib.hid hbW
   clear hbw hbW BXr
   go_wp2
   go_ret
   first
    | exact ⟨_, rfl, HE.out, HLo.out⟩
    | exact ⟨_, rfl, HE.out, by have h9 := HLo.out; rw [hgx] at h9; exact h9⟩
end Go.Proofs.YtiipjbafdhijlaaGreatDoor
