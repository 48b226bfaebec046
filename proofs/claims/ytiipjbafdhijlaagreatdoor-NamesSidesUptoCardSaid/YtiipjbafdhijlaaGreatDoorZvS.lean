/-
  NvS, NvM, in one text.
-/
import Derived.Test.YtiipjbafdhijlaaGreatDoorZvA
import Derived.Test.YtiipjbafdhijlaaGreatDoorZuD
namespace Go.Proofs.YtiipjbafdhijlaaGreatDoor
open Go Go.RowKit
set_option linter.unusedVariables false
set_option linter.unusedSimpArgs false
open Go.Sort
/-- A choice of items. -/
def choI9 (z : Nat) (la : Option Addr) (lc : Nat) (l : List IT) (ea : Option Addr) (ec : Nat) (m : List IT) : IT := .mk 8 [] [] (some ⟨z, 0, none⟩) 1 [numT] none 0 [] la lc l ea ec m none 0 [] none 0 []
theorem choI9_cho (z : Nat) (la : Option Addr) (lc : Nat) (l : List IT) (ea : Option Addr) (ec : Nat) (m : List IT) : ChoI (choI9 z la lc l ea ec m) l m := cho_of _ _ _ _ _ _ _ _ _ _ _ _ _ _ _ _ _ _ _
theorem choI9_may (z : Nat) (la : Option Addr) (lc : Nat) (l : List IT) (ea : Option Addr) (ec : Nat) (m : List IT) : mayI (choI9 z la lc l ea ec m) = (l.all mayI && m.all mayI) := by
 unfold choI9
 rw [mayI]
 have hk : ki (8 : Int).toNat = ki 8 := rfl
 rw [hk]
 have hn : mayX numT = true := by unfold numT; rw [mayX]; decide
 simp only [ki, nameB]
 simp [mayIL_all, headB, countB, amongB, hn]
 cases l <;> cases m <;> simp
theorem choI9_inst (z : Nat) (la : Option Addr) (lc : Nat) (l : List IT) (ea : Option Addr) (ec : Nat) (m : List IT) : instI (choI9 z la lc l ea ec m) = instL l ++ instL m := by
 unfold choI9; rw [instI]; simp
theorem choI9_sz (z : Nat) (la : Option Addr) (lc : Nat) (l : List IT) (ea : Option Addr) (ec : Nat) (m : List IT) : (choI9 z la lc l ea ec m).sz = 2 + (IT.szL l + IT.szL m) := by
 simp [choI9, numT, IT.sz, XT.sz, XT.szL, ST.szL, IT.szL, BT.szL]; omega
theorem choI9_dp (z : Nat) (la : Option Addr) (lc : Nat) (l : List IT) (ea : Option Addr) (ec : Nat) (m : List IT) : IT.dpL l ≤ (choI9 z la lc l ea ec m).dp ∧ IT.dpL m ≤ (choI9 z la lc l ea ec m).dp := by
 simp only [choI9, IT.dp]
 refine ⟨?_, ?_⟩
 ·exact Nat.le_trans (Nat.le_trans (Nat.le_max_left _ _) (Nat.le_trans (Nat.le_max_right _ _) (Nat.le_max_right _ _))) (Nat.le_add_left _ _)
 ·exact Nat.le_trans (Nat.le_trans (Nat.le_max_left _ _) (Nat.le_trans (Nat.le_max_right _ _) (Nat.le_trans (Nat.le_max_right _ _) (Nat.le_max_right _ _)))) (Nat.le_add_left _ _)
theorem solOk_of {L : List IT} (h1 : 1 + IT.szL L ≤ 65536) (h2 : 1 + IT.dpL L ≤ 64) : solOk L = true := by
 unfold solOk; rw [decide_eq_true h1, decide_eq_true h2]; rfl
theorem solOk_is {L : List IT} (h : solOk L = true) : 1 + IT.szL L ≤ 65536 ∧ 1 + IT.dpL L ≤ 64 := by
 unfold solOk at h
 rw [Bool.and_eq_true] at h
 exact ⟨of_decide_eq_true h.1, of_decide_eq_true h.2⟩
theorem sides_law {l m : List IT} (z : Nat) (la la2 ea : Option Addr) (lc lc2 ec : Nat) {C D T : IT} (z2 z3 : Nat) (hC : C = choI9 z la lc l ea ec m) (hD : D = choI9 z2 la lc l la2 lc2 l) (hT : T = choI9 z3 la lc l none 0 []) :
  (solC l = 0 → solC [D] = 0 ∨ solC [D] = 2) ∧ (solC l = 0 → (toldA ([], true) l).1 ≠ [] → solC (l ++ [T]) = 70 ∨ solC (l ++ [T]) = 2) ∧ (solC [C] = 0 → solC l = 0 ∧ solC m = 0) := by
 have cC : ChoI C l m := by rw [hC]; exact choI9_cho _ _ _ _ _ _ _
 have cD : ChoI D l l := by rw [hD]; exact choI9_cho _ _ _ _ _ _ _
 have cT : ChoI T l [] := by rw [hT]; exact choI9_cho _ _ _ _ _ _ _
 refine ⟨fun h => ?_, fun h hn => ?_, fun h => ?_⟩
 ·obtain ⟨h1, h2, h3, h4⟩ := sol_zero h
  cases ho : solOk [D] with
  | false => exact .inr (sol_great ho)
  | true =>
   left
   refine (sol_is [D] ho ?_).2.1 (alike_right cD h3) ?_
   ·simp only [List.all_cons, List.all_nil, Bool.and_true]
    rw [hD, choI9_may, h2]; rfl
   ·rw [instL, instL, hD, choI9_inst, h4]; rfl
 ·obtain ⟨h1, h2, h3, h4⟩ := sol_zero h
  cases ho : solOk (l ++ [T]) with
  | false => exact .inr (sol_great ho)
  | true =>
   left
   refine (sol_is (l ++ [T]) ho ?_).1 ?_
   ·rw [List.all_append, h2]
    simp only [List.all_cons, List.all_nil, Bool.and_true, Bool.true_and]
    rw [hT, choI9_may, h2]; rfl
   ·unfold solR
    rw [beside_wrong cT hn]; rfl
 ·obtain ⟨h1, h2, h3, h4⟩ := sol_zero h
  obtain ⟨r1, r2⟩ := sides_right cC h3
  obtain ⟨o1, o2⟩ := solOk_is h1
  rw [instL, instL, List.append_nil, hC, choI9_inst] at h4
  obtain ⟨i1, i2⟩ := List.append_eq_nil_iff.1 h4
  simp only [List.all_cons, List.all_nil, Bool.and_true] at h2
  rw [hC, choI9_may, Bool.and_eq_true] at h2
  have s1 : IT.szL [C] = 2 + (IT.szL l + IT.szL m) := by
   show C.sz + 0 = _
   rw [hC, choI9_sz]; rfl
  have d1 : C.dp ≤ IT.dpL [C] := Nat.le_max_left _ _
  have d2 := choI9_dp z la lc l ea ec m
  rw [← hC] at d2
  exact ⟨(sol_is l (solOk_of (by omega) (by omega)) h2.1).2.1 r1 i1, (sol_is m (solOk_of (by omega) (by omega)) h2.2).2.1 r2 i2⟩
end Go.Proofs.YtiipjbafdhijlaaGreatDoor
namespace Go.Proofs.YtiipjbafdhijlaaGreatDoor
open Go Go.RowKit
set_option linter.unusedVariables false
set_option linter.unusedSimpArgs false
open Go.Sort
structure LoS (W V : World) (l : List IT) (a : Option Addr) (m : List IT) (b : Option Addr) : Prop where
 env : EnvA V
 low : Below W.heap.size W V
 row : RA V l a
 row2 : RA V m b
theorem LoS.keep {W V V' : World} {l m : List IT} {a b : Option Addr} (h : LoS W V l a m b) (hb : Below V.heap.size V V') : LoS W V' l a m b := ⟨h.env.keep hb, h.low.trans (hb.mono h.low.size), h.row.keep hb, h.row2.keep hb⟩
theorem choI9_in {V : World} {z : Nat} {la ea : Option Addr} {lc ec : Nat} {l m : List IT} (hz : V.heap[z]? = some (.cells #[.int .i64 1, .string ⟨#[]⟩, .int .i64 0, .int .i64 0, .int .u64 1, .slice none 0 0] 54 (0, 0))) (hl : RA V l la) (hm : RA V m ea) : IT.In V.heap.size V (choI9 z la lc l ea ec m) := by
 have hzl := (Array.getElem?_eq_some_iff.1 hz).1
 unfold choI9
 rw [IT.In_mk]
 refine ⟨⟨⟨z, 0, rfl, hzl, fun j v hv => ?_⟩, numT_in _ _, trivial⟩, trivial, hl, hm, trivial, trivial⟩
 simp only [World.cell?, hz]
 have hj : j < 6 := by have := (List.getElem?_eq_some_iff.1 hv).1; simpa [numT, XT.cells] using this
 match j, hj with
 | 0, _ => simpa [numT, XT.cells, show bs [] = ⟨#[]⟩ from rfl] using hv
 | 1, _ => simpa [numT, XT.cells, show bs [] = ⟨#[]⟩ from rfl] using hv
 | 2, _ => simpa [numT, XT.cells, show bs [] = ⟨#[]⟩ from rfl] using hv
 | 3, _ => simpa [numT, XT.cells, show bs [] = ⟨#[]⟩ from rfl] using hv
 | 4, _ => simpa [numT, XT.cells, show bs [] = ⟨#[]⟩ from rfl] using hv
 | 5, _ => simpa [numT, XT.cells, show bs [] = ⟨#[]⟩ from rfl] using hv
theorem choI9_cells (z : Nat) (la ea : Option Addr) (lc ec : Nat) (l m : List IT) : IT.cells (choI9 z la lc l ea ec m) = [.int .i64 8, .string ⟨#[]⟩, .string ⟨#[]⟩, .slice (some ⟨z, 0, none⟩) 1 1, .slice none 0 0, .slice la l.length lc, .slice ea m.length ec, .slice none 0 0, .slice none 0 0] := rfl
theorem choI9_wf {z : Nat} {la ea : Option Addr} {lc ec : Nat} {l m : List IT} (h : IT.WfL l) (h2 : IT.WfL m) : (choI9 z la lc l ea ec m).Wf := by
 have hn : numT.Wf := by unfold numT; rw [XT.wf_mk]; exact ⟨by decide, fun x h => by cases h⟩
 unfold choI9; rw [IT.Wf]; exact ⟨⟨hn, trivial⟩, trivial, h, h2, trivial, trivial⟩
theorem choI9_bk (z : Nat) (la ea : Option Addr) (lc ec : Nat) (l m : List IT) : (choI9 z la lc l ea ec m).bk = 1 + numT.bk + IT.bkL l + IT.bkL m := by
 simp only [choI9, IT.bk, XT.bkL, ST.bkL, BT.bkL, List.length_nil]; omega
theorem ra_c1 {V : World} {z : Nat} {la ea : Option Addr} {lc ec : Nat} {l m : List IT} (hz : V.heap[z]? = some (.cells #[.int .i64 1, .string ⟨#[]⟩, .int .i64 0, .int .i64 0, .int .u64 1, .slice none 0 0] 54 (0, 0))) (hl : RA V l la) (hm : RA V m ea) :
  RA (V.alloc (.cells #[.int .i64 8, .string ⟨#[]⟩, .string ⟨#[]⟩, .slice (some ⟨z, 0, none⟩) 1 1, .slice none 0 0, .slice la l.length lc, .slice ea m.length ec, .slice none 0 0, .slice none 0 0] 48)) [choI9 z la lc l ea ec m] (some ⟨V.heap.size, 0, none⟩) := by
 have hb : Below V.heap.size V (V.alloc (.cells #[.int .i64 8, .string ⟨#[]⟩, .string ⟨#[]⟩, .slice (some ⟨z, 0, none⟩) 1 1, .slice none 0 0, .slice la l.length lc, .slice ea m.length ec, .slice none 0 0, .slice none 0 0] 48)) := (Below.refl _ _).alloc (Nat.le_refl _) _
 refine RA.blk (World.alloc_heap_new V _) rfl (fun x hx => ?_)
 rw [List.mem_singleton.1 hx]
 exact itin_keep9 (choI9_in hz hl hm) hb
theorem sol_ckn (V : World) (L : List IT) (n : Nat) (hn : L.length = n) (a : Option Addr) (c : Nat) (he : EnvA V) (h : RA V L a) (hwf : IT.WfL L) (hbk : IT.bkL L ≤ 4200000) :
  Calls Tryz.prog 10 #[.agg #[.slice (some ⟨V.heap.size, 0, none⟩) 1 1]] (V.alloc (.cells #[.string (bs [97]), .slice none 0 0, .slice none 0 0, .slice a n c] 39)) fun e V' => e = .returned (.int .i64 (solC L)) ∧ Below V.heap.size V V' := by
 subst hn; exact sol_ck V L a c he h hwf hbk
/-- The row that was made of the items and the choice. -/
theorem ra_own {V w5 V2 w6 : World} {l : List IT} {a : Option Addr} {c z : Nat} {v5 : Value} {b6 c6 : Nat} (hb5 : Below V.heap.size V w5) (ho5 : w5.ownsRow V.heap.size 48 9 v5 l.length (l.flatMap IT.cells)) (hb2 : Below w5.heap.size w5 V2) (hz : V2.heap[z]? = some (.cells #[.int .i64 1, .string ⟨#[]⟩, .int .i64 0, .int .i64 0, .int .u64 1, .slice none 0 0] 54 (0, 0))) (hz5 : w5.heap.size ≤ z)
  (ho6 : w6.ownsRow V.heap.size 48 9 (.slice (some ⟨b6, 0, none⟩) (l.length + 1) c6) (l.length + 1) (l.flatMap IT.cells ++ IT.cells (choI9 z a c l none 0 []))) (hg6 : V2.grownBy w6 v5.ownBlock) (hl : RA V l a) :
  Below V.heap.size V w6 ∧ RA w6 (l ++ [choI9 z a c l none 0 []]) (some ⟨b6, 0, none⟩) := by
 have hV2 : Below V.heap.size V V2 := hb5.trans (hb2.mono hb5.size)
 have h6 : Below V.heap.size V2 w6 := (Below.refl _ _).grown hg6 hV2.size (fun q hq => (ho5.lt q hq).1)
 have hb6 : Below V.heap.size V w6 := hV2.trans h6
 have hz6 : w6.heap[z]? = some (.cells #[.int .i64 1, .string ⟨#[]⟩, .int .i64 0, .int .i64 0, .int .u64 1, .slice none 0 0] 54 (0, 0)) := (hg6.block z (Array.getElem?_eq_some_iff.1 hz).1 (fun e => by have := (ho5.lt z e.symm).2; omega)).trans hz
 have hT := choI9_in (lc := c) (ec := 0) (m := []) (ea := none) hz6 (hl.keep hb6) trivial
 refine ⟨hb6, ?_⟩
 have hbl := ho6.lt b6 rfl
 refine Kd.row kdI hbl.2 (fun j u hu => ?_) (fun y hy => ?_)
 ·rw [List.flatMap_append] at hu
  have hu : (l.flatMap IT.cells ++ ([choI9 z a c l none 0 []].flatMap IT.cells))[j]? = some u := hu
  rw [show [choI9 z a c l none 0 []].flatMap IT.cells = IT.cells (choI9 z a c l none 0 []) by simp] at hu
  have h9 := ho6.cells (g := b6) rfl j u hu
  rw [Addr.add_mid] at h9
  exact h9
 ·rcases List.mem_append.1 hy with h | h
  ·exact itin_keep9 (InRow.all hl y h) hb6
  ·rw [List.mem_singleton.1 h]; exact hT
set_option maxHeartbeats 16000000 in
set_option maxRecDepth 100000 in
theorem sides_any (W : World) (l m : List IT) (a b : Option Addr) (c d : Nat) (he : EnvA W) (hwl : IT.WfL l) (hwm : IT.WfL m) (hil : RA W l a) (him : RA W m b) (hbl : IT.bkL l ≤ 1100000) (hbm : IT.bkL m ≤ 1100000) (hcap : a = none → c = 0) :
  Calls Tryz.prog 6 #[.slice a l.length c, .slice b m.length d] W fun e W' => e = .returned (.bool true) ∧ Below W.heap.size W W' := by
 have HSZ : Hid (IT.szL l ≤ 1100000 ∧ IT.szL m ≤ 1100000) := Lib.hid ⟨Nat.le_trans (IT.szL_bk l) hbl, Nat.le_trans (IT.szL_bk m) hbm⟩
 have HO : Hid (LoS W W l a m b) := Lib.hid ⟨he, Below.refl _ _, hil, him⟩
 have HWF := Lib.hid (And.intro hwl hwm)
 have HBK := Lib.hid (And.intro hbl hbm)
 have HLEN : Hid (l.length ≤ 1100000) := Lib.hid (Nat.le_trans (IT.bkL_len l) hbl)
 clear he hwl hwm hil him hbl hbm
 go_enter Tryz.func6, Tryz.ntmps6
 go_wp2_with fail
 refine (live7_any _ HO.out.env).mono ?_
 rintro e V1 ⟨rfl, hb⟩
 replace HO := Lib.hid (HO.out.keep hb)
 clear hb
 have q := fewl_any l (by have := HSZ.out.1; omega) a c V1 HO.out.row
 go_wp2_with fail
 refine q.mono ?_
 clear q
 rintro e V2 ⟨fw, rfl, hb⟩
 replace HO := Lib.hid (HO.out.keep hb)
 clear hb
 cases fw with
 | false =>
  go_wp2
  go_ret
  exact ⟨rfl, HO.out.low⟩
 | true =>
  have q := fewl_any m (by have := HSZ.out.2; omega) b d V2 HO.out.row2
  go_wp2_with fail
  refine q.mono ?_
  clear q
  rintro e V3 ⟨fw, rfl, hb⟩
  replace HO := Lib.hid (HO.out.keep hb)
  clear hb
  cases fw with
  | false =>
   go_wp2
   go_ret
   exact ⟨rfl, HO.out.low⟩
  | true =>
   obtain ⟨CL, hCL⟩ : ∃ C, solC l = C := ⟨_, rfl⟩
   have HCL := Lib.hid hCL
   obtain ⟨CM, hCM⟩ : ∃ C, solC m = C := ⟨_, rfl⟩
   have HCM := Lib.hid hCM
   clear hCL hCM
   go_wp2_with fail
   refine (module97 a l.length c _).mono ?_
   rintro e V4 ⟨rfl, hbb⟩
   replace HO := Lib.hid (HO.out.keep hbb)
   clear hbb
   have qk := sol_ckn V4 l (l.length) (by simp) a c HO.out.env HO.out.row HWF.out.1 (by have := HBK.out.1; omega)
   rw [HCL.out] at qk
   go_wp2_with fail
   refine qk.mono ?_
   clear qk
   rintro e V5 ⟨rfl, hbb⟩
   replace HO := Lib.hid (HO.out.keep hbb)
   clear hbb
   go_wp2_with fail
   refine (module97 b m.length d _).mono ?_
   rintro e V6 ⟨rfl, hbb⟩
   replace HO := Lib.hid (HO.out.keep hbb)
   clear hbb
   have qk := sol_ckn V6 m (m.length) (by simp) b d HO.out.env HO.out.row2 HWF.out.2 (by have := HBK.out.2; omega)
   rw [HCM.out] at qk
   go_wp2_with fail
   refine qk.mono ?_
   clear qk
   rintro e V7 ⟨rfl, hbb⟩
   replace HO := Lib.hid (HO.out.keep hbb)
   clear hbb
   go_upto_region 8 with (fail)
   go_cut [8] from 35 to 39 (fun p8 wx => ∃ g z1 : Nat, p8 = .pointer (some ⟨g, 0, none⟩) ∧ wx.heap[g]? = some (.cells #[.int .i64 8, .string ⟨#[]⟩, .string ⟨#[]⟩, .slice (some ⟨z1, 0, none⟩) 1 1, .slice none 0 0, .slice a l.length c, .slice b m.length d, .slice none 0 0, .slice none 0 0] 48 (0, 0)) ∧ wx.heap[z1]? = some (.cells #[.int .i64 1, .string ⟨#[]⟩, .int .i64 0, .int .i64 0, .int .u64 1, .slice none 0 0] 54 (0, 0)) ∧ LoS W wx l a m b)
   case first =>
    go_wp2_with fail
    refine (one7_any _).mono ?_
    rintro e V8 ⟨rfl, hbb⟩
    replace HO := Lib.hid (HO.out.keep hbb)
    clear hbb
    go_wp2_with fail
    go_meet
    have h9 := World.alloc_heap_new (V8.alloc (.cells #[.int .i64 1, .string ⟨#[]⟩, .int .i64 0, .int .i64 0, .int .u64 1, .slice none 0 0] 54)) (.cells #[.int .i64 8, .string ⟨#[]⟩, .string ⟨#[]⟩, .slice (some ⟨V8.heap.size, 0, none⟩) 1 1, .slice none 0 0, .slice a l.length c, .slice b m.length d, .slice none 0 0, .slice none 0 0] 48)
    have hb1 : Below V8.heap.size V8 (V8.alloc (.cells #[.int .i64 1, .string ⟨#[]⟩, .int .i64 0, .int .i64 0, .int .u64 1, .slice none 0 0] 54)) := (Below.refl _ _).alloc (Nat.le_refl _) _
    have hb2 : Below (V8.alloc (.cells #[.int .i64 1, .string ⟨#[]⟩, .int .i64 0, .int .i64 0, .int .u64 1, .slice none 0 0] 54)).heap.size (V8.alloc (.cells #[.int .i64 1, .string ⟨#[]⟩, .int .i64 0, .int .i64 0, .int .u64 1, .slice none 0 0] 54)) ((V8.alloc (.cells #[.int .i64 1, .string ⟨#[]⟩, .int .i64 0, .int .i64 0, .int .u64 1, .slice none 0 0] 54)).alloc (.cells #[.int .i64 8, .string ⟨#[]⟩, .string ⟨#[]⟩, .slice (some ⟨V8.heap.size, 0, none⟩) 1 1, .slice none 0 0, .slice a l.length c, .slice b m.length d, .slice none 0 0, .slice none 0 0] 48)) := (Below.refl _ _).alloc (Nat.le_refl _) _
    have h8 := (hb2.block V8.heap.size (by rw [World.size_alloc]; exact Nat.lt_succ_self _)).trans (World.alloc_heap_new V8 (.cells #[.int .i64 1, .string ⟨#[]⟩, .int .i64 0, .int .i64 0, .int .u64 1, .slice none 0 0] 54))
    rw [World.size_alloc] at h9
    exact ⟨_, _, rfl, h9, h8, (HO.out.keep hb1).keep hb2⟩
   case rest =>
    obtain ⟨pC, z1, rfl, hv1, hz9, ho⟩ := hcut
    generalize wc = V10 at *
    replace HO := Lib.hid ho
    have HZ1 := Lib.hid hz9
    clear ho hz9
    have pz0 : V10.cell? ⟨pC, 0, none⟩ = some (.int .i64 8) := by simp [World.cell?, hv1]
    have pz1 : V10.cell? ⟨pC, 1, none⟩ = some (.string ⟨#[]⟩) := by simp [World.cell?, hv1]
    have pz2 : V10.cell? ⟨pC, 2, none⟩ = some (.string ⟨#[]⟩) := by simp [World.cell?, hv1]
    have pz3 : V10.cell? ⟨pC, 3, none⟩ = some (.slice (some ⟨z1, 0, none⟩) 1 1) := by simp [World.cell?, hv1]
    have pz4 : V10.cell? ⟨pC, 4, none⟩ = some (.slice none 0 0) := by simp [World.cell?, hv1]
    have pz5 : V10.cell? ⟨pC, 5, none⟩ = some (.slice a l.length c) := by simp [World.cell?, hv1]
    have pz6 : V10.cell? ⟨pC, 6, none⟩ = some (.slice b m.length d) := by simp [World.cell?, hv1]
    have pz7 : V10.cell? ⟨pC, 7, none⟩ = some (.slice none 0 0) := by simp [World.cell?, hv1]
    have pz8 : V10.cell? ⟨pC, 8, none⟩ = some (.slice none 0 0) := by simp [World.cell?, hv1]
    clear hv1
    obtain ⟨qC, hq⟩ : ∃ q, V10.heap.size = q := ⟨_, rfl⟩
    obtain ⟨V11, hV⟩ : ∃ v, V10.alloc (.cells #[.int .i64 8, .string ⟨#[]⟩, .string ⟨#[]⟩, .slice (some ⟨z1, 0, none⟩) 1 1, .slice none 0 0, .slice a l.length c, .slice b m.length d, .slice none 0 0, .slice none 0 0] 48) = v := ⟨_, rfl⟩
    have hbb : Below V10.heap.size V10 V11 := by rw [← hV]; exact (Below.refl _ _).alloc (Nat.le_refl _) _
    have hr := ra_c1 (z := z1) (lc := c) (ec := d) HZ1.out HO.out.row HO.out.row2
    rw [hV, hq] at hr
    obtain ⟨C, hC⟩ : ∃ C, choI9 z1 a c l b d m = C := ⟨_, rfl⟩
    rw [hC] at hr
    have HC := Lib.hid hC
    have hwC : Hid (IT.WfL [C] ∧ IT.bkL [C] ≤ 2 * 1100000 + 200) := Lib.hid (by
     rw [← HC.out]
     refine ⟨show _ ∧ True from ⟨choI9_wf HWF.out.1 HWF.out.2, trivial⟩, ?_⟩
     show (choI9 z1 a c l b d m).bk + 0 ≤ _
     rw [choI9_bk]
     have h2 := HBK.out
     have h3 : numT.bk ≤ 20 := by decide
     have h4 : IT.bkL [] = 0 := rfl
     omega)
    obtain ⟨CB, hCB⟩ : ∃ x, solC [C] = x := ⟨_, rfl⟩
    have HCB := Lib.hid hCB
    clear hC hCB
    replace HO := Lib.hid (HO.out.keep hbb)
    go_wp2_with fail
    (try rw [hq])
    (try rw [hV])
    clear hV hq hbb HZ1 pz0 pz1 pz2 pz3 pz4 pz5 pz6 pz7 pz8
    go_wp2_with fail
    refine (module97 (some ⟨qC, 0, none⟩) 1 1 _).mono ?_
    rintro e V12 ⟨rfl, hbb⟩
    replace HO := Lib.hid (HO.out.keep hbb)
    replace hr := hr.keep hbb
    clear hbb
    have qk := sol_ckn V12 [C] (1) (by simp) (some ⟨qC, 0, none⟩) 1 HO.out.env hr hwC.out.1 (by have := hwC.out.2; omega)
    rw [HCB.out] at qk
    go_wp2_with fail
    refine qk.mono ?_
    clear qk
    rintro e V13 ⟨rfl, hbb⟩
    replace HO := Lib.hid (HO.out.keep hbb)
    clear hbb
    clear hr
    go_wp2_with fail
    refine (one7_any _).mono ?_
    rintro e V14 ⟨rfl, hbb⟩
    replace HO := Lib.hid (HO.out.keep hbb)
    clear hbb
    obtain ⟨z2, hzz⟩ : ∃ z, V14.heap.size = z := ⟨_, rfl⟩
    obtain ⟨V15, hVV⟩ : ∃ v, V14.alloc (.cells #[.int .i64 1, .string ⟨#[]⟩, .int .i64 0, .int .i64 0, .int .u64 1, .slice none 0 0] 54) = v := ⟨_, rfl⟩
    have hbb : Below V14.heap.size V14 V15 := by rw [← hVV]; exact (Below.refl _ _).alloc (Nat.le_refl _) _
    have hq : V15.heap.size = z2 + 1 := by rw [← hVV, World.size_alloc, hzz]
    have hz9 : V15.heap[z2]? = some (.cells #[.int .i64 1, .string ⟨#[]⟩, .int .i64 0, .int .i64 0, .int .u64 1, .slice none 0 0] 54 (0, 0)) := by rw [← hVV, ← hzz]; exact World.alloc_heap_new V14 _
    replace HO := Lib.hid (HO.out.keep hbb)
    have HZ2 := Lib.hid hz9
    clear hz9
    obtain ⟨V16, hV⟩ : ∃ v, V15.alloc (.cells #[.int .i64 8, .string ⟨#[]⟩, .string ⟨#[]⟩, .slice (some ⟨z2, 0, none⟩) 1 1, .slice none 0 0, .slice a l.length c, .slice a l.length c, .slice none 0 0, .slice none 0 0] 48) = v := ⟨_, rfl⟩
    have hbc : Below V15.heap.size V15 V16 := by rw [← hV]; exact (Below.refl _ _).alloc (Nat.le_refl _) _
    have hr := ra_c1 (z := z2) (lc := c) (ec := c) HZ2.out HO.out.row HO.out.row
    rw [hV, hq] at hr
    obtain ⟨D, hD⟩ : ∃ D, choI9 z2 a c l a c l = D := ⟨_, rfl⟩
    rw [hD] at hr
    have HD := Lib.hid hD
    have hwD : Hid (IT.WfL [D] ∧ IT.bkL [D] ≤ 2 * 1100000 + 200) := Lib.hid (by
     rw [← HD.out]
     refine ⟨show _ ∧ True from ⟨choI9_wf HWF.out.1 HWF.out.1, trivial⟩, ?_⟩
     show (choI9 z2 a c l a c l).bk + 0 ≤ _
     rw [choI9_bk]
     have h2 := HBK.out
     have h3 : numT.bk ≤ 20 := by decide
     have h4 : IT.bkL [] = 0 := rfl
     omega)
    obtain ⟨CD, hCD⟩ : ∃ x, solC [D] = x := ⟨_, rfl⟩
    have HCD := Lib.hid hCD
    clear hD hCD
    replace HO := Lib.hid (HO.out.keep hbc)
    replace HZ2 := Lib.hid ((hbc.block _ (Array.getElem?_eq_some_iff.1 HZ2.out).1).trans HZ2.out)
    go_wp2_with fail
    (try rw [hzz])
    (try rw [hVV])
    (try rw [hV])
    clear hV hq hbc hzz hVV hbb HZ2
    go_wp2_with fail
    refine (module97 (some ⟨z2 + 1, 0, none⟩) 1 1 _).mono ?_
    rintro e V17 ⟨rfl, hbb⟩
    replace HO := Lib.hid (HO.out.keep hbb)
    replace hr := hr.keep hbb
    clear hbb
    have qk := sol_ckn V17 [D] (1) (by simp) (some ⟨z2 + 1, 0, none⟩) 1 HO.out.env hr hwD.out.1 (by have := hwD.out.2; omega)
    rw [HCD.out] at qk
    go_wp2_with fail
    refine qk.mono ?_
    clear qk
    rintro e V18 ⟨rfl, hbb⟩
    replace HO := Lib.hid (HO.out.keep hbb)
    clear hbb
    clear hr
    have HEW := Lib.hid (own_emptyI V18)
    have hkA : Below V18.heap.size V18 (V18.alloc (.cells #[] 48)) := (Below.refl _ _).alloc (Nat.le_refl _) _
    have hiA := HO.out.row
    unfold RA at hiA
    replace hiA := InRow.keep (Below.keptTo hkA (Nat.le_refl _)) (fun x _ h => IT.In.keep (Below.keptTo hkA (Nat.le_refl _)) x h) hiA
    have hll := HLEN.out
    have HR18 := Lib.hid HO.out.row
    have HOX := Lib.hid HO.out
    go_wp2_with (at_builtin; refine wpList_append_kd kdI 37 184 _ Tryz.underlying37 infoKI rfl (by decide) (by decide) onesI rfl (.tmp 56) (.tmp 57) rfl V18.heap.size (.slice (some ⟨V18.heap.size, 0, none⟩) 0 0) 0 [] rfl HEW.out a l c rfl hcap _ V18.heap.size hiA (by omega) (by simp) ?_; intro v5 w5 own5 hg5; rw [Nat.zero_add, List.nil_append] at own5; have hb5 := pu_grow hg5; clear hg5)
    clear hkA hiA HEW
    replace HO := Lib.hid (HO.out.keep hb5)
    have HW5 := Lib.hid (And.intro hb5 own5)
    clear hb5 own5
    refine (one7_any _).mono ?_
    rintro e V19 ⟨rfl, hb19⟩
    replace HO := Lib.hid (HO.out.keep hb19)
    obtain ⟨z3, hzz⟩ : ∃ z, V19.heap.size = z := ⟨_, rfl⟩
    obtain ⟨V20, hVV⟩ : ∃ v, V19.alloc (.cells #[.int .i64 1, .string ⟨#[]⟩, .int .i64 0, .int .i64 0, .int .u64 1, .slice none 0 0] 54) = v := ⟨_, rfl⟩
    have hbb : Below V19.heap.size V19 V20 := by rw [← hVV]; exact (Below.refl _ _).alloc (Nat.le_refl _) _
    have hq : V20.heap.size = z3 + 1 := by rw [← hVV, World.size_alloc, hzz]
    have hz9 : V20.heap[z3]? = some (.cells #[.int .i64 1, .string ⟨#[]⟩, .int .i64 0, .int .i64 0, .int .u64 1, .slice none 0 0] 54 (0, 0)) := by rw [← hVV, ← hzz]; exact World.alloc_heap_new V19 _
    replace HO := Lib.hid (HO.out.keep hbb)
    have hb20 : Below w5.heap.size w5 V20 := hb19.trans (hbb.mono hb19.size)
    obtain ⟨V21, hV⟩ : ∃ v, V20.alloc (.cells #[.int .i64 8, .string ⟨#[]⟩, .string ⟨#[]⟩, .slice (some ⟨z3, 0, none⟩) 1 1, .slice none 0 0, .slice a l.length c, .slice none 0 0, .slice none 0 0, .slice none 0 0] 48) = v := ⟨_, rfl⟩
    have hbc : Below V20.heap.size V20 V21 := by rw [← hV]; exact (Below.refl _ _).alloc (Nat.le_refl _) _
    have hr := ra_c1 (z := z3) (lc := c) (ec := 0) (m := []) (ea := none) hz9 HO.out.row trivial
    rw [List.length_nil, hV, hq] at hr
    have hz21 := (hbc.block _ (Array.getElem?_eq_some_iff.1 hz9).1).trans hz9
    obtain ⟨T, hT⟩ : ∃ T, choI9 z3 a c l none 0 [] = T := ⟨_, rfl⟩
    rw [hT] at hr
    have HT := Lib.hid hT
    have hb21 : Below w5.heap.size w5 V21 := hb20.trans (hbc.mono hb20.size)
    have own21 : V21.ownsRow V18.heap.size 48 9 v5 l.length (l.flatMap IT.cells) := below_own_row HW5.out.2 hb21
    have hz35 : w5.heap.size ≤ z3 := by rw [← hzz]; exact hb19.size
    have HB21 := Lib.hid (And.intro hb21 (And.intro hz21 hz35))
    clear hT hz9 hb19 hb20 hz21 hz35
    replace HO := Lib.hid (HO.out.keep hbc)
    have hr21 := hr
    unfold RA at hr21
    have hsz21 : V18.heap.size ≤ V21.heap.size := Nat.le_trans HW5.out.1.size hb21.size
    clear hbc hbb hb21
    go_wp2_with (at_builtin; (try rw [hzz]); (try rw [hVV]); (try rw [hV]); refine wpList_append_kd kdI 37 184 _ Tryz.underlying37 infoKI rfl (by decide) (by decide) onesI rfl (.tmp 58) (.tmp 63) rfl V18.heap.size v5 l.length (l.flatMap IT.cells) rfl own21 (some ⟨z3 + 1, 0, none⟩) [T] 1 rfl (by intro h; cases h) _ V21.heap.size hr21 (by simp; omega) hsz21 ?_; intro v6 w6 own6 hg6; rw [show l.length + [T].length = l.length + 1 from rfl, show [T].flatMap IT.cells = IT.cells T by simp] at own6; obtain ⟨b6, c6, rfl⟩ := own_some own6 (by omega))
    rw [← HT.out] at own6
    obtain ⟨hb6, hr6⟩ := ra_own HW5.out.1 HW5.out.2 HB21.out.1 HB21.out.2.1 HB21.out.2.2 own6 hg6 HR18.out
    rw [HT.out] at hr6
    have ho6 : LoS W w6 l a m b := HOX.out.keep hb6
    replace HO := Lib.hid ho6
    have hr := hr6
    clear ho6 hb6 hr6 own6 hg6 hr21 hsz21 hV hVV hzz hq own21 HW5 HB21 HR18
    have hwT : Hid (IT.WfL (l ++ [T]) ∧ IT.bkL (l ++ [T]) ≤ 2 * 1100000 + 200) := Lib.hid (by
     rw [← HT.out]
     refine ⟨?_, ?_⟩
     ·rw [IT.wfL_iff]
      intro y hy
      rcases List.mem_append.1 hy with h | h
      ·exact (IT.wfL_iff l).1 HWF.out.1 y h
      ·rw [List.mem_singleton.1 h]; exact choI9_wf HWF.out.1 trivial
     ·rw [IT.bkL_sum, List.map_append, List.sum_append, ← IT.bkL_sum]
      simp only [List.map_cons, List.map_nil, List.sum_cons, List.sum_nil]
      rw [choI9_bk]
      have h2 := HBK.out
      have h3 : numT.bk ≤ 20 := by decide
      have h4 : IT.bkL [] = 0 := rfl
      omega)
    obtain ⟨CT, hCT⟩ : ∃ x, solC (l ++ [T]) = x := ⟨_, rfl⟩
    have HCT := Lib.hid hCT
    clear hCT
    go_wp2_with fail
    refine (module97 (some ⟨b6, 0, none⟩) (l.length + 1) c6 _).mono ?_
    rintro e V22 ⟨rfl, hbb⟩
    replace HO := Lib.hid (HO.out.keep hbb)
    replace hr := hr.keep hbb
    clear hbb
    have qk := sol_ckn V22 (l ++ [T]) ((l.length + 1)) (by simp) (some ⟨b6, 0, none⟩) c6 HO.out.env hr hwT.out.1 (by have := hwT.out.2; omega)
    rw [HCT.out] at qk
    go_wp2_with fail
    refine qk.mono ?_
    clear qk
    rintro e V23 ⟨rfl, hbb⟩
    replace HO := Lib.hid (HO.out.keep hbb)
    clear hbb
    clear hr
    have hlaw := sides_law (l := l) (m := m) z1 a a b c c d z2 z3 HC.out.symm HD.out.symm HT.out.symm
    rw [HCL.out, HCM.out, HCB.out, HCD.out, HCT.out] at hlaw
    obtain ⟨TL, hTL⟩ : ∃ x, toldA ([], true) l = x := ⟨_, rfl⟩
    rw [hTL] at hlaw
    have HLAW := Lib.hid hlaw
    clear hlaw HC HD HT hwC hwD hwT HCL HCM HCB HCD HCT hcap hll HWF HBK HLEN
    have hto := refTold_any (soleM [97] l a c) (by simp only [soleM, MT.sz, BT.szL, PT.szL]; have := HSZ.out.1; omega)
    have HTO := Lib.hid hto
    have HTL := Lib.hid hTL
    clear hto hTL
    have hcd : CL = 0 → CD = 0 ∨ CD = 2 := HLAW.out.1
    have q14 : ∀ V, LoS W V l a m b → Calls Tryz.prog 18 #[.agg #[.string (bs [97]), .slice none 0 0, .slice none 0 0, .slice a l.length c]] V fun e w' => ∃ ta tc, e = .returned (.agg #[.slice ta TL.1.length tc, .bool TL.2]) ∧ Below V.heap.size V w' := fun V hV => by
     have q := HTO.out V.heap.size V (Nat.le_refl _) ⟨trivial, trivial, hV.row⟩
     rw [sole_told, HTL.out] at q
     simp only [MT.val, MT.cells, soleM, List.length_nil] at q
     refine q.mono ?_
     rintro e w' ⟨v, rfl, ⟨ta, tc, rfl, _, _⟩, hb⟩
     exact ⟨ta, tc, rfl, hb⟩
    have HQ14 := Lib.hid q14
    clear q14 HTO HTL
    by_cases hcl : CL = 0
    ·subst hcl
     have e1 : ((0 : Int) == 0) = true := rfl
     rcases hcd rfl with rfl | rfl
     all_goals
      clear hcd
      go_upto_region 14 with (fail)
      go_cut [12] from 79 to 81 (fun p8 wx => ∃ g ta tc, p8 = .pointer (some ⟨g, 0, none⟩) ∧ wx.heap[g]? = some (.cells #[.slice ta TL.1.length tc, .bool TL.2] 42 (0, 0)) ∧ Below W.heap.size W wx)
      case first =>
       go_wp2_with fail
       refine (module97 a l.length c _).mono ?_
       rintro e V24 ⟨rfl, hbb⟩
       replace HO := Lib.hid (HO.out.keep hbb)
       clear hbb
       go_wp2_with fail
       refine (HQ14.out _ HO.out).mono ?_
       rintro e V25 ⟨ta, tc, rfl, hbb⟩
       have hlow := (HO.out.keep hbb).low
       clear hbb
       go_wp2_with fail
       go_meet
       exact ⟨_, _, _, rfl, World.alloc_heap_new _ _, hlow.alloc hlow.size _⟩
      case rest =>
       obtain ⟨g, ta, tc, rfl, hbx, hlow⟩ := hcut
       have gx0 : wc.cell? ⟨g, 0, none⟩ = some (.slice ta TL.1.length tc) := by simp [World.cell?, hbx]
       clear hbx
       have h2 := HLAW.out.2.1 (by first | trivial | rfl)
       have h3 := HLAW.out.2.2
       by_cases htl : TL.1 = []
       ·have t1 : decide ((0 : Int) < (TL.1.length : Int)) = false := by rw [htl]; rfl
        have t2 : decide (0 < TL.1.length) = false := by rw [htl]; rfl
        clear h2 htl
        by_cases hcb : CB = 0
        ·subst hcb
         have hcm := (h3 rfl).2
         subst hcm
         go_wp2
         go_ret
         exact ⟨rfl, hlow⟩
        ·have e2 : (CB != 0) = true := by simpa using hcb
         clear hcb
         go_wp2
         go_ret
         exact ⟨rfl, hlow⟩
       ·have t1 : decide ((0 : Int) < (TL.1.length : Int)) = true := by
         have := List.length_pos_iff.2 htl
         rw [decide_eq_true_eq]; omega
        have t2 : decide (0 < TL.1.length) = true := by
         have := List.length_pos_iff.2 htl
         rw [decide_eq_true_eq]; omega
        rcases h2 htl with rfl | rfl
        all_goals
         clear h2 htl
         by_cases hcb : CB = 0
         ·subst hcb
          have hcm := (h3 rfl).2
          subst hcm
          go_wp2
          go_ret
          exact ⟨rfl, hlow⟩
         ·have e2 : (CB != 0) = true := by simpa using hcb
          clear hcb
          go_wp2
          go_ret
          exact ⟨rfl, hlow⟩
    ·have e1 : (CL == 0) = false := by simpa using hcl
     have hcb : ¬ CB = 0 := fun h => hcl (HLAW.out.2.2 h).1
     have e2 : (CB != 0) = true := by simpa using hcb
     clear hcd hcl hcb
     go_upto_region 14 with (fail)
     go_cut [12] from 79 to 81 (fun p8 wx => ∃ g ta tc, p8 = .pointer (some ⟨g, 0, none⟩) ∧ wx.heap[g]? = some (.cells #[.slice ta TL.1.length tc, .bool TL.2] 42 (0, 0)) ∧ Below W.heap.size W wx)
     case first =>
      go_wp2_with fail
      refine (module97 a l.length c _).mono ?_
      rintro e V24 ⟨rfl, hbb⟩
      replace HO := Lib.hid (HO.out.keep hbb)
      clear hbb
      go_wp2_with fail
      refine (HQ14.out _ HO.out).mono ?_
      rintro e V25 ⟨ta, tc, rfl, hbb⟩
      have hlow := (HO.out.keep hbb).low
      clear hbb
      go_wp2_with fail
      go_meet
      exact ⟨_, _, _, rfl, World.alloc_heap_new _ _, hlow.alloc hlow.size _⟩
     case rest =>
      obtain ⟨g, ta, tc, rfl, hbx, hlow⟩ := hcut
      go_wp2
      go_ret
      exact ⟨rfl, hlow⟩
end Go.Proofs.YtiipjbafdhijlaaGreatDoor
