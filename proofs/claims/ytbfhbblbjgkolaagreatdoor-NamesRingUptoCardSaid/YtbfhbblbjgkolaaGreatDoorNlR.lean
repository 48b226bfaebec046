/-
  NamesRing: its walk.
-/
import Derived.Test.YtbfhbblbjgkolaaGreatDoorNlN
import Derived.Deep.RegionLaw
import Derived.RegionTactic
import Derived.BigRegion
import Derived.BigQuiet
import Derived.Deep.QuietTactic
import Derived.Deep.DeepCutAuto
namespace Go.Proofs.YtbfhbblbjgkolaaGreatDoor
open Go Go.RowKit
set_option linter.unusedVariables false
set_option linter.unusedSimpArgs false
open Go.Sort

theorem inT_in7 (n : Nat) (W : World) (a b : Bytes) : IT.In n W (inT7 a b) := by
  unfold inT7
  rw [IT.In_mk]
  exact ⟨trivial, trivial, trivial, trivial, trivial, trivial⟩
theorem inT_row7 (V : World) (nm top : Bytes) (n : Nat) (hn : V.heap.size < n) : InRow 9 IT.cells (IT.In n (V.alloc (.cells #[.int .i64 7, .string (bs nm), .string (bs top), .slice none 0 0, .slice none 0 0, .slice none 0 0, .slice none 0 0, .slice none 0 0, .slice none 0 0] 54))) n (V.alloc (.cells #[.int .i64 7, .string (bs nm), .string (bs top), .slice none 0 0, .slice none 0 0, .slice none 0 0, .slice none 0 0, .slice none 0 0, .slice none 0 0] 54)) [inT7 nm top] (some ⟨V.heap.size, 0, none⟩) := by
  refine ⟨⟨V.heap.size, 0, rfl, hn, fun j v hv => ?_⟩, inT_in7 _ _ _ _, trivial⟩
  have h := World.alloc_heap_new V (.cells #[.int .i64 7, .string (bs nm), .string (bs top), .slice none 0 0, .slice none 0 0, .slice none 0 0, .slice none 0 0, .slice none 0 0, .slice none 0 0] 54)
  simp only [World.cell?, h]
  simpa [inT7, IT.cells] using hv
theorem put_wf7 {ml : List MT} (h : MT.WfL ml) {k : Nat} (hk : k < ml.length) {x : IT} (hx : x.Wf) (ia : Option Addr) (ic : Nat) : MT.WfL (ml.set k (addI ml[k] [x] ia ic)) := by
  rw [MT.wfL_iff] at h ⊢
  intro m hm
  rcases List.mem_or_eq_of_mem_set hm with h1 | h1
  · exact h m h1
  · rw [h1]
    have h2 := h _ (List.getElem_mem hk)
    generalize ml[k] = mk at h2 ⊢
    obtain ⟨mn, pa, pc, pl, ta, tc, tl, ja, jc, il⟩ := mk
    obtain ⟨g1, g2, g3⟩ := h2
    refine ⟨g1, g2, ?_⟩
    rw [IT.wfL_iff] at g3 ⊢
    intro y hy
    rcases List.mem_append.1 hy with h4 | h4
    · exact g3 y h4
    · rw [List.mem_singleton.1 h4]; exact hx
theorem inT_wf7 (a b : Bytes) : (inT7 a b).Wf := by
  unfold inT7
  rw [IT.Wf]
  exact ⟨trivial, trivial, trivial, trivial, trivial, trivial⟩
/-- The file with the instance, looked at. -/
theorem ring_call (V : World) (n0 : Nat) (f : FT) (top nm : Bytes) (k : Nat) (hk : k < f.ml.length) (hn0 : n0 ≤ V.heap.size) (he : EnvA V) (hwf : f.Wf) (hin : f.In n0 V) (hbk : f.bk ≤ 1400000) (hl1 : top.length ≤ 100) (hl2 : nm.length ≤ 100) (hsz : f.sz ≤ 2000) (hcaps : ∀ m ∈ f.ml, m.ia = none → m.ic = 0) (hb : belE f top = 0) (hkb : f.ml[k].nm ∈ belL f top) (hname : isNameB nm = true) (hfr : (allR f.ml[k]).contains nm = false) :
    Calls Tryz.prog 31 #[.agg #[.slice f.ma f.ml.length f.mc], .int .i64 (k : Int), .slice (some ⟨V.heap.size, 0, none⟩) 1 1] (V.alloc (.cells #[.int .i64 7, .string (bs nm), .string (bs top), .slice none 0 0, .slice none 0 0, .slice none 0 0, .slice none 0 0, .slice none 0 0, .slice none 0 0] 54)) fun e W' => Below V.heap.size V W' ∧ ∃ a c, e = .returned (.agg #[.slice a f.ml.length c]) ∧ Calls Tryz.prog 16 #[.agg #[.slice a f.ml.length c]] W' fun e W'' => e = .returned (.int .i64 72) ∧ Below V.heap.size V W'' := by
  have hb1 : Below V.heap.size V (V.alloc (.cells #[.int .i64 7, .string (bs nm), .string (bs top), .slice none 0 0, .slice none 0 0, .slice none 0 0, .slice none 0 0, .slice none 0 0, .slice none 0 0] 54)) := (Below.refl _ _).alloc (Nat.le_refl _) _
  have hz1 : (V.alloc (.cells #[.int .i64 7, .string (bs nm), .string (bs top), .slice none 0 0, .slice none 0 0, .slice none 0 0, .slice none 0 0, .slice none 0 0, .slice none 0 0] 54)).heap.size = V.heap.size + 1 := by simp
  have hin2 : f.In (V.heap.size + 1) (V.alloc (.cells #[.int .i64 7, .string (bs nm), .string (bs top), .slice none 0 0, .slice none 0 0, .slice none 0 0, .slice none 0 0, .slice none 0 0, .slice none 0 0] 54)) := FT.In.less (by omega) _ (FT.In.keep (Below.keptTo hb1 hn0) _ hin)
  have h := put_any (V.alloc (.cells #[.int .i64 7, .string (bs nm), .string (bs top), .slice none 0 0, .slice none 0 0, .slice none 0 0, .slice none 0 0, .slice none 0 0, .slice none 0 0] 54)) (V.heap.size + 1) f k hk [inT7 nm top] (by simp) (by simp) (some ⟨V.heap.size, 0, none⟩) 1 (by rw [hz1]; exact Nat.le_refl _) hin2 (by omega) hcaps (by intro h; cases h) (inT_row7 V nm top _ (by omega))
  refine h.mono ?_
  rintro e W' ⟨hB, a, c, b, ic, rfl, hf⟩
  have hB2 : Below V.heap.size V W' := hb1.trans (hB.mono (by omega))
  refine ⟨hB2, a, c, by simp [FT.val, FT.cells], ?_⟩
  have hbk2 : FT.bk ⟨a, c, f.ml.set k (addI f.ml[k] [inT7 nm top] (some ⟨b, 0, none⟩) ic)⟩ ≤ 1500000 := by
    have h1 := bkL_set7 (m' := addI f.ml[k] [inT7 nm top] (some ⟨b, 0, none⟩) ic) 300 f.ml k hk (by rw [addI_bk7]; simp only [inT7, IT.bk, XT.bkL, ST.bkL, IT.bkL, BT.bkL]; omega)
    have h2 : 1 + MT.bkL f.ml ≤ 1400000 := hbk
    show 1 + MT.bkL (f.ml.set k (addI f.ml[k] [inT7 nm top] (some ⟨b, 0, none⟩) ic)) ≤ _
    omega
  have h2 := namesCheck_any W' W'.heap.size ⟨a, c, f.ml.set k (addI f.ml[k] [inT7 nm top] (some ⟨b, 0, none⟩) ic)⟩ (Nat.le_refl _) (he.keep hB2) (put_wf7 hwf hk (inT_wf7 nm top) _ _) hf hbk2
  simp only [FT.val, FT.cells, List.length_set] at h2
  refine h2.mono ?_
  rintro e W'' ⟨rfl, hb9⟩
  exact ⟨by rw [ring_put7 hsz hb hk hkb hname hfr rfl], hB2.trans (hb9.mono hB2.size)⟩
theorem bel_names7 {f : FT} {top : Bytes} (hb : belE f top = 0) : checkP f = 0 ∧ (belL f top).length ≤ f.ml.length ∧ ∀ x ∈ belL f top, ∃ m ∈ f.ml, m.nm = x := by
  have h0 : checkP f = 0 := by
    unfold belE at hb
    by_cases e : checkP f = 0
    · exact e
    · rw [if_pos e] at hb; exact absurd hb e
  obtain ⟨hF, hT, hA, out, ho⟩ := checkP_zero7 h0
  have hof : ordF f = out := by unfold ordF; rw [if_neg (by rw [h0]; simp), ho]; rfl
  have hok := (ordN_ok f.ml f.ml.length [] out (OrdOk.nil _) ho).1
  have hct : out.contains top = true := by
    unfold belE at hb
    rw [if_neg (by rw [h0]; simp), hof] at hb
    cases e : out.contains top
    · rw [e, if_neg (by decide)] at hb; exact absurd hb (by decide)
    · rfl
  have hB : belL f top = belowP (usN f.ml) out top := by unfold belL; rw [if_neg (by rw [h0]; simp), hof, if_pos hct]
  refine ⟨h0, ?_, fun x hx => hok.sub x ?_⟩
  · rw [hB]
    exact Nat.le_trans (List.length_filter_le _ _) hok.len
  · rw [hB] at hx
    exact (List.mem_filter.1 hx).1
theorem allR_len7 (m : MT) : (allR m).length ≤ 4 * m.sz := by
  unfold allR
  have h1 := addN_len7 (m.pl.map (·.nm)) (addN (addN [] (allL m.il)) (m.tl.map (·.nm)))
  have h2 := addN_len7 (m.tl.map (·.nm)) (addN [] (allL m.il))
  have h3 := addN_len7 (allL m.il) []
  have h4 := allL_len7 m.il
  obtain ⟨mn, pa, pc, pl, ta, tc, tl, ja, jc, il⟩ := m
  have h5 := PT.szL_len7 tl
  have h6 := BT.szL_len7 pl
  simp only [MT.sz, List.length_map, List.length_nil] at h1 h2 h3 h4 ⊢
  omega
set_option maxHeartbeats 16000000 in
set_option maxRecDepth 100000 in
theorem ring_any (W : World) (n0 : Nat) (f : FT) (top : Bytes) (n : Int) (nm : Bytes) (hs : top.length ≤ 4000000) (hs2 : nm.length ≤ 1400000) (hn0 : n0 ≤ W.heap.size) (he : EnvA W) (hwf : f.Wf) (hin : f.In n0 W) (hbk : f.bk ≤ 1400000) (hcaps : ∀ m ∈ f.ml, m.ia = none → m.ic = 0) :
    Calls Tryz.prog 12 #[f.val, .string (bs top), .int .i64 n, .string (bs nm)] W fun e W' => e = .returned (.bool true) ∧ Below W.heap.size W W' := by
  obtain ⟨ma, mc, ml⟩ := f
  have hbl : MT.bkL ml ≤ 1400000 := by have : 1 + MT.bkL ml ≤ 1400000 := hbk; omega
  have hll := MT.bkL_len ml
  have hsz : FT.sz ⟨ma, mc, ml⟩ ≤ 1500000 := by have := MT.szL_bk ml; show MT.szL ml ≤ _; omega
  obtain ⟨g, hg⟩ : ∃ g, W.heap.size = g := ⟨_, rfl⟩
  obtain ⟨W1, hW1⟩ : ∃ W1, W.alloc (.cells #[.slice ma ml.length mc] 24) = W1 := ⟨_, rfl⟩
  have hB1 : Below W.heap.size W W1 := by rw [← hW1]; exact (Below.refl _ _).alloc (Nat.le_refl _) _
  have hwo : Wo7 W W1 n0 g ⟨ma, mc, ml⟩ := ⟨he.keep hB1, hB1, Nat.le_trans hn0 hB1.size, FT.In.keep (Below.keptTo hB1 hn0) _ hin, by rw [← hW1, ← hg]; exact World.alloc_heap_new W _⟩
  have HO := Lib.hid hwo
  have HWF := Lib.hid hwf
  have HS := Lib.hid hsz
  have HBK := Lib.hid hbk
  have HGW := Lib.hid hg
  have HCP := Lib.hid hcaps
  simp only [FT.val, FT.cells]
  clear he hwf hin hB1 hwo hsz hbk hcaps
  go_enter Tryz.func12, Tryz.ntmps12
  go_wp2_with fail
  (try rw [hW1])
  refine (live7_any _ HO.out.env).mono ?_
  rintro e V1 ⟨rfl, hb⟩
  replace HO := Lib.hid (HO.out.keep hb)
  clear hW1 hb
  have y0 := (cell_of_box_1 HO.out.box).1
  have q2 := few7_any ⟨ma, mc, ml⟩ HS.out n0 V1 HO.out.hn HO.out.fin
  obtain ⟨fw, hfw⟩ : ∃ b, (decide (FT.sz ⟨ma, mc, ml⟩ ≤ 2000) && decide (FT.dp ⟨ma, mc, ml⟩ ≤ 100)) = b := ⟨_, rfl⟩
  have HFW := Lib.hid hfw
  rw [hfw] at q2
  simp only [FT.val, FT.cells] at q2
  clear hfw
  go_wp2_with fail
  refine q2.mono ?_
  rintro e V2 ⟨rfl, hb⟩
  replace HO := Lib.hid (HO.out.keep hb)
  clear hb y0 q2
  have y0 := (cell_of_box_1 HO.out.box).1
  cases fw with
  | false =>
    go_wp2
    go_ret
    exact ⟨rfl, HO.out.low⟩
  | true =>
    by_cases hlong : 100 < top.length
    · have d1 : decide (100 < top.length) = true := by simpa using hlong
      have d2 : decide ((100 : Int) < (top.length : Int)) = true := by rw [decide_eq_true_eq]; omega
      go_wp2
      go_ret
      exact ⟨rfl, HO.out.low⟩
    · have d1 : decide (100 < top.length) = false := by simpa using hlong
      have d2 : decide ((100 : Int) < (top.length : Int)) = false := by rw [decide_eq_false_iff_not]; omega
      by_cases hlong2 : 100 < nm.length
      · have d3 : decide (100 < nm.length) = true := by simpa using hlong2
        have d4 : decide ((100 : Int) < (nm.length : Int)) = true := by rw [decide_eq_true_eq]; omega
        go_wp2
        go_ret
        exact ⟨rfl, HO.out.low⟩
      · have d3 : decide (100 < nm.length) = false := by simpa using hlong2
        have d4 : decide ((100 : Int) < (nm.length : Int)) = false := by rw [decide_eq_false_iff_not]; omega
        obtain ⟨cx, hcx⟩ : ∃ cx, checkX (.mk 2 nm 0 0 0 none 0 []) = cx := ⟨_, rfl⟩
        have HCX := Lib.hid hcx
        have qx : Calls Tryz.prog 33 #[.agg #[.int .i64 2, .string (bs nm), .int .i64 0, .int .i64 0, .int .u64 0, .slice none 0 0]] V2 fun e W' => e = .returned (.int .i64 cx) ∧ Below V2.heap.size V2 W' := by
          rw [← hcx]
          exact checkX_any (.mk 2 nm 0 0 0 none 0 []) (by simp only [XT.bk, XT.bkL]; omega) (by rw [XT.wf_mk]; exact ⟨by decide, fun x h => by cases h⟩) V2.heap.size V2 (Nat.le_refl _) HO.out.env (by rw [XT.In_mk]; trivial)
        clear hcx
        go_wp2_with fail
        refine qx.mono ?_
        rintro e V3 ⟨rfl, hb⟩
        replace HO := Lib.hid (HO.out.keep hb)
        clear hb y0 qx
        have y0 := (cell_of_box_1 HO.out.box).1
        by_cases hx0 : cx ≠ 0
        · have e1 : (cx != 0) = true := by simpa using hx0
          go_wp2
          go_ret
          exact ⟨rfl, HO.out.low⟩
        · replace hx0 : cx = 0 := Decidable.byContradiction hx0
          subst hx0
          obtain ⟨RE, hRE⟩ : ∃ RE, belE ⟨ma, mc, ml⟩ top = RE := ⟨_, rfl⟩
          obtain ⟨B, hB⟩ : ∃ B, belL ⟨ma, mc, ml⟩ top = B := ⟨_, rfl⟩
          have q4 := namesBelow_any V3 n0 ⟨ma, mc, ml⟩ top hs HO.out.hn HO.out.env HWF.out HO.out.fin (Nat.le_trans HBK.out (by omega))
          rw [hRE, hB] at q4
          simp only [FT.val, FT.cells] at q4
          have HR := Lib.hid (And.intro hRE hB)
          clear hRE hB
          go_wp2_with fail
          refine q4.mono ?_
          clear q4
          rintro e V4 ⟨hb, v, rfl, hr⟩
          replace HO := Lib.hid (HO.out.keep hb)
          obtain ⟨ba, bc, rfl, hbr⟩ := hr
          have HRB : Hid (LiesS V4 ba B) := Lib.hid (hbr.imp id (fun ⟨b, o, x1, x2, x3, x4⟩ => ⟨b, o, x1, x4⟩))
          clear hb y0 hbr
          have y0 := (cell_of_box_1 HO.out.box).1
          by_cases hre : RE ≠ 0
          · have e1 : (RE != 0) = true := by simpa using hre
            go_wp2
            go_ret
            exact ⟨rfl, HO.out.low⟩
          · replace hre : RE = 0 := Decidable.byContradiction hre
            subst hre
            by_cases hneg : n < 0
            · have d5 : decide (n < 0) = true := by simpa using hneg
              go_wp2
              go_ret
              exact ⟨rfl, HO.out.low⟩
            · have d5 : decide (n < 0) = false := by simpa using hneg
              by_cases hbig : (B.length : Int) ≤ n
              · have d6 : decide ((B.length : Int) ≤ n) = true := by simpa using hbig
                go_wp2
                go_ret
                exact ⟨rfl, HO.out.low⟩
              · have d6 : decide ((B.length : Int) ≤ n) = false := by simpa using hbig
                obtain ⟨j, rfl⟩ := Int.eq_ofNat_of_zero_le (show 0 ≤ n by omega)
                have hj : j < B.length := by omega
                have d6b : decide (B.length ≤ j) = false := by rw [decide_eq_false_iff_not]; omega
                have hj2 : (j : Int) < (B.length : Int) := by omega
                have hj3 : (0 : Int) ≤ (j : Int) := by omega
                have hbn : ∃ m ∈ ml, m.nm = B[j] := by
                  obtain ⟨h1, h2⟩ := HR.out
                  obtain ⟨-, -, h3⟩ := bel_names7 h1
                  rw [h2] at h3
                  exact h3 _ (List.getElem_mem hj)
                have hmB : B[j] ∈ B := List.getElem_mem hj
                obtain ⟨b, o, rfl, hLB⟩ := HRB.out.resolve_left (by intro h; rw [h] at hj; simp at hj)
                have r9 := hLB j hj
                generalize B[j] = x at *
                have HBN := Lib.hid (And.intro hbn hmB)
                clear hbn hmB hLB
                have e0 : IntKind.i64.wrap (-1) = -1 := by decide
                go_wp2_with fail
                go_loopg [12, 13] ml.length (fun gh p u wr => ∃ (i : Nat) (kk : Int), p = .int .i64 kk ∧ u = .int .i64 i ∧ i + gh = ml.length ∧ ((kk = -1 ∧ ∀ m ∈ ml.take i, m.nm ≠ x) ∨ ∃ (k : Nat) (h : k < ml.length), kk = k ∧ ml[k].nm = x) ∧ Below V4.heap.size V4 wr)
                case atStart => exact ⟨0, -1, rfl, rfl, by omega, .inl ⟨rfl, by simp⟩, Below.refl _ _⟩
                case round =>
                  obtain ⟨i, kk, rfl, rfl, hi, hkk, hbr⟩ := hrel
                  have HX := Lib.hid (HO.out.keep hbr)
                  have HKK := Lib.hid hkk
                  have HBR := Lib.hid (fun n => below_drewN hbr n)
                  replace r9 := keep_cell hbr r9
                  clear y0 hbr hkk
                  have y0 := (cell_of_box_1 HX.out.box).1
                  by_cases hlt : i < ml.length
                  · have g1 : decide (i < ml.length) = true := by simpa using hlt
                    have g2 : decide ((i : Int) < (ml.length : Int)) = true := by rw [decide_eq_true_eq]; omega
                    have g3 : (i : Int) < (ml.length : Int) := by omega
                    obtain ⟨b2, o2, rfl, hb2, hr2, -⟩ := InRow.at HX.out.fin hlt
                    have r0 : wr.cell? ⟨b2, o2 + i * 4, none⟩ = some (.string (bs ml[i].nm)) := hr2 0 _ rfl
                    have HST := Lib.hid (show ml[i].nm ≠ x → ((kk = -1 ∧ ∀ m ∈ ml.take (i + 1), m.nm ≠ x) ∨ ∃ (k : Nat) (h : k < ml.length), kk = k ∧ ml[k].nm = x) from fun hne => by
                      rcases HKK.out with ⟨h1, h2⟩ | h
                      · refine .inl ⟨h1, fun m hm => ?_⟩
                        rw [List.take_succ_eq_append_getElem hlt, List.mem_append, List.mem_singleton] at hm
                        rcases hm with h | rfl
                        · exact h2 m h
                        · exact hne
                      · exact .inr h)
                    have HSE := Lib.hid (show ml[i].nm = x → ∃ (k : Nat) (h : k < ml.length), (i : Int) = k ∧ ml[k].nm = x from fun h => ⟨i, hlt, rfl, h⟩)
                    clear hr2 hb2
                    generalize ml[i].nm = z at *
                    by_cases hzx : z = x
                    · subst hzx
                      have e8 : (z == z) = true := by simp
                      have HS3 := Lib.hid (HSE.out rfl)
                      clear HST HSE
                      go_wp2
                      go_quiet (fail)
                      go_wp2
                      cases gk with
                      | zero => omega
                      | succ gg =>
                        go_roundg gg
                        case rel => exact ⟨i + 1, i, rfl, rfl, by omega, .inr HS3.out, HBR.out _⟩
                        case measure => omega
                    · have e8 : (z == x) = false := by simpa using hzx
                      have HS3 := Lib.hid (HST.out hzx)
                      clear HST HSE
                      go_wp2
                      go_quiet (fail)
                      go_wp2
                      cases gk with
                      | zero => omega
                      | succ gg =>
                        go_roundg gg
                        case rel => exact ⟨i + 1, kk, rfl, rfl, by omega, HS3.out, HBR.out _⟩
                        case measure => omega
                  · have g1 : decide (i < ml.length) = false := by simpa using hlt
                    have g2 : decide ((i : Int) < (ml.length : Int)) = false := by rw [decide_eq_false_iff_not]; omega
                    have hk9 : ∃ (k : Nat) (h : k < ml.length), kk = k ∧ ml[k].nm = x := by
                      rcases HKK.out with ⟨h1, h2⟩ | h
                      · exfalso
                        obtain ⟨m, hm, hn⟩ := HBN.out.1
                        exact h2 m (by rw [List.take_of_length_le (by omega)]; exact hm) hn
                      · exact h
                    obtain ⟨k, hk, rfl, hkn⟩ := hk9
                    have d7 : decide ((k : Int) < 0) = false := by rw [decide_eq_false_iff_not]; omega
                    have d8 : (k : Int) < (ml.length : Int) := by omega
                    have d9 : (0 : Int) ≤ (k : Int) := by omega
                    obtain ⟨b2, o2, rfl, hb2, hr2, hmi⟩ := InRow.at HX.out.fin hk
                    have hmsz : ml[k].sz ≤ 1400000 := by
                      have h1 := MT.szL_mem (List.getElem_mem hk)
                      have h2 := MT.szL_bk ml
                      omega
                    have q6 := refAll_any ml[k] hmsz n0 wr HX.out.hn hmi
                    have hal := allR_len7 ml[k]
                    have hring := fun (V : World) (h1 : n0 ≤ V.heap.size) (h2 : EnvA V) (h3 : FT.In n0 V ⟨some ⟨b2, o2, none⟩, mc, ml⟩) (hfr : (allR ml[k]).contains nm = false) => ring_call V n0 ⟨some ⟨b2, o2, none⟩, mc, ml⟩ top nm k hk h1 h2 HWF.out h3 HBK.out (by omega) (by omega) (by have := HFW.out; simp only [Bool.and_eq_true, decide_eq_true_eq] at this; exact this.1) HCP.out HR.out.1 (by rw [HR.out.2, hkn]; exact HBN.out.2) (nameX7 HCX.out) hfr
                    obtain ⟨F, hF⟩ : ∃ F, allR ml[k] = F := ⟨_, rfl⟩
                    rw [hF] at q6 hal
                    simp only [hF] at hring
                    have HRG := Lib.hid hring
                    have HKN := Lib.hid hkn
                    have hFl : F.length ≤ 1099511627776 := by omega
                    clear hring hF hmi hkn hal hmsz
                    have s0 : wr.cell? ⟨b2, o2 + k * 4, none⟩ = some _ := hr2 0 _ rfl
                    have s1 : wr.cell? ⟨b2, o2 + k * 4 + 1, none⟩ = some _ := hr2 1 _ rfl
                    have s2 : wr.cell? ⟨b2, o2 + k * 4 + 2, none⟩ = some _ := hr2 2 _ rfl
                    have s3 : wr.cell? ⟨b2, o2 + k * 4 + 3, none⟩ = some _ := hr2 3 _ rfl
                    simp only [MT.val, MT.cells] at q6
                    clear hr2 hb2 r9
                    go_wp2_with fail
                    refine q6.mono ?_
                    clear q6 s0 s1 s2 s3
                    rintro e V5 ⟨v, rfl, hv, hb5⟩
                    replace HX := Lib.hid (HX.out.keep hb5)
                    obtain ⟨va, vc, rfl, -, hvl⟩ := hv
                    clear hb5 y0
                    have y0 := (cell_of_box_1 HX.out.box).1
                    have q7 := amongS_any va vc F nm hFl V5 hvl
                    obtain ⟨R, hR⟩ : ∃ R, F.contains nm = R := ⟨_, rfl⟩
                    rw [hR] at q7
                    have HRR := Lib.hid hR
                    clear hR hvl
                    go_wp2_with fail
                    refine q7.mono ?_
                    clear q7
                    rintro e V6 ⟨rfl, nd, rfl⟩
                    replace HX : Hid (Wo7 W (V5.drewN nd) n0 g ⟨some ⟨b2, o2, none⟩, mc, ml⟩) := Lib.hid (HX.out.keep (below_drewN (Below.refl _ _) nd))
                    clear y0
                    obtain ⟨w6, hw6⟩ : ∃ w6, V5.drewN nd = w6 := ⟨_, rfl⟩
                    rw [hw6] at HX
                    have y0 := (cell_of_box_1 HX.out.box).1
                    have HLOW := Lib.hid HX.out.low
                    cases R with
                    | true =>
                      go_wp2
                      go_ret
                      first
                        | exact ⟨rfl, HLOW.out⟩
                        | (rw [hw6]; exact ⟨rfl, HLOW.out⟩)
                    | false =>
                      have e72 : ((72 : Int) == 72) = true := by decide
                      have HPUT := Lib.hid (fun (V : World) (hv : Below w6.heap.size w6 V) => HRG.out V (Nat.le_trans HX.out.hn hv.size) (HX.out.env.keep hv) (HX.out.keep hv).fin HRR.out)
                      go_upto_region 18 with (fail)
                      (try rw [hw6])
                      clear hw6
                      go_region_with (first | (go_at_call 37; refine (inst7_any nm top _).mono ?_; rintro e w7 ⟨rfl, hb7⟩; have hb7w : Below w6.heap.size w6 w7 := ((Below.refl _ _).drew.trans hb7); have HB7 := Lib.hid hb7w; have y7 := keep_cell hb7w y0; have y7A := fun O => alloc_cell y7 O; clear hb7 hb7w) | (go_at_call 31; refine (HPUT.out _ HB7.out).mono ?_; rintro e w8 ⟨hb8, pa, pc, rfl, qck⟩; have HB8 := Lib.hid (HB7.out.trans (hb8.mono HB7.out.size)); clear hb8) | (go_at_call 16; refine qck.mono ?_; rintro e w9 ⟨rfl, hb9⟩; have HB9 := Lib.hid (HB7.out.trans (hb9.mono HB7.out.size)); clear hb9 qck))
                      all_goals (go_wp2_with fail; go_ret; exact ⟨rfl, HLOW.out.trans (HB9.out.mono HLOW.out.size)⟩)
end Go.Proofs.YtbfhbblbjgkolaaGreatDoor
