/-
  NamesFresh: its walk.
-/
import Derived.Test.YtoafmkepocfiaaaGreatDoorNgC
import Derived.Deep.RegionLaw
import Derived.Deep.RegionHeld3
import Derived.RegionTactic
import Derived.BigRegion
import Derived.BigQuiet
import Derived.Deep.QuietTactic
import Derived.Deep.DeepCutAuto
namespace Go.Proofs.YtoafmkepocfiaaaGreatDoor
open Go Go.RowKit
set_option linter.unusedVariables false
set_option linter.unusedSimpArgs false
open Go.Sort

theorem below_step8 {w v u : World} (h : Below w.heap.size w v) (hb : Below v.heap.size v u) : Below w.heap.size w u := h.trans (hb.mono h.size)
theorem below_alloc8 {w v : World} (h : Below w.heap.size w v) (O : Obj) : Below w.heap.size w (v.alloc O) := h.alloc h.size O
theorem block_step8 {v u : World} {b : Nat} {O : Obj} (hb : Below v.heap.size v u) (h : v.heap[b]? = some O) : u.heap[b]? = some O := (hb.block b (Array.getElem?_eq_some_iff.1 h).1).trans h
theorem far8 {w : World} {g gm : Nat} {x v : Value} (h : w.cell? ⟨g, 0, none⟩ = some x) (hne : gm ≠ g) : (w.setCell ⟨gm, 0, none⟩ v).cell? ⟨g, 0, none⟩ = some x := by
  rw [World.cell?_of_block (w := w) (Below.heap_setCell w ⟨gm, 0, none⟩ v g (fun e => hne e.symm))]; exact h
theorem allR_len8 (m : MT) : (allR m).length ≤ 4 * m.sz := by
  unfold allR
  have h1 := addN_len7 (m.pl.map (·.nm)) (addN (addN [] (allL m.il)) (m.tl.map (·.nm)))
  have h2 := addN_len7 (m.tl.map (·.nm)) (addN [] (allL m.il))
  have h3 := addN_len7 (allL m.il) []
  have h4 := allL_len7 m.il
  obtain ⟨mn, pa, pc, pl, ta, tc, tl, ja, jc, il⟩ := m
  have h5 := PT.szL_len7 tl
  have h6 := BT.szL_len7 pl
  simp only [MT.sz, List.length_map, List.length_nil] at h1 h2 h3 h4 ⊢
  omega
set_option maxHeartbeats 16000000 in
set_option maxRecDepth 100000 in
theorem fresh_any (W : World) (n0 : Nat) (f : FT) (n : Int) (nm : Bytes) (hs2 : nm.length ≤ 1400000) (hn0 : n0 ≤ W.heap.size) (he : EnvA W) (hwf : f.Wf) (hin : f.In n0 W) (hbk : f.bk ≤ 1400000) (hcaps : ∀ m ∈ f.ml, m.ia = none → m.ic = 0) :
    Calls Tryz.prog 6 #[f.val, .int .i64 n, .string (bs nm)] W fun e W' => e = .returned (.bool true) ∧ Below W.heap.size W W' := by
  obtain ⟨ma, mc, ml⟩ := f
  have hbl : MT.bkL ml ≤ 1400000 := by have : 1 + MT.bkL ml ≤ 1400000 := hbk; omega
  have hll := MT.bkL_len ml
  have hsz : FT.sz ⟨ma, mc, ml⟩ ≤ 1500000 := by have := MT.szL_bk ml; show MT.szL ml ≤ _; omega
  obtain ⟨g, hg⟩ : ∃ g, W.heap.size = g := ⟨_, rfl⟩
  obtain ⟨W1, hW1⟩ : ∃ W1, W.alloc (.cells #[.slice ma ml.length mc] 24) = W1 := ⟨_, rfl⟩
  have hB1 : Below W.heap.size W W1 := by rw [← hW1]; exact (Below.refl _ _).alloc (Nat.le_refl _) _
  have hwo : Wo7 W W1 n0 g ⟨ma, mc, ml⟩ := ⟨he.keep hB1, hB1, Nat.le_trans hn0 hB1.size, FT.In.keep (Below.keptTo hB1 hn0) _ hin, by rw [← hW1, ← hg]; exact World.alloc_heap_new W _⟩
  have HO := Lib.hid hwo
  have HWF := Lib.hid hwf
  have HS := Lib.hid hsz
  have HBK := Lib.hid hbk
  have HGW := Lib.hid hg
  have HCP := Lib.hid hcaps
  simp only [FT.val, FT.cells]
  clear he hwf hin hB1 hwo hsz hbk hcaps
  go_enter Tryz.func6, Tryz.ntmps6
  go_wp2_with fail
  (try rw [hW1])
  refine (live7_any _ HO.out.env).mono ?_
  rintro e V1 ⟨rfl, hb⟩
  replace HO := Lib.hid (HO.out.keep hb)
  clear hW1 hb
  have y0 := (cell_of_box_1 HO.out.box).1
  have q2 := few7_any ⟨ma, mc, ml⟩ HS.out n0 V1 HO.out.hn HO.out.fin
  obtain ⟨fw, hfw⟩ : ∃ b, (decide (FT.sz ⟨ma, mc, ml⟩ ≤ 2000) && decide (FT.dp ⟨ma, mc, ml⟩ ≤ 100)) = b := ⟨_, rfl⟩
  have HFW := Lib.hid hfw
  rw [hfw] at q2
  simp only [FT.val, FT.cells] at q2
  clear hfw
  go_wp2_with fail
  refine q2.mono ?_
  rintro e V2 ⟨rfl, hb⟩
  replace HO := Lib.hid (HO.out.keep hb)
  clear hb y0 q2
  have y0 := (cell_of_box_1 HO.out.box).1
  cases fw with
  | false =>
    go_wp2
    go_ret
    exact ⟨rfl, HO.out.low⟩
  | true =>
    by_cases hneg : n < 0
    · have d5 : decide (n < 0) = true := by simpa using hneg
      go_wp2
      go_ret
      exact ⟨rfl, HO.out.low⟩
    · have d5 : decide (n < 0) = false := by simpa using hneg
      by_cases hbig : (ml.length : Int) ≤ n
      · have d6 : decide ((ml.length : Int) ≤ n) = true := by simpa using hbig
        go_wp2
        go_ret
        exact ⟨rfl, HO.out.low⟩
      · have d6 : decide ((ml.length : Int) ≤ n) = false := by simpa using hbig
        obtain ⟨j, rfl⟩ := Int.eq_ofNat_of_zero_le (show 0 ≤ n by omega)
        have hj : j < ml.length := by omega
        have hj2 : (j : Int) < (ml.length : Int) := by omega
        have hj3 : (0 : Int) ≤ (j : Int) := by omega
        have d6b : decide (ml.length ≤ j) = false := by rw [decide_eq_false_iff_not]; omega
        by_cases hlong2 : 100 < nm.length
        · have d3 : decide (100 < nm.length) = true := by simpa using hlong2
          have d4 : decide ((100 : Int) < (nm.length : Int)) = true := by rw [decide_eq_true_eq]; omega
          go_wp2
          go_ret
          exact ⟨rfl, HO.out.low⟩
        · have d3 : decide (100 < nm.length) = false := by simpa using hlong2
          have d4 : decide ((100 : Int) < (nm.length : Int)) = false := by rw [decide_eq_false_iff_not]; omega
          obtain ⟨cx, hcx⟩ : ∃ cx, checkX (.mk 2 nm 0 0 0 none 0 []) = cx := ⟨_, rfl⟩
          have HCX := Lib.hid hcx
          have qx : Calls Tryz.prog 22 #[.agg #[.int .i64 2, .string (bs nm), .int .i64 0, .int .i64 0, .int .u64 0, .slice none 0 0]] V2 fun e W' => e = .returned (.int .i64 cx) ∧ Below V2.heap.size V2 W' := by
            rw [← hcx]
            exact checkX_any (.mk 2 nm 0 0 0 none 0 []) (by simp only [XT.bk, XT.bkL]; omega) (by rw [XT.wf_mk]; exact ⟨by decide, fun x h => by cases h⟩) V2.heap.size V2 (Nat.le_refl _) HO.out.env (by rw [XT.In_mk]; trivial)
          clear hcx
          go_wp2_with fail
          refine qx.mono ?_
          rintro e V3 ⟨rfl, hb⟩
          replace HO := Lib.hid (HO.out.keep hb)
          clear hb y0 qx
          have y0 := (cell_of_box_1 HO.out.box).1
          by_cases hx0 : cx ≠ 0
          · have e1 : (cx != 0) = true := by simpa using hx0
            go_wp2
            go_ret
            exact ⟨rfl, HO.out.low⟩
          · replace hx0 : cx = 0 := Decidable.byContradiction hx0
            subst hx0
            obtain ⟨CP, hCP⟩ : ∃ CP, checkP ⟨ma, mc, ml⟩ = CP := ⟨_, rfl⟩
            have qc := namesCheck_any V3 n0 ⟨ma, mc, ml⟩ HO.out.hn HO.out.env HWF.out HO.out.fin (Nat.le_trans HBK.out (by omega))
            rw [hCP] at qc
            simp only [FT.val, FT.cells] at qc
            have HCK := Lib.hid hCP
            clear hCP
            go_wp2_with fail
            refine qc.mono ?_
            rintro e V4 ⟨rfl, hb⟩
            replace HO := Lib.hid (HO.out.keep hb)
            clear hb y0 qc
            have y0 := (cell_of_box_1 HO.out.box).1
            by_cases hc0 : CP ≠ 0
            · have e1 : (CP != 0) = true := by simpa using hc0
              go_wp2
              go_ret
              exact ⟨rfl, HO.out.low⟩
            · replace hc0 : CP = 0 := Decidable.byContradiction hc0
              subst hc0
              obtain ⟨R1, hR1⟩ : ∃ R, (allR ml[j]).contains nm = R := ⟨_, rfl⟩
              obtain ⟨R2, hR2⟩ : ∃ R, (allR ml[j]).contains (nm ++ [95]) = R := ⟨_, rfl⟩
              have hname := nameX7 HCX.out
              have hsz2 : FT.sz ⟨ma, mc, ml⟩ ≤ 2000 := by have := HFW.out; simp only [Bool.and_eq_true, decide_eq_true_eq] at this; exact this.1
              have HPW := Lib.hid (fun (V : World) (p z : Nat) (hv : Below V4.heap.size V4 V) (hp : V.heap[p]? = some (.cells #[.int .i64 2, .string (bs nm), .string ⟨#[]⟩, .slice (some ⟨z, 0, none⟩) 1 1, .slice none 0 0, .slice none 0 0, .slice none 0 0, .slice none 0 0, .slice none 0 0] 48)) (hz : V.heap[z]? = some (.cells #[.int .i64 1, .string ⟨#[]⟩, .int .i64 0, .int .i64 0, .int .u64 1, .slice none 0 0] 54)) => put_call8 V n0 ⟨ma, mc, ml⟩ j hj (wireT nm z) p (Nat.le_trans HO.out.hn hv.size) HWF.out (HO.out.keep hv).fin HBK.out HCP.out (by unfold wireT; rw [IT.Wf]; exact ⟨⟨numT_wf8, trivial⟩, trivial, trivial, trivial, trivial, trivial⟩) (by simp only [wireT, numT, IT.bk, XT.bkL, XT.bk, ST.bkL, IT.bkL, BT.bkL, List.length_nil]; omega) (wire_row8 hp hz) (fun cv => (cv = 0 ∨ cv = 70) ∧ (R1 = false → cv = 0)) (fun a c ia ic => by
                have h9 := wire_put8 (a := a) (c := c) (ia := ia) (ic := ic) HCK.out hsz2 hj hname z
                exact ⟨h9.1, fun h => h9.2 (hR1.trans h)⟩))
              have HPL := Lib.hid (fun (W0 : World) (h0 : Below V4.heap.size V4 W0) (V : World) (p z : Nat) (la : Option Addr) (lc : Nat) (hv : Below W0.heap.size W0 V) (hp : V.heap[p]? = some (.cells #[.int .i64 9, .string (bs nm), .string (bs (nm ++ [95])), .slice (some ⟨z, 0, none⟩) 2 2, .slice none 0 0, .slice la 0 lc, .slice none 0 0, .slice none 0 0, .slice none 0 0] 48)) (hz : V.heap[z]? = some (.cells #[.int .i64 1, .string ⟨#[]⟩, .int .i64 0, .int .i64 0, .int .u64 1, .slice none 0 0, .int .i64 1, .string ⟨#[]⟩, .int .i64 0, .int .i64 0, .int .u64 1, .slice none 0 0] 54)) => put_call8 V n0 ⟨ma, mc, ml⟩ j hj (loopT8 nm (nm ++ [95]) z la lc) p (Nat.le_trans HO.out.hn (Nat.le_trans h0.size hv.size)) HWF.out (HO.out.keep (below_step8 h0 hv)).fin HBK.out HCP.out (by unfold loopT8; rw [IT.Wf]; exact ⟨⟨numT_wf8, numT_wf8, trivial⟩, trivial, trivial, trivial, trivial, trivial⟩) (by simp only [loopT8, numT, IT.bk, XT.bkL, XT.bk, ST.bkL, IT.bkL, BT.bkL, List.length_nil, List.length_append, List.length_cons]; omega) (loop_row8 hp hz) (fun cv => nm.length < 64 → R1 = false → R2 = false → cv = 0) (fun a c ia ic h1 h2 h3 => loop_put8 HCK.out hsz2 hj hname h1 (hR1.trans h2) (hR2.trans h3) z la lc))
              have HRR := Lib.hid (And.intro hR1 hR2)
              clear hname hsz2 hR1 hR2
              simp only at HPW HPL
              have HBc := Lib.hid ((Below.refl V4.heap.size V4).drew)
              have y0A := fun O => alloc_cell y0 O
              have y0B := fun O O' => alloc_cell (alloc_cell y0 O) O'
              have hgl := cell_lt y0
              go_upto_region 6 with (fail)
              go_cut [8] from 45 to 50 (fun p wx => ∃ gm : Nat, p = .pointer (some ⟨gm, 0, none⟩) ∧ PutAt V4 wx gm ml.length (fun cv => (cv = 0 ∨ cv = 70) ∧ (R1 = false → cv = 0)))
              case first =>
                go_region_held3 (fun u1 => u1.cell? ⟨g, 0, none⟩ = some (.slice ma ml.length mc)) (first | exact y0 | exact y0A _ | exact y0B _ _ | exact y9 | exact y9A _ | exact y9B _ _ | exact y9C _ _ _ | exact y9D _ _ _ _ | exact y8 | exact y8A _ | exact far8 y8 (by omega) | exact far8 (y8A _) (by simp only [World.size_alloc]; omega)) (first | (go_at_call 21; refine (wire7_any nm _).mono ?_; rintro e w7 ⟨z, rfl, hzl, hzb, hb7⟩; have HBn := Lib.hid (below_step8 (by first | exact HBc.out | exact below_alloc8 (HBc.out) _ | exact below_alloc8 (below_alloc8 (HBc.out) _) _ | exact below_alloc8 (below_alloc8 (below_alloc8 (HBc.out) _) _) _ | exact below_alloc8 (below_alloc8 (below_alloc8 (below_alloc8 (HBc.out) _) _) _) _) hb7); have hz9 := HBn.out.size; have y9 := keep_cell HBn.out y0; have y9A := fun O => alloc_cell y9 O; have y9B := fun O O' => alloc_cell (alloc_cell y9 O) O'; have y9C := fun O O' O'' => alloc_cell (alloc_cell (alloc_cell y9 O) O') O''; have y9D := fun O O' O'' P => alloc_cell (alloc_cell (alloc_cell (alloc_cell y9 O) O') O'') P; (first | (have hg9 : w7.heap[V4.heap.size]? = some (Obj.cells #[.slice none 0 0] 24) := (by exact block_step8 (v := (V4.drew).alloc (Obj.cells #[.slice none 0 0] 24)) hb7 (alloc_at8 (by first | rfl | (simp only [World.size_alloc]; omega) | (simp; done)))); have HG := Lib.hid hg9; clear hg9) | skip); have HBc := HBn; have HZ := Lib.hid hzb; clear hzl hzb hb7 HBn) | (go_at_call 20; refine (HPW.out _ _ _ (by first | exact HBc.out | exact below_alloc8 (HBc.out) _ | exact below_alloc8 (below_alloc8 (HBc.out) _) _ | exact below_alloc8 (below_alloc8 (below_alloc8 (HBc.out) _) _) _ | exact below_alloc8 (below_alloc8 (below_alloc8 (below_alloc8 (HBc.out) _) _) _) _) (by first | exact alloc_at8 (by first | rfl | (simp only [World.size_alloc]; omega) | (simp; done)) | exact block_alloc (alloc_at8 (by first | rfl | (simp only [World.size_alloc]; omega) | (simp; done))) _ | exact block_alloc (block_alloc (alloc_at8 (by first | rfl | (simp only [World.size_alloc]; omega) | (simp; done))) _) _ | exact block_alloc (block_alloc (block_alloc (alloc_at8 (by first | rfl | (simp only [World.size_alloc]; omega) | (simp; done))) _) _) _ | exact block_alloc (block_alloc (block_alloc (block_alloc (alloc_at8 (by first | rfl | (simp only [World.size_alloc]; omega) | (simp; done))) _) _) _) _) (by first | exact HZ.out | exact block_alloc (HZ.out) _ | exact block_alloc (block_alloc (HZ.out) _) _ | exact block_alloc (block_alloc (block_alloc (HZ.out) _) _) _)).mono ?_; rintro e w8 ⟨hb7, pa, pc, cv, rfl, hp8, hf8⟩; have HB8 := Lib.hid (below_step8 (by first | exact HBc.out | exact below_alloc8 (HBc.out) _ | exact below_alloc8 (below_alloc8 (HBc.out) _) _ | exact below_alloc8 (below_alloc8 (below_alloc8 (HBc.out) _) _) _ | exact below_alloc8 (below_alloc8 (below_alloc8 (below_alloc8 (HBc.out) _) _) _) _) hb7); (first | (have hg9 : w8.heap[V4.heap.size]? = some (Obj.cells #[.slice none 0 0] 24) := (by first | exact block_step8 hb7 (HG.out) | exact block_step8 hb7 (block_alloc (HG.out) _) | exact block_step8 hb7 (block_alloc (block_alloc (HG.out) _) _)); have HG := Lib.hid hg9; have z8 := (cell_of_box_1 hg9).1; have f8 := frozen_box7 hg9; clear hg9) | (have hg9 : w8.heap[w7.heap.size]? = some (Obj.cells #[.slice none 0 0] 24) := (by exact block_step8 (v := (w7).alloc (Obj.cells #[.slice none 0 0] 24)) hb7 (alloc_at8 (by first | rfl | (simp only [World.size_alloc]; omega) | (simp; done)))); have HG := Lib.hid hg9; have z8 := (cell_of_box_1 hg9).1; have f8 := frozen_box7 hg9; clear hg9) | (have hg9 : w8.heap[w7.heap.size]? = some (Obj.cells #[.slice none 0 0] 24) := (by exact block_step8 (v := ((w7).alloc (Obj.cells #[.slice none 0 0] 24)).alloc _) hb7 (block_alloc (alloc_at8 (by first | rfl | (simp only [World.size_alloc]; omega) | (simp; done))) _)); have HG := Lib.hid hg9; have z8 := (cell_of_box_1 hg9).1; have f8 := frozen_box7 hg9; clear hg9) | (have hg9 : w8.heap[w7.heap.size + 1]? = some (Obj.cells #[.slice none 0 0] 24) := (by exact block_step8 (v := ((w7).alloc _).alloc (Obj.cells #[.slice none 0 0] 24)) hb7 (alloc_at8 (by first | rfl | (simp only [World.size_alloc]; omega) | (simp; done)))); have HG := Lib.hid hg9; have z8 := (cell_of_box_1 hg9).1; have f8 := frozen_box7 hg9; clear hg9) | skip); have HF8 := Lib.hid (And.intro hp8 hf8); have y8 := keep_cell HB8.out y0; have y8A := fun O => alloc_cell y8 O; have hz8 := HB8.out.size; clear hb7 hp8 hf8))
                all_goals (go_wp2_with fail; go_meet; first | exact ⟨_, rfl, PutAt.put (by first | exact Nat.le_refl _ | exact HBc.out.size | exact Nat.le_succ_of_le HBc.out.size | (have := HBc.out.size; omega)) HB8.out HF8.out.1 HF8.out.2 HG.out⟩ | exact ⟨_, rfl, PutAt.new HB8.out HF8.out.1 HF8.out.2⟩)
              case rest =>
                obtain ⟨gm, rfl, hpa⟩ := hcut
                generalize wc = w6 at *
                have HPA := Lib.hid hpa
                replace HO := Lib.hid (HO.out.keep hpa.low)
                have HPLc := Lib.hid (HPL.out w6 hpa.low)
                clear hpa y0 y0A y0B hgl HBc HPW HPL
                have y0 := (cell_of_box_1 HO.out.box).1
                have HBc := Lib.hid ((Below.refl w6.heap.size w6).drew)
                have y0A := fun O => alloc_cell y0 O
                have y0B := fun O O' => alloc_cell (alloc_cell y0 O) O'
                have hgl := cell_lt y0
                go_upto_region 7 with (fail)
                go_cut [9] from 51 to 62 (fun p wx => ∃ gm2 : Nat, p = .pointer (some ⟨gm2, 0, none⟩) ∧ PutAt w6 wx gm2 ml.length (fun cv => nm.length < 64 → R1 = false → R2 = false → cv = 0))
                case first =>
                  have happ : bs nm ++ (⟨#[95]⟩ : ByteArray) = bs (nm ++ [95]) := bs_append nm [95]
                  have hle1 : nm.length + 1 ≤ 9223372036854775807 := by omega
                  have hle2 : ¬ (9223372036854775807 < nm.length + 1) := by omega
                  have hle3 : ¬ (9223372036854775806 < nm.length) := by omega
                  have hle4 : nm.length ≤ 9223372036854775806 := by omega
                  (try clear HPA)
                  (try clear HO)
                  (try clear HRR)
                  (try clear HCX)
                  (try clear HCK)
                  (try clear HFW)
                  (try clear HWF)
                  (try clear HS)
                  (try clear HBK)
                  (try clear HGW)
                  (try clear HCP)
                  clear hbl hll d5 d6 d6b d3 d4 hneg hbig hlong2 hj2 hj3 hs2 hn0
                  go_region_held3 (fun u1 => u1.cell? ⟨g, 0, none⟩ = some (.slice ma ml.length mc)) (first | exact y0 | exact y0A _ | exact y0B _ _ | exact y9 | exact y9A _ | exact y9B _ _ | exact y9C _ _ _ | exact y9D _ _ _ _ | exact y8 | exact y8A _ | exact far8 y8 (by omega) | exact far8 (y8A _) (by simp only [World.size_alloc]; omega)) (first | (have hx1 := HB1; go_at_call 23; refine (one7_any _).mono ?_; rintro e wb ⟨rfl, hb7⟩; have HBn := Lib.hid (below_step8 (by first | exact HBc.out | exact below_alloc8 (HBc.out) _ | exact below_alloc8 (below_alloc8 (HBc.out) _) _ | exact below_alloc8 (below_alloc8 (below_alloc8 (HBc.out) _) _) _ | exact below_alloc8 (below_alloc8 (below_alloc8 (below_alloc8 (HBc.out) _) _) _) _) hb7); have hz9 := HBn.out.size; have y9 := keep_cell HBn.out y0; have y9A := fun O => alloc_cell y9 O; have y9B := fun O O' => alloc_cell (alloc_cell y9 O) O'; have y9C := fun O O' O'' => alloc_cell (alloc_cell (alloc_cell y9 O) O') O''; have y9D := fun O O' O'' P => alloc_cell (alloc_cell (alloc_cell (alloc_cell y9 O) O') O'') P; (first | (have hg9 : wb.heap[w6.heap.size]? = some (Obj.cells #[.slice none 0 0] 24) := (by first | exact block_step8 hb7 (HG.out) | exact block_step8 hb7 (block_alloc (HG.out) _) | exact block_step8 hb7 (block_alloc (block_alloc (HG.out) _) _)); have HG := Lib.hid hg9; clear hg9) | (have hg9 : wb.heap[w6.heap.size + 1]? = some (Obj.cells #[.slice none 0 0] 24) := (by first | exact block_step8 hb7 (HG.out) | exact block_step8 hb7 (block_alloc (HG.out) _) | exact block_step8 hb7 (block_alloc (block_alloc (HG.out) _) _)); have HG := Lib.hid hg9; clear hg9) | (have hg9 : wb.heap[wa.heap.size]? = some (Obj.cells #[.slice none 0 0] 24) := (by exact block_step8 (v := (wa).alloc (Obj.cells #[.slice none 0 0] 24)) hb7 (alloc_at8 (by first | rfl | (simp only [World.size_alloc]; omega) | (simp; done)))); have HG := Lib.hid hg9; clear hg9) | (have hg9 : wb.heap[wa.heap.size]? = some (Obj.cells #[.slice none 0 0] 24) := (by exact block_step8 (v := ((wa).alloc (Obj.cells #[.slice none 0 0] 24)).alloc _) hb7 (block_alloc (alloc_at8 (by first | rfl | (simp only [World.size_alloc]; omega) | (simp; done))) _)); have HG := Lib.hid hg9; clear hg9) | (have hg9 : wb.heap[wa.heap.size + 1]? = some (Obj.cells #[.slice none 0 0] 24) := (by exact block_step8 (v := ((wa).alloc _).alloc (Obj.cells #[.slice none 0 0] 24)) hb7 (alloc_at8 (by first | rfl | (simp only [World.size_alloc]; omega) | (simp; done)))); have HG := Lib.hid hg9; clear hg9) | skip); have HBc := HBn; clear hb7 HBn hx1) | (go_at_call 23; refine (one7_any _).mono ?_; rintro e wa ⟨rfl, hb7⟩; have HBn := Lib.hid (below_step8 (by first | exact HBc.out | exact below_alloc8 (HBc.out) _ | exact below_alloc8 (below_alloc8 (HBc.out) _) _ | exact below_alloc8 (below_alloc8 (below_alloc8 (HBc.out) _) _) _ | exact below_alloc8 (below_alloc8 (below_alloc8 (below_alloc8 (HBc.out) _) _) _) _) hb7); have hz9 := HBn.out.size; have y9 := keep_cell HBn.out y0; have y9A := fun O => alloc_cell y9 O; have y9B := fun O O' => alloc_cell (alloc_cell y9 O) O'; have y9C := fun O O' O'' => alloc_cell (alloc_cell (alloc_cell y9 O) O') O''; have y9D := fun O O' O'' P => alloc_cell (alloc_cell (alloc_cell (alloc_cell y9 O) O') O'') P; (first | (have hg9 : wa.heap[w6.heap.size]? = some (Obj.cells #[.slice none 0 0] 24) := (by exact block_step8 (v := (w6.drew).alloc (Obj.cells #[.slice none 0 0] 24)) hb7 (alloc_at8 (by first | rfl | (simp only [World.size_alloc]; omega) | (simp; done)))); have HG := Lib.hid hg9; clear hg9) | (have hg9 : wa.heap[w6.heap.size]? = some (Obj.cells #[.slice none 0 0] 24) := (by exact block_step8 (v := ((w6.drew).alloc (Obj.cells #[.slice none 0 0] 24)).alloc _) hb7 (block_alloc (alloc_at8 (by first | rfl | (simp only [World.size_alloc]; omega) | (simp; done))) _)); have HG := Lib.hid hg9; clear hg9) | (have hg9 : wa.heap[w6.heap.size + 1]? = some (Obj.cells #[.slice none 0 0] 24) := (by exact block_step8 (v := ((w6.drew).alloc _).alloc (Obj.cells #[.slice none 0 0] 24)) hb7 (alloc_at8 (by first | rfl | (simp only [World.size_alloc]; omega) | (simp; done)))); have HG := Lib.hid hg9; clear hg9) | skip); have HBc := HBn; have HB1 := HBn; clear hb7 HBn) | (go_at_call 20; refine (HPLc.out _ _ _ _ _ (by first | exact HBc.out | exact below_alloc8 (HBc.out) _ | exact below_alloc8 (below_alloc8 (HBc.out) _) _ | exact below_alloc8 (below_alloc8 (below_alloc8 (HBc.out) _) _) _ | exact below_alloc8 (below_alloc8 (below_alloc8 (below_alloc8 (HBc.out) _) _) _) _) (by first | exact alloc_at8 (by first | rfl | (simp only [World.size_alloc]; omega) | (simp; done)) | exact block_alloc (alloc_at8 (by first | rfl | (simp only [World.size_alloc]; omega) | (simp; done))) _ | exact block_alloc (block_alloc (alloc_at8 (by first | rfl | (simp only [World.size_alloc]; omega) | (simp; done))) _) _ | exact block_alloc (block_alloc (block_alloc (alloc_at8 (by first | rfl | (simp only [World.size_alloc]; omega) | (simp; done))) _) _) _ | exact block_alloc (block_alloc (block_alloc (block_alloc (alloc_at8 (by first | rfl | (simp only [World.size_alloc]; omega) | (simp; done))) _) _) _) _) (by first | exact alloc_at8 (by first | rfl | (simp only [World.size_alloc]; omega) | (simp; done)) | exact block_alloc (alloc_at8 (by first | rfl | (simp only [World.size_alloc]; omega) | (simp; done))) _ | exact block_alloc (block_alloc (alloc_at8 (by first | rfl | (simp only [World.size_alloc]; omega) | (simp; done))) _) _ | exact block_alloc (block_alloc (block_alloc (alloc_at8 (by first | rfl | (simp only [World.size_alloc]; omega) | (simp; done))) _) _) _)).mono ?_; rintro e w8 ⟨hb7, pa, pc, cv, rfl, hp8, hf8⟩; have HB8 := Lib.hid (below_step8 (by first | exact HBc.out | exact below_alloc8 (HBc.out) _ | exact below_alloc8 (below_alloc8 (HBc.out) _) _ | exact below_alloc8 (below_alloc8 (below_alloc8 (HBc.out) _) _) _ | exact below_alloc8 (below_alloc8 (below_alloc8 (below_alloc8 (HBc.out) _) _) _) _) hb7); (first | (have hg9 : w8.heap[w6.heap.size]? = some (Obj.cells #[.slice none 0 0] 24) := (by first | exact block_step8 hb7 (HG.out) | exact block_step8 hb7 (block_alloc (HG.out) _) | exact block_step8 hb7 (block_alloc (block_alloc (HG.out) _) _) | exact block_step8 hb7 (block_alloc (block_alloc (block_alloc (HG.out) _) _) _) | exact block_step8 hb7 (block_alloc (block_alloc (block_alloc (block_alloc (HG.out) _) _) _) _)); have HG := Lib.hid hg9; have z8 := (cell_of_box_1 hg9).1; have f8 := frozen_box7 hg9; clear hg9) | (have hg9 : w8.heap[w6.heap.size + 1]? = some (Obj.cells #[.slice none 0 0] 24) := (by first | exact block_step8 hb7 (HG.out) | exact block_step8 hb7 (block_alloc (HG.out) _) | exact block_step8 hb7 (block_alloc (block_alloc (HG.out) _) _) | exact block_step8 hb7 (block_alloc (block_alloc (block_alloc (HG.out) _) _) _) | exact block_step8 hb7 (block_alloc (block_alloc (block_alloc (block_alloc (HG.out) _) _) _) _)); have HG := Lib.hid hg9; have z8 := (cell_of_box_1 hg9).1; have f8 := frozen_box7 hg9; clear hg9) | (have hg9 : w8.heap[wa.heap.size]? = some (Obj.cells #[.slice none 0 0] 24) := (by first | exact block_step8 hb7 (HG.out) | exact block_step8 hb7 (block_alloc (HG.out) _) | exact block_step8 hb7 (block_alloc (block_alloc (HG.out) _) _) | exact block_step8 hb7 (block_alloc (block_alloc (block_alloc (HG.out) _) _) _) | exact block_step8 hb7 (block_alloc (block_alloc (block_alloc (block_alloc (HG.out) _) _) _) _)); have HG := Lib.hid hg9; have z8 := (cell_of_box_1 hg9).1; have f8 := frozen_box7 hg9; clear hg9) | (have hg9 : w8.heap[wa.heap.size + 1]? = some (Obj.cells #[.slice none 0 0] 24) := (by first | exact block_step8 hb7 (HG.out) | exact block_step8 hb7 (block_alloc (HG.out) _) | exact block_step8 hb7 (block_alloc (block_alloc (HG.out) _) _) | exact block_step8 hb7 (block_alloc (block_alloc (block_alloc (HG.out) _) _) _) | exact block_step8 hb7 (block_alloc (block_alloc (block_alloc (block_alloc (HG.out) _) _) _) _)); have HG := Lib.hid hg9; have z8 := (cell_of_box_1 hg9).1; have f8 := frozen_box7 hg9; clear hg9) | (have hg9 : w8.heap[wb.heap.size]? = some (Obj.cells #[.slice none 0 0] 24) := (by exact block_step8 (v := (wb).alloc (Obj.cells #[.slice none 0 0] 24)) hb7 (alloc_at8 (by first | rfl | (simp only [World.size_alloc]; omega) | (simp; done)))); have HG := Lib.hid hg9; have z8 := (cell_of_box_1 hg9).1; have f8 := frozen_box7 hg9; clear hg9) | (have hg9 : w8.heap[wb.heap.size]? = some (Obj.cells #[.slice none 0 0] 24) := (by exact block_step8 (v := ((wb).alloc (Obj.cells #[.slice none 0 0] 24)).alloc _) hb7 (block_alloc (alloc_at8 (by first | rfl | (simp only [World.size_alloc]; omega) | (simp; done))) _)); have HG := Lib.hid hg9; have z8 := (cell_of_box_1 hg9).1; have f8 := frozen_box7 hg9; clear hg9) | (have hg9 : w8.heap[wb.heap.size + 1]? = some (Obj.cells #[.slice none 0 0] 24) := (by exact block_step8 (v := ((wb).alloc _).alloc (Obj.cells #[.slice none 0 0] 24)) hb7 (alloc_at8 (by first | rfl | (simp only [World.size_alloc]; omega) | (simp; done)))); have HG := Lib.hid hg9; have z8 := (cell_of_box_1 hg9).1; have f8 := frozen_box7 hg9; clear hg9) | (have hg9 : w8.heap[wb.heap.size]? = some (Obj.cells #[.slice none 0 0] 24) := (by exact block_step8 (v := (((wb).alloc (Obj.cells #[.slice none 0 0] 24)).alloc _).alloc _) hb7 (block_alloc (block_alloc (alloc_at8 (by first | rfl | (simp only [World.size_alloc]; omega) | (simp; done))) _) _)); have HG := Lib.hid hg9; have z8 := (cell_of_box_1 hg9).1; have f8 := frozen_box7 hg9; clear hg9) | (have hg9 : w8.heap[wb.heap.size + 1]? = some (Obj.cells #[.slice none 0 0] 24) := (by exact block_step8 (v := (((wb).alloc _).alloc (Obj.cells #[.slice none 0 0] 24)).alloc _) hb7 (block_alloc (alloc_at8 (by first | rfl | (simp only [World.size_alloc]; omega) | (simp; done))) _)); have HG := Lib.hid hg9; have z8 := (cell_of_box_1 hg9).1; have f8 := frozen_box7 hg9; clear hg9) | (have hg9 : w8.heap[wb.heap.size + 2]? = some (Obj.cells #[.slice none 0 0] 24) := (by exact block_step8 (v := (((wb).alloc _).alloc _).alloc (Obj.cells #[.slice none 0 0] 24)) hb7 (alloc_at8 (by first | rfl | (simp only [World.size_alloc]; omega) | (simp; done)))); have HG := Lib.hid hg9; have z8 := (cell_of_box_1 hg9).1; have f8 := frozen_box7 hg9; clear hg9) | (have hg9 : w8.heap[wb.heap.size]? = some (Obj.cells #[.slice none 0 0] 24) := (by exact block_step8 (v := ((((wb).alloc (Obj.cells #[.slice none 0 0] 24)).alloc _).alloc _).alloc _) hb7 (block_alloc (block_alloc (block_alloc (alloc_at8 (by first | rfl | (simp only [World.size_alloc]; omega) | (simp; done))) _) _) _)); have HG := Lib.hid hg9; have z8 := (cell_of_box_1 hg9).1; have f8 := frozen_box7 hg9; clear hg9) | (have hg9 : w8.heap[wb.heap.size + 1]? = some (Obj.cells #[.slice none 0 0] 24) := (by exact block_step8 (v := ((((wb).alloc _).alloc (Obj.cells #[.slice none 0 0] 24)).alloc _).alloc _) hb7 (block_alloc (block_alloc (alloc_at8 (by first | rfl | (simp only [World.size_alloc]; omega) | (simp; done))) _) _)); have HG := Lib.hid hg9; have z8 := (cell_of_box_1 hg9).1; have f8 := frozen_box7 hg9; clear hg9) | (have hg9 : w8.heap[wb.heap.size + 2]? = some (Obj.cells #[.slice none 0 0] 24) := (by exact block_step8 (v := ((((wb).alloc _).alloc _).alloc (Obj.cells #[.slice none 0 0] 24)).alloc _) hb7 (block_alloc (alloc_at8 (by first | rfl | (simp only [World.size_alloc]; omega) | (simp; done))) _)); have HG := Lib.hid hg9; have z8 := (cell_of_box_1 hg9).1; have f8 := frozen_box7 hg9; clear hg9) | (have hg9 : w8.heap[wb.heap.size + 3]? = some (Obj.cells #[.slice none 0 0] 24) := (by exact block_step8 (v := ((((wb).alloc _).alloc _).alloc _).alloc (Obj.cells #[.slice none 0 0] 24)) hb7 (alloc_at8 (by first | rfl | (simp only [World.size_alloc]; omega) | (simp; done)))); have HG := Lib.hid hg9; have z8 := (cell_of_box_1 hg9).1; have f8 := frozen_box7 hg9; clear hg9) | skip); have HF8 := Lib.hid (And.intro hp8 hf8); have y8 := keep_cell HB8.out y0; have y8A := fun O => alloc_cell y8 O; have hz8 := HB8.out.size; clear hb7 hp8 hf8))
                  all_goals (go_wp2_with fail; go_meet; first | exact ⟨_, rfl, PutAt.put (by first | exact Nat.le_refl _ | exact HBc.out.size | exact Nat.le_succ_of_le HBc.out.size | (have := HBc.out.size; omega)) HB8.out HF8.out.1 HF8.out.2 HG.out⟩ | exact ⟨_, rfl, PutAt.new HB8.out HF8.out.1 HF8.out.2⟩)
                case rest =>
                  obtain ⟨gm2, rfl, hpb⟩ := hcut
                  generalize wc = w9 at *
                  have HPB := Lib.hid hpb
                  replace HPA := Lib.hid (HPA.out.keep hpb.low)
                  replace HO := Lib.hid (HO.out.keep hpb.low)
                  clear hpb y0 y0A y0B hgl HBc HPLc
                  have y0 := (cell_of_box_1 HO.out.box).1
                  by_cases hl64 : 64 ≤ nm.length
                  · have g1 : decide (64 ≤ nm.length) = true := by simpa using hl64
                    have g2 : decide ((64 : Int) ≤ (nm.length : Int)) = true := by rw [decide_eq_true_eq]; omega
                    go_wp2
                    go_ret
                    first | exact ⟨rfl, HO.out.low⟩ | exact ⟨rfl, by rw [← HGW.out]; exact HO.out.low⟩
                  · have g1 : decide (64 ≤ nm.length) = false := by simpa using hl64
                    have g2 : decide ((64 : Int) ≤ (nm.length : Int)) = false := by rw [decide_eq_false_iff_not]; omega
                    have hmsz : ml[j].sz ≤ 1400000 := by
                      have h1 := MT.szL_mem (List.getElem_mem hj)
                      have h2 := MT.szL_bk ml
                      omega
                    obtain ⟨b2, o2, rfl, hb2, hr2, hmi⟩ := InRow.at HO.out.fin hj
                    have hal := allR_len8 ml[j]
                    have hall := fun (V : World) (hv : Below w9.heap.size w9 V) => refAll_any ml[j] hmsz n0 V (Nat.le_trans HO.out.hn hv.size) (MT.In.keep (Below.keptTo hv HO.out.hn) _ hmi)
                    have hRR := HRR.out
                    obtain ⟨F, hF⟩ : ∃ F, allR ml[j] = F := ⟨_, rfl⟩
                    rw [hF] at hal hRR
                    simp only [hF, MT.val, MT.cells] at hall
                    have HALL := Lib.hid hall
                    have HR3 := Lib.hid hRR
                    have hFl : F.length ≤ 1099511627776 := by omega
                    have hcell : ∀ V, Below w9.heap.size w9 V → (V.cell? ⟨b2, o2 + j * 4, none⟩ = some (.string (bs ml[j].nm)) ∧ V.cell? ⟨b2, o2 + j * 4 + 1, none⟩ = some (.slice ml[j].pa ml[j].pl.length ml[j].pc) ∧ V.cell? ⟨b2, o2 + j * 4 + 2, none⟩ = some (.slice ml[j].ta ml[j].tl.length ml[j].tc) ∧ V.cell? ⟨b2, o2 + j * 4 + 3, none⟩ = some (.slice ml[j].ia ml[j].il.length ml[j].ic)) := fun V hv => ⟨keep_cell hv (hr2 0 _ rfl), keep_cell hv (hr2 1 _ rfl), keep_cell hv (hr2 2 _ rfl), keep_cell hv (hr2 3 _ rfl)⟩
                    have HCE := Lib.hid hcell
                    clear hcell hall hF hmi hal hmsz hr2 hb2 hRR
                    obtain ⟨s0, s1, s2, s3⟩ := HCE.out w9 (Below.refl _ _)
                    have q6 := HALL.out w9 (Below.refl _ _)
                    go_wp2_with fail
                    refine q6.mono ?_
                    clear q6 s0 s1 s2 s3
                    rintro e V5 ⟨v, rfl, hv, hb5⟩
                    obtain ⟨va, vc, rfl, -, hvl⟩ := hv
                    replace HO := Lib.hid (HO.out.keep hb5)
                    replace HPA := Lib.hid (HPA.out.keep hb5)
                    replace HPB := Lib.hid (HPB.out.keep hb5)
                    have HB5 := Lib.hid hb5
                    clear hb5 y0
                    have y0 := (cell_of_box_1 HO.out.box).1
                    have q7 := amongS_any va vc F nm hFl V5 hvl
                    rw [HR3.out.1] at q7
                    clear hvl
                    go_wp2_with fail
                    refine q7.mono ?_
                    clear q7
                    rintro e V6 ⟨rfl, nd, rfl⟩
                    have hbd : Below V5.heap.size V5 (V5.drewN nd) := below_drewN (Below.refl _ _) nd
                    replace HO := Lib.hid (HO.out.keep hbd)
                    replace HPA := Lib.hid (HPA.out.keep hbd)
                    replace HPB := Lib.hid (HPB.out.keep hbd)
                    replace HB5 := Lib.hid (HB5.out.trans (hbd.mono HB5.out.size))
                    clear hbd y0
                    obtain ⟨V7, hV7⟩ : ∃ V7, V5.drewN nd = V7 := ⟨_, rfl⟩
                    rw [hV7] at HO HPA HPB HB5
                    have y0 := (cell_of_box_1 HO.out.box).1
                    have ga0 := HPA.out.ex
                    obtain ⟨aa, ac, cv, ⟨hcv, hcz⟩, hgb, hfi⟩ := ga0
                    have ga := (cell_of_box_1 hgb).1
                    have HFI := Lib.hid (And.intro hfi (And.intro hcv hcz))
                    clear hgb hfi hcv hcz
                    cases R1 with
                    | true =>
                      have q10 := HFI.out.1.check (Below.refl _ _) HO.out.env
                      rcases HFI.out.2.1 with h0 | h0
                      · subst h0
                        go_wp2_with fail
                        (try rw [hV7])
                        refine q10.mono ?_
                        clear q10
                        rintro e V10 ⟨rfl, hb⟩
                        have HLP := Lib.hid (HO.out.low.trans (hb.mono HO.out.low.size))
                        clear hb
                        go_wp2
                        go_ret
                        first | exact ⟨rfl, HLP.out⟩ | exact ⟨rfl, by rw [← HGW.out]; exact HLP.out⟩
                      · subst h0
                        go_wp2_with fail
                        (try rw [hV7])
                        refine q10.mono ?_
                        clear q10
                        rintro e V10 ⟨rfl, hb⟩
                        have q11 := HFI.out.1.check hb (HO.out.env.keep hb)
                        have gc := keep_cell hb ga
                        have HLO := Lib.hid (HO.out.low.trans (hb.mono HO.out.low.size))
                        clear hb y0 hV7 ga
                        go_wp2_with fail
                        refine q11.mono ?_
                        clear q11
                        rintro e V11 ⟨rfl, hb⟩
                        have HLP := Lib.hid (HLO.out.trans (hb.mono HLO.out.size))
                        clear hb
                        go_wp2
                        go_ret
                        first | exact ⟨rfl, HLP.out⟩ | exact ⟨rfl, by rw [← HGW.out]; exact HLP.out⟩
                    | false =>
                      obtain ⟨s0, s1, s2, s3⟩ := HCE.out V7 HB5.out
                      have q8 := HALL.out V7 HB5.out
                      go_wp2_with fail
                      (try rw [hV7])
                      refine q8.mono ?_
                      clear q8 s0 s1 s2 s3 ga hV7
                      rintro e V8 ⟨v, rfl, hv, hb8⟩
                      obtain ⟨va, vc, rfl, -, hvl⟩ := hv
                      replace HO := Lib.hid (HO.out.keep hb8)
                      replace HPB := Lib.hid (HPB.out.keep hb8)
                      have HFI2 := Lib.hid (And.intro (HFI.out.1.keep hb8) HFI.out.2)
                      have HPA2 := Lib.hid (HPA.out.keep hb8)
                      clear hb8 y0 HFI HPA
                      have y0 := (cell_of_box_1 HO.out.box).1
                      have q9 := amongS_any va vc F (nm ++ [95]) hFl V8 hvl
                      rw [HR3.out.2] at q9
                      clear hvl
                      go_wp2_with fail
                      refine q9.mono ?_
                      clear q9
                      rintro e V9 ⟨rfl, ne, rfl⟩
                      have hbd : Below V8.heap.size V8 (V8.drewN ne) := below_drewN (Below.refl _ _) ne
                      replace HO := Lib.hid (HO.out.keep hbd)
                      have HPA := Lib.hid (HPA2.out.keep hbd)
                      replace HPB := Lib.hid (HPB.out.keep hbd)
                      clear hbd y0 HFI2 HPA2
                      obtain ⟨V7, hV7⟩ : ∃ V7, V8.drewN ne = V7 := ⟨_, rfl⟩
                      rw [hV7] at HO HPA HPB
                      have y0 := (cell_of_box_1 HO.out.box).1
                      have ga0 := HPA.out.ex
                      obtain ⟨aa, ac, cv, ⟨hcv, hcz⟩, hgb, hfi⟩ := ga0
                      have ga := (cell_of_box_1 hgb).1
                      have HFI := Lib.hid (And.intro hfi (And.intro hcv hcz))
                      clear hgb hfi hcv hcz
                      cases R2 with
                      | true =>
                        have q10 := HFI.out.1.check (Below.refl _ _) HO.out.env
                        rcases HFI.out.2.1 with h0 | h0
                        · subst h0
                          go_wp2_with fail
                          (try rw [hV7])
                          refine q10.mono ?_
                          clear q10
                          rintro e V10 ⟨rfl, hb⟩
                          have HLP := Lib.hid (HO.out.low.trans (hb.mono HO.out.low.size))
                          clear hb
                          go_wp2
                          go_ret
                          first | exact ⟨rfl, HLP.out⟩ | exact ⟨rfl, by rw [← HGW.out]; exact HLP.out⟩
                        · subst h0
                          go_wp2_with fail
                          (try rw [hV7])
                          refine q10.mono ?_
                          clear q10
                          rintro e V10 ⟨rfl, hb⟩
                          have q11 := HFI.out.1.check hb (HO.out.env.keep hb)
                          have gc := keep_cell hb ga
                          have HLO := Lib.hid (HO.out.low.trans (hb.mono HO.out.low.size))
                          clear hb y0 hV7 ga
                          go_wp2_with fail
                          refine q11.mono ?_
                          clear q11
                          rintro e V11 ⟨rfl, hb⟩
                          have HLP := Lib.hid (HLO.out.trans (hb.mono HLO.out.size))
                          clear hb
                          go_wp2
                          go_ret
                          first | exact ⟨rfl, HLP.out⟩ | exact ⟨rfl, by rw [← HGW.out]; exact HLP.out⟩
                      | false =>
                        obtain rfl : cv = 0 := HFI.out.2.2 (by simp)
                        obtain ⟨ba, bc, cw, hcw, hgb2, hfi2⟩ := HPB.out.ex
                        obtain rfl : cw = 0 := hcw (by omega) (by simp) (by simp)
                        have q10 := HFI.out.1.check (Below.refl _ _) HO.out.env
                        have HFB := Lib.hid (And.intro hgb2 hfi2)
                        clear hgb2 hfi2 hcw
                        go_wp2_with fail
                        (try rw [hV7])
                        refine q10.mono ?_
                        clear q10 ga
                        rintro e V10 ⟨rfl, hb⟩
                        have gb := (cell_of_box_1 (block_step8 hb HFB.out.1)).1
                        have q11 := HFB.out.2.check hb (HO.out.env.keep hb)
                        have HLO := Lib.hid (HO.out.low.trans (hb.mono HO.out.low.size))
                        clear hb y0 hV7
                        go_wp2_with fail
                        refine q11.mono ?_
                        clear q11
                        rintro e V11 ⟨rfl, hb⟩
                        have HLP := Lib.hid (HLO.out.trans (hb.mono HLO.out.size))
                        clear hb
                        go_wp2
                        go_ret
                        first | exact ⟨rfl, HLP.out⟩ | exact ⟨rfl, by rw [← HGW.out]; exact HLP.out⟩
end Go.Proofs.YtoafmkepocfiaaaGreatDoor
