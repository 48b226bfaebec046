/-
  AsRf, in one text.
-/
import Derived.Test.YtiipjbafdhijlaaGreatDoorZAZ
import Derived.Test.YtiipjbafdhijlaaGreatDoorZAm
import Derived.Test.YtiipjbafdhijlaaGreatDoorZAR
namespace Go.Proofs.YtiipjbafdhijlaaGreatDoor
open Go Go.RowKit
set_option linter.unusedVariables false
set_option linter.unusedSimpArgs false
open Go.Sort
def checkF (x : FT) : Int := if decide (64 < x.ml.length) = true then 2 else if (decide (65536 < x.sz) || decide (64 < x.dp)) = true then 2 else if x.ml.all mayM = true then 0 else 1
set_option maxHeartbeats 4000000 in
set_option maxRecDepth 9000000 in
theorem check_file_any (x : FT) (hbk : x.bk ≤ 4500000) (hwf : x.Wf) (n0 : Nat) (w : World) (hn0 : n0 ≤ w.heap.size) (he : EnvA w) (hx : x.In n0 w) : Calls Tryz.prog 52 #[x.val] w fun e w' => e = .returned (.int .i64 (checkF x)) ∧ Below w.heap.size w w' := by
 have hd := fun w => depthsFile_any x w
 have hx0 := hx
 obtain ⟨ma, mc, ml⟩ := x
 have bx : 1 + MT.bkL ml ≤ 4500000 := hbk
 have hsz : FT.sz ⟨ma, mc, ml⟩ ≤ 6000000 := by have := MT.szL_bk ml; show MT.szL ml ≤ _; omega
 have hg := fun (w' : World) h1 h2 => greatFile_any ⟨ma, mc, ml⟩ hsz n0 w' h1 h2
 rw [great_f] at hg
 have l1 := MT.bkL_len ml
 have hw2 : MT.WfL ml := hwf
 rw [MT.wfL_iff] at hw2
 have hm := fun (w' : World) h1 h2 h3 => allM_any mayM n0 ml (by omega) (fun y hy w2 e1 e2 e3 => mayM_any y (by have := MT.bkL_mem hy; omega) (hw2 y hy) n0 w2 e1 e2 e3) ma mc w' h1 h2 h3
 have HI : Hid (checkF ⟨ma, mc, ml⟩ = if decide (64 < ml.length) = true then 2 else if (decide (65536 < FT.sz ⟨ma, mc, ml⟩) || decide (64 < FT.dp ⟨ma, mc, ml⟩)) = true then 2 else if ml.all mayM = true then 0 else 1) := Lib.hid rfl
 generalize checkF ⟨ma, mc, ml⟩ = R at *
 generalize (decide (65536 < FT.sz ⟨ma, mc, ml⟩) || decide (64 < FT.dp ⟨ma, mc, ml⟩)) = gb at *
 generalize ml.all mayM = mb at *
 obtain ⟨lb, hlb⟩ : ∃ b, decide (64 < ml.length) = b := ⟨_, rfl⟩
 have e1 : decide ((64 : Int) < (ml.length : Int)) = lb := by rw [← hlb]; exact decide_eq_decide.2 (by omega)
 rw [hlb] at HI
 clear hbk hwf bx hsz l1 hw2 hx hlb
 simp only [FT.val, FT.cells] at hd hg ⊢
 have HD := Lib.hid hd
 have HG := Lib.hid hg
 have HM := Lib.hid hm
 clear hd hg hm
 go_enter Tryz.func52, Tryz.ntmps52
 go_upto_region 1 with (fail)
 have BX : (w.alloc (.cells #[.slice ma ml.length mc] 24)).heap[w.heap.size]? = some (.cells #[.slice ma ml.length mc] 24) := World.alloc_heap_new w _
 have hB2 : Below w.heap.size w (w.alloc (.cells #[.slice ma ml.length mc] 24)) := (Below.refl _ _).alloc (Nat.le_refl _) _
 have he2 := he.alloc (.cells #[.slice ma ml.length mc] 24)
 have hi2 := FT.In.keep (Below.keptTo hB2 hn0) _ hx0
 clear he hx0
 generalize w.alloc (.cells #[.slice ma ml.length mc] 24) = w1 at *
 have hn1 : n0 ≤ w1.heap.size := by have := hB2.size; omega
 have x0 := (cell_of_box_1 BX).1
 cases lb with
 | true =>
  have HE : Hid (R = 2) := Lib.hid (by rw [HI.out, if_pos rfl])
  go_wp2
  go_ret
  exact ⟨by rw [HE.out]; rfl, hB2⟩
 | false =>
  replace HI : Hid (R = if gb = true then 2 else if mb = true then 0 else 1) := Lib.hid (by rw [HI.out, if_neg (by decide)])
  go_wp2_with fail
  refine (HD.out _).mono ?_
  rintro e1 w2 ⟨rfl, rfl⟩
  clear x0
  have hg1 := HG.out w1 hn1 hi2
  clear HG HD
  go_wp2_with fail
  refine hg1.mono ?_
  rintro e2 w3 ⟨rfl, hb⟩
  clear hg1
  replace BX := block_kept BX hb
  have hk9 := Below.keptTo hb hn1
  replace hi2 := FT.In.keep hk9 _ hi2
  replace he2 := he2.keep hb
  replace hn1 := Nat.le_trans hn1 hb.size
  replace hB2 := hB2.trans (hb.mono hB2.size)
  clear hk9 hb
  have x0 := (cell_of_box_1 BX).1
  cases gb with
  | true =>
   have HE : Hid (R = 2) := Lib.hid (by rw [HI.out, if_pos rfl])
   clear HM
   go_wp2
   go_ret
   exact ⟨by rw [HE.out]; rfl, hB2⟩
  | false =>
   have HE : Hid (R = if mb = true then 0 else 1) := Lib.hid (by rw [HI.out, if_neg (by decide)])
   have hm1 := HM.out w3 hn1 he2 hi2
   clear HM
   obtain ⟨V, hV⟩ : ∃ V, (if mb = true then (0 : Int) else 1) = V := ⟨_, rfl⟩
   have hal := fun w => allowed_any mb w
   rw [hV] at hal HE
   clear hV
   go_wp2_with fail
   refine hm1.mono ?_
   rintro e4 w4 ⟨rfl, hb⟩
   have hB3 := hB2.trans (hb.mono hB2.size)
   clear hm1
   go_wp2_with fail
   refine (hal _).mono ?_
   rintro e5 w5 ⟨rfl, rfl⟩
   go_wp2
   go_ret
   exact ⟨by rw [HE.out]; rfl, hB3⟩
end Go.Proofs.YtiipjbafdhijlaaGreatDoor
