/-
  What an expression hangs on are its names.
-/
import Derived.Test.YtlbjmnakiflfpaaDoorTie
import Derived.Test.YtlbjmnakiflfpaaDoorCards
import Derived.Test.YtlbjmnakiflfpaaDoorAsOp
import Derived.Test.YtlbjmnakiflfpaaDoorKsO
import Derived.Test.YtlbjmnakiflfpaaDoorKsL
import Derived.Test.YtlbjmnakiflfpaaDoorKsS
import Derived.JoinedCond
import Derived.Deep.DeepHandedRow
namespace Go.Proofs.YtlbjmnakiflfpaaDoor.konstFree
open Go Go.ChangeShapes Go.WideShapes Go.ChangeAt Go.RowKit Go.Joins Go.Sort Go.Deep
set_option linter.unusedVariables false
set_option linter.unusedSimpArgs false

set_option maxHeartbeats 16000000 in
set_option maxRecDepth 100000 in
theorem walk_any (x : XT) (hbk : x.bk ≤ 1400000) (hwf : x.Wf) (l : List NT) (hlk : NT.bkL l ≤ 1400000) (nm : Bytes) (hnk : nm.length ≤ 50000 + 1000000 - 0) (vv : Int) (hvw : NT.Wf ⟨nm, vv⟩) (hsum : NT.bkL l + nm.length ≤ 1400000) (a : Option Addr) (c : Nat) (hac : a = none → c = 0) (n0 : Nat) (w : World) (hn0 : n0 ≤ w.heap.size) (he : EnvA w) (hx : x.In n0 w) (hl : NRow n0 w l a) : Calls Tryd.prog 4 #[x.val, .slice a l.length c, .string (bs nm), .int .i64 vv] w fun e w' => e = .returned (.bool true) ∧ Below w.heap.size w w' := by
  have HF := Lib.hid (fun (W : World) (h1 : n0 ≤ W.heap.size) (h3 : x.In n0 W) => kfew_any x (Nat.le_trans x.sz_bk (by omega)) l (Nat.le_trans (NT.bkL_len l) (by omega)) a c n0 W h1 h3)
  have HR := Lib.hid (fun (W : World) (h1 : n0 ≤ W.heap.size) (h2 : EnvA W) (h3 : x.In n0 W) => free_any x (by omega) n0 W h1 h2 h3)
  have hll := Nat.le_trans (NT.bkL_len l) hlk
  have HE := Lib.hid (fun (m : List NT) (hm : NT.bkL m ≤ 1500000) (hem : evalK m x = evalK l x) (a' : Option Addr) (c' : Nat) (W : World) (h2 : EnvA W) (h3 : x.In W.heap.size W) (h4 : NRow W.heap.size W m a') => (show Calls Tryd.prog 7 #[x.val, .slice a' m.length c'] W fun e w' => e = .returned (.tuple #[.int .i64 (evalK l x).1, .int .i64 (evalK l x).2]) ∧ Below W.heap.size W w' by rw [← hem]; exact eval_any x (by omega) hwf m hm a' c' W.heap.size W (Nat.le_refl _) h2 h3 h4))
  have HO := Lib.hid (evK_own l x)
  have HM := Lib.hid (fun h => evK_more l x nm vv h)
  obtain ⟨N, hN⟩ : ∃ N, freeX [] x = N := ⟨_, rfl⟩
  have hNl : N.length ≤ 1500000 := by rw [← hN]; have h7 := freeX_len x []; have h8 := x.sz_bk; simp only [List.length_nil] at h7; omega
  rw [hN] at HR HO HM
  have HWL := Lib.hid (InRow.all hl : ∀ y ∈ l, y.Wf)
  have HBK := Lib.hid (And.intro (ownN_bk N l) (And.intro hlk (And.intro hnk (And.intro hll hNl))))
  obtain ⟨A, hA⟩ : ∃ A, (evalK l x).1 = A := ⟨_, rfl⟩
  obtain ⟨F, hF⟩ : ∃ F, (evalK l x).2 = F := ⟨_, rfl⟩
  rw [hA, hF] at HE
  clear hN hA hF hbk hwf
  have HVW := Lib.hid hvw
  have HSUM := Lib.hid hsum
  clear hvw hsum
  generalize fewK x l = fb at *
  obtain ⟨op, xnm, xn, wd, v, xa, xc, xl⟩ := x
  simp only [XT.val, XT.cells] at HF HR HE ⊢
  go_enter Tryd.func4, Tryd.ntmps4
  go_upto_region 1 with (fail)
  have BX := World.alloc_heap_new w (.cells #[.int .i64 op, .string (bs xnm), .int .i64 xn, .int .i64 wd, .int .u64 (v : Int), .slice xa xl.length xc] 25)
  have hB : Below w.heap.size w (w.alloc (.cells #[.int .i64 op, .string (bs xnm), .int .i64 xn, .int .i64 wd, .int .u64 (v : Int), .slice xa xl.length xc] 25)) := ((Below.refl _ _).alloc (by first | exact Nat.le_refl _ | (simp; done) | (simp; omega)) _)
  have hk9 := Below.keptTo hB hn0
  replace hx := XT.In.keep hk9 _ hx
  replace hl := hl.keep hk9
  replace he := he.keep hB
  replace hn0 := Nat.le_trans hn0 hB.size
  clear hk9
  generalize (w.alloc (.cells #[.int .i64 op, .string (bs xnm), .int .i64 xn, .int .i64 wd, .int .u64 (v : Int), .slice xa xl.length xc] 25)) = w1 at *
  obtain ⟨q0, q1, q2, q3, q4, q5⟩ := open6 BX
  go_wp2_with fail
  refine (live_any _ he).mono ?_
  rintro e w2 ⟨rfl, hb⟩
  clear q0 q1 q2 q3 q4 q5
  have hk9 := Below.keptTo hb hn0
  replace BX := block_kept BX hb
  replace hx := XT.In.keep hk9 _ hx
  replace hl := hl.keep hk9
  replace he := he.keep hb
  replace hn0 := Nat.le_trans hn0 hb.size
  replace hB := hB.trans (hb.mono hB.size)
  clear hb hk9
  obtain ⟨q0, q1, q2, q3, q4, q5⟩ := open6 BX
  go_wp2_with fail
  refine (HF.out _ hn0 hx).mono ?_
  rintro e w3 ⟨rfl, hb⟩
  clear q0 q1 q2 q3 q4 q5
  have hk9 := Below.keptTo hb hn0
  replace BX := block_kept BX hb
  replace hx := XT.In.keep hk9 _ hx
  replace hl := hl.keep hk9
  replace he := he.keep hb
  replace hn0 := Nat.le_trans hn0 hb.size
  replace hB := hB.trans (hb.mono hB.size)
  clear hb hk9
  clear HF
  cases fb
  case false =>
    go_wp2
    go_ret
    exact ⟨rfl, hB⟩
  obtain ⟨q0, q1, q2, q3, q4, q5⟩ := open6 BX
  go_wp2_with fail
  refine (HR.out _ hn0 he hx).mono ?_
  rintro e w4 ⟨v4, rfl, own4, _, hb⟩
  obtain ⟨aF, cF, rfl, _⟩ := own_shape' own4
  have lies4 := lies_own own4
  clear own4 HR
  clear q0 q1 q2 q3 q4 q5
  have hk9 := Below.keptTo hb hn0
  replace BX := block_kept BX hb
  replace hx := XT.In.keep hk9 _ hx
  replace hl := hl.keep hk9
  replace he := he.keep hb
  replace hn0 := Nat.le_trans hn0 hb.size
  replace hB := hB.trans (hb.mono hB.size)
  clear hb hk9
  have HP := Lib.hid (And.intro BX (And.intro hx (And.intro hl (And.intro he (And.intro hn0 (And.intro lies4 hB))))))
  clear BX hx hl he hn0 lies4 hB
  have hll := HBK.out.2.2.2.1
  have hNl := HBK.out.2.2.2.2
  go_wp2
  go_loopg [11, 12] l.length (fun g v u wr => ∃ k : Nat, u = .int .i64 k ∧ k + g = l.length ∧ ∃ M, M = ownN N (l.take k) ∧ wr.ownsRow w4.heap.size 39 2 v M.length (M.flatMap NT.cells) ∧ Below w4.heap.size w4 wr)
  case atStart => exact ⟨0, rfl, by omega, [], by rw [List.take_zero]; rfl, ⟨rfl, .inl ⟨rfl, rfl⟩⟩, Below.refl _ _⟩
  case round =>
    obtain ⟨k, rfl, hk, M, hM, ownM, hb5⟩ := hrel
    obtain ⟨aM, cM, rfl, _⟩ := own_shape' ownM
    have hMl : M.length ≤ 1500000 := by { rw [hM]; exact Nat.le_trans (ownN_len N _) (Nat.le_trans (List.length_take_le' _ _) (by omega)) }
    have HM0 := Lib.hid hM
    by_cases hlt : k < l.length
    · have d1 : decide (k < l.length) = true := by simpa using hlt
      have d2 : decide ((k : Int) < (l.length : Int)) = true := by rw [decide_eq_true_eq]; omega
      obtain ⟨BX, hx, hl, he, hn0, lies4, hB⟩ := HP.out
      obtain ⟨b, o, ha, hbn, hr, hwx⟩ := InRow.kept hl (Below.keptTo hb5 hn0) hlt
      have liR : LiesS wr aF N := LiesS.keep (H := 0) lies4 hb5
      have h9 := ownN_take N l k hlt
      rw [← hM] at h9
      have HST := Lib.hid h9
      clear h9 BX hx hl he hn0 lies4 hB hM
      obtain ⟨y, hy⟩ : ∃ y, l[k] = y := ⟨_, rfl⟩
      rw [hy] at hr HST
      obtain ⟨ynm, yv⟩ := y
      have r0 : wr.cell? ⟨b, o + k * 2, none⟩ = some (.string (bs ynm)) := hr 0 _ rfl
      have r1 : wr.cell? ⟨b, o + k * 2 + 1, none⟩ = some (.int .i64 yv) := hr 1 _ rfl
      subst ha
      clear hr hwx hy
      go_wp2_with fail
      refine (amongS_any aF cF N ynm (by omega) _ liR).mono ?_
      rintro e w6 ⟨rfl, nq, hw6⟩
      have own6 : w6.ownsRow w4.heap.size 39 2 (.slice aM M.length cM) M.length (M.flatMap NT.cells) := by { have h9 := ownM; unfold World.ownsRow at h9 ⊢; rw [hw6]; exact h9 }
      have hb6 : Below w4.heap.size w4 w6 := by { rw [hw6]; exact ⟨hb5.os, hb5.tape, hb5.output, hb5.size, hb5.block⟩ }
      have r06 : w6.cell? ⟨b, o + k * 2, none⟩ = some (.string (bs ynm)) := by { rw [hw6]; exact r0 }
      have r16 : w6.cell? ⟨b, o + k * 2 + 1, none⟩ = some (.int .i64 yv) := by { rw [hw6]; exact r1 }
      have h45 := hb6.size
      clear ownM liR r0 r1 hb5 hw6
      obtain ⟨q, hq⟩ : ∃ q, N.contains ynm = q := ⟨_, rfl⟩
      rw [hq] at HST ⊢
      cases q with
      | false =>
        go_wp2
        cases gk with
        | zero => omega
        | succ gg =>
          go_roundg gg
          case rel => exact ⟨k + 1, by simp; first | done | rfl | omega, by omega, M, by rw [HST.out]; rfl, own6, hb6⟩
          case measure => omega
      | true =>
        go_upto_region 8 with (at_builtin; refine wpList_append_nts rfl (.tmp 41) (.tmp 46) rfl w4.heap.size (.slice aM M.length cM) M.length (M.flatMap NT.cells) rfl (own6.alloc _) (some ⟨w6.heap.size, 0, none⟩) [⟨ynm, yv⟩] 1 rfl (by intro h; cases h) (fun _ => True) (w6.heap.size + 1) (one_row _ _ _) (by simp; omega) (by rw [World.size_alloc]; omega) ?_; intro v7 w7 own7 hg7)
        have hb7 : Below w4.heap.size w4 w7 := hb6.trans (((Below.refl _ _).alloc (by omega) _).grown hg7 (by rw [World.size_alloc]; omega) (fun k e => (own6.lt k e).1))
        have own8 := own_step own7
        clear own7 hg7 hb6 own6
        go_wp2
        cases gk with
        | zero => omega
        | succ gg =>
          go_roundg gg
          case rel => exact ⟨k + 1, by simp; first | done | rfl | omega, by omega, M ++ [⟨ynm, yv⟩], by rw [HST.out]; rfl, own8, hb7⟩
          case measure => omega
    · have d1 : decide (k < l.length) = false := by simpa using hlt
      have d2 : decide ((k : Int) < (l.length : Int)) = false := by rw [decide_eq_false_iff_not]; omega
      have hkl : k = l.length := by omega
      rw [hkl, List.take_length] at hM
      have HMh := Lib.hid hM
      clear hM
      obtain ⟨BX, hx, hl, he, hn0, lies4, hB⟩ := HP.out
      clear HP HM0 d1 hlt
      have hb := hb5
      clear hb5
      have liR : LiesS wr aF N := LiesS.keep (H := 0) lies4 hb
      clear lies4
      have hk9 := Below.keptTo hb hn0
      replace BX := block_kept BX hb
      replace hx := XT.In.keep hk9 _ hx
      replace hl := hl.keep hk9
      replace he := he.keep hb
      replace hn0 := Nat.le_trans hn0 hb.size
      replace hB := hB.trans (hb.mono hB.size)
      clear hb hk9
      have own0 : (wr.alloc (.cells #[] 39)).ownsRow wr.heap.size 39 2 (.slice (some ⟨wr.heap.size, 0, none⟩) 0 0) 0 [] := ⟨rfl, .inr ⟨wr.heap.size, 0, #[], rfl, Nat.le_refl _, World.alloc_heap_new wr _, Nat.le_refl _, by decide, rfl, rfl⟩⟩
      have hl9 : NRow n0 (wr.alloc (.cells #[] 39)) l a := hl.keep (Below.keptTo ((Below.refl _ _).alloc (Nat.le_refl _) _) hn0)
      have HQ := Lib.hid (And.intro BX (And.intro hx (And.intro hl (And.intro he (And.intro hn0 (And.intro ownM hB))))))
      clear BX hx hl he hn0 ownM hB
      go_upto_region 12 with (at_builtin; refine wpList_append_nts rfl (.tmp 48) (.tmp 49) rfl wr.heap.size (.slice (some ⟨wr.heap.size, 0, none⟩) 0 0) 0 [] rfl own0 a l c rfl hac NT.Wf n0 hl9 (by omega) (by simp) ?_; intro v8 w8 own8 hg8; rw [Nat.zero_add, List.nil_append] at own8)
      have hb8 : Below wr.heap.size wr w8 := ((Below.refl _ _).alloc (Nat.le_refl _) _).grown hg8 (by simp) (fun k e => by { have h9 : wr.heap.size = k := Option.some.inj e; omega })
      clear hg8 own0 hl9
      replace liR := LiesS.keep (H := 0) liR hb8
      have hz8 := hb8.size
      go_wp2_with fail
      refine (amongS_any aF cF N nm (by omega) _ liR).mono ?_
      rintro e w9 ⟨rfl, nq, hw9⟩
      replace own8 : w9.ownsRow wr.heap.size 39 2 v8 l.length (l.flatMap NT.cells) := by { have h9 := own8; unfold World.ownsRow at h9 ⊢; rw [hw9]; exact h9 }
      have hb9 : Below wr.heap.size wr w9 := hb8.trans (by { rw [hw9]; exact below_drawn2 ((Below.refl _ _)) _ })
      replace hz8 := hb9.size
      clear hw9 liR hb8
      obtain ⟨aP, cP, rfl, _⟩ := own_shape' own8
      obtain ⟨q, hq⟩ : ∃ q, N.contains nm = q := ⟨_, rfl⟩
      rw [hq]
      cases q with
      | true =>
        obtain ⟨BX, hx, hl, he, hn0, ownM, hB⟩ := HQ.out
        clear HQ
        have hb := hb9
        clear hb9 hz8
        replace ownM := below_own_row ownM hb
        have hk9 := Below.keptTo hb hn0
        replace BX := block_kept BX hb
        replace hx := XT.In.keep hk9 _ hx
        replace hl := hl.keep hk9
        replace he := he.keep hb
        replace hn0 := Nat.le_trans hn0 hb.size
        replace hB := hB.trans (hb.mono hB.size)
        clear hb hk9
        have rowM := nrow_own2 ownM (by rw [HMh.out]; exact ownN_wf HWL.out)
        have rowP := nrow_own2 own8 (HWL.out)
        obtain ⟨n1, hn1⟩ : ∃ n1, n1 = w9.heap.size := ⟨_, rfl⟩
        replace hx := XT.In.less hn0 _ hx
        replace hl := hl.less' hn0
        rw [← hn1] at rowM rowP hx hl
        replace hn0 := Nat.le_of_eq hn1
        clear hn1 ownM own8
        have HMb : Hid (NT.bkL M ≤ 1500000) := Lib.hid (by have := HBK.out.1; have := HBK.out.2.1; rw [HMh.out]; omega)
        have HMe : Hid (evalK M (XT.mk op xnm xn wd v xa xc xl) = evalK l (XT.mk op xnm xn wd v xa xc xl)) := Lib.hid (by rw [HMh.out]; exact HO.out)
        have HPb : Hid (NT.bkL (l) ≤ 1500000) := Lib.hid (by have := HBK.out.2.1; omega)
        clear HMh
        obtain ⟨q0, q1, q2, q3, q4, q5⟩ := open6 BX
        go_wp2_with fail
        refine (HE.out l (by have := HBK.out.2.1; omega) rfl a c _ he (XT.In.less hn0 _ hx) (hl.less' hn0)).mono ?_
        rintro e w21 ⟨rfl, hb⟩
        clear q0 q1 q2 q3 q4 q5
        have hk9 := Below.keptTo hb hn0
        replace BX := block_kept BX hb
        replace hx := XT.In.keep hk9 _ hx
        replace hl := hl.keep hk9
        replace rowM := rowM.keep hk9
        replace rowP := rowP.keep hk9
        replace he := he.keep hb
        replace hn0 := Nat.le_trans hn0 hb.size
        replace hB := hB.trans (hb.mono hB.size)
        clear hb hk9
        obtain ⟨q0, q1, q2, q3, q4, q5⟩ := open6 BX
        go_wp2_with fail
        refine (HE.out M HMb.out HMe.out aM cM _ he (XT.In.less hn0 _ hx) (rowM.less' hn0)).mono ?_
        rintro e w22 ⟨rfl, hb⟩
        clear q0 q1 q2 q3 q4 q5
        have hk9 := Below.keptTo hb hn0
        replace BX := block_kept BX hb
        replace hx := XT.In.keep hk9 _ hx
        replace hl := hl.keep hk9
        replace rowM := rowM.keep hk9
        replace rowP := rowP.keep hk9
        replace he := he.keep hb
        replace hn0 := Nat.le_trans hn0 hb.size
        replace hB := hB.trans (hb.mono hB.size)
        clear hb hk9
        obtain ⟨q0, q1, q2, q3, q4, q5⟩ := open6 BX
        go_wp2_with fail
        refine (HE.out (l) HPb.out rfl aP cP _ he (XT.In.less hn0 _ hx) (rowP.less' hn0)).mono ?_
        rintro e w23 ⟨rfl, hb⟩
        clear q0 q1 q2 q3 q4 q5
        have hk9 := Below.keptTo hb hn0
        replace BX := block_kept BX hb
        replace hx := XT.In.keep hk9 _ hx
        replace hl := hl.keep hk9
        replace rowM := rowM.keep hk9
        replace rowP := rowP.keep hk9
        replace he := he.keep hb
        replace hn0 := Nat.le_trans hn0 hb.size
        replace hB := hB.trans (hb.mono hB.size)
        clear hb hk9
        clear HE BX hx hl rowM rowP HO HM
        go_wp2
        go_ret
        exact ⟨rfl, hB⟩
      | false =>
        go_upto_region 14 with (at_builtin; refine wpList_append_nts rfl (.tmp 55) (.tmp 59) rfl wr.heap.size (.slice aP l.length cP) l.length (l.flatMap NT.cells) rfl (own8.alloc _) (some ⟨w9.heap.size, 0, none⟩) [⟨nm, vv⟩] 1 rfl (by intro h; cases h) (fun _ => True) (w9.heap.size + 1) (one_row _ _ _) (by simp; omega) (by rw [World.size_alloc]; omega) ?_; intro v7 wA own7 hg7)
        have hbA : Below wr.heap.size wr wA := hb9.trans (((Below.refl _ _).alloc (by omega) _).grown hg7 (by rw [World.size_alloc]; omega) (fun k e => (own8.lt k e).1))
        clear own8 hg7 hb9
        have own8 := own_step own7
        clear own7
        obtain ⟨P, hP⟩ : ∃ P, l ++ [⟨nm, vv⟩] = P := ⟨_, rfl⟩
        rw [hP] at own8
        have HPP := Lib.hid hP
        clear hP
        obtain ⟨aP, cP, rfl, _⟩ := own_shape' own8
        obtain ⟨BX, hx, hl, he, hn0, ownM, hB⟩ := HQ.out
        clear HQ
        have hb := hbA
        clear hbA hz8
        replace ownM := below_own_row ownM hb
        have hk9 := Below.keptTo hb hn0
        replace BX := block_kept BX hb
        replace hx := XT.In.keep hk9 _ hx
        replace hl := hl.keep hk9
        replace he := he.keep hb
        replace hn0 := Nat.le_trans hn0 hb.size
        replace hB := hB.trans (hb.mono hB.size)
        clear hb hk9
        have rowM := nrow_own2 ownM (by rw [HMh.out]; exact ownN_wf HWL.out)
        have rowP := nrow_own2 own8 (by intro y hy; rw [← HPP.out] at hy; rcases List.mem_append.1 hy with h | h; exact HWL.out y h; rw [List.mem_singleton.1 h]; exact HVW.out)
        obtain ⟨n1, hn1⟩ : ∃ n1, n1 = wA.heap.size := ⟨_, rfl⟩
        replace hx := XT.In.less hn0 _ hx
        replace hl := hl.less' hn0
        rw [← hn1] at rowM rowP hx hl
        replace hn0 := Nat.le_of_eq hn1
        clear hn1 ownM own8
        have HMb : Hid (NT.bkL M ≤ 1500000) := Lib.hid (by have := HBK.out.1; have := HBK.out.2.1; rw [HMh.out]; omega)
        have HMe : Hid (evalK M (XT.mk op xnm xn wd v xa xc xl) = evalK l (XT.mk op xnm xn wd v xa xc xl)) := Lib.hid (by rw [HMh.out]; exact HO.out)
        have HPb : Hid (NT.bkL (P) ≤ 1500000) := Lib.hid (by have := HBK.out.2.1; rw [← HPP.out, NT.bkL_snoc]; simp only [NT.bk]; have := HSUM.out; omega)
        have HPe : Hid (evalK (P) (XT.mk op xnm xn wd v xa xc xl) = evalK l (XT.mk op xnm xn wd v xa xc xl)) := Lib.hid (by rw [← HPP.out]; exact HM.out (by intro h; rw [List.contains_iff_mem.2 h] at hq; cases hq))
        clear HMh
        obtain ⟨q0, q1, q2, q3, q4, q5⟩ := open6 BX
        go_wp2_with fail
        refine (HE.out l (by have := HBK.out.2.1; omega) rfl a c _ he (XT.In.less hn0 _ hx) (hl.less' hn0)).mono ?_
        rintro e w21 ⟨rfl, hb⟩
        clear q0 q1 q2 q3 q4 q5
        have hk9 := Below.keptTo hb hn0
        replace BX := block_kept BX hb
        replace hx := XT.In.keep hk9 _ hx
        replace hl := hl.keep hk9
        replace rowM := rowM.keep hk9
        replace rowP := rowP.keep hk9
        replace he := he.keep hb
        replace hn0 := Nat.le_trans hn0 hb.size
        replace hB := hB.trans (hb.mono hB.size)
        clear hb hk9
        obtain ⟨q0, q1, q2, q3, q4, q5⟩ := open6 BX
        go_wp2_with fail
        refine (HE.out M HMb.out HMe.out aM cM _ he (XT.In.less hn0 _ hx) (rowM.less' hn0)).mono ?_
        rintro e w22 ⟨rfl, hb⟩
        clear q0 q1 q2 q3 q4 q5
        have hk9 := Below.keptTo hb hn0
        replace BX := block_kept BX hb
        replace hx := XT.In.keep hk9 _ hx
        replace hl := hl.keep hk9
        replace rowM := rowM.keep hk9
        replace rowP := rowP.keep hk9
        replace he := he.keep hb
        replace hn0 := Nat.le_trans hn0 hb.size
        replace hB := hB.trans (hb.mono hB.size)
        clear hb hk9
        obtain ⟨q0, q1, q2, q3, q4, q5⟩ := open6 BX
        go_wp2_with fail
        refine (HE.out (P) HPb.out HPe.out aP cP _ he (XT.In.less hn0 _ hx) (rowP.less' hn0)).mono ?_
        rintro e w23 ⟨rfl, hb⟩
        clear q0 q1 q2 q3 q4 q5
        have hk9 := Below.keptTo hb hn0
        replace BX := block_kept BX hb
        replace hx := XT.In.keep hk9 _ hx
        replace hl := hl.keep hk9
        replace rowM := rowM.keep hk9
        replace rowP := rowP.keep hk9
        replace he := he.keep hb
        replace hn0 := Nat.le_trans hn0 hb.size
        replace hB := hB.trans (hb.mono hB.size)
        clear hb hk9
        clear HE BX hx hl rowM rowP HO HM
        go_wp2
        go_ret
        exact ⟨rfl, hB⟩

/-! ### The row's step -/
set_option maxRecDepth 100000 in
theorem contract (H : Type) (enc : TypeId × Value → H) (W : World) (base : Nat) (args : Array Value) (ds gs : List (DataW H)) (before : List MemPlace)
    (hval0 : ∀ (j : Nat) t v, Tryd.f4.params[j]? = some t → args[j]? = some v → Value.okWide Tryd.prog W .any base t v)
    (hW : DataW.Whole enc Tryd.prog Tryd.f4.params.toList Rows.konstFreeSpec.vars false W args.toList ds gs before) (hbk : Rows.uptoBulkAll (ds ++ gs) ≤ 1048576) (hL : laidMetH Tryd.prog LD W) (hsh : W.ShapedOpen Tryd.prog) :
    Calls Tryd.prog 4 args W fun e W' => ∃ v, e = .returned v ∧ Rows.konstFreeSpec.post enc Tryd.prog Tryd.f4 false true false false W args v W' := by
  have hval : ∀ (j : Nat) t v, Tryd.f4.params[j]? = some t → args[j]? = some v → Value.okWide Tryd.prog W .any base t v := hval0
  have hW' := hW
  obtain ⟨p, q, hA0, hV, rfl, hfz, hnd⟩ := hW
  have hA : DataW.TrodAll enc Tryd.prog W 0 (fun _ => true) true Tryd.f4.params.toList args.toList ds p := hA0
  rw [Tryd.params4] at hA hval
  obtain ⟨v0, vs0, d0, ds0, p0, q0, hargs, rfl, rfl, h0, r0⟩ := trodAll_cons hA
  obtain ⟨v1, vs1, d1, ds1, p1, q1, rfl, rfl, rfl, h1, r1⟩ := trodAll_cons r0
  obtain ⟨v2, vs2, d2, ds2, p2, q2, rfl, rfl, rfl, h2, r2⟩ := trodAll_cons r1
  obtain ⟨v3, vs3, d3, ds3, p3, q3, rfl, rfl, rfl, h3, r3⟩ := trodAll_cons r2
  obtain ⟨rfl, rfl, rfl⟩ := trodAll_nil r3
  obtain rfl : args = #[v0, v1, v2, v3] := by cases args; simp_all
  obtain ⟨rfl, rfl⟩ := trodVars_none hV
  have he := env_of hL hsh
  simp only [List.append_nil, Rows.uptoBulkAll] at hbk
  have k0 : ∀ (W' : World), Below W.heap.size W W' → DataW.Trod enc Tryd.prog W' 0 (fun b => decide (b < W.heap.size)) true 25 v0 d0 p0 := fun W' hn => Below.trod laidOut (by kernel_rfl) (of_decide_eq_true (by kernel_rfl)) h0 hn (fun x hx => by simpa using hW'.lt x (by simp [hx]))
  have k1 : ∀ (W' : World), Below W.heap.size W W' → DataW.Trod enc Tryd.prog W' 0 (fun b => decide (b < W.heap.size)) true 26 v1 d1 p1 := fun W' hn => Below.trod laidOut (by kernel_rfl) (of_decide_eq_true (by kernel_rfl)) h1 hn (fun x hx => by simpa using hW'.lt x (by simp [hx]))
  have k2 : ∀ (W' : World), Below W.heap.size W W' → DataW.Trod enc Tryd.prog W' 0 (fun b => decide (b < W.heap.size)) true 9 v2 d2 p2 := fun W' hn => Below.trod laidOut (by kernel_rfl) (of_decide_eq_true (by kernel_rfl)) h2 hn (fun x hx => by simpa using hW'.lt x (by simp [hx]))
  have k3 : ∀ (W' : World), Below W.heap.size W W' → DataW.Trod enc Tryd.prog W' 0 (fun b => decide (b < W.heap.size)) true 3 v3 d3 p3 := fun W' hn => Below.trod laidOut (by kernel_rfl) (of_decide_eq_true (by kernel_rfl)) h3 hn (fun x hx => by simpa using hW'.lt x (by simp [hx]))
  obtain ⟨t0, rfl, i0, w0, b0⟩ := xt_of (hval 0 25 v0 rfl rfl) h0
  obtain ⟨x3, rfl, _, _, wf3⟩ := open_int Tryd.underlying3 (hval 3 3 v3 rfl rfl) h3
  obtain ⟨a1, c1, l1, rfl, r1_, b1, z1⟩ := rowN_of (hval 1 26 v1 rfl rfl) h1
  obtain ⟨s2, rfl, hd2, _, _⟩ := Go.ChangeMaps.open_string Tryd.underlying9 (hval 2 9 v2 rfl rfl) h2
  subst hd2
  have es2 := bs_toList s2
  generalize s2.data.toList = l2 at *
  subst es2
  simp only [Rows.uptoBulk] at hbk
  clear hA0 hval0
  simp only [List.append_nil] at hW'
  refine (walk_any t0 (by omega) w0 l1 (by omega) l2 (by omega) x3 (by unfold NT.Wf; have h := wf3; unfold Lit.wf at h; rw [Bool.and_eq_true, decide_eq_true_eq, decide_eq_true_eq] at h; exact h) (by omega) a1 c1 z1 W.heap.size W (Nat.le_refl _) he i0 r1_).mono fun e W' ⟨hr, bel⟩ => ?_
  subst hr
  exact ⟨_, rfl, _, _, _, [], _, [], hW', trodAll_mk1 (shut_bool Tryd.underlying4 _), (trodAll_cons_mk (k0 _ bel) (trodAll_cons_mk (k1 _ bel) (trodAll_cons_mk (k2 _ bel) (trodAll_cons_mk (k3 _ bel) trodAll_mk0)))), rfl, bel.frame _, fun h => by cases h⟩
theorem reads (os : Os) {H : Type} (enc : TypeId × Value → H) : ∃ places, DataW.whole enc Tryd.prog ((World.doorLaid Tryd.prog 55 os).forCall (fun _ _ => 0) ⟨#[], #[.agg #[.int .i64 0, .string ⟨#[]⟩, .int .i64 0, .int .i64 0, .int .u64 0, .slice none 0 0], .slice none 0 0, .string ⟨#[]⟩, .int .i64 0], []⟩).memory Tryd.f4.params.toList Rows.konstFreeSpec.vars false #[.agg #[.int .i64 0, .string ⟨#[]⟩, .int .i64 0, .int .i64 0, .int .u64 0, .slice none 0 0], .slice none 0 0, .string ⟨#[]⟩, .int .i64 0].toList 8 = some ([.agg [.lit (.int .i64 0), .lit (.string []), .lit (.int .i64 0), .lit (.int .i64 0), .lit (.int .u64 0), .nil], .nil, .lit (.string []), .lit (.int .i64 0)], [], places) :=
  ⟨[], by kernel_rfl⟩
set_option maxRecDepth 100000 in
theorem lifted (os : Os) (started : os.Started) (H : Type) (enc : TypeId × Value → H) (F : Stop.Interp) :
    ReturnsInHanded {} Tryd.checked os 4 .any ((Rows.OpenSpec.upto Rows.konstFreeSpec).preRow enc Tryd.prog Tryd.f4 Rows.konstFreeUptoRow.domain false Rows.konstFreeUptoRow.laid) (((Rows.OpenSpec.upto Rows.konstFreeSpec).at F).post enc Tryd.prog Tryd.f4 false true false false) := by
  obtain ⟨places, hx⟩ := reads os enc
  refine returnsInHanded_of_row (C := Tryd.checked) (s := Rows.OpenSpec.upto Rows.konstFreeSpec) own started (by kernel_rfl) Tryd.func4
    (witness_row_at (enc := enc) (C := Tryd.checked) false (World.doorLaid Tryd.prog 55 os) #[.agg #[.int .i64 0, .string ⟨#[]⟩, .int .i64 0, .int .i64 0, .int .u64 0, .slice none 0 0], .slice none 0 0, .string ⟨#[]⟩, .int .i64 0] rfl (by kernel_rfl) (by kernel_rfl) (by kernel_rfl)
      (OpenSpec.preRow_of_cond 8 hx (by kernel_rfl) (fun k hk => by cases hk; kernel_rfl) (by kernel_rfl) (door_met os _))) ?_
  intro W base args ds gs before hval hW _ hcond _ hL hsh _
  have hbk : Rows.uptoBulkAll (ds ++ gs) ≤ 1048576 := of_decide_eq_true (hcond _ rfl)
  exact contract H enc W base args ds gs before hval hW hbk hL hsh
theorem over : Rows.KonstFreeUptoSaid :=
  OpenClaim.holds_of_cond 4 Tryd.f4 rfl rfl rfl rfl rfl rfl rfl ⟨rfl, rfl, rfl, rfl, rfl⟩ rfl rfl rfl rfl rfl (by kernel_rfl) Tryd.func4 (by kernel_rfl)
    (of_decide_eq_true (by kernel_rfl)) (by unfold Func.isWrapper; first | (rw [if_pos (by decide +kernel)]; kernel_rfl) | (rw [if_neg (by decide +kernel)]; exact ⟨rfl, rfl⟩))
    (fun os started H enc _ F => by rw [OpenClaim.pre_eq_preRow]; exact lifted os started H enc F)
/-- The given statement. -/
theorem proved : Rows.KonstFreeUptoCardSaid :=
  Claim7.holds_tied_plain_at .later [] _ _ _ _
    over (fun _ h => by cases h) (by kernel_rfl) (fun _ h => by cases h) konstFreeUpto_row_tie rfl ⟨rfl, rfl⟩ (by kernel_rfl) rfl
    (fun f fn hf hfn => by
      obtain rfl : f = 4 := Option.some.inj ((show Tryd.prog.funcNamed "filigree/filigreelaw06.KonstFree" = some 4 by kernel_rfl).symm.trans hf) |>.symm
      obtain rfl : fn = Tryd.f4 := (Option.some.inj (Tryd.func4.symm.trans hfn)).symm
      exact ⟨by kernel_rfl, fun j t ht => by
        rw [Tryd.params4] at ht
        have hm : t ∈ [25, 26, 9, 3] := by simpa using Array.mem_of_getElem? ht
        have hall : ([25, 26, 9, 3].all fun u => !Tryd.prog.wantsStandIn u) = true := by kernel_rfl
        exact (show Tryd.prog.wantsStandIn t = false by simpa using List.all_eq_true.1 hall t hm)⟩)
    (by kernel_rfl)
#print axioms proved
end Go.Proofs.YtlbjmnakiflfpaaDoor.konstFree
