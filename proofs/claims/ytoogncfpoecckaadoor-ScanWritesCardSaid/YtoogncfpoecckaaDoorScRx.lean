/-
  The reference: Text.
-/
import Derived.Test.YtoogncfpoecckaaDoorScOn
import Derived.Test.YtoogncfpoecckaaDoorScRc
import Derived.Test.YtoogncfpoecckaaDoorScAp2
import Derived.Deep.LoopGhost
import Derived.OwnWalk
import Derived.Deep.DeepCutAuto
namespace Go.Proofs.YtoogncfpoecckaaDoor
open Go Go.RowKit
set_option linter.unusedVariables false
set_option linter.unusedSimpArgs false
open Go.Sort

/-- What is still to be written. -/
def restS : List G5 → Bytes
  | [] => []
  | t :: r => writeS t.k t.s t.W t.V ++ bodyS (some t.s) r
theorem rest_all (l : List G5) : restS l = bodyS none l := by cases l <;> simp [restS, bodyS, gapS]
theorem own_drew {w : World} {B e size n : Nat} {v : Value} {xs : List Value} (h : w.ownsRow B e size v n xs) : w.drew.ownsRow B e size v n xs := h
theorem byte_at (w : World) (c : UInt8) : BytesAt (w.alloc (.cells #[.int .u8 (c.toNat : Int)] 5)) (some ⟨w.heap.size, 0, none⟩) [c] := .inr ⟨_, _, rfl, by
  intro j hj
  obtain rfl : j = 0 := by simpa using hj
  simp⟩
theorem end_is (k : Int) (s : Bytes) (W : Int) (V : Nat) (h : mayB k s W V = true) : behindS s = if k = 4 ∧ (s = [59] ∨ s = [123] ∨ s = [125]) then 10 else 32 := by
  unfold behindS
  by_cases hs : s = [59] ∨ s = [123] ∨ s = [125]
  · have hk : k = 4 := by
      unfold mayB at h
      split at h
      · exfalso
        simp only [Bool.and_eq_true] at h
        rcases hs with rfl | rfl | rfl <;> exact absurd h.2 (by decide)
      · split at h
        · exfalso
          simp only [Bool.and_eq_true] at h
          rcases hs with rfl | rfl | rfl <;> exact absurd h.2 (by decide)
        · split at h
          · assumption
          · split at h
            · exfalso
              simp only [Bool.and_eq_true] at h
              rcases hs with rfl | rfl | rfl <;> exact absurd h.1 (by decide)
            · cases h
    rw [if_pos hs, if_pos ⟨hk, hs⟩]
  · rw [if_neg hs, if_neg (fun h => hs h.2)]
set_option maxHeartbeats 8000000 in
set_option maxRecDepth 100000 in
theorem reftext_any (a : Option Addr) (cap : Nat) (l : List G5) (hln : l.length ≤ 4000) (hss : ∀ t ∈ l, t.s.length ≤ 4000) (hvv : ∀ t ∈ l, t.V < 18446744073709551616) (w : World) (hl : LiesA w a l) : Calls Tryd.prog 23 #[.slice a l.length cap] w (ToldT w (textS l)) := by
  obtain ⟨C, hC⟩ : ∃ C, checksS l = C := ⟨_, rfl⟩
  have HC := Lib.hid hC
  have HSS := Lib.hid hss
  have HVV := Lib.hid hvv
  clear hC hss hvv
  go_enter Tryd.func23, Tryd.ntmps23
  go_wp2
  go_loopg [5] l.length (fun g u wr => ∃ i : Nat, u = .int .i64 i ∧ i + g = l.length ∧ checksS (l.drop i) = C ∧ Below w.heap.size w wr)
  case atStart => exact ⟨0, rfl, by omega, by rw [List.drop_zero]; exact HC.out, Below.refl _ _⟩
  case round =>
    obtain ⟨i, rfl, hi, hchk, hb0⟩ := hrel
    have HK := Lib.hid hchk
    clear hchk
    by_cases hlt : i < l.length
    · have d1 : decide (i < l.length) = true := by simpa using hlt
      have d2 : decide ((i : Int) < (l.length : Int)) = true := by rw [decide_eq_true_eq]; omega
      have d3 : (i : Int) < (l.length : Int) := by omega
      obtain ⟨b, o, rfl, c0, c1, c2, c3, c4⟩ := (hl.keep hb0).at hlt
      have hs := HSS.out _ (List.getElem_mem hlt)
      have hv := HVV.out _ (List.getElem_mem hlt)
      have HX : Hid ((if checkS l[i].k l[i].s l[i].W l[i].V l[i].p = 0 then checksS (l.drop (i + 1)) else checkS l[i].k l[i].s l[i].W l[i].V l[i].p) = C) := Lib.hid (by rw [← HK.out, ← List.getElem_cons_drop hlt]; rfl)
      generalize l[i] = t at *
      obtain ⟨k, s, W, V, p⟩ := t
      simp only at c0 c1 c2 c3 c4 hs hv HX
      have hchk := fun w => refCheck_any k s W V p (by omega) hv w
      have HV2 := Lib.hid hv
      clear hv
      by_cases h0 : checkS k s W V p = 0
      · have HX2 : Hid (checksS (l.drop (i + 1)) = C) := Lib.hid (by rw [← HX.out, if_pos h0])
        rw [h0] at hchk
        clear HX h0
        go_wp2_with fail
        refine (hchk _).mono ?_
        rintro e1 w1 ⟨rfl, hb1⟩
        clear hchk
        go_wp2
        cases gk with
        | zero => omega
        | succ gg =>
          go_roundg gg
          case rel => exact ⟨i + 1, by simp; first | done | rfl | omega, by omega, HX2.out, hb0.trans (hb1.mono hb0.size)⟩
          case measure => omega
      · have h1 : checkS k s W V p = 1 := by
          unfold checkS at h0 ⊢
          split
          · rfl
          · rename_i h2; rw [if_neg h2] at h0; exact absurd rfl h0
        have hx : C = 1 := by rw [← HX.out, if_neg h0, h1]
        have HR : Hid (textS l = ([], 1)) := Lib.hid (by unfold textS; rw [HC.out, hx, if_neg (by decide)])
        rw [h1] at hchk
        clear HX hx h0 h1
        go_wp2_with fail
        refine (hchk _).mono ?_
        rintro e1 w1 ⟨rfl, hb1⟩
        clear hchk
        go_wp2
        go_ret2
        rw [HR.out]
        exact ⟨_, rfl, ⟨rfl, .inl ⟨rfl, rfl⟩⟩, fun _ => rfl, hb0.trans (hb1.mono hb0.size)⟩
    · have d1 : decide (i < l.length) = false := by simpa using hlt
      have d2 : decide ((i : Int) < (l.length : Int)) = false := by rw [decide_eq_false_iff_not]; omega
      have hC0 : C = 0 := by rw [← HK.out, List.drop_eq_nil_of_le (by omega)]; rfl
      have HC0 : Hid (checksS l = 0) := Lib.hid (by rw [HC.out, hC0])
      have HMAY : Hid (∀ t ∈ l, mayB t.k t.s t.W t.V = true) := Lib.hid (fun t ht => (check_may ((checks_all l).1 HC0.out t ht)).1)
      clear HK hC0 HC
      have hbz := hb0
      go_wp2
      clear hi hlt d1 d2
      go_loopg [4, 6] l.length (fun g v u wx => ∃ (i : Nat) (acc : Bytes), u = .int .i64 i ∧ i + g = l.length ∧ wx.ownsRow w.heap.size 5 1 v acc.length (Lib.byteCells acc) ∧ acc.length ≤ 90000 ∧ acc ++ restS (l.drop i) = bodyS none l ∧ Below w.heap.size w wx)
      case atStart => exact ⟨0, [], rfl, by omega, ⟨rfl, .inl ⟨rfl, rfl⟩⟩, by simp, by rw [List.drop_zero, rest_all]; rfl, hbz⟩
      case round =>
        obtain ⟨i, acc, rfl, hi, hown, hacc, hrest, hb0⟩ := hrel
        have HRE := Lib.hid hrest
        clear hrest
        have zr := hb0.size
        obtain ⟨av, cv, rfl⟩ := own_form hown
        by_cases hlt : i < l.length
        · have d1 : decide (i < l.length) = true := by simpa using hlt
          have d2 : decide ((i : Int) < (l.length : Int)) = true := by rw [decide_eq_true_eq]; omega
          have d3 : (i : Int) < (l.length : Int) := by omega
          by_cases hsz : acc.length ≤ 65536
          · have s1 : decide ((acc.length : Int) ≤ 65536) = true := by rw [decide_eq_true_eq]; omega
            have s2 : decide (acc.length ≤ 65536) = true := by simpa using hsz
            obtain ⟨b, o, rfl, x0, x1, x2, x3, x4⟩ := (hl.keep hb0).at hlt
            obtain ⟨b', o', hb', X0, X1, _, _, _⟩ := hl.at hlt
            injection hb' with hb'
            injection hb' with hb1' hb2'
            subst hb1'
            subst hb2'
            have hmy := HMAY.out l[i] (List.getElem_mem hlt)
            have hv := HVV.out l[i] (List.getElem_mem hlt)
            have hss := HSS.out l[i] (List.getElem_mem hlt)
            have hdr : l.drop i = l[i] :: l.drop (i + 1) := (List.getElem_cons_drop hlt).symm
            have HST : Hid (acc ++ writeS l[i].k l[i].s l[i].W l[i].V ++ bodyS (some l[i].s) (l.drop (i + 1)) = bodyS none l) := Lib.hid (by rw [← HRE.out, hdr]; simp [restS])
            clear hdr
            generalize l[i] = t at *
            obtain ⟨tk, ts, tW, tV, tp⟩ := t
            simp only at x0 x1 x2 x3 x4 hmy hv hss HST X0 X1
            have hw := may_W0 tk ts tW tV hmy
            have hone := fun w => refone_any tk ts tW tV tp hv hw.1 hw.2 w
            have hwl := write_len tk ts tW tV hw hv
            obtain ⟨TT, hTT⟩ : ∃ X, writeS tk ts tW tV = X := ⟨_, rfl⟩
            rw [hTT] at hone HST hwl
            have hend := end_is tk ts tW tV hmy
            have HV2 := Lib.hid hv
            clear hv hTT hmy
            go_wp2_with fail
            refine (hone _).mono ?_
            rintro e1 w1 ⟨rfl, hb1⟩
            have own1 := own_below hown hb1
            have hB1 := hb0.trans (hb1.mono zr)
            have z1 := hB1.size
            clear x0 x1 x2 x3 x4 hone hb1 hown hb0
            obtain ⟨cp, fr, hcv⟩ := conv_new w1 TT
            have k3b : Below w.heap.size w (w1.drew.alloc (.cells (bytesRow (bs TT) cp) 5 fr)) := (Below.drew hB1).alloc z1 _
            have o3 : (w1.drew.alloc (.cells (bytesRow (bs TT) cp) 5 fr)).ownsRow w.heap.size 5 1 (.slice av acc.length cv) acc.length (Lib.byteCells acc) := (own_drew own1).alloc _
            have bt3 : BytesAt (w1.drew.alloc (.cells (bytesRow (bs TT) cp) 5 fr)) (some ⟨w1.heap.size, 0, none⟩) TT := bytes_new w1.drew TT cp fr
            have z3 := k3b.size
            have kx : Below w1.heap.size w1 (w1.drew.alloc (.cells (bytesRow (bs TT) cp) 5 fr)) := (Below.drew (Below.refl _ _)).alloc (Nat.le_refl _) _
            go_upto_region 11 with (at_builtin; refine wpList_append_text rfl (.tmp 31) (.tmp 37) rfl w.heap.size _ acc.length (Lib.byteCells acc) rfl o3 (some ⟨w1.heap.size, 0, none⟩) TT cp rfl (by simp) bt3 (by omega) z3 ?_; intro v4 w4 o4 g4; have k4b := below_own k3b o3 g4 z3)
            have z4 := k4b.size
            have y0 := keep_cell k4b X0
            have y1 := keep_cell k4b X1
            have HEN := Lib.hid hend
            have hsub : IntKind.i64.wrap ((l.length : Int) - 1) = (l.length : Int) - 1 := IntWalk.i64_in _ (by omega)
            clear X0 X1 hend k3b kx bt3 o3 hcv g4
            by_cases hmore : i + 1 < l.length
            · have m1 : decide ((i : Int) < (l.length : Int) - 1) = true := by rw [decide_eq_true_eq]; omega
              have HDR : Hid (l.drop (i + 1) = l[i + 1] :: l.drop (i + 1 + 1)) := Lib.hid (List.getElem_cons_drop hmore).symm
              by_cases k4 : tk = 4
              · subst k4
                by_cases q1 : ts = [59]
                · subst q1
                  have HG : Hid (behindS [59] = 10) := Lib.hid (by decide)
                  clear HEN
                  go_upto_region 9 with (at_builtin; refine wpList_append_text rfl (.tmp 75) (.tmp 76) rfl w.heap.size _ _ _ rfl (o4.alloc (.cells #[.int .u8 10] 5)) (some ⟨w4.heap.size, 0, none⟩) [10] 1 rfl (by simp) (byte_at w4 10) (by simp; omega) (by simp; omega) ?_; intro v5 w5 o5 g5; have k5b := below_own (k4b.alloc z4 (.cells #[.int .u8 10] 5)) (o4.alloc (.cells #[.int .u8 10] 5)) g5 (by simp; omega))
                  go_wp2
                  cases gk with
                  | zero => omega
                  | succ gg =>
                    go_roundg gg
                    case rel =>
                      refine ⟨i + 1, acc ++ TT ++ [10], by simp; first | done | rfl | omega, by omega, ?_, by simp; omega, ?_, k5b⟩
                      · have e1 : (acc ++ TT ++ [(10 : UInt8)]).length = acc.length + TT.length + [(10 : UInt8)].length := by simp; omega
                        have e2 : Lib.byteCells (acc ++ TT ++ [(10 : UInt8)]) = Lib.byteCells acc ++ Lib.byteCells TT ++ Lib.byteCells [10] := by simp [Lib.byteCells]
                        rw [e1, e2]; exact o5
                      · have h5 := HST.out
                        rw [HDR.out] at h5 ⊢
                        rw [← h5]
                        simp [restS, bodyS, gapS, HG.out]
                    case measure => omega
                · have r1 : (ts == [59]) = false := by rw [beq_eq_false_iff_ne]; exact q1
                  by_cases q2 : ts = [123]
                  · subst q2
                    have HG : Hid (behindS [123] = 10) := Lib.hid (by decide)
                    clear HEN
                    go_upto_region 9 with (at_builtin; refine wpList_append_text rfl (.tmp 75) (.tmp 76) rfl w.heap.size _ _ _ rfl (o4.alloc (.cells #[.int .u8 10] 5)) (some ⟨w4.heap.size, 0, none⟩) [10] 1 rfl (by simp) (byte_at w4 10) (by simp; omega) (by simp; omega) ?_; intro v5 w5 o5 g5; have k5b := below_own (k4b.alloc z4 (.cells #[.int .u8 10] 5)) (o4.alloc (.cells #[.int .u8 10] 5)) g5 (by simp; omega))
                    go_wp2
                    cases gk with
                    | zero => omega
                    | succ gg =>
                      go_roundg gg
                      case rel =>
                        refine ⟨i + 1, acc ++ TT ++ [10], by simp; first | done | rfl | omega, by omega, ?_, by simp; omega, ?_, k5b⟩
                        · have e1 : (acc ++ TT ++ [(10 : UInt8)]).length = acc.length + TT.length + [(10 : UInt8)].length := by simp; omega
                          have e2 : Lib.byteCells (acc ++ TT ++ [(10 : UInt8)]) = Lib.byteCells acc ++ Lib.byteCells TT ++ Lib.byteCells [10] := by simp [Lib.byteCells]
                          rw [e1, e2]; exact o5
                        · have h5 := HST.out
                          rw [HDR.out] at h5 ⊢
                          rw [← h5]
                          simp [restS, bodyS, gapS, HG.out]
                      case measure => omega
                  · have r2 : (ts == [123]) = false := by rw [beq_eq_false_iff_ne]; exact q2
                    by_cases q3 : ts = [125]
                    · subst q3
                      have HG : Hid (behindS [125] = 10) := Lib.hid (by decide)
                      clear HEN
                      go_upto_region 9 with (at_builtin; refine wpList_append_text rfl (.tmp 75) (.tmp 76) rfl w.heap.size _ _ _ rfl (o4.alloc (.cells #[.int .u8 10] 5)) (some ⟨w4.heap.size, 0, none⟩) [10] 1 rfl (by simp) (byte_at w4 10) (by simp; omega) (by simp; omega) ?_; intro v5 w5 o5 g5; have k5b := below_own (k4b.alloc z4 (.cells #[.int .u8 10] 5)) (o4.alloc (.cells #[.int .u8 10] 5)) g5 (by simp; omega))
                      go_wp2
                      cases gk with
                      | zero => omega
                      | succ gg =>
                        go_roundg gg
                        case rel =>
                          refine ⟨i + 1, acc ++ TT ++ [10], by simp; first | done | rfl | omega, by omega, ?_, by simp; omega, ?_, k5b⟩
                          · have e1 : (acc ++ TT ++ [(10 : UInt8)]).length = acc.length + TT.length + [(10 : UInt8)].length := by simp; omega
                            have e2 : Lib.byteCells (acc ++ TT ++ [(10 : UInt8)]) = Lib.byteCells acc ++ Lib.byteCells TT ++ Lib.byteCells [10] := by simp [Lib.byteCells]
                            rw [e1, e2]; exact o5
                          · have h5 := HST.out
                            rw [HDR.out] at h5 ⊢
                            rw [← h5]
                            simp [restS, bodyS, gapS, HG.out]
                        case measure => omega
                    · have r3 : (ts == [125]) = false := by rw [beq_eq_false_iff_ne]; exact q3
                      have HG : Hid (behindS ts = 32) := Lib.hid (by rw [HEN.out]; simp [*])
                      clear HEN
                      go_upto_region 9 with (at_builtin; refine wpList_append_text rfl (.tmp 78) (.tmp 79) rfl w.heap.size _ _ _ rfl (o4.alloc (.cells #[.int .u8 32] 5)) (some ⟨w4.heap.size, 0, none⟩) [32] 1 rfl (by simp) (byte_at w4 32) (by simp; omega) (by simp; omega) ?_; intro v5 w5 o5 g5; have k5b := below_own (k4b.alloc z4 (.cells #[.int .u8 32] 5)) (o4.alloc (.cells #[.int .u8 32] 5)) g5 (by simp; omega))
                      go_wp2
                      cases gk with
                      | zero => omega
                      | succ gg =>
                        go_roundg gg
                        case rel =>
                          refine ⟨i + 1, acc ++ TT ++ [32], by simp; first | done | rfl | omega, by omega, ?_, by simp; omega, ?_, k5b⟩
                          · have e1 : (acc ++ TT ++ [(32 : UInt8)]).length = acc.length + TT.length + [(32 : UInt8)].length := by simp; omega
                            have e2 : Lib.byteCells (acc ++ TT ++ [(32 : UInt8)]) = Lib.byteCells acc ++ Lib.byteCells TT ++ Lib.byteCells [32] := by simp [Lib.byteCells]
                            rw [e1, e2]; exact o5
                          · have h5 := HST.out
                            rw [HDR.out] at h5 ⊢
                            rw [← h5]
                            simp [restS, bodyS, gapS, HG.out]
                        case measure => omega
              · have r0 : (tk == 4) = false := by rw [beq_eq_false_iff_ne]; exact k4
                have HG : Hid (behindS ts = 32) := Lib.hid (by rw [HEN.out]; simp [*])
                clear HEN
                go_upto_region 9 with (at_builtin; refine wpList_append_text rfl (.tmp 78) (.tmp 79) rfl w.heap.size _ _ _ rfl (o4.alloc (.cells #[.int .u8 32] 5)) (some ⟨w4.heap.size, 0, none⟩) [32] 1 rfl (by simp) (byte_at w4 32) (by simp; omega) (by simp; omega) ?_; intro v5 w5 o5 g5; have k5b := below_own (k4b.alloc z4 (.cells #[.int .u8 32] 5)) (o4.alloc (.cells #[.int .u8 32] 5)) g5 (by simp; omega))
                go_wp2
                cases gk with
                | zero => omega
                | succ gg =>
                  go_roundg gg
                  case rel =>
                    refine ⟨i + 1, acc ++ TT ++ [32], by simp; first | done | rfl | omega, by omega, ?_, by simp; omega, ?_, k5b⟩
                    · have e1 : (acc ++ TT ++ [(32 : UInt8)]).length = acc.length + TT.length + [(32 : UInt8)].length := by simp; omega
                      have e2 : Lib.byteCells (acc ++ TT ++ [(32 : UInt8)]) = Lib.byteCells acc ++ Lib.byteCells TT ++ Lib.byteCells [32] := by simp [Lib.byteCells]
                      rw [e1, e2]; exact o5
                    · have h5 := HST.out
                      rw [HDR.out] at h5 ⊢
                      rw [← h5]
                      simp [restS, bodyS, gapS, HG.out]
                  case measure => omega
            · have m1 : decide ((i : Int) < (l.length : Int) - 1) = false := by rw [decide_eq_false_iff_not]; omega
              go_wp2
              cases gk with
              | zero => omega
              | succ gg =>
                go_roundg gg
                case rel =>
                  refine ⟨i + 1, acc ++ TT, by simp; first | done | rfl | omega, by omega, ?_, by simp; omega, ?_, k4b⟩
                  · have e1 : (acc ++ TT).length = acc.length + TT.length := by simp
                    have e2 : Lib.byteCells (acc ++ TT) = Lib.byteCells acc ++ Lib.byteCells TT := by simp [Lib.byteCells]
                    rw [e1, e2]; exact o4
                  · have h5 := HST.out
                    rw [List.drop_eq_nil_of_le (by omega)] at h5 ⊢
                    rw [← h5]
                    simp [restS, bodyS]
                case measure => omega
          · have s1 : decide ((acc.length : Int) ≤ 65536) = false := by rw [decide_eq_false_iff_not]; omega
            have s2 : decide (acc.length ≤ 65536) = false := by simpa using hsz
            have HX : Hid (textS l = ([], 2)) := Lib.hid (by
              have h1 : 65536 < (bodyS none l).length := by rw [← HRE.out, List.length_append]; omega
              rcases textS_cases l with ⟨h, _⟩ | ⟨_, h⟩ | ⟨_, _, h⟩
              · exact absurd HC0.out h
              · exact h
              · omega)
            have s3 : decide ((65536 : Int) < (acc.length : Int)) = true := by rw [decide_eq_true_eq]; omega
            have s4 : decide (65536 < acc.length) = true := by rw [decide_eq_true_eq]; omega
            go_wp2
            go_ret2
            rw [HX.out]
            exact ⟨_, rfl, ⟨rfl, .inl ⟨rfl, rfl⟩⟩, fun _ => rfl, hb0⟩
        · have d1 : decide (i < l.length) = false := by simpa using hlt
          have d2 : decide ((i : Int) < (l.length : Int)) = false := by rw [decide_eq_false_iff_not]; omega
          have hbd : acc = bodyS none l := by have := HRE.out; rw [List.drop_eq_nil_of_le (by omega)] at this; simpa [restS] using this
          have HBD := Lib.hid hbd
          clear hbd
          by_cases hsz : 65536 < acc.length
          · have s3 : decide ((65536 : Int) < (acc.length : Int)) = true := by rw [decide_eq_true_eq]; omega
            have s4 : decide (65536 < acc.length) = true := by rw [decide_eq_true_eq]; omega
            have HX : Hid (textS l = ([], 2)) := Lib.hid (by
              have h1 := HBD.out
              rcases textS_cases l with ⟨h, _⟩ | ⟨_, h⟩ | ⟨_, _, h⟩
              · exact absurd HC0.out h
              · exact h
              · rw [← h1] at h; omega)
            go_wp2
            go_ret2
            rw [HX.out]
            exact ⟨_, rfl, ⟨rfl, .inl ⟨rfl, rfl⟩⟩, fun _ => rfl, hb0⟩
          · have s3 : decide ((65536 : Int) < (acc.length : Int)) = false := by rw [decide_eq_false_iff_not]; omega
            have s4 : decide (65536 < acc.length) = false := by rw [decide_eq_false_iff_not]; omega
            have HX : Hid (textS l = (acc, 0)) := Lib.hid (by
              have h1 := HBD.out
              rcases textS_cases l with ⟨h, _⟩ | ⟨h0, h⟩ | ⟨_, h, _⟩
              · exact absurd HC0.out h
              · exfalso
                have : textS l = if (bodyS none l).length ≤ 65536 then (bodyS none l, 0) else if l = [] then ([], 0) else ([], 2) := by unfold textS; rw [if_pos h0, textK_body]; simp
                rw [if_pos (by rw [← h1]; omega), h] at this
                have h9 := (Prod.mk.inj this).2
                omega
              · rw [h, h1])
            go_wp2
            go_ret2
            rw [HX.out]
            exact ⟨_, rfl, hown, fun h => absurd rfl h, hb0⟩
end Go.Proofs.YtoogncfpoecckaaDoor
