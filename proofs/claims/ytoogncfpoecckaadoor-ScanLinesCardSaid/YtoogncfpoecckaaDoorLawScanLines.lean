/-
  Two texts on lines of their own are read one behind the other. For every input; the listed variables hold what the program's text lays in them.
-/
import Derived.Test.YtoogncfpoecckaaDoorTie
import Derived.Test.YtoogncfpoecckaaDoorCards
import Derived.Test.YtoogncfpoecckaaDoorScOp
import Derived.Test.YtoogncfpoecckaaDoorScAp2
import Derived.BigQuiet
namespace Go.Proofs.YtoogncfpoecckaaDoor.scanLines
open Go Go.ChangeShapes Go.WideShapes Go.ChangeAt Go.RowKit Go.Joins Go.Sort Go.Deep
set_option linter.unusedVariables false
set_option linter.unusedSimpArgs false

theorem right_lt {l : Bytes} {e : Nat} {ts : List T5} (h : Right l e ts) : ∀ {i : Nat} (hi : i < ts.length), ts[i].at' < l.length := by
  induction h with
  | nil e => intro i hi; simp at hi
  | cons e t ts h hr ih =>
    intro i hi
    cases i with
    | zero => exact h.lt
    | succ i => exact ih (by simpa using hi)
theorem frozen_setCell (w : World) (a b : Addr) (v : Value) : (w.setCell a v).frozen? b = w.frozen? b := by simp
theorem liesA_drewN {w : World} {a : Option Addr} {l : List G5} (h : LiesA w a l) (n : Nat) : LiesA (w.drewN n) a l := h.keep (below_drewN (Below.refl _ _) n)
set_option maxHeartbeats 8000000 in
set_option maxRecDepth 100000 in
theorem walk (aa ab : Option Addr) (ca cb : Nat) (la lb : Bytes) (hca : aa = none → ca = 0) (hcb : ab = none → cb = 0) (w : World) (he : Env2 w) (hta : BytesAt w aa la) (htb : BytesAt w ab lb) : Calls Tryd.prog 9 #[.slice aa la.length ca, .slice ab lb.length cb] w fun e w' => e = .returned (.bool true) ∧ Below w.heap.size w w' := by
  by_cases h1 : la.length ≤ 2000
  · have d1 : decide (2000 < la.length) = false := by rw [decide_eq_false_iff_not]; omega
    have d1b : decide ((2000 : Int) < (la.length : Int)) = false := by rw [decide_eq_false_iff_not]; omega
    by_cases h2 : lb.length ≤ 2000
    · have d2 : decide (2000 < lb.length) = false := by rw [decide_eq_false_iff_not]; omega
      have d2b : decide ((2000 : Int) < (lb.length : Int)) = false := by rw [decide_eq_false_iff_not]; omega
      obtain ⟨ts, i0, x, S⟩ : ∃ ts i x, scanS la = (ts, i, x) := ⟨_, _, _, rfl⟩
      obtain ⟨us, k0, y, S'⟩ : ∃ ts i x, scanS lb = (ts, i, x) := ⟨_, _, _, rfl⟩
      have HSA := Lib.hid S
      have HSB := Lib.hid S'
      clear S S'
      go_enter Tryd.func9, Tryd.ntmps9
      go_wp2_with fail
      refine (live_any _ he).mono ?_
      rintro e1 w1 ⟨rfl, b1⟩
      have he1 := he.keep b1
      have hta1 := hta.keep b1
      have htb1 := htb.keep b1
      have z1 := b1.size
      have hs := scan_call aa ca la (by omega) w1 he1 hta1
      rw [HSA.out] at hs
      go_wp2_with fail
      refine hs.mono ?_
      rintro e2 w2 ⟨v2, rfl, own2, nil2, b2⟩
      simp only at own2 b2 nil2
      have he2 := he1.keep b2
      have B2 := b1.trans (b2.mono z1)
      have z2 := B2.size
      have z2w := B2.size
      have hta2 := hta1.keep b2
      have htb2 := htb1.keep b2
      obtain ⟨al, cl, rfl, lyl, hcl, hgl⟩ := told_lies own2
      clear hs hta1 htb1 he1 b1 b2 z1 own2
      have hs := scan_call ab cb lb (by omega) w2 he2 htb2
      rw [HSB.out] at hs
      go_wp2_with fail
      refine hs.mono ?_
      rintro e3 w3 ⟨v3, rfl, own3, nil3, b3⟩
      simp only at own3 b3 nil3
      have he3 := he2.keep b3
      have B3 := B2.trans (b3.mono z2)
      have z3b := b3.size
      have z3 := B3.size
      have hta3 := hta2.keep b3
      have htb3 := htb2.keep b3
      replace lyl := lyl.keep b3
      obtain ⟨am, cm, rfl, lym, hcm, hgm⟩ := told_lies own3
      clear hs hta2 htb2 he2 b3 B2 z2 own3
      go_upto_region 8 with (fail)
      have o0 := World.ownsRow_made (base := w3.heap.size) (e := 5) (size := 1) w3 #[] 0 (Nat.le_refl _) (by simp [maxLen]) rfl
      have k0b : Below w3.heap.size w3 (w3.alloc (.cells #[] 5)) := (Below.refl _ _).alloc (Nat.le_refl _) _
      have zk0 := k0b.size
      refine wp_region_lit ?_
      refine wpList_build0 rfl rfl ?_
      refine wpList_move1 rfl _ rfl ?_
      simp only [Act.put, List.setIfInBounds_toArray, List.set_cons_zero, List.set_cons_succ]
      refine wpList_append_text rfl (.tmp 43) (.tmp 44) rfl w3.heap.size _ 0 [] rfl o0 aa la ca rfl hca (hta3.keep k0b) (by omega) zk0 ?_
      intro v4 w4 o4 g4
      have k4b := below_own k0b o0 g4 zk0
      have zk4 := k4b.size
      simp only [Act.put, List.setIfInBounds_toArray, List.set_cons_zero, List.set_cons_succ]
      go_upto_region 9 with (first | (at_builtin; refine wpList_append_text rfl (.tmp 45) (.tmp 46) rfl w3.heap.size _ _ _ rfl (o4.alloc (.cells #[.int .u8 10] 5)) (some ⟨w4.heap.size, 0, none⟩) [10] 1 rfl (by simp) (ten_at w4) (by simp; omega) (by simp; omega) ?_; intro v5 w5 o5 g5; have k5b := below_own (k4b.alloc zk4 (.cells #[.int .u8 10] 5)) (o4.alloc (.cells #[.int .u8 10] 5)) g5 (by simp; omega); have zk5 := k5b.size) | (at_builtin; refine wpList_append_text rfl (.tmp 47) (.tmp 48) rfl w3.heap.size _ _ _ rfl o5 ab lb cb rfl hcb (htb3.keep k5b) (by simp; omega) zk5 ?_; intro v6 w6 o6 g6; have k6b := below_own k5b o5 g6 zk5))
      have o6b : w6.ownsRow w3.heap.size 5 1 v6 (la ++ 10 :: lb).length (Lib.byteCells (la ++ 10 :: lb)) := by
          have e1 : (la ++ 10 :: lb).length = 0 + la.length + [(10 : UInt8)].length + lb.length := by simp; omega
          have e2 : Lib.byteCells (la ++ 10 :: lb) = [] ++ Lib.byteCells la ++ Lib.byteCells [10] ++ Lib.byteCells lb := by simp [Lib.byteCells]
          rw [e1, e2]; exact o6
      have SL := scan_lines la lb
      have hBL : (la ++ 10 :: lb).length ≤ 65536 := by simp; omega
      obtain ⟨BT, hBT⟩ : ∃ BT, la ++ 10 :: lb = BT := ⟨_, rfl⟩
      rw [hBT] at o6b SL hBL
      clear hBT
      obtain ⟨a6, c6, rfl, bt6⟩ := told_bytes (w := w3) o6b
      have z6 := k6b.size
      have he6 := he3.keep k6b
      have B6 := B3.trans (k6b.mono z3)
      replace lyl := lyl.keep k6b
      replace lym := lym.keep k6b
      have zb3 : w3.heap.size ≤ w6.heap.size := z6
      have z66 := B6.size
      have hfr6 : us = [] ∨ ∃ g, am = some ⟨g, 0, none⟩ ∧ w2.heap.size ≤ g ∧ g < w6.heap.size ∧ ∀ i, w6.frozen? ⟨g, i, none⟩ = false := by
          rcases hgm with h | ⟨g, h, h1, h2, h3⟩
          · exact .inl h
          · exact .inr ⟨g, h, h1, by omega, fun i => below_free k6b h2 (h3 i)⟩
      clear o0 o4 o5 o6 o6b g4 g5 g6 k0b k4b k5b zk0 zk4 zk5 hta3 htb3 hgm k6b B3 z3 he3
      have hs := scan_call a6 c6 BT hBL w6 he6 bt6
      obtain ⟨ns, k7, q7, SN⟩ : ∃ a b c, scanS BT = (a, b, c) := ⟨_, _, _, rfl⟩
      rw [SN] at hs SL
      rw [HSA.out, HSB.out] at SL
      simp only at SL
      have HSL := Lib.hid SL
      clear SN SL hcl hcm
      go_wp2_with fail
      refine hs.mono ?_
      rintro e7 w7 ⟨v7, rfl, own7, nil7, b7⟩
      simp only at own7 nil7 b7
      have B7 := B6.trans (b7.mono z66)
      have z7 := B7.size
      clear hs
      have SL := HSL.out
      clear HSL
      by_cases hx : x = 0
      · subst hx
        rw [if_neg (by simp)] at SL
        by_cases hy : y = 0
        · subst hy
          rw [if_neg (by simp)] at SL
          simp only [Prod.mk.injEq] at SL
          obtain ⟨hns, rfl, rfl⟩ := SL
          have htl : ts.length ≤ 2000 := by have := right_count (scan_right la ts i0 HSA.out).1; omega
          have hul : us.length ≤ 2000 := by have := right_count (scan_right lb us k0 HSB.out).1; omega
          rcases told_lies own7 with ⟨an, cn, rfl, lyn, hcn, hgn⟩
          have hlen : ns.length = ts.length + us.length := by rw [hns]; simp
          have HNS := Lib.hid hns
          clear hns own7
          replace lyl := lyl.keep b7
          replace lym := lym.keep b7
          have z67 := b7.size
          have hfr7 : us = [] ∨ ∃ g, am = some ⟨g, 0, none⟩ ∧ w2.heap.size ≤ g ∧ g < w6.heap.size ∧ ∀ i, w7.frozen? ⟨g, i, none⟩ = false := by
            rcases hfr6 with h | ⟨g, h, h1, h2, h3⟩
            · exact .inl h
            · exact .inr ⟨g, h, h1, h2, fun i => below_free b7 h2 (h3 i)⟩
          have n1 : ((ns.length : Int) != (ts.length : Int) + (us.length : Int)) = false := by rw [hlen]; simp
          by_cases hu0 : us = []
          · subst hu0
            have hns2 : ns = ts := by have := HNS.out; simpa using this
            subst hns2
            have x1 := eq_any an al cn cl (ns.map T5.g) (ns.map T5.g) (by simp; omega) (by simp; omega)
            rw [List.length_map] at x1
            have eS : eqS (ns.map T5.g) (ns.map T5.g) = true := by simp [eqS]
            rw [eS] at x1
            have x2 := fun (a : Option Addr) (c : Nat) (w : World) => eq_any a am c cm [] [] (by simp) (by simp) w (.inl rfl) (.inl rfl)
            rw [show eqS [] [] = true by simp [eqS]] at x2
            have X1 := Lib.hid x1
            have X2 := Lib.hid x2
            clear x1 x2 HNS hlen n1
            by_cases hns0 : ns = []
            · subst hns0
              obtain ⟨rfl, rfl⟩ : an = none ∧ cn = 0 := by have := nil7 rfl; simpa using this
              clear nil7 hgn hcn
              go_wp2_with fail
              go_loopg [16] 0 (fun g u wr => u = .int .i64 0 ∧ wr = w7)
              case atStart => exact ⟨rfl, rfl⟩
              case round =>
                obtain ⟨rfl, rfl⟩ := hrel
                go_wp2_with fail
                refine (X1.out wr lyn lyl).mono ?_
                rintro e8 w8 ⟨rfl, n8, rfl⟩
                go_wp2_with fail
                refine Calls.mono (R := fun e w9 => e = .returned (.bool true) ∧ ∃ n, w9 = (wr.drewN n8).drewN n) (X2.out _ _ _) ?_
                rintro e9 w9 ⟨rfl, n9, rfl⟩
                go_wp2
                go_ret
                exact ⟨rfl, below_drewN B7 _⟩
            · obtain ⟨gn, rfl, _, _, _⟩ := hgn.resolve_left hns0
              clear nil7
              by_cases hcc : cn = ns.length
              · subst hcc
                go_wp2_with fail
                go_loopg [16] 0 (fun g u wr => u = .int .i64 0 ∧ wr = w7)
                case atStart => exact ⟨rfl, rfl⟩
                case round =>
                  obtain ⟨rfl, rfl⟩ := hrel
                  go_wp2_with fail
                  refine (X1.out wr lyn lyl).mono ?_
                  rintro e8 w8 ⟨rfl, n8, rfl⟩
                  go_wp2_with fail
                  refine Calls.mono (R := fun e w9 => e = .returned (.bool true) ∧ ∃ n, w9 = (wr.drewN n8).drewN n) (X2.out _ _ _) ?_
                  rintro e9 w9 ⟨rfl, n9, rfl⟩
                  go_wp2
                  go_ret
                  exact ⟨rfl, below_drewN B7 _⟩
              · go_wp2_with fail
                go_loopg [16] 0 (fun g u wr => u = .int .i64 0 ∧ wr = w7)
                case atStart => exact ⟨rfl, rfl⟩
                case round =>
                  obtain ⟨rfl, rfl⟩ := hrel
                  go_wp2_with fail
                  refine (X1.out wr lyn lyl).mono ?_
                  rintro e8 w8 ⟨rfl, n8, rfl⟩
                  go_wp2_with fail
                  refine Calls.mono (R := fun e w9 => e = .returned (.bool true) ∧ ∃ n, w9 = (wr.drewN n8).drewN n) (X2.out _ _ _) ?_
                  rintro e9 w9 ⟨rfl, n9, rfl⟩
                  go_wp2
                  go_ret
                  exact ⟨rfl, below_drewN B7 _⟩
          · have hpos : 0 < us.length := List.length_pos_iff.2 hu0
            obtain ⟨gm, rfl, hg1, hg2, hfz⟩ := hfr7.resolve_left hu0
            have hnpos : ns ≠ [] := by intro e; rw [e] at hlen; simp at hlen; omega
            obtain ⟨gn, rfl, hn1, hn2, _⟩ := hgn.resolve_left hnpos
            have HLY := Lib.hid lyl
            have HLM := Lib.hid lym
            have HLN := Lib.hid lyn
            have HGL := Lib.hid hgl
            have HNZ : Hid (gn ≠ gm) := Lib.hid (by omega)
            have HCN : Hid (¬ cn = ts.length ∧ ts.length ≤ cn ∧ ns.length ≤ cn) := Lib.hid (by omega)
            have HLEN := Lib.hid hlen
            obtain ⟨d, hd⟩ : ∃ d, la.length + 1 = d := ⟨_, rfl⟩
            have HD := Lib.hid hd
            have HFZ := Lib.hid hfz
            clear lyl lym lyn hgl hgn hcn hfr7 hd hfz hn1 hu0
            go_wp2_with fail
            go_loopg [16] us.length (fun g u wr => ∃ k : Nat, u = .int .i64 k ∧ k + g = us.length ∧ Below w.heap.size w wr ∧ (∀ b o v, b ≠ gm → w7.cell? ⟨b, o, none⟩ = some v → wr.cell? ⟨b, o, none⟩ = some v) ∧ (∀ i, wr.frozen? ⟨gm, i, none⟩ = false) ∧ ∀ i (h : i < us.length), wr.cell? ⟨gm, i * 5, none⟩ = some (.int .i64 us[i].k) ∧ wr.cell? ⟨gm, i * 5 + 1, none⟩ = some (.string (bs us[i].s)) ∧ wr.cell? ⟨gm, i * 5 + 2, none⟩ = some (.int .i64 (us[i].W : Int)) ∧ wr.cell? ⟨gm, i * 5 + 3, none⟩ = some (.int .u64 (us[i].V : Int)) ∧ wr.cell? ⟨gm, i * 5 + 4, none⟩ = some (.int .i64 ((us[i].at' + (if i < k then d else 0) : Nat) : Int)))
            case atStart =>
              refine ⟨0, rfl, by omega, B7, fun b o v _ h => h, HFZ.out, fun i h => ?_⟩
              obtain ⟨b, o, e, q0, q1, q2, q3, q4⟩ := HLM.out.at (i := i) (by simpa using h)
              injection e with e
              injection e with e1 e2
              subst e1; subst e2
              simp only [List.getElem_map, T5.g, Nat.zero_add] at q0 q1 q2 q3 q4
              exact ⟨q0, q1, q2, q3, by simpa using q4⟩
            case round =>
              obtain ⟨k, rfl, hk, hbr, hold, hfr, hcell⟩ := hrel
              have HOLD := Lib.hid hold
              have HFR := Lib.hid hfr
              have HCE := Lib.hid hcell
              clear hold hfr hcell
              by_cases hlt : k < us.length
              · have d1 : decide (k < us.length) = true := by simpa using hlt
                have d2 : decide ((k : Int) < (us.length : Int)) = true := by rw [decide_eq_true_eq]; omega
                have d3 : (k : Int) < (us.length : Int) := by omega
                have y4 := (HCE.out k hlt).2.2.2.2
                rw [if_neg (by omega), Nat.add_zero] at y4
                have hat : us[k].at' < lb.length := by
                  have := (scan_right lb us k0 HSB.out).1
                  exact right_lt this hlt
                have hD := HD.out
                obtain ⟨p, hp⟩ : ∃ p, us[k].at' = p := ⟨_, rfl⟩
                have HP := Lib.hid hp
                rw [hp] at y4 hat
                have fz := HFR.out (k * 5 + 4)
                have a1 : IntKind.i64.wrap ((p : Int) + (la.length : Int)) = (p : Int) + (la.length : Int) := IntWalk.i64_in _ (by omega)
                have a2 : IntKind.i64.wrap ((p : Int) + (la.length : Int) + 1) = (p : Int) + (la.length : Int) + 1 := IntWalk.i64_in _ (by omega)
                clear hp hD
                go_wp2
                cases gk with
                | zero => omega
                | succ gg =>
                  go_roundg gg
                  case rel =>
                    refine ⟨k + 1, by simp; first | done | rfl | omega, by omega, hbr.setCell (by show w.heap.size ≤ gm; omega) _, fun b o v hb h => ?_, fun i => ?_, fun i h => ?_⟩
                    · rw [World.cell?_setCell_other _ _ _ _ (by intro e; injection e with e; exact hb e.symm)]; exact HOLD.out b o v hb h
                    · rw [frozen_setCell]; exact HFR.out i
                    · obtain ⟨q0, q1, q2, q3, q4⟩ := HCE.out i h
                      have oth : ∀ j, j < 5 → ¬ (i = k ∧ j = 4) → ∀ v x, wr.cell? ⟨gm, i * 5 + j, none⟩ = some v → (wr.setCell ⟨gm, k * 5 + 4, none⟩ x).cell? ⟨gm, i * 5 + j, none⟩ = some v := by
                        intro j hj hn v x hv
                        rw [World.cell?_setCell_other _ _ _ _ (by intro e; injection e with _ e; omega)]; exact hv
                      refine ⟨oth 0 (by omega) (by omega) _ _ q0, oth 1 (by omega) (by omega) _ _ q1, oth 2 (by omega) (by omega) _ _ q2, oth 3 (by omega) (by omega) _ _ q3, ?_⟩
                      by_cases hik : i = k
                      · subst hik
                        rw [if_pos (by omega)]
                        have e1 : ((us[i].at' + d : Nat) : Int) = (p : Int) + (la.length : Int) + 1 := by rw [HP.out, ← HD.out]; omega
                        rw [e1]
                        exact World.cell?_setCell_same _ _ _ q4
                      · have e1 : (if i < k + 1 then d else 0) = (if i < k then d else 0) := by
                          by_cases h' : i < k
                          · rw [if_pos h', if_pos (by omega)]
                          · rw [if_neg h', if_neg (by omega)]
                        rw [e1]
                        exact oth 4 (by omega) (by omega) _ _ q4
                  case measure => omega
              · have d1 : decide (k < us.length) = false := by simpa using hlt
                have d2 : decide ((k : Int) < (us.length : Int)) = false := by rw [decide_eq_false_iff_not]; omega
                have hkk : k = us.length := by omega
                have lyl : LiesA wr al (ts.map T5.g) := by
                  rcases HLY.out with h | ⟨b, o, h, h2⟩
                  · exact .inl h
                  · by_cases ht : ts = []
                    · subst ht; exact .inl rfl
                    · obtain ⟨g, hg, hg3, hg4, _⟩ := HGL.out.resolve_left ht
                      rw [h] at hg
                      injection hg with hg
                      injection hg with e1 e2
                      subst e1
                      exact .inr ⟨b, o, h, h2.on (fun f v hc => HOLD.out b f v (by omega) hc)⟩
                have lyn : Lies wr gn 0 (ns.map T5.g) := by
                  rcases HLN.out with h | ⟨b, o, h, h2⟩
                  · exact absurd (List.map_eq_nil_iff.1 h) hnpos
                  · injection h with h
                    injection h with e1 e2
                    subst e1; subst e2
                    exact h2.on (fun f v hc => HOLD.out gn f v HNZ.out hc)
                have lym : LiesA wr (some ⟨gm, 0, none⟩) ((us.map (off d)).map T5.g) := by
                  refine .inr ⟨gm, 0, rfl, fun i hi => ?_⟩
                  have hi' : i < us.length := by simpa using hi
                  obtain ⟨q0, q1, q2, q3, q4⟩ := HCE.out i hi'
                  rw [if_pos (by omega)] at q4
                  simp only [List.getElem_map, T5.g, off, Nat.zero_add]
                  exact ⟨q0, q1, q2, q3, q4⟩
                have hN : ns = ts ++ us.map (off d) := by rw [← HD.out]; exact HNS.out
                have ly1 : LiesA wr (some ⟨gn, 0, none⟩) (ts.map T5.g) := .inr ⟨gn, 0, rfl, fun i hi => by
                  have hi' : i < ts.length := by simpa using hi
                  have := lyn i (by rw [hN]; simp; omega)
                  simpa [hN, List.getElem_append_left, hi'] using this⟩
                have ly2 : LiesA wr (some ⟨gn, 0 + ts.length * 5, none⟩) ((us.map (off d)).map T5.g) := .inr ⟨gn, 0 + ts.length * 5, rfl, fun i hi => by
                  have hi' : i < us.length := by simpa using hi
                  have := lyn (ts.length + i) (by rw [hN]; simp; omega)
                  have e5 : 0 + (ts.length + i) * 5 = 0 + ts.length * 5 + i * 5 := by omega
                  rw [e5] at this
                  simpa [hN, List.getElem_append_right] using this⟩
                have x1 := eq_any (some ⟨gn, 0, none⟩) al cn cl (ts.map T5.g) (ts.map T5.g) (by simp; omega) (by simp; omega) wr ly1 lyl
                rw [List.length_map, show eqS (ts.map T5.g) (ts.map T5.g) = true by simp [eqS]] at x1
                have x2 := fun (n : Nat) => eq_any (some ⟨gn, 0 + ts.length * 5, none⟩) (some ⟨gm, 0, none⟩) (cn - ts.length) cm ((us.map (off d)).map T5.g) ((us.map (off d)).map T5.g) (by simp; omega) (by simp; omega) (wr.drewN n) (liesA_drewN ly2 n) (liesA_drewN lym n)
                simp only [List.length_map, show eqS ((us.map (off d)).map T5.g) ((us.map (off d)).map T5.g) = true by simp [eqS]] at x2
                simp only [Nat.zero_add] at x2
                have X2 := Lib.hid x2
                have c1 := HCN.out
                have c2 := HLEN.out
                have c3 : ns.length - ts.length = us.length := by omega
                have c4 : (ts.length : Int) ≤ (ns.length : Int) := by omega
                have c5 : (ts.length : Int) ≤ (cn : Int) := by omega
                have c6 : (ns.length : Int) ≤ (cn : Int) := by omega
                have c7 : ts.length ≤ ns.length := by omega
                have c8 : ts.length ≤ cn := by omega
                have c9 : ¬ cn = ts.length := c1.1
                clear x2 hN ly1 ly2 lyl lym lyn hkk c1 c2
                go_wp2_with fail
                refine x1.mono ?_
                rintro e8 w8 ⟨rfl, n8, rfl⟩
                clear x1
                go_wp2_with fail
                refine Calls.mono (R := fun e w9 => e = .returned (.bool true) ∧ ∃ n, w9 = (wr.drewN n8).drewN n) (X2.out n8) ?_
                rintro e9 w9 ⟨rfl, n9, rfl⟩
                go_wp2
                go_ret
                exact ⟨rfl, below_drewN hbr _⟩
        · rw [if_pos hy] at SL
          simp only [Prod.mk.injEq] at SL
          obtain ⟨rfl, hk7, rfl⟩ := SL
          obtain rfl := nil7 (by first | rfl | trivial)
          have hk := (scan_wrong lb us k0 q7 HSB.out hy).1
          have e1 : (q7 == 0) = false := by simpa using hy
          have e2 : (q7 != 0) = true := by simpa using hy
          have e3 : (q7 == q7) = true := by simp
          have e4 : ((k7 : Int) == (k0 : Int) + (la.length : Int) + 1) = true := by rw [beq_iff_eq]; omega
          clear hk7 nil7
          go_wp2
          go_ret
          exact ⟨rfl, B7⟩
      · rw [if_pos hx] at SL
        simp only [Prod.mk.injEq] at SL
        obtain ⟨rfl, rfl, rfl⟩ := SL
        have hn := scan_wrong_nil la ns k7 q7 HSA.out hx
        subst hn
        obtain rfl := nil7 (by first | rfl | trivial)
        have e1 : (q7 == 0) = false := by simpa using hx
        have e2 : (q7 != 0) = true := by simpa using hx
        have e3 : (q7 == q7) = true := by simp
        go_wp2
        go_ret
        exact ⟨rfl, B7⟩
    · have d2 : decide (2000 < lb.length) = true := by rw [decide_eq_true_eq]; omega
      have d2b : decide ((2000 : Int) < (lb.length : Int)) = true := by rw [decide_eq_true_eq]; omega
      go_enter Tryd.func9, Tryd.ntmps9
      go_wp2_with fail
      refine (live_any _ he).mono ?_
      rintro e1 w1 ⟨rfl, b1⟩
      have he1 := he.keep b1
      have hta1 := hta.keep b1
      have htb1 := htb.keep b1
      have z1 := b1.size
      go_wp2
      go_ret
      exact ⟨rfl, b1⟩
  · have d1 : decide (2000 < la.length) = true := by rw [decide_eq_true_eq]; omega
    have d1b : decide ((2000 : Int) < (la.length : Int)) = true := by rw [decide_eq_true_eq]; omega
    go_enter Tryd.func9, Tryd.ntmps9
    go_wp2_with fail
    refine (live_any _ he).mono ?_
    rintro e1 w1 ⟨rfl, b1⟩
    have he1 := he.keep b1
    have hta1 := hta.keep b1
    have htb1 := htb.keep b1
    have z1 := b1.size
    go_wp2
    go_ret
    exact ⟨rfl, b1⟩

/-! ### The row's step -/
set_option maxRecDepth 100000 in
theorem lifted (os : Os) (started : os.Started) (H : Type) (enc : TypeId × Value → H) :
    ReturnsInHanded {} Tryd.checked os 9 .any (fun w args => (Rows.scanLinesSpec.pre enc Tryd.prog Tryd.f9 [] false w args ∧ laidMetH Tryd.prog LD w) ∧ sizedMet enc Tryd.prog Tryd.f9 (OpenSpec.ofChange Rows.scanLinesSpec) false w args) (Rows.scanLinesSpec.post enc Tryd.prog Tryd.f9 false true false false) := by
  refine returnsLaid (C := Tryd.checked) own started (by kernel_rfl) Tryd.func9
    (ChangeSpec.witness_shaped (enc := enc) (C := Tryd.checked) (os := os) (X := fun w _ => laidMetH Tryd.prog LD w) false (World.doorLaid Tryd.prog 29 os) #[.slice none 0 0, .slice none 0 0] 8 rfl (World.shaped_of_RefB (by kernel_rfl) (by kernel_rfl)) (by kernel_rfl) (by kernel_rfl) (by kernel_rfl) (door_met os _)) ?_
  intro W base args ds gs before hval0 hW hwt0 hL hsh
  have hval : ∀ (j : Nat) t v, Tryd.f9.params[j]? = some t → args[j]? = some v → Value.okWide Tryd.prog W .any base t v := hval0
  have hW' := hW
  obtain ⟨p, q, hA0, hV, rfl, hfz, hnd⟩ := hW
  have hA : DataW.TrodAll enc Tryd.prog W 0 (fun _ => true) true Tryd.f9.params.toList args.toList ds p := hA0
  rw [Tryd.params9] at hA hval
  obtain ⟨v0, vs0, d0, ds0, p0, q0, hargs, rfl, rfl, h0, r0⟩ := trodAll_cons hA
  obtain ⟨v1, vs1, d1, ds1, p1, q1, rfl, rfl, rfl, h1, r1⟩ := trodAll_cons r0
  obtain ⟨rfl, rfl, rfl⟩ := trodAll_nil r1
  obtain rfl : args = #[v0, v1] := by cases args; simp_all
  obtain ⟨rfl, rfl⟩ := trodVars_none hV
  have he := env_of hL hsh
  have k0 : ∀ (W' : World), Below W.heap.size W W' → DataW.Trod enc Tryd.prog W' 0 (fun b => decide (b < W.heap.size)) true 22 v0 d0 p0 := fun W' hn => Below.trod laidOut (by kernel_rfl) (of_decide_eq_true (by kernel_rfl)) h0 hn (fun x hx => by simpa using hW'.lt x (by simp [hx]))
  have k1 : ∀ (W' : World), Below W.heap.size W W' → DataW.Trod enc Tryd.prog W' 0 (fun b => decide (b < W.heap.size)) true 22 v1 d1 p1 := fun W' hn => Below.trod laidOut (by kernel_rfl) (of_decide_eq_true (by kernel_rfl)) h1 hn (fun x hx => by simpa using hW'.lt x (by simp [hx]))
  obtain ⟨a0, n0, c0, rfl⟩ := okWide_slice Tryd.underlying22 (hval 0 22 v0 rfl rfl)
  obtain ⟨l0, rfl, hc0, ht0, hz0⟩ := text_of h0
  obtain ⟨a1, n1, c1, rfl⟩ := okWide_slice Tryd.underlying22 (hval 1 22 v1 rfl rfl)
  obtain ⟨l1, rfl, hc1, ht1, hz1⟩ := text_of h1
  clear hA0 hval0
  simp only [List.append_nil] at hW'
  refine (walk a0 a1 c0 c1 l0 l1 hz0 hz1 W he ht0 ht1).mono fun e W' ⟨hr, bel⟩ => ?_
  subst hr
  exact ⟨_, rfl, _, _, _, [], _, [], hW', trodAll_mk1 (shut_bool Tryd.underlying4 _), (trodAll_cons_mk (k0 _ bel) (trodAll_cons_mk (k1 _ bel) trodAll_mk0)), rfl, bel.frame _, fun h => by cases h⟩

theorem over : Rows.ScanLinesSaid :=
  OpenClaim.holds_of_wide 9 Tryd.f9 rfl rfl rfl rfl rfl rfl rfl ⟨rfl, rfl, rfl, rfl, rfl⟩ rfl rfl rfl rfl rfl (by kernel_rfl) Tryd.func9 (by kernel_rfl)
    (of_decide_eq_true (by kernel_rfl)) (by unfold Func.isWrapper; first | (rw [if_pos (by decide +kernel)]; kernel_rfl) | (rw [if_neg (by decide +kernel)]; exact ⟨rfl, rfl⟩))
    (fun os started H enc _ => lifted os started H enc)

/-- The given statement. -/
theorem proved : Rows.ScanLinesCardSaid :=
  Claim7.holds_tied_plain_at .later [] [.data, .data, .data, .data] true _ false
    over (fun _ h => by cases h) (by kernel_rfl) (fun _ h => by cases h) scanLines_row_tie rfl ⟨rfl, rfl⟩ (by kernel_rfl) rfl
    (fun f fn hf hfn => by
      obtain rfl : f = 9 := Option.some.inj ((show Tryd.prog.funcNamed "filigree/filigreelaw02.ScanLines" = some 9 by kernel_rfl).symm.trans hf) |>.symm
      obtain rfl : fn = Tryd.f9 := (Option.some.inj (Tryd.func9.symm.trans hfn)).symm
      exact ⟨by kernel_rfl, fun j t ht => by
        rw [Tryd.params9] at ht
        have hm : t ∈ [22, 22] := by simpa using Array.mem_of_getElem? ht
        have hall : ([22, 22].all fun u => !Tryd.prog.wantsStandIn u) = true := by kernel_rfl
        exact (show Tryd.prog.wantsStandIn t = false by simpa using List.all_eq_true.1 hall t hm)⟩)
    (by kernel_rfl)
#print axioms proved
end Go.Proofs.YtoogncfpoecckaaDoor.scanLines
