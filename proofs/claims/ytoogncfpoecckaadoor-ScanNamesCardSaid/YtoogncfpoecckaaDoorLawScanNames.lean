/-
  A name, or a word, is read as one token, and is not both. For every input; the listed variables hold what the program's text lays in them.
-/
import Derived.Test.YtoogncfpoecckaaDoorTie
import Derived.Test.YtoogncfpoecckaaDoorCards
import Derived.Test.YtoogncfpoecckaaDoorScOp
import Derived.BigQuiet
namespace Go.Proofs.YtoogncfpoecckaaDoor.scanNames
open Go Go.ChangeShapes Go.WideShapes Go.ChangeAt Go.RowKit Go.Joins Go.Sort Go.Deep
set_option linter.unusedVariables false
set_option linter.unusedSimpArgs false

theorem check_name (l : Bytes) : checkS 1 l 0 0 0 = if isNameB l then 0 else 1 := by unfold checkS; cases h : isNameB l <;> simp [mayB, h]
theorem check_word (l : Bytes) : checkS 2 l 0 0 0 = if isWord l then 0 else 1 := by unfold checkS; cases h : isWord l <;> simp [mayB, h]
set_option maxHeartbeats 4000000 in
set_option maxRecDepth 100000 in
theorem walk (l : Bytes) (w : World) (he : Env2 w) : Calls Tryd.prog 11 #[.string (bs l)] w fun e w' => e = .returned (.bool true) ∧ Below w.heap.size w w' := by
  by_cases h1 : l.length ≤ 2000
  · have d1 : decide (2000 < l.length) = false := by rw [decide_eq_false_iff_not]; omega
    have d1b : decide ((2000 : Int) < (l.length : Int)) = false := by rw [decide_eq_false_iff_not]; omega
    have C1 := check_name l
    have C2 := check_word l
    cases hn : isNameB l with
    | true =>
      have hw := name_word l hn
      rw [hn, if_pos rfl] at C1
      rw [hw, if_neg (by decide)] at C2
      have S := scan_one (one_of_name hn).1
      rw [hw, if_neg (by decide)] at S
      go_enter Tryd.func11, Tryd.ntmps11
      go_wp2_with fail
      refine (live_any _ he).mono ?_
      rintro e1 w1 ⟨rfl, b1⟩
      have he1 := he.keep b1
      have z1 := b1.size
      have k1 := check_any 1 l 0 0 0 (by omega) (by decide) w1 he1.env
      rw [C1] at k1
      go_wp2_with fail
      refine k1.mono ?_
      rintro e2 w2 ⟨rfl, b2⟩
      have he2 := he1.keep b2
      have B2 := b1.trans (b2.mono z1)
      have z2 := B2.size
      clear k1 he1
      have k2 := check_any 2 l 0 0 0 (by omega) (by decide) w2 he2.env
      rw [C2] at k2
      go_wp2_with fail
      refine k2.mono ?_
      rintro e3 w3 ⟨rfl, b3⟩
      have he3 := he2.keep b3
      have B3 := B2.trans (b3.mono z2)
      have z3 := B3.size
      clear k2 he2 b1 b2 b3 z1 z2
      obtain ⟨cp, fr, hcv⟩ := conv_new w3 l
      have B4 : Below w.heap.size w (w3.drew.alloc (.cells (bytesRow (bs l) cp) 5 fr)) := (Below.drew B3).alloc z3 _
      have he4 := he.keep B4
      have ht4 : BytesAt (w3.drew.alloc (.cells (bytesRow (bs l) cp) 5 fr)) (some ⟨w3.heap.size, 0, none⟩) l := bytes_new w3.drew l cp fr
      have hs := scan_call _ cp l (by omega) _ he4 ht4
      have z4 := B4.size
      rw [S] at hs
      go_wp2_with fail
      refine Calls.mono (R := Told (w3.drew.alloc (.cells (bytesRow (bs l) cp) 5 fr)) _) hs ?_
      rintro e5 w5 ⟨v5, rfl, own5, nil5, b5⟩
      simp only at own5 nil5 b5
      have B5 := B4.trans (b5.mono z4)
      clear hs hcv ht4 B4 B3
      obtain ⟨a5, c5, rfl, ly, _, _⟩ := told_lies own5
      obtain ⟨b, o, rfl, x0, x1, x2, x3, x4⟩ := ly.at (i := 0) (by simp)
      simp only [Nat.zero_mul, Nat.add_zero, List.map_cons, List.getElem_cons_zero, T5.g, List.length_cons, List.length_nil, Nat.zero_add] at x0 x1 x2 x3 x4
      have el : (l == l) = true := by simp
      obtain ⟨mm, hmm⟩ := (he.keep B5).env.most
      have hwd := word_any l (by omega) mm w5 hmm
      rw [hw] at hwd
      go_wp2_with fail
      refine hwd.mono ?_
      rintro e6 w6 ⟨rfl, rfl⟩
      go_wp2
      go_ret
      exact ⟨rfl, B5⟩
    | false =>
      rw [hn, if_neg (by decide)] at C1
      cases hw : isWord l with
      | true =>
        rw [hw, if_pos rfl] at C2
        have S := scan_one (one_of_word hw)
        rw [hw, if_pos rfl] at S
        go_enter Tryd.func11, Tryd.ntmps11
        go_wp2_with fail
        refine (live_any _ he).mono ?_
        rintro e1 w1 ⟨rfl, b1⟩
        have he1 := he.keep b1
        have z1 := b1.size
        have k1 := check_any 1 l 0 0 0 (by omega) (by decide) w1 he1.env
        rw [C1] at k1
        go_wp2_with fail
        refine k1.mono ?_
        rintro e2 w2 ⟨rfl, b2⟩
        have he2 := he1.keep b2
        have B2 := b1.trans (b2.mono z1)
        have z2 := B2.size
        clear k1 he1
        have k2 := check_any 2 l 0 0 0 (by omega) (by decide) w2 he2.env
        rw [C2] at k2
        go_wp2_with fail
        refine k2.mono ?_
        rintro e3 w3 ⟨rfl, b3⟩
        have he3 := he2.keep b3
        have B3 := B2.trans (b3.mono z2)
        have z3 := B3.size
        clear k2 he2 b1 b2 b3 z1 z2
        obtain ⟨cp, fr, hcv⟩ := conv_new w3 l
        have B4 : Below w.heap.size w (w3.drew.alloc (.cells (bytesRow (bs l) cp) 5 fr)) := (Below.drew B3).alloc z3 _
        have he4 := he.keep B4
        have ht4 : BytesAt (w3.drew.alloc (.cells (bytesRow (bs l) cp) 5 fr)) (some ⟨w3.heap.size, 0, none⟩) l := bytes_new w3.drew l cp fr
        have hs := scan_call _ cp l (by omega) _ he4 ht4
        have z4 := B4.size
        rw [S] at hs
        go_wp2_with fail
        refine Calls.mono (R := Told (w3.drew.alloc (.cells (bytesRow (bs l) cp) 5 fr)) _) hs ?_
        rintro e5 w5 ⟨v5, rfl, own5, nil5, b5⟩
        simp only at own5 nil5 b5
        have B5 := B4.trans (b5.mono z4)
        clear hs hcv ht4 B4 B3
        obtain ⟨a5, c5, rfl, ly, _, _⟩ := told_lies own5
        obtain ⟨b, o, rfl, x0, x1, x2, x3, x4⟩ := ly.at (i := 0) (by simp)
        simp only [Nat.zero_mul, Nat.add_zero, List.map_cons, List.getElem_cons_zero, T5.g, List.length_cons, List.length_nil, Nat.zero_add] at x0 x1 x2 x3 x4
        have el : (l == l) = true := by simp
        obtain ⟨mm, hmm⟩ := (he.keep B5).env.most
        have hwd := word_any l (by omega) mm w5 hmm
        rw [hw] at hwd
        go_wp2_with fail
        refine hwd.mono ?_
        rintro e6 w6 ⟨rfl, rfl⟩
        go_wp2
        go_ret
        exact ⟨rfl, B5⟩
      | false =>
        rw [hw, if_neg (by decide)] at C2
        obtain ⟨ts, i, x, S⟩ : ∃ ts i x, scanS l = (ts, i, x) := ⟨_, _, _, rfl⟩
        have HS := Lib.hid S
        by_cases hx : x = 0
        · subst hx
          by_cases hl1 : ts.length = 1
          · obtain ⟨t, rfl⟩ := List.length_eq_one_iff.1 hl1
            have HR := Lib.hid (scan_right l [t] i S).1
            by_cases hts : t.s = l
            · have hk := scan_other hn hw [t] i t S rfl hts
              have e1 : (t.s == l) = true := by simpa using hts
              have hat : ((t.at' : Int) == 0) = true ∨ ((t.at' : Int) == 0) = false := by cases ((t.at' : Int) == 0) <;> simp
              rcases hat with hat | hat
              · go_enter Tryd.func11, Tryd.ntmps11
                go_wp2_with fail
                refine (live_any _ he).mono ?_
                rintro e1 w1 ⟨rfl, b1⟩
                have he1 := he.keep b1
                have z1 := b1.size
                have k1 := check_any 1 l 0 0 0 (by omega) (by decide) w1 he1.env
                rw [C1] at k1
                go_wp2_with fail
                refine k1.mono ?_
                rintro e2 w2 ⟨rfl, b2⟩
                have he2 := he1.keep b2
                have B2 := b1.trans (b2.mono z1)
                have z2 := B2.size
                clear k1 he1
                have k2 := check_any 2 l 0 0 0 (by omega) (by decide) w2 he2.env
                rw [C2] at k2
                go_wp2_with fail
                refine k2.mono ?_
                rintro e3 w3 ⟨rfl, b3⟩
                have he3 := he2.keep b3
                have B3 := B2.trans (b3.mono z2)
                have z3 := B3.size
                clear k2 he2 b1 b2 b3 z1 z2
                obtain ⟨cp, fr, hcv⟩ := conv_new w3 l
                have B4 : Below w.heap.size w (w3.drew.alloc (.cells (bytesRow (bs l) cp) 5 fr)) := (Below.drew B3).alloc z3 _
                have he4 := he.keep B4
                have ht4 : BytesAt (w3.drew.alloc (.cells (bytesRow (bs l) cp) 5 fr)) (some ⟨w3.heap.size, 0, none⟩) l := bytes_new w3.drew l cp fr
                have hs := scan_call _ cp l (by omega) _ he4 ht4
                have z4 := B4.size
                rw [S] at hs
                go_wp2_with fail
                refine Calls.mono (R := Told (w3.drew.alloc (.cells (bytesRow (bs l) cp) 5 fr)) _) hs ?_
                rintro e5 w5 ⟨v5, rfl, own5, nil5, b5⟩
                simp only at own5 nil5 b5
                have B5 := B4.trans (b5.mono z4)
                clear hs hcv ht4 B4 B3
                obtain ⟨a5, c5, rfl, ly, _, _⟩ := told_lies own5
                obtain ⟨b, o, rfl, x0, x1, x2, x3, x4⟩ := ly.at (i := 0) (by simp)
                simp only [Nat.zero_mul, Nat.add_zero, List.map_cons, List.getElem_cons_zero, T5.g, List.length_cons, List.length_nil, Nat.zero_add] at x0 x1 x2 x3 x4
                rw [hk] at x0
                rw [hts] at x1
                have e2 : (l == l) = true := by simp
                obtain ⟨mm, hmm⟩ := (he.keep B5).env.most
                have hwd := word_any l (by omega) mm w5 hmm
                rw [hw] at hwd
                go_wp2_with fail
                refine hwd.mono ?_
                rintro e6 w6 ⟨rfl, rfl⟩
                go_wp2
                go_ret
                exact ⟨rfl, B5⟩
              · go_enter Tryd.func11, Tryd.ntmps11
                go_wp2_with fail
                refine (live_any _ he).mono ?_
                rintro e1 w1 ⟨rfl, b1⟩
                have he1 := he.keep b1
                have z1 := b1.size
                have k1 := check_any 1 l 0 0 0 (by omega) (by decide) w1 he1.env
                rw [C1] at k1
                go_wp2_with fail
                refine k1.mono ?_
                rintro e2 w2 ⟨rfl, b2⟩
                have he2 := he1.keep b2
                have B2 := b1.trans (b2.mono z1)
                have z2 := B2.size
                clear k1 he1
                have k2 := check_any 2 l 0 0 0 (by omega) (by decide) w2 he2.env
                rw [C2] at k2
                go_wp2_with fail
                refine k2.mono ?_
                rintro e3 w3 ⟨rfl, b3⟩
                have he3 := he2.keep b3
                have B3 := B2.trans (b3.mono z2)
                have z3 := B3.size
                clear k2 he2 b1 b2 b3 z1 z2
                obtain ⟨cp, fr, hcv⟩ := conv_new w3 l
                have B4 : Below w.heap.size w (w3.drew.alloc (.cells (bytesRow (bs l) cp) 5 fr)) := (Below.drew B3).alloc z3 _
                have he4 := he.keep B4
                have ht4 : BytesAt (w3.drew.alloc (.cells (bytesRow (bs l) cp) 5 fr)) (some ⟨w3.heap.size, 0, none⟩) l := bytes_new w3.drew l cp fr
                have hs := scan_call _ cp l (by omega) _ he4 ht4
                have z4 := B4.size
                rw [S] at hs
                go_wp2_with fail
                refine Calls.mono (R := Told (w3.drew.alloc (.cells (bytesRow (bs l) cp) 5 fr)) _) hs ?_
                rintro e5 w5 ⟨v5, rfl, own5, nil5, b5⟩
                simp only at own5 nil5 b5
                have B5 := B4.trans (b5.mono z4)
                clear hs hcv ht4 B4 B3
                obtain ⟨a5, c5, rfl, ly, _, _⟩ := told_lies own5
                obtain ⟨b, o, rfl, x0, x1, x2, x3, x4⟩ := ly.at (i := 0) (by simp)
                simp only [Nat.zero_mul, Nat.add_zero, List.map_cons, List.getElem_cons_zero, T5.g, List.length_cons, List.length_nil, Nat.zero_add] at x0 x1 x2 x3 x4
                rw [hk] at x0
                rw [hts] at x1
                have e2 : (l == l) = true := by simp
                obtain ⟨mm, hmm⟩ := (he.keep B5).env.most
                have hwd := word_any l (by omega) mm w5 hmm
                rw [hw] at hwd
                go_wp2_with fail
                refine hwd.mono ?_
                rintro e6 w6 ⟨rfl, rfl⟩
                go_wp2
                go_ret
                exact ⟨rfl, B5⟩
            · have e1 : (t.s == l) = false := by simpa using hts
              go_enter Tryd.func11, Tryd.ntmps11
              go_wp2_with fail
              refine (live_any _ he).mono ?_
              rintro e1 w1 ⟨rfl, b1⟩
              have he1 := he.keep b1
              have z1 := b1.size
              have k1 := check_any 1 l 0 0 0 (by omega) (by decide) w1 he1.env
              rw [C1] at k1
              go_wp2_with fail
              refine k1.mono ?_
              rintro e2 w2 ⟨rfl, b2⟩
              have he2 := he1.keep b2
              have B2 := b1.trans (b2.mono z1)
              have z2 := B2.size
              clear k1 he1
              have k2 := check_any 2 l 0 0 0 (by omega) (by decide) w2 he2.env
              rw [C2] at k2
              go_wp2_with fail
              refine k2.mono ?_
              rintro e3 w3 ⟨rfl, b3⟩
              have he3 := he2.keep b3
              have B3 := B2.trans (b3.mono z2)
              have z3 := B3.size
              clear k2 he2 b1 b2 b3 z1 z2
              obtain ⟨cp, fr, hcv⟩ := conv_new w3 l
              have B4 : Below w.heap.size w (w3.drew.alloc (.cells (bytesRow (bs l) cp) 5 fr)) := (Below.drew B3).alloc z3 _
              have he4 := he.keep B4
              have ht4 : BytesAt (w3.drew.alloc (.cells (bytesRow (bs l) cp) 5 fr)) (some ⟨w3.heap.size, 0, none⟩) l := bytes_new w3.drew l cp fr
              have hs := scan_call _ cp l (by omega) _ he4 ht4
              have z4 := B4.size
              rw [S] at hs
              go_wp2_with fail
              refine Calls.mono (R := Told (w3.drew.alloc (.cells (bytesRow (bs l) cp) 5 fr)) _) hs ?_
              rintro e5 w5 ⟨v5, rfl, own5, nil5, b5⟩
              simp only at own5 nil5 b5
              have B5 := B4.trans (b5.mono z4)
              clear hs hcv ht4 B4 B3
              obtain ⟨a5, c5, rfl, ly, _, _⟩ := told_lies own5
              obtain ⟨b, o, rfl, x0, x1, x2, x3, x4⟩ := ly.at (i := 0) (by simp)
              simp only [Nat.zero_mul, Nat.add_zero, List.map_cons, List.getElem_cons_zero, T5.g, List.length_cons, List.length_nil, Nat.zero_add] at x0 x1 x2 x3 x4
              obtain ⟨mm, hmm⟩ := (he.keep B5).env.most
              have hwd := word_any l (by omega) mm w5 hmm
              rw [hw] at hwd
              go_wp2_with fail
              refine hwd.mono ?_
              rintro e6 w6 ⟨rfl, rfl⟩
              go_wp2
              go_ret
              exact ⟨rfl, B5⟩
          · have e1 : ((ts.length : Int) == 1) = false := by simp; omega
            go_enter Tryd.func11, Tryd.ntmps11
            go_wp2_with fail
            refine (live_any _ he).mono ?_
            rintro e1 w1 ⟨rfl, b1⟩
            have he1 := he.keep b1
            have z1 := b1.size
            have k1 := check_any 1 l 0 0 0 (by omega) (by decide) w1 he1.env
            rw [C1] at k1
            go_wp2_with fail
            refine k1.mono ?_
            rintro e2 w2 ⟨rfl, b2⟩
            have he2 := he1.keep b2
            have B2 := b1.trans (b2.mono z1)
            have z2 := B2.size
            clear k1 he1
            have k2 := check_any 2 l 0 0 0 (by omega) (by decide) w2 he2.env
            rw [C2] at k2
            go_wp2_with fail
            refine k2.mono ?_
            rintro e3 w3 ⟨rfl, b3⟩
            have he3 := he2.keep b3
            have B3 := B2.trans (b3.mono z2)
            have z3 := B3.size
            clear k2 he2 b1 b2 b3 z1 z2
            obtain ⟨cp, fr, hcv⟩ := conv_new w3 l
            have B4 : Below w.heap.size w (w3.drew.alloc (.cells (bytesRow (bs l) cp) 5 fr)) := (Below.drew B3).alloc z3 _
            have he4 := he.keep B4
            have ht4 : BytesAt (w3.drew.alloc (.cells (bytesRow (bs l) cp) 5 fr)) (some ⟨w3.heap.size, 0, none⟩) l := bytes_new w3.drew l cp fr
            have hs := scan_call _ cp l (by omega) _ he4 ht4
            have z4 := B4.size
            rw [S] at hs
            go_wp2_with fail
            refine Calls.mono (R := Told (w3.drew.alloc (.cells (bytesRow (bs l) cp) 5 fr)) _) hs ?_
            rintro e5 w5 ⟨v5, rfl, own5, nil5, b5⟩
            simp only at own5 nil5 b5
            have B5 := B4.trans (b5.mono z4)
            clear hs hcv ht4 B4 B3
            obtain ⟨a5, c5, rfl⟩ := own_form own5
            obtain ⟨mm, hmm⟩ := (he.keep B5).env.most
            have hwd := word_any l (by omega) mm w5 hmm
            rw [hw] at hwd
            go_wp2_with fail
            refine hwd.mono ?_
            rintro e6 w6 ⟨rfl, rfl⟩
            go_wp2
            go_ret
            exact ⟨rfl, B5⟩
        · have e1 : (x == 0) = false := by simpa using hx
          have e2 : decide (x = 0) = false := by simpa using hx
          go_enter Tryd.func11, Tryd.ntmps11
          go_wp2_with fail
          refine (live_any _ he).mono ?_
          rintro e1 w1 ⟨rfl, b1⟩
          have he1 := he.keep b1
          have z1 := b1.size
          have k1 := check_any 1 l 0 0 0 (by omega) (by decide) w1 he1.env
          rw [C1] at k1
          go_wp2_with fail
          refine k1.mono ?_
          rintro e2 w2 ⟨rfl, b2⟩
          have he2 := he1.keep b2
          have B2 := b1.trans (b2.mono z1)
          have z2 := B2.size
          clear k1 he1
          have k2 := check_any 2 l 0 0 0 (by omega) (by decide) w2 he2.env
          rw [C2] at k2
          go_wp2_with fail
          refine k2.mono ?_
          rintro e3 w3 ⟨rfl, b3⟩
          have he3 := he2.keep b3
          have B3 := B2.trans (b3.mono z2)
          have z3 := B3.size
          clear k2 he2 b1 b2 b3 z1 z2
          obtain ⟨cp, fr, hcv⟩ := conv_new w3 l
          have B4 : Below w.heap.size w (w3.drew.alloc (.cells (bytesRow (bs l) cp) 5 fr)) := (Below.drew B3).alloc z3 _
          have he4 := he.keep B4
          have ht4 : BytesAt (w3.drew.alloc (.cells (bytesRow (bs l) cp) 5 fr)) (some ⟨w3.heap.size, 0, none⟩) l := bytes_new w3.drew l cp fr
          have hs := scan_call _ cp l (by omega) _ he4 ht4
          have z4 := B4.size
          rw [S] at hs
          go_wp2_with fail
          refine Calls.mono (R := Told (w3.drew.alloc (.cells (bytesRow (bs l) cp) 5 fr)) _) hs ?_
          rintro e5 w5 ⟨v5, rfl, own5, nil5, b5⟩
          simp only at own5 nil5 b5
          have B5 := B4.trans (b5.mono z4)
          clear hs hcv ht4 B4 B3
          obtain ⟨mm, hmm⟩ := (he.keep B5).env.most
          have hwd := word_any l (by omega) mm w5 hmm
          rw [hw] at hwd
          go_wp2_with fail
          refine hwd.mono ?_
          rintro e6 w6 ⟨rfl, rfl⟩
          go_wp2
          go_ret
          exact ⟨rfl, B5⟩
  · have d1 : decide (2000 < l.length) = true := by rw [decide_eq_true_eq]; omega
    have d1b : decide ((2000 : Int) < (l.length : Int)) = true := by rw [decide_eq_true_eq]; omega
    go_enter Tryd.func11, Tryd.ntmps11
    go_wp2_with fail
    refine (live_any _ he).mono ?_
    rintro e1 w1 ⟨rfl, b1⟩
    have he1 := he.keep b1
    have z1 := b1.size
    go_wp2
    go_ret
    exact ⟨rfl, b1⟩

/-! ### The row's step -/
set_option maxRecDepth 100000 in
theorem lifted (os : Os) (started : os.Started) (H : Type) (enc : TypeId × Value → H) :
    ReturnsInHanded {} Tryd.checked os 11 .any (fun w args => (Rows.scanNamesSpec.pre enc Tryd.prog Tryd.f11 [] false w args ∧ laidMetH Tryd.prog LD w) ∧ sizedMet enc Tryd.prog Tryd.f11 (OpenSpec.ofChange Rows.scanNamesSpec) false w args) (Rows.scanNamesSpec.post enc Tryd.prog Tryd.f11 false true false false) := by
  refine returnsLaid (C := Tryd.checked) own started (by kernel_rfl) Tryd.func11
    (ChangeSpec.witness_shaped (enc := enc) (C := Tryd.checked) (os := os) (X := fun w _ => laidMetH Tryd.prog LD w) false (World.doorLaid Tryd.prog 29 os) #[.string ⟨#[]⟩] 8 rfl (World.shaped_of_RefB (by kernel_rfl) (by kernel_rfl)) (by kernel_rfl) (by kernel_rfl) (by kernel_rfl) (door_met os _)) ?_
  intro W base args ds gs before hval0 hW hwt0 hL hsh
  have hval : ∀ (j : Nat) t v, Tryd.f11.params[j]? = some t → args[j]? = some v → Value.okWide Tryd.prog W .any base t v := hval0
  have hW' := hW
  obtain ⟨p, q, hA0, hV, rfl, hfz, hnd⟩ := hW
  have hA : DataW.TrodAll enc Tryd.prog W 0 (fun _ => true) true Tryd.f11.params.toList args.toList ds p := hA0
  rw [Tryd.params11] at hA hval
  obtain ⟨v0, vs0, d0, ds0, p0, q0, hargs, rfl, rfl, h0, r0⟩ := trodAll_cons hA
  obtain ⟨rfl, rfl, rfl⟩ := trodAll_nil r0
  obtain rfl : args = #[v0] := by cases args; simp_all
  obtain ⟨rfl, rfl⟩ := trodVars_none hV
  have he := env_of hL hsh
  have k0 : ∀ (W' : World), Below W.heap.size W W' → DataW.Trod enc Tryd.prog W' 0 (fun b => decide (b < W.heap.size)) true 9 v0 d0 p0 := fun W' hn => Below.trod laidOut (by kernel_rfl) (of_decide_eq_true (by kernel_rfl)) h0 hn (fun x hx => by simpa using hW'.lt x (by simp [hx]))
  obtain ⟨s0, rfl, _, _, _⟩ := Go.ChangeMaps.open_string Tryd.underlying9 (hval 0 9 v0 rfl rfl) h0
  obtain ⟨l0, rfl⟩ : ∃ l, s0 = bs l := ⟨_, bs_toList s0⟩
  clear hA0 hval0
  simp only [List.append_nil] at hW'
  refine (walk l0 W he).mono fun e W' ⟨hr, bel⟩ => ?_
  subst hr
  exact ⟨_, rfl, _, _, _, [], _, [], hW', trodAll_mk1 (shut_bool Tryd.underlying4 _), (trodAll_cons_mk (k0 _ bel) trodAll_mk0), rfl, bel.frame _, fun h => by cases h⟩

theorem over : Rows.ScanNamesSaid :=
  OpenClaim.holds_of_wide 11 Tryd.f11 rfl rfl rfl rfl rfl rfl rfl ⟨rfl, rfl, rfl, rfl, rfl⟩ rfl rfl rfl rfl rfl (by kernel_rfl) Tryd.func11 (by kernel_rfl)
    (of_decide_eq_true (by kernel_rfl)) (by unfold Func.isWrapper; first | (rw [if_pos (by decide +kernel)]; kernel_rfl) | (rw [if_neg (by decide +kernel)]; exact ⟨rfl, rfl⟩))
    (fun os started H enc _ => lifted os started H enc)

/-- The given statement. -/
theorem proved : Rows.ScanNamesCardSaid :=
  Claim7.holds_tied_plain_at .later [] [.data, .data, .data, .data] true _ false
    over (fun _ h => by cases h) (by kernel_rfl) (fun _ h => by cases h) scanNames_row_tie rfl ⟨rfl, rfl⟩ (by kernel_rfl) rfl
    (fun f fn hf hfn => by
      obtain rfl : f = 11 := Option.some.inj ((show Tryd.prog.funcNamed "filigree/filigreelaw02.ScanNames" = some 11 by kernel_rfl).symm.trans hf) |>.symm
      obtain rfl : fn = Tryd.f11 := (Option.some.inj (Tryd.func11.symm.trans hfn)).symm
      exact ⟨by kernel_rfl, fun j t ht => by
        rw [Tryd.params11] at ht
        have hm : t ∈ [9] := by simpa using Array.mem_of_getElem? ht
        have hall : ([9].all fun u => !Tryd.prog.wantsStandIn u) = true := by kernel_rfl
        exact (show Tryd.prog.wantsStandIn t = false by simpa using List.all_eq_true.1 hall t hm)⟩)
    (by kernel_rfl)
#print axioms proved
end Go.Proofs.YtoogncfpoecckaaDoor.scanNames
