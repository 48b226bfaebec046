/-
  The reference: Scan.
-/
import Derived.Test.YtigdegjhajdmhaaDoorScRz
import Derived.Test.YtigdegjhajdmhaaDoorScLw
namespace Go.Proofs.YtigdegjhajdmhaaDoor
open Go Go.RowKit
set_option linter.unusedVariables false
set_option linter.unusedSimpArgs false
open Go.Sort

theorem own_drewN {w : World} {B e size n : Nat} {v : Value} {xs : List Value} (h : w.ownsRow B e size v n xs) (q : Nat) : (w.drewN q).ownsRow B e size v n xs := own_below h (below_drewN (Below.refl _ _) q)
theorem com_pos (c : UInt8) (r : Bytes) (h : 0 < comS (c :: r)) : ([47, 47] : Bytes).isPrefixOf (c :: r) = true ∧ comS (c :: r) = run inLine (c :: r) := by
  unfold comS at h ⊢
  by_cases hp : ([47, 47] : Bytes).isPrefixOf (c :: r) = true
  · exact ⟨hp, by rw [if_pos hp]⟩
  · rw [if_neg hp] at h; exact absurd h (by omega)
theorem com_zero (c : UInt8) (r : Bytes) (h : ¬ 0 < comS (c :: r)) : ([47, 47] : Bytes).isPrefixOf (c :: r) = false := by
  cases hp : ([47, 47] : Bytes).isPrefixOf (c :: r) with
  | false => rfl
  | true =>
    have := slashes hp
    unfold comS at h
    rw [if_pos hp] at h
    omega
theorem com_le (l : Bytes) : comS l ≤ l.length := by
  unfold comS
  split
  · exact run_le _ _
  · omega
theorem refscan_big (a : Option Addr) (n cap : Nat) (hn : 65536 < n) (w : World) : Calls Tryd.prog 6 #[.slice a n cap] w (Told w ([], 0, 2)) := by
  have d1 : decide (65536 < n) = true := by simpa using hn
  have d2 : decide ((65536 : Int) < (n : Int)) = true := by rw [decide_eq_true_eq]; omega
  go_enter Tryd.func6, Tryd.ntmps6
  go_wp2
  go_ret3
  exact ⟨_, rfl, ⟨rfl, .inl ⟨rfl, rfl⟩⟩, fun _ => rfl, Below.refl _ _⟩
set_option maxHeartbeats 8000000 in
set_option maxRecDepth 100000 in
theorem refscan_any (a : Option Addr) (cap : Nat) (l : Bytes) (hl : l.length ≤ 65536) (w : World) (ht : BytesAt w a l) : Calls Tryd.prog 6 #[.slice a l.length cap] w (Told w (scanS l)) := by
  have hconv := ht.conv cap
  have d1 : decide (65536 < l.length) = false := by rw [decide_eq_false_iff_not]; omega
  have d2 : decide ((65536 : Int) < (l.length : Int)) = false := by rw [decide_eq_false_iff_not]; omega
  obtain ⟨R, hR⟩ : ∃ R, scanS l = R := ⟨_, rfl⟩
  have HR : Hid (scanK (l.length + 1) l (0 + startS (l.drop 0)) [] = R) := Lib.hid (by rw [← hR, List.drop_zero, Nat.zero_add]; rfl)
  rw [hR]
  clear hR ht
  obtain ⟨i0, hi0, hz0, hz1, hz2⟩ := info_parts info_tok
  go_enter Tryd.func6, Tryd.ntmps6
  go_wp2
  clear hconv
  go_loopg [6, 7] (l.length + 1) (fun g v u wr => ∃ (i : Nat) (acc : List T5) (f : Nat), u = .int .i64 i ∧ i ≤ l.length ∧ l.length - i < g ∧ scanK f l (i + startS (l.drop i)) acc = R ∧ l.length - (i + startS (l.drop i)) < f ∧ acc.length ≤ i ∧ wr.ownsRow w.heap.size 32 5 v acc.length (allCells acc) ∧ (acc = [] → v = .slice none 0 0) ∧ Below w.heap.size w wr)
  case atStart => exact ⟨0, [], l.length + 1, rfl, by omega, by omega, HR.out, by omega, Nat.zero_le _, ⟨rfl, .inl ⟨rfl, rfl⟩⟩, fun _ => rfl, Below.refl _ _⟩
  case round =>
    obtain ⟨i, acc, f, rfl, hi, hig, hscan, hf, hacl, hown, hnil, hb0⟩ := hrel
    have HSC := Lib.hid hscan
    have HNI := Lib.hid hnil
    have HF := Lib.hid hf
    clear hscan hnil hf
    have zz := hb0.size
    cases gk with
    | zero => omega
    | succ gg =>
      by_cases hlt : i < l.length
      · have e1 : decide (i < l.length) = true := by simpa using hlt
        have e2 : decide ((i : Int) < (l.length : Int)) = true := by rw [decide_eq_true_eq]; omega
        have x1 : (i : Int) < (l.length : Int) := by omega
        have a1 : IntKind.i64.wrap ((i : Int) + 1) = ((i + 1 : Nat) : Int) := by rw [show (i : Int) + 1 = ((i + 1 : Nat) : Int) by omega]; exact IntWalk.i64_in _ (by omega)
        have HDC := Lib.hid (List.getElem_cons_drop hlt).symm
        have hbl := fun w => refblank_any l[i] w
        cases hbk : blank l[i] with
        | true =>
          rw [hbk] at hbl
          have HST : Hid (startS (l.drop i) = 1 + startS (l.drop (i + 1))) := Lib.hid (by rw [HDC.out, startS_blank hbk])
          clear hbk
          go_wp2_with fail
          refine (hbl _).mono ?_
          rintro e3 w3 ⟨rfl, rfl⟩
          go_wp2
          go_roundg gg
          case rel => exact ⟨i + 1, acc, f, by simp; first | done | rfl | omega, by omega, by omega, by rw [← HSC.out, HST.out]; congr 1; omega, by have := HF.out; rw [HST.out] at this; omega, by omega, hown, HNI.out, hb0⟩
          case measure => omega
        | false =>
          rw [hbk] at hbl
          have HBK := Lib.hid hbk
          have hco := fun w => refcomment_any l (by omega) i hlt w
          have hcl := com_le (l.drop i)
          rw [List.length_drop] at hcl
          by_cases hcom : 0 < comS (l.drop i)
          · have HST : Hid (startS (l.drop i) = comS (l.drop i) + startS (l.drop (i + comS (l.drop i)))) := Lib.hid (by
              rw [HDC.out] at hcom
              obtain ⟨p1, p2⟩ := com_pos _ _ hcom
              rw [← HDC.out] at p2
              have := startS_comment HBK.out p1
              rw [← HDC.out] at this
              rw [p2, ← List.drop_drop]
              exact this)
            obtain ⟨n, hn⟩ : ∃ n, comS (l.drop i) = n := ⟨_, rfl⟩
            rw [hn] at hco hcl hcom HST
            clear hn hbk
            have c1 : decide ((0 : Int) < (n : Int)) = true := by rw [decide_eq_true_eq]; omega
            have c2 : decide (0 < n) = true := by simpa using hcom
            have a2 : IntKind.i64.wrap ((i : Int) + (n : Int)) = ((i + n : Nat) : Int) := by rw [show (i : Int) + (n : Int) = ((i + n : Nat) : Int) by omega]; exact IntWalk.i64_in _ (by omega)
            go_wp2_with fail
            refine (hbl _).mono ?_
            rintro e3 w3 ⟨rfl, rfl⟩
            go_wp2_with fail
            refine (hco _).mono ?_
            rintro e4 w4 ⟨rfl, q4, rfl⟩
            go_wp2
            go_roundg gg
            case rel => exact ⟨i + n, acc, f, by simp; first | done | rfl | omega, by omega, by omega, by rw [← HSC.out, HST.out]; congr 1; omega, by have := HF.out; rw [HST.out] at this; omega, by omega, own_drewN hown q4, HNI.out, below_drewN hb0 q4⟩
            case measure => omega
          · have HST : Hid (startS (l.drop i) = 0) := Lib.hid (by
              rw [HDC.out] at hcom ⊢
              exact startS_stop HBK.out (com_zero _ _ hcom))
            obtain ⟨n, hn⟩ : ∃ n, comS (l.drop i) = n := ⟨_, rfl⟩
            rw [hn] at hco hcl hcom
            have hn0 : n = 0 := by omega
            subst hn0
            clear hn hbk hcom hcl
            have htok := fun w => reftoken_any l (by omega) i hlt w
            have hts := fun h => token_size (l := l.drop i) (by rw [HDC.out]; exact Nat.succ_pos _) h
            replace HSC : Hid (scanK f l i acc = R) := Lib.hid (by have := HSC.out; rw [HST.out, Nat.add_zero] at this; exact this)
            replace HF : Hid (l.length - i < f) := Lib.hid (by have := HF.out; rw [HST.out, Nat.add_zero] at this; exact this)
            obtain ⟨f', hf'⟩ : ∃ f', f = f' + 1 := ⟨f - 1, by have := HF.out; omega⟩
            have HB := fun h => scanK_bad (f := f') (acc := acc) hlt h
            have HO := fun h => scanK_on (f := f') (acc := acc) hlt h
            obtain ⟨T, hT⟩ : ∃ T, tokenS (l.drop i) = T := ⟨_, rfl⟩
            rw [hT] at htok hts HB HO
            subst hf'
            clear hT
            by_cases herr : T.err = 0
            · obtain ⟨hs1, hs2⟩ := hts herr
              rw [List.length_drop] at hs2
              have HN : Hid (scanK f' l (i + T.size + startS (l.drop (i + T.size))) (acc ++ [T.put i]) = R) := Lib.hid (by rw [← HO herr]; exact HSC.out)
              obtain ⟨tk, ts, tW, tV, tz, te⟩ := T
              simp only at herr hs1 hs2 HN
              subst herr
              rw [gotV_ok] at htok
              clear hts HB HO
              have HO5 := Lib.hid (allCells_snoc acc (Tk.put ⟨tk, ts, tW, tV, tz, 0⟩ i))
              have a2 : IntKind.i64.wrap ((i : Int) + (tz : Int)) = ((i + tz : Nat) : Int) := by rw [show (i : Int) + (tz : Int) = ((i + tz : Nat) : Int) by omega]; exact IntWalk.i64_in _ (by omega)
              go_wp2_with fail
              refine (hbl _).mono ?_
              rintro e3 w3 ⟨rfl, rfl⟩
              go_wp2_with fail
              refine (hco _).mono ?_
              rintro e4 w4 ⟨rfl, q4, rfl⟩
              have own4 := own_drewN hown q4
              have hb4 := below_drewN hb0 q4
              clear hown
              generalize wr.drewN q4 = w4 at *
              go_wp2_with fail
              refine (htok _).mono ?_
              rintro e5 w5 ⟨rfl, hb5⟩
              have own5 := own_below own4 hb5
              have hb6 := hb4.trans (hb5.mono hb4.size)
              have hz6 := hb6.size
              clear own4 hb4 hb5 hbl hco htok
              go_upto_region 13 with (fail)
              have own6 := own5.alloc (.cells #[.int .i64 tk, .string (bs ts), .int .i64 (tW : Int), .int .u64 (tV : Int), .int .i64 (i : Int), .int .i64 (tz : Int), .int .i64 0] 42)
              have hb7 := hb6.alloc hb6.size (.cells #[.int .i64 tk, .string (bs ts), .int .i64 (tW : Int), .int .u64 (tV : Int), .int .i64 (i : Int), .int .i64 (tz : Int), .int .i64 0] 42)
              have c0 : (w5.alloc (.cells #[.int .i64 tk, .string (bs ts), .int .i64 (tW : Int), .int .u64 (tV : Int), .int .i64 (i : Int), .int .i64 (tz : Int), .int .i64 0] 42)).cell? ⟨w5.heap.size, 0, none⟩ = some (.int .i64 tk) := by simp
              have c1 : (w5.alloc (.cells #[.int .i64 tk, .string (bs ts), .int .i64 (tW : Int), .int .u64 (tV : Int), .int .i64 (i : Int), .int .i64 (tz : Int), .int .i64 0] 42)).cell? ⟨w5.heap.size, 1, none⟩ = some (.string (bs ts)) := by simp
              have c2 : (w5.alloc (.cells #[.int .i64 tk, .string (bs ts), .int .i64 (tW : Int), .int .u64 (tV : Int), .int .i64 (i : Int), .int .i64 (tz : Int), .int .i64 0] 42)).cell? ⟨w5.heap.size, 2, none⟩ = some (.int .i64 (tW : Int)) := by simp
              have c3 : (w5.alloc (.cells #[.int .i64 tk, .string (bs ts), .int .i64 (tW : Int), .int .u64 (tV : Int), .int .i64 (i : Int), .int .i64 (tz : Int), .int .i64 0] 42)).cell? ⟨w5.heap.size, 3, none⟩ = some (.int .u64 (tV : Int)) := by simp
              have c4 : (w5.alloc (.cells #[.int .i64 tk, .string (bs ts), .int .i64 (tW : Int), .int .u64 (tV : Int), .int .i64 (i : Int), .int .i64 (tz : Int), .int .i64 0] 42)).cell? ⟨w5.heap.size, 4, none⟩ = some (.int .i64 (i : Int)) := by simp
              have c5 : (w5.alloc (.cells #[.int .i64 tk, .string (bs ts), .int .i64 (tW : Int), .int .u64 (tV : Int), .int .i64 (i : Int), .int .i64 (tz : Int), .int .i64 0] 42)).cell? ⟨w5.heap.size, 5, none⟩ = some (.int .i64 (tz : Int)) := by simp
              have c6 : (w5.alloc (.cells #[.int .i64 tk, .string (bs ts), .int .i64 (tW : Int), .int .u64 (tV : Int), .int .i64 (i : Int), .int .i64 (tz : Int), .int .i64 0] 42)).cell? ⟨w5.heap.size, 6, none⟩ = some (.int .i64 0) := by simp
              have gb : w.heap.size ≤ w5.heap.size := hz6
              have row : (w5.alloc (.cells #[.int .i64 tk, .string (bs ts), .int .i64 (tW : Int), .int .u64 (tV : Int), .int .i64 (i : Int), .int .i64 (tz : Int), .int .i64 0] 42)).heap[w5.heap.size]? = some (.cells #[.int .i64 tk, .string (bs ts), .int .i64 (tW : Int), .int .u64 (tV : Int), .int .i64 (i : Int), .int .i64 (tz : Int), .int .i64 0] 42) := by
                show (w5.heap.push _)[w5.heap.size]? = _
                simp
              have nb : ∀ k, u6.ownBlock = some k → k < w5.heap.size := fun k hk => (own5.lt k hk).2
              clear own5 hb6
              generalize w5.alloc (.cells #[.int .i64 tk, .string (bs ts), .int .i64 (tW : Int), .int .u64 (tV : Int), .int .i64 (i : Int), .int .i64 (tz : Int), .int .i64 0] 42) = w6 at *
              generalize w5.heap.size = gt at *
              have hz7 := hb7.size
              go_upto_region 15 with (fail)
              go_upto_region 16 with (at_builtin; refine wpList_append_own _ rfl (.tmp 42) (.tmp 45) 24 rfl w.heap.size 32 i0 (.agg #[.int .i64 0, .string ⟨#[]⟩, .int .i64 0, .int .u64 0, .int .i64 0]) 5 48 Tryd.underlying24 hi0 hz0 hz1 hz2 rfl (by decide) _ acc.length (allCells acc) rfl (own6.alloc _) ⟨w6.heap.size, 0, none⟩ 1 1 [.int .i64 tk, .string (bs ts), .int .i64 (tW : Int), .int .u64 (tV : Int), .int .i64 (i : Int)] rfl rfl (news5 w6 _ _ _ _ _ 32) (ones5 ⟨tk, ts, tW, tV, i⟩) (by simp only [maxLen]; omega) (by omega) (by simp; omega) ?_; intro v7 w7 own7 hg7 _)
              have bel := below_grown (own6.alloc _) hg7 hb7.size
              have gtl : gt < w6.heap.size := lt_cell c5
              have row7 : w7.heap[gt]? = some (.cells #[.int .i64 tk, .string (bs ts), .int .i64 (tW : Int), .int .u64 (tV : Int), .int .i64 (i : Int), .int .i64 (tz : Int), .int .i64 0] 42) := by
                rw [hg7.block gt (by simp; omega) (fun e => by have := nb gt e.symm; omega), Below.heap_alloc _ _ _ gtl]
                exact row
              have c5' : w7.cell? ⟨gt, 5, none⟩ = some (.int .i64 (tz : Int)) := by simp [World.cell?, row7]
              have hb8 := hb7.trans bel
              have own8 : w7.ownsRow w.heap.size 32 5 v7 (acc ++ [Tk.put ⟨tk, ts, tW, tV, tz, 0⟩ i]).length (allCells (acc ++ [Tk.put ⟨tk, ts, tW, tV, tz, 0⟩ i])) := by
                rw [HO5.out, List.length_append]; exact own7
              clear own6 own7 hg7 bel hb7 c0 c1 c2 c3 c4 c5 c6 row row7 nb
              go_wp2
              go_roundg gg
              case rel => exact ⟨i + tz, acc ++ [Tk.put ⟨tk, ts, tW, tV, tz, 0⟩ i], f', by simp; first | done | rfl | omega, by omega, by omega, HN.out, by have := HF.out; omega, by simp; omega, own8, fun h => absurd h (by simp), hb8⟩
              case measure => omega
            · have HRR : Hid (R = ([], i, T.err)) := Lib.hid (by rw [← HSC.out]; exact HB herr)
              have ee : (T.err != 0) = true := by rw [bne_iff_ne]; exact herr
              have HGV : Hid (gotV T i = .agg #[.int .i64 0, .string (bs []), .int .i64 0, .int .u64 0, .int .i64 0, .int .i64 0, .int .i64 T.err]) := Lib.hid (by unfold gotV; rw [if_neg herr])
              rw [HGV.out] at htok
              clear hts HB HO hown HGV
              obtain ⟨er, her⟩ : ∃ e, T.err = e := ⟨_, rfl⟩
              rw [her] at htok ee HRR
              clear her herr
              go_wp2_with fail
              refine (hbl _).mono ?_
              rintro e3 w3 ⟨rfl, rfl⟩
              go_wp2_with fail
              refine (hco _).mono ?_
              rintro e4 w4 ⟨rfl, q4, rfl⟩
              have hb4 := below_drewN hb0 q4
              generalize wr.drewN q4 = w4 at *
              go_wp2_with fail
              refine (htok _).mono ?_
              rintro e5 w5 ⟨rfl, hb5⟩
              have hb6 := hb4.trans (hb5.mono hb4.size)
              have hz6 := hb6.size
              clear hb4 hb5 hbl hco htok
              go_upto_region 13 with (fail)
              have c6 : (w5.alloc (.cells #[.int .i64 0, .string (bs []), .int .i64 0, .int .u64 0, .int .i64 0, .int .i64 0, .int .i64 er] 42)).cell? ⟨w5.heap.size, 6, none⟩ = some (.int .i64 er) := by simp
              have hb7 := hb6.alloc hb6.size (.cells #[.int .i64 0, .string (bs []), .int .i64 0, .int .u64 0, .int .i64 0, .int .i64 0, .int .i64 er] 42)
              clear hb6
              generalize w5.alloc (.cells #[.int .i64 0, .string (bs []), .int .i64 0, .int .u64 0, .int .i64 0, .int .i64 0, .int .i64 er] 42) = w6 at *
              generalize w5.heap.size = gt at *
              go_wp2_with fail
              go_quiet (fail)
              go_wp2
              go_ret3
              rw [HRR.out]
              exact ⟨_, rfl, ⟨rfl, .inl ⟨rfl, rfl⟩⟩, fun _ => rfl, below_drewN hb7 _⟩
      · have HRR : Hid (R = (acc, 0, 0)) := Lib.hid (by
          have h1 := HSC.out
          have h2 := HF.out
          obtain ⟨f', rfl⟩ : ∃ f', f = f' + 1 := ⟨f - 1, by omega⟩
          rw [← h1]
          exact scanK_stop (by omega))
        have e1 : decide (i < l.length) = false := by rw [decide_eq_false_iff_not]; omega
        have e2 : decide ((i : Int) < (l.length : Int)) = false := by rw [decide_eq_false_iff_not]; omega
        go_wp2
        go_ret3
        rw [HRR.out]
        exact ⟨_, rfl, hown, HNI.out, hb0⟩
end Go.Proofs.YtigdegjhajdmhaaDoor
