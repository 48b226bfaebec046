/-
  Contracts: Text.
-/
import Derived.Test.YtigdegjhajdmhaaDoorScWr
import Derived.Test.YtigdegjhajdmhaaDoorScZ
namespace Go.Proofs.YtigdegjhajdmhaaDoor
open Go Go.RowKit
set_option linter.unusedVariables false
set_option linter.unusedSimpArgs false
open Go.Sort

/-- A token as it may be given. -/
structure G5 where
  k : Int
  s : Bytes
  W : Int
  V : Nat
  p : Int
def G5.val (t : G5) : Value := .agg #[.int .i64 t.k, .string (bs t.s), .int .i64 t.W, .int .u64 (t.V : Int), .int .i64 t.p]
/-- Tokens as they lie in memory. -/
def Lies (w : World) (b o : Nat) (l : List G5) : Prop := ∀ i (h : i < l.length), w.cell? ⟨b, o + i * 5, none⟩ = some (.int .i64 l[i].k) ∧ w.cell? ⟨b, o + i * 5 + 1, none⟩ = some (.string (bs l[i].s)) ∧ w.cell? ⟨b, o + i * 5 + 2, none⟩ = some (.int .i64 l[i].W) ∧ w.cell? ⟨b, o + i * 5 + 3, none⟩ = some (.int .u64 (l[i].V : Int)) ∧ w.cell? ⟨b, o + i * 5 + 4, none⟩ = some (.int .i64 l[i].p)
theorem low_cell {G : Nat} {w w' : World} (hb : Below G w w') {b o : Nat} {v : Value} (hl : b < G) (h : w.cell? ⟨b, o, none⟩ = some v) : w'.cell? ⟨b, o, none⟩ = some v := by rw [hb.cell (p := ⟨b, o, none⟩) hl]; exact h
def checksS : List G5 → Int
  | [] => 0
  | t :: r => if checkS t.k t.s t.W t.V t.p = 0 then checksS r else checkS t.k t.s t.W t.V t.p
theorem may_W (k : Int) (s : Bytes) (W : Int) (V : Nat) (h : mayB k s W V = true) : 0 ≤ W ∧ W ≤ 1000 := by
  unfold mayB holdsI at h
  split at h
  · simp at h; omega
  · split at h
    · simp at h; omega
    · split at h
      · simp at h; omega
      · split at h
        · simp at h; omega
        · cases h
theorem checks_W : ∀ {l : List G5}, checksS l = 0 → ∀ t ∈ l, 0 ≤ t.W ∧ t.W ≤ 1000
  | [], _ => by simp
  | a :: l, h => by
    unfold checksS at h
    by_cases h0 : checkS a.k a.s a.W a.V a.p = 0
    · rw [if_pos h0] at h
      intro t ht
      rcases List.mem_cons.1 ht with rfl | ht
      · apply may_W t.k t.s t.W t.V
        unfold checkS at h0
        by_cases hm : mayB t.k t.s t.W t.V = true
        · exact hm
        · simp [hm] at h0
      · exact checks_W h t ht
    · rw [if_neg h0] at h; exact absurd h h0
theorem own_form {B n e size : Nat} {v : Value} {xs : List Value} {w : World} (h : w.ownsRow B e size v n xs) : ∃ a c, v = .slice a n c := by
  rcases h.2 with ⟨rfl, rfl⟩ | ⟨g, cap, cur, rfl, _⟩
  · exact ⟨_, _, rfl⟩
  · exact ⟨_, _, rfl⟩
theorem news1 (w : World) (x : Value) (t : TypeId) (j : Nat) (u : Value) (h : [x][j]? = some u) : (w.alloc (.cells #[x] t)).cell? ((⟨w.heap.size, 0, none⟩ : Addr).add j) = some u := by
  match j, h with
  | 0, h => simp at h; subst h; simp [Addr.add]
theorem ones1 (c : UInt8) : ∀ v ∈ [Value.int .u8 (c.toNat : Int)], v.oneCell' = true := by
  intro v hv
  simp at hv
  subst hv
  rfl
/-- What stands between two tokens. -/
def gapS : Option Bytes → Bytes
  | none => []
  | some s => [behindS s]
def textK (acc : Bytes) (q : Option Bytes) : List G5 → Bytes × Int
  | [] => (acc, 0)
  | t :: r => if 65536 < (acc ++ gapS q ++ writeS t.k t.s t.W t.V).length then ([], 2) else textK (acc ++ gapS q ++ writeS t.k t.s t.W t.V) (some t.s) r
def textS (l : List G5) : Bytes × Int := if checksS l = 0 then textK [] none l else ([], checksS l)
def ToldT (w : World) (r : Bytes × Int) (e : Ending) (w' : World) : Prop :=
  ∃ v, e = .returned (.tuple #[v, .int .i64 r.2]) ∧ w'.ownsRow w.heap.size 5 1 v r.1.length (Lib.byteCells r.1) ∧ (r.2 ≠ 0 → v = .slice none 0 0) ∧ Below w.heap.size w w'
set_option maxHeartbeats 4000000 in
set_option maxRecDepth 100000 in
theorem text_any (b o cap : Nat) (l : List G5) (hl : l.length ≤ 1099511627776) (hcap : l.length ≤ cap) (hss : ∀ t ∈ l, t.s.length ≤ 70000) (hvv : ∀ t ∈ l, t.V < 18446744073709551616) (w : World) (he : Env w) (hli : Lies w b o l) (ht : w.cell? ⟨4, 15, none⟩ = some (.int .u8 4)) (htab : Lib.TabBelow Tryd.prog w.heap.size w "internal/strconv.uint64pow10" .u64 Lib.pow10Tab) :
    Calls Tryd.prog 8 #[.slice (some ⟨b, o, none⟩) l.length cap] w (ToldT w (textS l)) := by
  obtain ⟨i0, hi0, hz0, hz1, hz2⟩ := info_parts info_u8
  obtain ⟨C, hC⟩ : ∃ C, checksS l = C := ⟨_, rfl⟩
  have HC := Lib.hid hC
  clear hC
  go_enter Tryd.func8, Tryd.ntmps8
  go_wp2
  go_loopg [12] l.length (fun g u wr => ∃ i : Nat, u = .int .i64 i ∧ i + g = l.length ∧ checksS (l.drop i) = C ∧ Below w.heap.size w wr)
  case atStart => exact ⟨0, rfl, by omega, by rw [List.drop_zero]; exact HC.out, Below.refl _ _⟩
  case round =>
    obtain ⟨i, rfl, hi, hchk, hb0⟩ := hrel
    have HK := Lib.hid hchk
    have HLI := Lib.hid hli
    have HSS := Lib.hid hss
    have HVV := Lib.hid hvv
    have HTB := Lib.hid htab
    have hew := he.keep hb0
    clear hchk hli hss hvv htab
    by_cases hlt : i < l.length
    · have d1 : decide (i < l.length) = true := by simpa using hlt
      have d2 : decide ((i : Int) < (l.length : Int)) = true := by rw [decide_eq_true_eq]; omega
      have hL := HLI.out i hlt
      have hs := HSS.out _ (List.getElem_mem hlt)
      have hv := HVV.out _ (List.getElem_mem hlt)
      have HX : Hid ((if checkS l[i].k l[i].s l[i].W l[i].V l[i].p = 0 then checksS (l.drop (i + 1)) else checkS l[i].k l[i].s l[i].W l[i].V l[i].p) = C) := Lib.hid (by rw [← HK.out, ← List.getElem_cons_drop hlt]; rfl)
      generalize l[i] = t at *
      obtain ⟨k, s, W, V, p⟩ := t
      simp only at hL hs hv HX
      obtain ⟨c0, c1, c2, c3, c4⟩ := hL
      have hbl := lt_cell c0
      replace c0 := low_cell hb0 hbl c0
      replace c1 := low_cell hb0 hbl c1
      replace c2 := low_cell hb0 hbl c2
      replace c3 := low_cell hb0 hbl c3
      replace c4 := low_cell hb0 hbl c4
      have hchk := check_any k s W V p hs hv _ (hew.alloc (.cells #[.int .i64 k, .string (bs s), .int .i64 W, .int .u64 (V : Int), .int .i64 p] 32))
      by_cases h0 : checkS k s W V p = 0
      · have HX2 : Hid (checksS (l.drop (i + 1)) = C) := Lib.hid (by rw [← HX.out, if_pos h0])
        rw [h0] at hchk
        clear HX
        go_wp2_with fail
        refine hchk.mono ?_
        rintro e1 w1 ⟨rfl, hb1⟩
        have hb2 := ((Below.refl _ _).alloc (Nat.le_refl _) _).trans (hb1.mono (by simp))
        clear hchk hb1
        go_wp2
        cases gk with
        | zero => omega
        | succ gg =>
          go_roundg gg
          case rel => exact ⟨i + 1, rfl, by omega, HX2.out, hb0.trans (hb2.mono hb0.size)⟩
          case measure => omega
      · have hx : checkS k s W V p = C := by rw [← HX.out, if_neg h0]
        have hne : (checkS k s W V p != 0) = true := by rw [bne_iff_ne]; exact h0
        have HR : Hid (textS l = ([], C)) := Lib.hid (by unfold textS; rw [HC.out, if_neg (by rw [← hx]; exact h0)])
        have HX2 := Lib.hid hx
        have HN := Lib.hid h0
        clear HX hx h0
        generalize checkS k s W V p = E at *
        go_wp2_with fail
        refine hchk.mono ?_
        rintro e1 w1 ⟨rfl, hb1⟩
        have hb2 := ((Below.refl _ _).alloc (Nat.le_refl _) _).trans (hb1.mono (by simp))
        clear hchk hb1
        go_wp2
        go_ret2
        rw [HR.out]
        exact ⟨_, by rw [HX2.out]; rfl, ⟨rfl, .inl ⟨rfl, rfl⟩⟩, fun _ => rfl, hb0.trans (hb2.mono hb0.size)⟩
    · have d1 : decide (i < l.length) = false := by simpa using hlt
      have d2 : decide ((i : Int) < (l.length : Int)) = false := by rw [decide_eq_false_iff_not]; omega
      have hC0 : C = 0 := by rw [← HK.out, List.drop_eq_nil_of_le (by omega)]; rfl
      have HA : Hid (∀ t ∈ l, 0 ≤ t.W ∧ t.W ≤ 1000) := Lib.hid (checks_W (by rw [HC.out, hC0]))
      have HR : Hid (textS l = textK [] none l) := Lib.hid (by unfold textS; rw [HC.out, if_pos hC0])
      clear HK hC0 HC
      go_wp2
      clear hew
      have hsz0 := hb0.size
      go_loopg [7, 24] l.length (fun g v u wx => ∃ (i : Nat) (acc : Bytes) (q : Option Bytes), u = .int .i64 i ∧ i + g = l.length ∧ wx.ownsRow w.heap.size 5 1 v acc.length (Lib.byteCells acc) ∧ acc.length ≤ 65536 ∧ textK acc q (l.drop i) = textS l ∧ (i = 0 → q = none) ∧ (∀ j, j + 1 = i → ∀ h : j < l.length, q = some l[j].s) ∧ Below w.heap.size w wx)
      case atStart => exact ⟨0, [], none, rfl, by omega, ⟨rfl, .inl ⟨rfl, rfl⟩⟩, by simp, by rw [List.drop_zero]; exact HR.out.symm, fun _ => rfl, fun j hj => by omega, hb0⟩
      case round =>
        obtain ⟨i2, acc, q, rfl, hi2, hown, hacc, htx, hq0, hq1, hb1⟩ := hrel
        clear hb0 hlt d1 d2 hi hsz0
        have HK := Lib.hid htx
        have HQ0 := Lib.hid hq0
        have HQ1 := Lib.hid hq1
        clear htx hq0 hq1
        by_cases hlt : i2 < l.length
        · have d1 : decide (i2 < l.length) = true := by simpa using hlt
          have d2 : decide ((i2 : Int) < (l.length : Int)) = true := by rw [decide_eq_true_eq]; omega
          have hL := HLI.out i2 hlt
          have hs := HSS.out _ (List.getElem_mem hlt)
          have hv := HVV.out _ (List.getElem_mem hlt)
          have HWW := Lib.hid (HA.out _ (List.getElem_mem hlt))
          have h4 := lt_cell ht
          have HX : Hid ((if 65536 < (acc ++ gapS q ++ writeS l[i2].k l[i2].s l[i2].W l[i2].V).length then ([], 2) else textK (acc ++ gapS q ++ writeS l[i2].k l[i2].s l[i2].W l[i2].V) (some l[i2].s) (l.drop (i2 + 1))) = textS l) := Lib.hid (by rw [← HK.out, ← List.getElem_cons_drop hlt]; rfl)
          clear HK
          obtain ⟨t, hte⟩ : ∃ t, l[i2] = t := ⟨_, rfl⟩
          rw [hte] at hL hs hv HWW HX
          have HSG : Hid (l[i2].s = t.s) := Lib.hid (by rw [hte])
          clear hte
          obtain ⟨k, s, W, V, p⟩ := t
          simp only at hL hs hv HX HWW HSG
          obtain ⟨c0, c1, c2, c3, c4⟩ := hL
          have hbl := lt_cell c0
          replace c0 := low_cell hb1 hbl c0
          replace c1 := low_cell hb1 hbl c1
          replace c2 := low_cell hb1 hbl c2
          replace c3 := low_cell hb1 hbl c3
          replace c4 := low_cell hb1 hbl c4
          have hbA := hb1.alloc hb1.size (.cells #[.int .i64 k, .string (bs s), .int .i64 W, .int .u64 (V : Int), .int .i64 p] 32)
          have ownA := hown.alloc (.cells #[.int .i64 k, .string (bs s), .int .i64 W, .int .u64 (V : Int), .int .i64 p] 32)
          cases i2 with
          | zero =>
            have hq := HQ0.out rfl
            subst hq
            have HGAP : Hid (acc ++ gapS none = acc) := Lib.hid (by simp [gapS])
            simp only [Nat.zero_mul, Nat.add_zero] at c0 c1 c2 c3 c4
            clear hown
            have hz9 := (hbA).size
            have ht9 : (wr.alloc (.cells #[.int .i64 k, .string (bs s), .int .i64 W, .int .u64 (V : Int), .int .i64 p] 32)).cell? ⟨4, 15, none⟩ = some (.int .u8 4) := low_cell (hbA) h4 ht
            have hwr := write_any w.heap.size (acc.length) _ (Lib.byteCells (acc)) k s W V p hs hv HWW.out.1 HWW.out.2 (wr.alloc (.cells #[.int .i64 k, .string (bs s), .int .i64 W, .int .u64 (V : Int), .int .i64 p] 32)) (ownA) hz9 (by omega) h4 ht9 (HTB.out.on (hbA))
            obtain ⟨TT, hTT⟩ : ∃ TT, writeS k s W V = TT := ⟨_, rfl⟩
            rw [hTT] at hwr
            have HTT := Lib.hid hTT
            have HVV2 := Lib.hid hv
            clear hTT ht9 hv
            go_wp2_with fail
            refine hwr.mono ?_
            rintro e9 w9 ⟨v9, rfl, o9, b9⟩
            have bb9 := (hbA).trans b9
            clear hwr b9
            obtain ⟨N, hN⟩ : ∃ N, (acc.length) + TT.length = N := ⟨_, rfl⟩
            rw [hN] at o9
            have HAC : Hid (acc ++ gapS none ++ writeS k s W V = acc ++ TT) := Lib.hid (by rw [HTT.out, HGAP.out])
            have hNl : (acc ++ TT).length = N := by rw [← hN]; simp only [List.length_append, List.length_cons, List.length_nil]
            obtain ⟨a9, cp9, rfl⟩ := own_form o9
            by_cases hbig : 65536 < N
            · have d3 : decide (65536 < N) = true := by simpa using hbig
              have d4 : decide ((65536 : Int) < (N : Int)) = true := by rw [decide_eq_true_eq]; omega
              have HE : Hid (textS l = ([], 2)) := Lib.hid (by rw [← HX.out, HAC.out, if_pos (by omega)])
              clear o9 HAC hNl
              go_wp2
              go_ret2
              rw [HE.out]
              exact ⟨_, rfl, ⟨rfl, .inl ⟨rfl, rfl⟩⟩, fun _ => rfl, bb9⟩
            · have d3 : decide (65536 < N) = false := by simpa using hbig
              have d4 : decide ((65536 : Int) < (N : Int)) = false := by rw [decide_eq_false_iff_not]; omega
              have HE : Hid (textK (acc ++ TT) (some s) (l.drop (0 + 1)) = textS l) := Lib.hid (by rw [← HX.out, HAC.out, if_neg (by omega)])
              have o10 : w9.ownsRow w.heap.size 5 1 (.slice a9 N cp9) (acc ++ TT).length (Lib.byteCells (acc ++ TT)) := by
                rw [hNl]
                rw [show Lib.byteCells (acc ++ TT) = Lib.byteCells (acc) ++ Lib.byteCells TT by simp [Lib.byteCells]]
                exact o9
              clear o9 HAC
              go_wp2
              cases gk with
              | zero => omega
              | succ gg =>
                go_roundg gg
                case rel => exact ⟨0 + 1, acc ++ TT, some s, rfl, by omega, o10, by omega, HE.out, fun h => by omega, fun j9 hj h => by obtain rfl : j9 = 0 := (by omega); rw [← HSG.out], bb9⟩
                case measure => omega
          | succ j =>
            have hj : j < l.length := by omega
            have hq := HQ1.out j rfl hj
            have hL2 := HLI.out j hj
            obtain ⟨t2, hte2⟩ : ∃ t2, l[j] = t2 := ⟨_, rfl⟩
            rw [hte2] at hq hL2
            clear hte2
            obtain ⟨k2, s2, W2, V2, p2⟩ := t2
            simp only at hq hL2
            subst hq
            obtain ⟨q0, q1, q2, q3, q4⟩ := hL2
            replace q0 := alloc_cell (low_cell hb1 hbl q0) (.cells #[.int .i64 k, .string (bs s), .int .i64 W, .int .u64 (V : Int), .int .i64 p] 32)
            replace q1 := alloc_cell (low_cell hb1 hbl q1) (.cells #[.int .i64 k, .string (bs s), .int .i64 W, .int .u64 (V : Int), .int .i64 p] 32)
            replace q2 := alloc_cell (low_cell hb1 hbl q2) (.cells #[.int .i64 k, .string (bs s), .int .i64 W, .int .u64 (V : Int), .int .i64 p] 32)
            replace q3 := alloc_cell (low_cell hb1 hbl q3) (.cells #[.int .i64 k, .string (bs s), .int .i64 W, .int .u64 (V : Int), .int .i64 p] 32)
            replace q4 := alloc_cell (low_cell hb1 hbl q4) (.cells #[.int .i64 k, .string (bs s), .int .i64 W, .int .u64 (V : Int), .int .i64 p] 32)
            have kk1 : ((j + 1 : Nat) : Int) - 1 = (j : Int) := by omega
            have d5 : decide ((0 : Int) < ((j + 1 : Nat) : Int)) = true := by rw [decide_eq_true_eq]; omega
            have d6 : decide ((0 : Int) < (j : Int) + 1) = true := by rw [decide_eq_true_eq]; omega
            have hbe := behind_any k2 s2 W2 V2 p2 (wr.alloc (.cells #[.int .i64 k, .string (bs s), .int .i64 W, .int .u64 (V : Int), .int .i64 p] 32))
            go_wp2_with fail
            refine hbe.mono ?_
            rintro e2 w2 ⟨rfl, hb2⟩
            have own2 := own_below ownA hb2
            have bb2 := hbA.trans (hb2.mono hbA.size)
            have kt : w2.heap[wr.heap.size]? = some (.cells #[.int .i64 k, .string (bs s), .int .i64 W, .int .u64 (V : Int), .int .i64 p] 32 (0, 0)) := by rw [hb2.block _ (by simp)]; exact heap_alloc_new wr _
            have hgt : wr.heap.size < w2.heap.size := by have := hb2.size; simp at this; omega
            clear hbe hb2 hbA ownA hown q0 q1 q2 q3 q4
            have HGAP : Hid (acc ++ gapS (some s2) = acc ++ [behindS s2]) := Lib.hid rfl
            go_upto_region 14 with (at_builtin; go_loud (refine wpList_append_own _ rfl (.tmp 31) (.tmp 38) 22 rfl w.heap.size 5 i0 (.int .u8 0) 1 1 Tryd.underlying22 hi0 hz0 hz1 hz2 rfl (by decide) _ acc.length (Lib.byteCells acc) rfl (own2.alloc _) ⟨w2.heap.size, 0, none⟩ 1 1 [.int .u8 ((behindS s2).toNat : Int)] rfl rfl (news1 w2 _ _) (ones1 _) (by simp only [maxLen]; omega) (by omega) (by simp; have := bb2.size; omega) ?_); intro v3 w3 own3 g3 _)
            have bb3 := below_own (bb2.alloc bb2.size (.cells #[.int .u8 ((behindS s2).toNat : Int)] 5)) (own2.alloc _) g3 (by simp; have := bb2.size; omega)
            have kt3 := row_kept (own2.alloc _) g3 (by rw [heap_alloc_old w2 _ hgt]; exact kt) (by decide)
            have c0 : w3.cell? ⟨wr.heap.size, 0, none⟩ = some (.int .i64 k) := by rw [cell_of_row w3 wr.heap.size 0 _ _ _ kt3]; rfl
            have c1 : w3.cell? ⟨wr.heap.size, 1, none⟩ = some (.string (bs s)) := by rw [cell_of_row w3 wr.heap.size 1 _ _ _ kt3]; rfl
            have c2 : w3.cell? ⟨wr.heap.size, 2, none⟩ = some (.int .i64 W) := by rw [cell_of_row w3 wr.heap.size 2 _ _ _ kt3]; rfl
            have c3 : w3.cell? ⟨wr.heap.size, 3, none⟩ = some (.int .u64 (V : Int)) := by rw [cell_of_row w3 wr.heap.size 3 _ _ _ kt3]; rfl
            have c4 : w3.cell? ⟨wr.heap.size, 4, none⟩ = some (.int .i64 p) := by rw [cell_of_row w3 wr.heap.size 4 _ _ _ kt3]; rfl
            have own4 : w3.ownsRow w.heap.size 5 1 v3 (acc.length + 1) (Lib.byteCells (acc ++ [behindS s2])) := by
              rw [show Lib.byteCells (acc ++ [behindS s2]) = Lib.byteCells acc ++ [.int .u8 ((behindS s2).toNat : Int)] by simp [Lib.byteCells]]
              exact own3
            clear own3 g3 own2 bb2 kt kt3
            have hz9 := (bb3).size
            have ht9 : (w3).cell? ⟨4, 15, none⟩ = some (.int .u8 4) := low_cell (bb3) h4 ht
            have hwr := write_any w.heap.size (acc.length + 1) _ (Lib.byteCells ((acc ++ [behindS s2]))) k s W V p hs hv HWW.out.1 HWW.out.2 (w3) (own4) hz9 (by omega) h4 ht9 (HTB.out.on (bb3))
            obtain ⟨TT, hTT⟩ : ∃ TT, writeS k s W V = TT := ⟨_, rfl⟩
            rw [hTT] at hwr
            have HTT := Lib.hid hTT
            have HVV2 := Lib.hid hv
            clear hTT ht9 hv
            go_wp2_with fail
            refine hwr.mono ?_
            rintro e9 w9 ⟨v9, rfl, o9, b9⟩
            have bb9 := (bb3).trans b9
            clear hwr b9
            obtain ⟨N, hN⟩ : ∃ N, (acc.length + 1) + TT.length = N := ⟨_, rfl⟩
            rw [hN] at o9
            have HAC : Hid (acc ++ gapS (some s2) ++ writeS k s W V = (acc ++ [behindS s2]) ++ TT) := Lib.hid (by rw [HTT.out, HGAP.out])
            have hNl : ((acc ++ [behindS s2]) ++ TT).length = N := by rw [← hN]; simp only [List.length_append, List.length_cons, List.length_nil]
            obtain ⟨a9, cp9, rfl⟩ := own_form o9
            by_cases hbig : 65536 < N
            · have d3 : decide (65536 < N) = true := by simpa using hbig
              have d4 : decide ((65536 : Int) < (N : Int)) = true := by rw [decide_eq_true_eq]; omega
              have HE : Hid (textS l = ([], 2)) := Lib.hid (by rw [← HX.out, HAC.out, if_pos (by omega)])
              clear o9 HAC hNl
              go_wp2
              go_ret2
              rw [HE.out]
              exact ⟨_, rfl, ⟨rfl, .inl ⟨rfl, rfl⟩⟩, fun _ => rfl, bb9⟩
            · have d3 : decide (65536 < N) = false := by simpa using hbig
              have d4 : decide ((65536 : Int) < (N : Int)) = false := by rw [decide_eq_false_iff_not]; omega
              have HE : Hid (textK ((acc ++ [behindS s2]) ++ TT) (some s) (l.drop ((j + 1) + 1)) = textS l) := Lib.hid (by rw [← HX.out, HAC.out, if_neg (by omega)])
              have o10 : w9.ownsRow w.heap.size 5 1 (.slice a9 N cp9) ((acc ++ [behindS s2]) ++ TT).length (Lib.byteCells ((acc ++ [behindS s2]) ++ TT)) := by
                rw [hNl]
                rw [show Lib.byteCells ((acc ++ [behindS s2]) ++ TT) = Lib.byteCells ((acc ++ [behindS s2])) ++ Lib.byteCells TT by simp [Lib.byteCells]]
                exact o9
              clear o9 HAC
              go_wp2
              cases gk with
              | zero => omega
              | succ gg =>
                go_roundg gg
                case rel => exact ⟨(j + 1) + 1, (acc ++ [behindS s2]) ++ TT, some s, rfl, by omega, o10, by omega, HE.out, fun h => by omega, fun j9 hj h => by obtain rfl : j9 = (j + 1) := (by omega); rw [← HSG.out], bb9⟩
                case measure => omega
        · have d1 : decide (i2 < l.length) = false := by simpa using hlt
          have d2 : decide ((i2 : Int) < (l.length : Int)) = false := by rw [decide_eq_false_iff_not]; omega
          have HE : Hid (textS l = (acc, 0)) := Lib.hid (by rw [← HK.out, List.drop_eq_nil_of_le (by omega)]; rfl)
          go_wp2
          go_ret2
          rw [HE.out]
          exact ⟨_, rfl, hown, fun h => absurd rfl h, hb1⟩
end Go.Proofs.YtigdegjhajdmhaaDoor
