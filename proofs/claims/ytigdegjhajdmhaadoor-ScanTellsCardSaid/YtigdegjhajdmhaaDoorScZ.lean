/-
  Contract: Scan.
-/
import Derived.Test.YtigdegjhajdmhaaDoorScV
namespace Go.Proofs.YtigdegjhajdmhaaDoor
open Go Go.RowKit
set_option linter.unusedVariables false
open Go.Sort

theorem news5 (w : World) (a b c d e : Value) (t : TypeId) (j : Nat) (v : Value) (h : [a, b, c, d, e][j]? = some v) : (w.alloc (.cells #[a, b, c, d, e] t)).cell? ((⟨w.heap.size, 0, none⟩ : Addr).add j) = some v := by
  match j, h with
  | 0, h => simp at h; subst h; simp [Addr.add]
  | 1, h => simp at h; subst h; simp [Addr.add]
  | 2, h => simp at h; subst h; simp [Addr.add]
  | 3, h => simp at h; subst h; simp [Addr.add]
  | 4, h => simp at h; subst h; simp [Addr.add]
  | j + 5, h => simp at h
theorem ones5 (t : T5) : ∀ v ∈ t.cells, v.oneCell' = true := by
  intro v hv
  simp only [T5.cells, List.mem_cons, List.not_mem_nil, or_false] at hv
  rcases hv with rfl | rfl | rfl | rfl | rfl <;> rfl
theorem below_grown {G : Nat} {w w' : World} {x : Obj} {v : Value} {e size n : Nat} {xs : List Value} (hown : (w.alloc x).ownsRow G e size v n xs) (hg : (w.alloc x).grownBy w' v.ownBlock) (hG : G ≤ w.heap.size) : Below G w w' :=
  (((Below.refl G w).alloc hG x).grown hg (by simp; omega) (fun k hk => (hown.lt k hk).1))
theorem Env.low {G : Nat} {w w' : World} (h : Env w) (hG : ∀ b, b < 2 → b < G) (hb : Below G w w') : Env w' := by
  obtain ⟨⟨m, hm⟩, hs⟩ := h
  exact ⟨⟨m, by rw [hb.cell (p := ⟨1, 0, none⟩) (hG 1 (by omega))]; exact hm⟩, fun j v hv => by rw [hb.cell (p := ⟨0, 0 + j, none⟩) (hG 0 (by omega))]; exact hs j v hv⟩
theorem Env.lt {w : World} (h : Env w) : ∀ b, b < 2 → b < w.heap.size := by
  obtain ⟨⟨m, hm⟩, _⟩ := h
  have := lt_cell hm
  omega

set_option maxHeartbeats 4000000 in
theorem scan_any (a : Option Addr) (cap : Nat) (l : Bytes) (hl : l.length ≤ 65536) (w : World) (he : Env w) (hconv : (convert 22 9 (.slice a l.length cap)).run Tryd.prog w = .ok (.string (bs l)) w) : Calls Tryd.prog 5 #[.slice a l.length cap] w (Told w (scanS l)) := by
  have d1 : decide (65536 < l.length) = false := by simpa using hl
  have d2 : decide ((65536 : Int) < (l.length : Int)) = false := by rw [decide_eq_false_iff_not]; omega
  have hst := start_any l 0 (by omega) (by omega)
  have hsl := startS_le l
  rw [show 0 + startS (l.drop 0) = startS l by simp] at hst
  obtain ⟨k0, hk0⟩ : ∃ k, startS l = k := ⟨_, rfl⟩
  obtain ⟨R, hR⟩ : ∃ R, scanS l = R := ⟨_, rfl⟩
  have HR : Hid (scanK (l.length + 1) l k0 [] = R) := Lib.hid (by rw [← hR]; unfold scanS; rw [hk0])
  rw [hk0] at hst hsl
  rw [hR]
  clear hk0 hR
  obtain ⟨i0, hi0, hz0, hz1, hz2⟩ := info_parts info_tok
  have hG2 := he.lt
  go_enter Tryd.func5, Tryd.ntmps5
  go_wp2_with fail
  refine (hst _).mono ?_
  rintro e1 w1 ⟨rfl, rfl⟩
  go_wp2
  clear hst hconv
  go_loopg [6, 7] (l.length + 1) (fun g v u wr => ∃ (k : Nat) (acc : List T5), u = .int .i64 k ∧ k ≤ l.length ∧ l.length - k < g ∧ scanK g l k acc = R ∧ acc.length ≤ k ∧ wr.ownsRow w.heap.size 32 5 v acc.length (allCells acc) ∧ (acc = [] → v = .slice none 0 0) ∧ Below w.heap.size w wr)
  case atStart => exact ⟨k0, [], rfl, hsl, by omega, HR.out, Nat.zero_le _, ⟨rfl, .inl ⟨rfl, rfl⟩⟩, fun _ => rfl, Below.refl _ _⟩
  case round =>
    obtain ⟨k, acc, rfl, hk, hkg, hscan, hacl, hown, hnil, hb0⟩ := hrel
    have hew : Env wr := he.keep hb0
    have HE := Lib.hid he
    have HSC := Lib.hid hscan
    have HNI := Lib.hid hnil
    clear he hscan hnil
    cases gk with
    | zero => omega
    | succ gg =>
      by_cases hlt : k < l.length
      · have dc : l.drop k = l[k] :: l.drop (k + 1) := (List.getElem_cons_drop hlt).symm
        have e3 : List.take (l.length - k) (List.drop k l) = List.drop k l := take_drop_all l k
        have htok : ∀ w, Env w → Calls Tryd.prog 12 #[.string (bs (List.drop k l))] w fun e w' => e = .returned (tokenS (List.drop k l)).val ∧ Below w.heap.size w w' := fun w h => by
          rw [dc]; exact token_any l[k] _ (by simp; omega) w h
        have hts := fun h => token_size (l := l.drop k) (by simp; omega) h
        have HB := fun h => scanK_bad (f := gg) (acc := acc) hlt h
        have HO := fun h => scanK_on (f := gg) (acc := acc) hlt h
        obtain ⟨T, hT⟩ : ∃ T, tokenS (l.drop k) = T := ⟨_, rfl⟩
        rw [hT] at htok hts HB HO
        clear hT dc
        by_cases herr : T.err = 0
        · have hs1 := hts herr
          rw [List.length_drop] at hs1
          obtain ⟨hs1, hs2⟩ := hs1
          have HN : Hid (scanK gg l (k + T.size + startS (l.drop (k + T.size))) (acc ++ [T.put k]) = R) := Lib.hid (by rw [← HO herr]; exact HSC.out)
          have hst := start_any l (k + T.size) (by omega) (by omega)
          have hsl2 := startS_le (l.drop (k + T.size))
          rw [List.length_drop] at hsl2
          obtain ⟨k2, hk2⟩ : ∃ k2, k + T.size + startS (l.drop (k + T.size)) = k2 := ⟨_, rfl⟩
          rw [hk2] at hst HN
          have hk2a : k < k2 := by omega
          have hk2b : k2 ≤ l.length := by omega
          clear hk2 hsl2 hts HB HO
          have ee : (T.err != 0) = false := by rw [herr]; rfl
          have hcast : IntKind.i64.wrap ((k : Int) + (T.size : Int)) = ((k + T.size : Nat) : Int) := by rw [show ((k : Int) + (T.size : Int)) = ((k + T.size : Nat) : Int) by omega]; exact IntWalk.i64_in _ (by omega)
          obtain ⟨tk, ts, tW, tV, tz, te⟩ := T
          simp only at herr hs1 hs2 ee hcast hst HN htok
          subst herr
          unfold Tk.val at htok
          simp only at htok
          have HO5 := Lib.hid (allCells_snoc acc (Tk.put ⟨tk, ts, tW, tV, tz, 0⟩ k))
          go_wp2_with fail
          refine (htok _ hew).mono ?_
          rintro e2 w2 ⟨rfl, hb2⟩
          have hown2 := own_below hown hb2
          have hz2' := hb2.size
          have hzz := hb0.size
          have hew2 := hew.keep hb2
          have hb3 := hb0.trans (hb2.mono hb0.size)
          clear hown hew hb2
          have hst2 : ∀ w, Calls Tryd.prog 11 #[.string (bs l), .int .i64 ((k : Int) + (tz : Int))] w fun e w' => e = .returned (.int .i64 (k2 : Int)) ∧ w = w' := hst
          clear hst
          go_upto_region 11 with (fail)
          have hown3 := hown2.alloc (.cells #[.int .i64 tk, .string (bs ts), .int .i64 (tW : Int), .int .u64 (tV : Int), .int .i64 (k : Int)] 32)
          have hew3 := hew2.alloc (.cells #[.int .i64 tk, .string (bs ts), .int .i64 (tW : Int), .int .u64 (tV : Int), .int .i64 (k : Int)] 32)
          have hb4 := hb3.alloc hb3.size (.cells #[.int .i64 tk, .string (bs ts), .int .i64 (tW : Int), .int .u64 (tV : Int), .int .i64 (k : Int)] 32)
          have c0 : (w2.alloc (.cells #[.int .i64 tk, .string (bs ts), .int .i64 (tW : Int), .int .u64 (tV : Int), .int .i64 (k : Int)] 32)).cell? ⟨w2.heap.size, 0, none⟩ = some (.int .i64 tk) := by simp
          have c1 : (w2.alloc (.cells #[.int .i64 tk, .string (bs ts), .int .i64 (tW : Int), .int .u64 (tV : Int), .int .i64 (k : Int)] 32)).cell? ⟨w2.heap.size, 1, none⟩ = some (.string (bs ts)) := by simp
          have c2 : (w2.alloc (.cells #[.int .i64 tk, .string (bs ts), .int .i64 (tW : Int), .int .u64 (tV : Int), .int .i64 (k : Int)] 32)).cell? ⟨w2.heap.size, 2, none⟩ = some (.int .i64 (tW : Int)) := by simp
          have c3 : (w2.alloc (.cells #[.int .i64 tk, .string (bs ts), .int .i64 (tW : Int), .int .u64 (tV : Int), .int .i64 (k : Int)] 32)).cell? ⟨w2.heap.size, 3, none⟩ = some (.int .u64 (tV : Int)) := by simp
          have c4 : (w2.alloc (.cells #[.int .i64 tk, .string (bs ts), .int .i64 (tW : Int), .int .u64 (tV : Int), .int .i64 (k : Int)] 32)).cell? ⟨w2.heap.size, 4, none⟩ = some (.int .i64 (k : Int)) := by simp
          clear hown2 hew2 hb3
          generalize w2.alloc (.cells #[.int .i64 tk, .string (bs ts), .int .i64 (tW : Int), .int .u64 (tV : Int), .int .i64 (k : Int)] 32) = w3 at *
          generalize w2.heap.size = gt at *
          have hz4 := hb4.size
          go_upto_region 12 with (at_builtin; refine wpList_append_own _ rfl (.tmp 36) (.tmp 38) 24 rfl w.heap.size 32 i0 (.agg #[.int .i64 0, .string ⟨#[]⟩, .int .i64 0, .int .u64 0, .int .i64 0]) 5 48 Tryd.underlying24 hi0 hz0 hz1 hz2 rfl (by decide) _ acc.length (allCells acc) rfl (hown3.alloc _) ⟨w3.heap.size, 0, none⟩ 1 1 [.int .i64 tk, .string (bs ts), .int .i64 (tW : Int), .int .u64 (tV : Int), .int .i64 (k : Int)] rfl rfl (news5 w3 _ _ _ _ _ 32) (ones5 ⟨tk, ts, tW, tV, k⟩) (by simp only [maxLen]; omega) (by omega) (by simp; omega) ?_; intro v4 w4 hown4 hg4 _)
          have bel := below_grown (hown3.alloc _) hg4 hb4.size
          have hew4 := hew3.low hG2 bel
          have hb5 := hb4.trans bel
          have own5 : w4.ownsRow w.heap.size 32 5 v4 (acc ++ [Tk.put ⟨tk, ts, tW, tV, tz, 0⟩ k]).length (allCells (acc ++ [Tk.put ⟨tk, ts, tW, tV, tz, 0⟩ k])) := by
            rw [HO5.out, List.length_append]; exact hown4
          clear hown3 hown4 hg4 bel hb4 hew3 c0 c1 c2 c3 c4
          go_wp2_with fail
          refine (hst2 _).mono ?_
          rintro e5 w5 ⟨rfl, rfl⟩
          go_wp2
          go_roundg gg
          case rel => exact ⟨k2, acc ++ [Tk.put ⟨tk, ts, tW, tV, tz, 0⟩ k], rfl, hk2b, by omega, HN.out, by simp; omega, own5, fun h => absurd h (by simp), hb5⟩
          case measure => omega
        · have HRR : Hid (R = ([], k, T.err)) := Lib.hid (by rw [← HSC.out]; exact HB herr)
          have ee : (T.err != 0) = true := by rw [bne_iff_ne]; exact herr
          clear hts HB HO hown
          obtain ⟨tk, ts, tW, tV, tz, te⟩ := T
          simp only at herr ee htok
          unfold Tk.val at htok
          simp only at htok
          go_wp2_with fail
          refine (htok _ hew).mono ?_
          rintro e2 w2 ⟨rfl, hb2⟩
          have hb3 := hb0.trans (hb2.mono hb0.size)
          clear hb2
          go_wp2
          go_ret3
          rw [HRR.out]
          exact ⟨_, rfl, ⟨rfl, .inl ⟨rfl, rfl⟩⟩, fun _ => rfl, hb3.alloc hb3.size _⟩
      · have HRR : Hid (R = (acc, 0, 0)) := Lib.hid (by rw [← HSC.out]; exact scanK_stop hlt)
        have hkl : k = l.length := by omega
        have dlt : decide ((k : Int) < (l.length : Int)) = false := by rw [decide_eq_false_iff_not]; omega
        have dlt2 : decide (k < l.length) = false := by rw [decide_eq_false_iff_not]; omega
        clear hkl
        go_wp2
        go_ret3
        rw [HRR.out]
        exact ⟨_, rfl, hown, HNI.out, hb0⟩
end Go.Proofs.YtigdegjhajdmhaaDoor
