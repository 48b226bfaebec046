/-
  Contracts: numbers to the base 16, written.
-/
import Derived.Test.YtigdegjhajdmhaaDoorScTz
import Derived.Test.YtigdegjhajdmhaaDoorScV
import Derived.Deep.LoopGhost
import Derived.OwnWalk
namespace Go.Proofs.YtigdegjhajdmhaaDoor
open Go Go.RowKit
set_option linter.unusedVariables false
open Go.Sort

/-- A digit to the base 16. -/
def hxc (d : Nat) : UInt8 := if d < 10 then UInt8.ofNat (48 + d) else UInt8.ofNat (87 + d)
def hexF : Nat → Nat → Bytes
  | 0, _ => []
  | f + 1, u => if u < 16 then [hxc u] else hexF f (u / 16) ++ [hxc (u % 16)]
def hexD (u : Nat) : Bytes := hexF 16 u
theorem and15 (v : Nat) (hv : v < 18446744073709551616) : bits .and .u64 (v : Int) 15 = ((v % 16 : Nat) : Int) := by
  rw [show (15 : Int) = ((15 : Nat) : Int) from rfl, u64_and_nat _ _ hv (by omega)]
  congr 1
  exact Nat.and_two_pow_sub_one_eq_mod v 4
theorem dig0 (w : World) : (Instr.index 9 (.string { data := #[48, 49, 50, 51, 52, 53, 54, 55, 56, 57, 97, 98, 99, 100, 101, 102, 103, 104, 105, 106, 107, 108, 109, 110, 111, 112, 113, 114, 115, 116, 117, 118, 119, 120, 121, 122] }) (.int .u64 ((0 : Nat) : Int))).run Tryd.prog w = .ok (.int .u8 ((hxc 0).toNat : Int)) w := by kernel_rfl
theorem dig1 (w : World) : (Instr.index 9 (.string { data := #[48, 49, 50, 51, 52, 53, 54, 55, 56, 57, 97, 98, 99, 100, 101, 102, 103, 104, 105, 106, 107, 108, 109, 110, 111, 112, 113, 114, 115, 116, 117, 118, 119, 120, 121, 122] }) (.int .u64 ((1 : Nat) : Int))).run Tryd.prog w = .ok (.int .u8 ((hxc 1).toNat : Int)) w := by kernel_rfl
theorem dig2 (w : World) : (Instr.index 9 (.string { data := #[48, 49, 50, 51, 52, 53, 54, 55, 56, 57, 97, 98, 99, 100, 101, 102, 103, 104, 105, 106, 107, 108, 109, 110, 111, 112, 113, 114, 115, 116, 117, 118, 119, 120, 121, 122] }) (.int .u64 ((2 : Nat) : Int))).run Tryd.prog w = .ok (.int .u8 ((hxc 2).toNat : Int)) w := by kernel_rfl
theorem dig3 (w : World) : (Instr.index 9 (.string { data := #[48, 49, 50, 51, 52, 53, 54, 55, 56, 57, 97, 98, 99, 100, 101, 102, 103, 104, 105, 106, 107, 108, 109, 110, 111, 112, 113, 114, 115, 116, 117, 118, 119, 120, 121, 122] }) (.int .u64 ((3 : Nat) : Int))).run Tryd.prog w = .ok (.int .u8 ((hxc 3).toNat : Int)) w := by kernel_rfl
theorem dig4 (w : World) : (Instr.index 9 (.string { data := #[48, 49, 50, 51, 52, 53, 54, 55, 56, 57, 97, 98, 99, 100, 101, 102, 103, 104, 105, 106, 107, 108, 109, 110, 111, 112, 113, 114, 115, 116, 117, 118, 119, 120, 121, 122] }) (.int .u64 ((4 : Nat) : Int))).run Tryd.prog w = .ok (.int .u8 ((hxc 4).toNat : Int)) w := by kernel_rfl
theorem dig5 (w : World) : (Instr.index 9 (.string { data := #[48, 49, 50, 51, 52, 53, 54, 55, 56, 57, 97, 98, 99, 100, 101, 102, 103, 104, 105, 106, 107, 108, 109, 110, 111, 112, 113, 114, 115, 116, 117, 118, 119, 120, 121, 122] }) (.int .u64 ((5 : Nat) : Int))).run Tryd.prog w = .ok (.int .u8 ((hxc 5).toNat : Int)) w := by kernel_rfl
theorem dig6 (w : World) : (Instr.index 9 (.string { data := #[48, 49, 50, 51, 52, 53, 54, 55, 56, 57, 97, 98, 99, 100, 101, 102, 103, 104, 105, 106, 107, 108, 109, 110, 111, 112, 113, 114, 115, 116, 117, 118, 119, 120, 121, 122] }) (.int .u64 ((6 : Nat) : Int))).run Tryd.prog w = .ok (.int .u8 ((hxc 6).toNat : Int)) w := by kernel_rfl
theorem dig7 (w : World) : (Instr.index 9 (.string { data := #[48, 49, 50, 51, 52, 53, 54, 55, 56, 57, 97, 98, 99, 100, 101, 102, 103, 104, 105, 106, 107, 108, 109, 110, 111, 112, 113, 114, 115, 116, 117, 118, 119, 120, 121, 122] }) (.int .u64 ((7 : Nat) : Int))).run Tryd.prog w = .ok (.int .u8 ((hxc 7).toNat : Int)) w := by kernel_rfl
theorem dig8 (w : World) : (Instr.index 9 (.string { data := #[48, 49, 50, 51, 52, 53, 54, 55, 56, 57, 97, 98, 99, 100, 101, 102, 103, 104, 105, 106, 107, 108, 109, 110, 111, 112, 113, 114, 115, 116, 117, 118, 119, 120, 121, 122] }) (.int .u64 ((8 : Nat) : Int))).run Tryd.prog w = .ok (.int .u8 ((hxc 8).toNat : Int)) w := by kernel_rfl
theorem dig9 (w : World) : (Instr.index 9 (.string { data := #[48, 49, 50, 51, 52, 53, 54, 55, 56, 57, 97, 98, 99, 100, 101, 102, 103, 104, 105, 106, 107, 108, 109, 110, 111, 112, 113, 114, 115, 116, 117, 118, 119, 120, 121, 122] }) (.int .u64 ((9 : Nat) : Int))).run Tryd.prog w = .ok (.int .u8 ((hxc 9).toNat : Int)) w := by kernel_rfl
theorem dig10 (w : World) : (Instr.index 9 (.string { data := #[48, 49, 50, 51, 52, 53, 54, 55, 56, 57, 97, 98, 99, 100, 101, 102, 103, 104, 105, 106, 107, 108, 109, 110, 111, 112, 113, 114, 115, 116, 117, 118, 119, 120, 121, 122] }) (.int .u64 ((10 : Nat) : Int))).run Tryd.prog w = .ok (.int .u8 ((hxc 10).toNat : Int)) w := by kernel_rfl
theorem dig11 (w : World) : (Instr.index 9 (.string { data := #[48, 49, 50, 51, 52, 53, 54, 55, 56, 57, 97, 98, 99, 100, 101, 102, 103, 104, 105, 106, 107, 108, 109, 110, 111, 112, 113, 114, 115, 116, 117, 118, 119, 120, 121, 122] }) (.int .u64 ((11 : Nat) : Int))).run Tryd.prog w = .ok (.int .u8 ((hxc 11).toNat : Int)) w := by kernel_rfl
theorem dig12 (w : World) : (Instr.index 9 (.string { data := #[48, 49, 50, 51, 52, 53, 54, 55, 56, 57, 97, 98, 99, 100, 101, 102, 103, 104, 105, 106, 107, 108, 109, 110, 111, 112, 113, 114, 115, 116, 117, 118, 119, 120, 121, 122] }) (.int .u64 ((12 : Nat) : Int))).run Tryd.prog w = .ok (.int .u8 ((hxc 12).toNat : Int)) w := by kernel_rfl
theorem dig13 (w : World) : (Instr.index 9 (.string { data := #[48, 49, 50, 51, 52, 53, 54, 55, 56, 57, 97, 98, 99, 100, 101, 102, 103, 104, 105, 106, 107, 108, 109, 110, 111, 112, 113, 114, 115, 116, 117, 118, 119, 120, 121, 122] }) (.int .u64 ((13 : Nat) : Int))).run Tryd.prog w = .ok (.int .u8 ((hxc 13).toNat : Int)) w := by kernel_rfl
theorem dig14 (w : World) : (Instr.index 9 (.string { data := #[48, 49, 50, 51, 52, 53, 54, 55, 56, 57, 97, 98, 99, 100, 101, 102, 103, 104, 105, 106, 107, 108, 109, 110, 111, 112, 113, 114, 115, 116, 117, 118, 119, 120, 121, 122] }) (.int .u64 ((14 : Nat) : Int))).run Tryd.prog w = .ok (.int .u8 ((hxc 14).toNat : Int)) w := by kernel_rfl
theorem dig15 (w : World) : (Instr.index 9 (.string { data := #[48, 49, 50, 51, 52, 53, 54, 55, 56, 57, 97, 98, 99, 100, 101, 102, 103, 104, 105, 106, 107, 108, 109, 110, 111, 112, 113, 114, 115, 116, 117, 118, 119, 120, 121, 122] }) (.int .u64 ((15 : Nat) : Int))).run Tryd.prog w = .ok (.int .u8 ((hxc 15).toNat : Int)) w := by kernel_rfl
theorem dig (k : Nat) (hk : k < 16) (w : World) : (Instr.index 9 (.string { data := #[48, 49, 50, 51, 52, 53, 54, 55, 56, 57, 97, 98, 99, 100, 101, 102, 103, 104, 105, 106, 107, 108, 109, 110, 111, 112, 113, 114, 115, 116, 117, 118, 119, 120, 121, 122] }) (.int .u64 (k : Int))).run Tryd.prog w = .ok (.int .u8 ((hxc k).toNat : Int)) w := by
  have : k = 0 ∨ k = 1 ∨ k = 2 ∨ k = 3 ∨ k = 4 ∨ k = 5 ∨ k = 6 ∨ k = 7 ∨ k = 8 ∨ k = 9 ∨ k = 10 ∨ k = 11 ∨ k = 12 ∨ k = 13 ∨ k = 14 ∨ k = 15 := by omega
  rcases this with rfl | rfl | rfl | rfl | rfl | rfl | rfl | rfl | rfl | rfl | rfl | rfl | rfl | rfl | rfl | rfl
  · exact dig0 w
  · exact dig1 w
  · exact dig2 w
  · exact dig3 w
  · exact dig4 w
  · exact dig5 w
  · exact dig6 w
  · exact dig7 w
  · exact dig8 w
  · exact dig9 w
  · exact dig10 w
  · exact dig11 w
  · exact dig12 w
  · exact dig13 w
  · exact dig14 w
  · exact dig15 w

/-- The buffer that digits are laid in, from the end. -/
def Buf (w : World) (g i : Nat) (t : Bytes) : Prop := ∃ (cur : Array Value) (ty : TypeId), w.heap[g]? = some (.cells cur ty (0, 0)) ∧ cur.size = 65 ∧ i + t.length = 65 ∧ ∀ j c, t[j]? = some c → cur[i + j]? = some (.int .u8 (c.toNat : Int))
theorem Buf.cell {w : World} {g i : Nat} {t : Bytes} (h : Buf w g i t) (k : Nat) (hk : k < 65) : ∃ x, w.cell? ⟨g, k, none⟩ = some x := by
  obtain ⟨cur, ty, h1, h2, _, _⟩ := h
  exact ⟨cur[k], by rw [cell_of_row w g k cur ty _ h1, Array.getElem?_eq_getElem (by omega)]⟩
theorem Buf.le {w : World} {g i : Nat} {t : Bytes} (h : Buf w g i t) : i + t.length = 65 := h.choose_spec.choose_spec.2.2.1
theorem Buf.free {w : World} {g i : Nat} {t : Bytes} (h : Buf w g i t) (k : Nat) : w.frozen? ⟨g, k, none⟩ = false := by
  obtain ⟨cur, ty, h1, _⟩ := h
  simp [World.frozen?, h1]
theorem Buf.store {w : World} {g i : Nat} {t : Bytes} (h : Buf w g (i + 1) t) (c : UInt8) : Buf (w.setCell ⟨g, i, none⟩ (.int .u8 (c.toNat : Int))) g i (c :: t) := by
  obtain ⟨cur, ty, h1, h2, h3, h4⟩ := h
  refine ⟨cur.setIfInBounds i (.int .u8 (c.toNat : Int)), ty, ?_, by simpa using h2, by simp only [List.length_cons]; omega, ?_⟩
  · simp [World.setCell, Array.getElem?_modify, h1]
  · intro j d hj
    cases j with
    | zero =>
      simp at hj; subst hj
      rw [Nat.add_zero, Array.getElem?_setIfInBounds_self_of_lt (by omega)]
    | succ j =>
      have := h4 j d (by simpa using hj)
      rw [Array.getElem?_setIfInBounds_ne (by omega), show i + (j + 1) = i + 1 + j by omega]
      exact this
theorem Buf.news {w : World} {g i : Nat} {t : Bytes} (h : Buf w g i t) (j : Nat) (v : Value) (hv : (Lib.byteCells t)[j]? = some v) : w.cell? ((⟨g, i, none⟩ : Addr).add j) = some v := by
  obtain ⟨cur, ty, h1, h2, h3, h4⟩ := h
  unfold Lib.byteCells at hv
  rw [List.getElem?_map, Option.map_eq_some_iff] at hv
  obtain ⟨c, hc, rfl⟩ := hv
  rw [Addr.add_mid, cell_of_row w g (i + j) cur ty _ h1]
  exact h4 j c hc
theorem byte_ones (t : Bytes) : ∀ v ∈ Lib.byteCells t, v.oneCell' = true := by
  intro v hv
  unfold Lib.byteCells at hv
  rw [List.mem_map] at hv
  obtain ⟨c, _, rfl⟩ := hv
  rfl
theorem info_u8 : (Tryd.prog.info? 5).map (fun i => (i.zero, i.size, i.bytes)) = some (some (.int .u8 0), 1, 1) := by kernel_rfl
set_option maxHeartbeats 4000000 in
set_option maxRecDepth 100000 in
theorem fb16 (B n u0 : Nat) (hu : u0 < 18446744073709551616) (sv : Value) (xs : List Value) (w : World) (hown : w.ownsRow B 5 1 sv n xs) (hBw : B ≤ w.heap.size) (hlim : n ≤ 1000000) (ht : w.cell? ⟨4, 15, none⟩ = some (.int .u8 4)) :
    Calls Tryd.prog 64 #[sv, .int .u64 (u0 : Int), .int .i64 16, .bool false, .bool true] w fun e w' => ∃ v', e = .returned (.tuple #[v', .string ⟨#[]⟩]) ∧ w'.ownsRow B 5 1 v' (n + (hexD u0).length) (xs ++ Lib.byteCells (hexD u0)) ∧ Below B w w' := by
  obtain ⟨i0, hi0, hz0, hz1, hz2⟩ := info_parts info_u8
  obtain ⟨MM, hMM⟩ : ∃ m : Nat, m = 18446744073709551616 := ⟨_, rfl⟩
  rw [← hMM] at hu
  have HMM := Lib.hid hMM
  have h16 : MM = 16 ^ 16 := by rw [hMM]
  have H16 := Lib.hid h16
  clear hMM h16
  go_enter Tryd.func64, Tryd.ntmps64
  go_wp2_with fail
  refine (isPow _).mono ?_
  rintro e1 w1 ⟨rfl, rfl⟩
  have hbuf : Buf (w.alloc (Obj.cells Tryd.zeroCells85 85)) w.heap.size 65 [] := ⟨_, _, heap_alloc_new w _, by kernel_rfl, rfl, fun j c hc => by simp at hc⟩
  have hb1 : Below w.heap.size w (w.alloc (Obj.cells Tryd.zeroCells85 85)) := (Below.refl _ _).alloc (Nat.le_refl _) _
  have ht1 := alloc_cell ht (Obj.cells Tryd.zeroCells85 85)
  generalize w.alloc (Obj.cells Tryd.zeroCells85 85) = w1 at *
  go_wp2_with fail
  refine (tz _ ht1).mono ?_
  rintro e2 w2 ⟨rfl, rfl⟩
  clear ht ht1
  go_wp2_with fail
  go_loopg [1, 13] 15 (fun g u i wr => ∃ (v k : Nat) (t : Bytes), u = .int .u64 v ∧ i = .int .i64 k ∧ k = 50 + g ∧ hexF (g + 1) v ++ t = hexD u0 ∧ v < 16 ^ (g + 1) ∧ v < MM ∧ Buf wr w.heap.size k t ∧ Below w.heap.size w wr)
  case atStart => exact ⟨u0, 65, [], rfl, rfl, rfl, by simp [hexD], by rw [← H16.out]; exact hu, hu, hbuf, hb1⟩
  case round =>
    obtain ⟨v, k, t, rfl, rfl, hk, hx, hv1, hvM, hbf, hb0⟩ := hrel
    have HX := Lib.hid hx
    have HV1 := Lib.hid hv1
    have a15 := and15 v (by rw [← HMM.out]; exact hvM)
    have HVM := Lib.hid hvM
    clear hx hv1 hvM
    obtain ⟨kk, rfl⟩ : ∃ kk, k = kk + 1 := ⟨k - 1, by omega⟩
    have HK := Lib.hid hk
    clear hk
    have hle := hbf.le
    have kk64 : kk < 65 := by omega
    have hle' : kk + 1 + t.length = 65 := hle
    clear hle
    obtain ⟨x, hx⟩ := hbf.cell kk kk64
    have hfr := hbf.free kk
    have kk1 : ((kk + 1 : Nat) : Int) - 1 = (kk : Int) := by omega
    have kk2 : (0 : Int) ≤ (kk : Int) := by omega
    have kk3 : (kk : Int) < 65 := by omega
    have kk4 : (kk : Int) ≤ 65 := by omega
    by_cases hv16 : 16 ≤ v
    · have d16 : decide ((16 : Int) ≤ (v : Int)) = true := by rw [decide_eq_true_eq]; omega
      have d16b : decide (16 ≤ v) = true := by simpa using hv16
      obtain ⟨d, hd⟩ : ∃ d, d = v % 16 := ⟨_, rfl⟩
      have hix := dig d (by omega)
      obtain ⟨q, hq⟩ : ∃ q, q = v / 16 := ⟨_, rfl⟩
      have hsh : (v : Int) / 16 = (q : Int) := by omega
      rw [← hd] at a15
      have HD := Lib.hid hd
      have HQ := Lib.hid hq
      clear hd hq
      cases gk with
      | zero => exfalso; have := HV1.out; omega
      | succ gg =>
        have hst := hbf.store (hxc d)
        have hb2 := hb0.setCell (p := ⟨w.heap.size, kk, none⟩) (Nat.le_refl _) (.int .u8 ((hxc d).toNat : Int))
        have n1 : kk = 50 + gg := by have := HK.out; omega
        have n2 : hexF (gg + 1) q ++ (hxc d :: t) = hexD u0 := by
          rw [← HX.out, hexF.eq_2 v, if_neg (by omega), HQ.out, HD.out, List.append_assoc]
          rfl
        have n3 : q < 16 ^ (gg + 1) := by
          rw [HQ.out]
          have := HV1.out
          rw [Nat.pow_succ] at this
          omega
        have n4 : q < MM := by have := HVM.out; have := HQ.out; omega
        have N1 := Lib.hid n1
        have N2 := Lib.hid n2
        have N3 := Lib.hid n3
        have N4 := Lib.hid n4
        clear n1 n2 n3 n4
        go_wp2
        go_roundg gg
        case measure => omega
        exact ⟨q, kk, hxc d :: t, rfl, rfl, N1.out, N2.out, N3.out, N4.out, hst, hb2⟩
    · have d16 : decide ((16 : Int) ≤ (v : Int)) = false := by rw [decide_eq_false_iff_not]; omega
      have d16b : decide (16 ≤ v) = false := by simpa using hv16
      have hix := dig v (by omega)
      have hst := hbf.store (hxc v)
      have hb2 := hb0.setCell (p := ⟨w.heap.size, kk, none⟩) (Nat.le_refl _) (.int .u8 ((hxc v).toNat : Int))
      have own2 := own_below hown hb2
      have hnl : (Lib.byteCells (hxc v :: t)).length = (65 - kk) * 1 := by simp [Lib.byteCells]; omega
      have hl65 : n + (65 - kk) ≤ 1000065 := by omega
      go_wp2_with (at_builtin; go_loud (refine wpList_append_own _ rfl (.tmp 95) (.tmp 97) 22 rfl B 5 i0 (.int .u8 0) 1 1 Tryd.underlying22 hi0 hz0 hz1 hz2 rfl (by decide) sv n xs rfl own2 ⟨w.heap.size, kk, none⟩ (65 - kk) (65 - kk) (Lib.byteCells (hxc v :: t)) rfl hnl hst.news (byte_ones _) (by simp only [maxLen]; omega) (by omega) (Nat.le_trans hBw hb2.size) ?_); intro v9 w9 own9 hg9 _)
      have e9 : hxc v :: t = hexD u0 := by
        rw [← HX.out, hexF.eq_2 v, if_pos (by omega)]
        rfl
      go_ret2
      refine ⟨v9, rfl, ?_, ?_⟩
      · rw [← e9, List.length_cons, show t.length + 1 = 65 - kk by omega]
        exact own9
      · exact (hb2.mono hBw).grown hg9 (Nat.le_trans hBw hb2.size) (fun k hk => (hown.lt k hk).1)
end Go.Proofs.YtigdegjhajdmhaaDoor
