/-
  is: what the laws ask of two numbers.
-/
import Derived.Test.YtlhcnbgllgodoaaDoorKsL
namespace Go.Proofs.YtlhcnbgllgodoaaDoor
open Go Go.RowKit
set_option linter.unusedVariables false
set_option linter.unusedSimpArgs false
open Go.Sort

/-- A number, or too great. -/
def IsN (e : Int × Int) (n : Int) : Prop := (0 ≤ n ∧ n ≤ 2147483647 ∧ e = (n, 0)) ∨ ((n < 0 ∨ 2147483647 < n) ∧ e = (0, 62))
theorem isN_const (v : Int) : IsN (kConst v) v := by
  unfold IsN kConst kMay
  by_cases h1 : 0 ≤ v
  · by_cases h2 : v ≤ 2147483647
    · left; simp [h1, h2]
    · right; simp [h2]; omega
  · right; simp [h1]; omega
set_option maxHeartbeats 4000000 in
set_option maxRecDepth 100000 in
theorem is_any (x : XT) (hbk : x.bk ≤ 1500000) (hwf : x.Wf) (n : Int) (hs : IsN (evalK [] x) n) (n0 : Nat) (w : World) (hn0 : n0 ≤ w.heap.size) (he : EnvA w) (hx : x.In n0 w) : Calls Tryd.prog 23 #[x.val, .int .i64 n] w fun e w' => e = .returned (.bool true) ∧ Below w.heap.size w w' := by
  have HE := fun (W : World) (h1 : n0 ≤ W.heap.size) (h2 : EnvA W) (h3 : x.In n0 W) => eval_any x hbk hwf [] (by decide) none 0 n0 W h1 h2 h3 trivial
  simp only [List.length_nil] at HE
  obtain ⟨⟨r, q⟩, hR⟩ : ∃ p, evalK [] x = p := ⟨_, rfl⟩
  rw [hR] at HE hs
  clear hR hbk hwf
  have hx0 := hx
  obtain ⟨op, nm, xn, wd, v, xa, xc, xl⟩ := x
  simp only [XT.val, XT.cells] at HE ⊢
  have H1 := Lib.hid HE
  have HS := Lib.hid hs
  clear HE hx hs
  go_enter Tryd.func23, Tryd.ntmps23
  go_upto_region 1 with (fail)
  have BX : (w.alloc (.cells #[.int .i64 op, .string (bs nm), .int .i64 xn, .int .i64 wd, .int .u64 (v : Int), .slice xa xl.length xc] 25)).heap[w.heap.size]? = some (.cells #[.int .i64 op, .string (bs nm), .int .i64 xn, .int .i64 wd, .int .u64 (v : Int), .slice xa xl.length xc] 25) := World.alloc_heap_new w _
  have hB2 : Below w.heap.size w (w.alloc (.cells #[.int .i64 op, .string (bs nm), .int .i64 xn, .int .i64 wd, .int .u64 (v : Int), .slice xa xl.length xc] 25)) := (Below.refl _ _).alloc (Nat.le_refl _) _
  have hi2 := XT.In.keep (Below.keptTo hB2 hn0) _ hx0
  replace he := he.keep hB2
  clear hx0
  generalize w.alloc (.cells #[.int .i64 op, .string (bs nm), .int .i64 xn, .int .i64 wd, .int .u64 (v : Int), .slice xa xl.length xc] 25) = w1 at *
  have hn1 : n0 ≤ w1.heap.size := by have := hB2.size; omega
  obtain ⟨x0, x1, x2, x3, x4, x5⟩ := open6 BX
  go_wp2_with fail
  refine (H1.out _ hn1 he hi2).mono ?_
  rintro e w2 ⟨rfl, hb⟩
  clear H1 x0 x1 x2 x3 x4 x5 hi2 BX
  replace hB2 := hB2.trans (hb.mono hB2.size)
  clear hb
  rcases HS.out with ⟨h1, h2, h3⟩ | ⟨h1 | h1, h3⟩
  · obtain ⟨rfl, rfl⟩ := Prod.mk.inj h3
    clear h3 HS
    have h5 : ¬ (r < 0) := by omega
    have h6 : ¬ (2147483647 < r) := by omega
    go_wp2
    go_ret
    exact ⟨rfl, hB2⟩
  · obtain ⟨rfl, rfl⟩ := Prod.mk.inj h3
    clear h3 HS
    go_wp2
    go_ret
    exact ⟨rfl, hB2⟩
  · obtain ⟨rfl, rfl⟩ := Prod.mk.inj h3
    clear h3 HS
    have h5 : ¬ (n < 0) := by omega
    go_wp2
    go_ret
    exact ⟨rfl, hB2⟩
theorem ev_two (l : List NT) (op : Int) (ho : 14 ≤ op ∧ op ≤ 26) (g a b : Nat) (ha : a ≤ 2147483647) (hb : b ≤ 2147483647) (hc : checkX (binT op g (numT a) (numT b)) = 0) : evalK l (binT op g (numT a) (numT b)) = kConst (kTwo op a b) := by
  have e : ∀ v : Nat, v ≤ 2147483647 → evX l (numT v) = ((v : Int), 0) := by
    intro v hv
    rw [numT, evX_mk]
    simp [kNode, kNum, hv]
  unfold evalK
  rw [if_pos hc, binT, evX_mk]
  simp [kNode, kPair, ho.1, ho.2, e a ha, e b hb]

theorem ck14 (g a b : Nat) : checkX (binT 14 g (numT a) (numT b)) = 0 := by rfl
theorem is14 (g a b : Nat) (ha : a ≤ 2147483647) (hb : b ≤ 2147483647) (W : World) (he : EnvA W) (hi : (binT 14 g (numT a) (numT b)).In W.heap.size W) : Calls Tryd.prog 23 #[.agg #[.int .i64 6, .string ⟨#[]⟩, .int .i64 14, .int .i64 0, .int .u64 0, .slice (some ⟨g, 0, none⟩) 2 2], .int .i64 ((a : Int) + b)] W fun e w' => e = .returned (.bool true) ∧ Below W.heap.size W w' := by
  have h := is_any (binT 14 g (numT a) (numT b)) (by simp [binT, numT, XT.bk, XT.bkL]) (binT_wf _ _ (numT_wf _ (by omega)) (numT_wf _ (by omega))) (kTwo 14 a b) (by rw [ev_two [] 14 (by decide) g a b ha hb (ck14 g a b)]; exact isN_const _) W.heap.size W (Nat.le_refl _) he hi
  have e : kTwo 14 (a : Int) (b : Int) = (a : Int) + b := by simp [kTwo]
  rw [e] at h
  exact h

theorem ck15 (g a b : Nat) : checkX (binT 15 g (numT a) (numT b)) = 0 := by rfl
theorem is15 (g a b : Nat) (ha : a ≤ 2147483647) (hb : b ≤ 2147483647) (W : World) (he : EnvA W) (hi : (binT 15 g (numT a) (numT b)).In W.heap.size W) : Calls Tryd.prog 23 #[.agg #[.int .i64 6, .string ⟨#[]⟩, .int .i64 15, .int .i64 0, .int .u64 0, .slice (some ⟨g, 0, none⟩) 2 2], .int .i64 ((a : Int) - b)] W fun e w' => e = .returned (.bool true) ∧ Below W.heap.size W w' := by
  have h := is_any (binT 15 g (numT a) (numT b)) (by simp [binT, numT, XT.bk, XT.bkL]) (binT_wf _ _ (numT_wf _ (by omega)) (numT_wf _ (by omega))) (kTwo 15 a b) (by rw [ev_two [] 15 (by decide) g a b ha hb (ck15 g a b)]; exact isN_const _) W.heap.size W (Nat.le_refl _) he hi
  have e : kTwo 15 (a : Int) (b : Int) = (a : Int) - b := by simp [kTwo]
  rw [e] at h
  exact h

theorem ck16 (g a b : Nat) : checkX (binT 16 g (numT a) (numT b)) = 0 := by rfl
theorem is16 (g a b : Nat) (ha : a ≤ 2147483647) (hb : b ≤ 2147483647) (W : World) (he : EnvA W) (hi : (binT 16 g (numT a) (numT b)).In W.heap.size W) : Calls Tryd.prog 23 #[.agg #[.int .i64 6, .string ⟨#[]⟩, .int .i64 16, .int .i64 0, .int .u64 0, .slice (some ⟨g, 0, none⟩) 2 2], .int .i64 ((a : Int) * b)] W fun e w' => e = .returned (.bool true) ∧ Below W.heap.size W w' := by
  have h := is_any (binT 16 g (numT a) (numT b)) (by simp [binT, numT, XT.bk, XT.bkL]) (binT_wf _ _ (numT_wf _ (by omega)) (numT_wf _ (by omega))) (kTwo 16 a b) (by rw [ev_two [] 16 (by decide) g a b ha hb (ck16 g a b)]; exact isN_const _) W.heap.size W (Nat.le_refl _) he hi
  have e : kTwo 16 (a : Int) (b : Int) = (a : Int) * b := by simp [kTwo]
  rw [e] at h
  exact h

theorem ck17 (g a b : Nat) : checkX (binT 17 g (numT a) (numT b)) = 0 := by rfl
theorem is17 (g a b : Nat) (ha : a ≤ 2147483647) (hb : b ≤ 2147483647) (W : World) (he : EnvA W) (hi : (binT 17 g (numT a) (numT b)).In W.heap.size W) : Calls Tryd.prog 23 #[.agg #[.int .i64 6, .string ⟨#[]⟩, .int .i64 17, .int .i64 0, .int .u64 0, .slice (some ⟨g, 0, none⟩) 2 2], .int .i64 ((a : Int) * 2 ^ (min (b : Int) 31).toNat)] W fun e w' => e = .returned (.bool true) ∧ Below W.heap.size W w' := by
  have h := is_any (binT 17 g (numT a) (numT b)) (by simp [binT, numT, XT.bk, XT.bkL]) (binT_wf _ _ (numT_wf _ (by omega)) (numT_wf _ (by omega))) (kTwo 17 a b) (by rw [ev_two [] 17 (by decide) g a b ha hb (ck17 g a b)]; exact isN_const _) W.heap.size W (Nat.le_refl _) he hi
  have e : kTwo 17 (a : Int) (b : Int) = (a : Int) * 2 ^ (min (b : Int) 31).toNat := by simp [kTwo]
  rw [e] at h
  exact h

theorem ck18 (g a b : Nat) : checkX (binT 18 g (numT a) (numT b)) = 0 := by rfl
theorem is18 (g a b : Nat) (ha : a ≤ 2147483647) (hb : b ≤ 2147483647) (W : World) (he : EnvA W) (hi : (binT 18 g (numT a) (numT b)).In W.heap.size W) : Calls Tryd.prog 23 #[.agg #[.int .i64 6, .string ⟨#[]⟩, .int .i64 18, .int .i64 0, .int .u64 0, .slice (some ⟨g, 0, none⟩) 2 2], .int .i64 ((a : Int) / 2 ^ b)] W fun e w' => e = .returned (.bool true) ∧ Below W.heap.size W w' := by
  have h := is_any (binT 18 g (numT a) (numT b)) (by simp [binT, numT, XT.bk, XT.bkL]) (binT_wf _ _ (numT_wf _ (by omega)) (numT_wf _ (by omega))) (kTwo 18 a b) (by rw [ev_two [] 18 (by decide) g a b ha hb (ck18 g a b)]; exact isN_const _) W.heap.size W (Nat.le_refl _) he hi
  have e : kTwo 18 (a : Int) (b : Int) = (a : Int) / 2 ^ b := by simp [kTwo]
  rw [e] at h
  exact h

theorem ck19 (g a b : Nat) : checkX (binT 19 g (numT a) (numT b)) = 0 := by rfl
theorem is19 (g a b : Nat) (ha : a ≤ 2147483647) (hb : b ≤ 2147483647) (W : World) (he : EnvA W) (hi : (binT 19 g (numT a) (numT b)).In W.heap.size W) : Calls Tryd.prog 23 #[.agg #[.int .i64 6, .string ⟨#[]⟩, .int .i64 19, .int .i64 0, .int .u64 0, .slice (some ⟨g, 0, none⟩) 2 2], .int .i64 (kTruth ((a : Int) == b))] W fun e w' => e = .returned (.bool true) ∧ Below W.heap.size W w' := by
  have h := is_any (binT 19 g (numT a) (numT b)) (by simp [binT, numT, XT.bk, XT.bkL]) (binT_wf _ _ (numT_wf _ (by omega)) (numT_wf _ (by omega))) (kTwo 19 a b) (by rw [ev_two [] 19 (by decide) g a b ha hb (ck19 g a b)]; exact isN_const _) W.heap.size W (Nat.le_refl _) he hi
  have e : kTwo 19 (a : Int) (b : Int) = kTruth ((a : Int) == b) := by simp [kTwo]
  rw [e] at h
  exact h

theorem ck20 (g a b : Nat) : checkX (binT 20 g (numT a) (numT b)) = 0 := by rfl
theorem is20 (g a b : Nat) (ha : a ≤ 2147483647) (hb : b ≤ 2147483647) (W : World) (he : EnvA W) (hi : (binT 20 g (numT a) (numT b)).In W.heap.size W) : Calls Tryd.prog 23 #[.agg #[.int .i64 6, .string ⟨#[]⟩, .int .i64 20, .int .i64 0, .int .u64 0, .slice (some ⟨g, 0, none⟩) 2 2], .int .i64 (kTruth ((a : Int) != b))] W fun e w' => e = .returned (.bool true) ∧ Below W.heap.size W w' := by
  have h := is_any (binT 20 g (numT a) (numT b)) (by simp [binT, numT, XT.bk, XT.bkL]) (binT_wf _ _ (numT_wf _ (by omega)) (numT_wf _ (by omega))) (kTwo 20 a b) (by rw [ev_two [] 20 (by decide) g a b ha hb (ck20 g a b)]; exact isN_const _) W.heap.size W (Nat.le_refl _) he hi
  have e : kTwo 20 (a : Int) (b : Int) = kTruth ((a : Int) != b) := by simp [kTwo]
  rw [e] at h
  exact h

theorem ck21 (g a b : Nat) : checkX (binT 21 g (numT a) (numT b)) = 0 := by rfl
theorem is21 (g a b : Nat) (ha : a ≤ 2147483647) (hb : b ≤ 2147483647) (W : World) (he : EnvA W) (hi : (binT 21 g (numT a) (numT b)).In W.heap.size W) : Calls Tryd.prog 23 #[.agg #[.int .i64 6, .string ⟨#[]⟩, .int .i64 21, .int .i64 0, .int .u64 0, .slice (some ⟨g, 0, none⟩) 2 2], .int .i64 (kTruth (decide ((a : Int) < b)))] W fun e w' => e = .returned (.bool true) ∧ Below W.heap.size W w' := by
  have h := is_any (binT 21 g (numT a) (numT b)) (by simp [binT, numT, XT.bk, XT.bkL]) (binT_wf _ _ (numT_wf _ (by omega)) (numT_wf _ (by omega))) (kTwo 21 a b) (by rw [ev_two [] 21 (by decide) g a b ha hb (ck21 g a b)]; exact isN_const _) W.heap.size W (Nat.le_refl _) he hi
  have e : kTwo 21 (a : Int) (b : Int) = kTruth (decide ((a : Int) < b)) := by simp [kTwo]
  rw [e] at h
  exact h

theorem ck22 (g a b : Nat) : checkX (binT 22 g (numT a) (numT b)) = 0 := by rfl
theorem is22 (g a b : Nat) (ha : a ≤ 2147483647) (hb : b ≤ 2147483647) (W : World) (he : EnvA W) (hi : (binT 22 g (numT a) (numT b)).In W.heap.size W) : Calls Tryd.prog 23 #[.agg #[.int .i64 6, .string ⟨#[]⟩, .int .i64 22, .int .i64 0, .int .u64 0, .slice (some ⟨g, 0, none⟩) 2 2], .int .i64 (kTruth (decide ((a : Int) ≤ b)))] W fun e w' => e = .returned (.bool true) ∧ Below W.heap.size W w' := by
  have h := is_any (binT 22 g (numT a) (numT b)) (by simp [binT, numT, XT.bk, XT.bkL]) (binT_wf _ _ (numT_wf _ (by omega)) (numT_wf _ (by omega))) (kTwo 22 a b) (by rw [ev_two [] 22 (by decide) g a b ha hb (ck22 g a b)]; exact isN_const _) W.heap.size W (Nat.le_refl _) he hi
  have e : kTwo 22 (a : Int) (b : Int) = kTruth (decide ((a : Int) ≤ b)) := by simp [kTwo]
  rw [e] at h
  exact h

theorem ck23 (g a b : Nat) : checkX (binT 23 g (numT a) (numT b)) = 0 := by rfl
theorem is23 (g a b : Nat) (ha : a ≤ 2147483647) (hb : b ≤ 2147483647) (W : World) (he : EnvA W) (hi : (binT 23 g (numT a) (numT b)).In W.heap.size W) : Calls Tryd.prog 23 #[.agg #[.int .i64 6, .string ⟨#[]⟩, .int .i64 23, .int .i64 0, .int .u64 0, .slice (some ⟨g, 0, none⟩) 2 2], .int .i64 (kTruth (decide ((b : Int) < a)))] W fun e w' => e = .returned (.bool true) ∧ Below W.heap.size W w' := by
  have h := is_any (binT 23 g (numT a) (numT b)) (by simp [binT, numT, XT.bk, XT.bkL]) (binT_wf _ _ (numT_wf _ (by omega)) (numT_wf _ (by omega))) (kTwo 23 a b) (by rw [ev_two [] 23 (by decide) g a b ha hb (ck23 g a b)]; exact isN_const _) W.heap.size W (Nat.le_refl _) he hi
  have e : kTwo 23 (a : Int) (b : Int) = kTruth (decide ((b : Int) < a)) := by simp [kTwo]
  rw [e] at h
  exact h

theorem ck24 (g a b : Nat) : checkX (binT 24 g (numT a) (numT b)) = 0 := by rfl
theorem is24 (g a b : Nat) (ha : a ≤ 2147483647) (hb : b ≤ 2147483647) (W : World) (he : EnvA W) (hi : (binT 24 g (numT a) (numT b)).In W.heap.size W) : Calls Tryd.prog 23 #[.agg #[.int .i64 6, .string ⟨#[]⟩, .int .i64 24, .int .i64 0, .int .u64 0, .slice (some ⟨g, 0, none⟩) 2 2], .int .i64 (kTruth (decide ((b : Int) ≤ a)))] W fun e w' => e = .returned (.bool true) ∧ Below W.heap.size W w' := by
  have h := is_any (binT 24 g (numT a) (numT b)) (by simp [binT, numT, XT.bk, XT.bkL]) (binT_wf _ _ (numT_wf _ (by omega)) (numT_wf _ (by omega))) (kTwo 24 a b) (by rw [ev_two [] 24 (by decide) g a b ha hb (ck24 g a b)]; exact isN_const _) W.heap.size W (Nat.le_refl _) he hi
  have e : kTwo 24 (a : Int) (b : Int) = kTruth (decide ((b : Int) ≤ a)) := by simp [kTwo]
  rw [e] at h
  exact h

theorem nbin (op : Int) (a b : Nat) (W : World) : Calls Tryd.prog 24 #[.int .i64 op, .agg #[.int .i64 1, .string ⟨#[]⟩, .int .i64 0, .int .i64 0, .int .u64 (a : Int), .slice none 0 0], .agg #[.int .i64 1, .string ⟨#[]⟩, .int .i64 0, .int .i64 0, .int .u64 (b : Int), .slice none 0 0]] W (BinPost op (numT a) (numT b) W) := bin_any op (numT a) (numT b) 0 W (Nat.zero_le _) (numT_in _ _ _) (numT_in _ _ _)
theorem step0 {n : Nat} {w W W' : World} (hq : Below n w W) (hn : n = w.heap.size) (hb : Below W.heap.size W W') : Below n w W' := hq.trans (hb.mono (by subst hn; exact hq.size))
end Go.Proofs.YtlhcnbgllgodoaaDoor
