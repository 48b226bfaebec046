/-
  A shift is times a power of two.
-/
import Derived.Test.YtlhcnbgllgodoaaDoorTie
import Derived.Test.YtlhcnbgllgodoaaDoorCards
import Derived.Test.YtlhcnbgllgodoaaDoorAsOp
import Derived.Test.YtlhcnbgllgodoaaDoorKsO
import Derived.Test.YtlhcnbgllgodoaaDoorKsL
import Derived.Test.YtlhcnbgllgodoaaDoorKsP
import Derived.JoinedCond
import Derived.Deep.DeepHandedRow
namespace Go.Proofs.YtlhcnbgllgodoaaDoor.konstTurns
open Go Go.ChangeShapes Go.WideShapes Go.ChangeAt Go.RowKit Go.Joins Go.Sort Go.Deep
set_option linter.unusedVariables false
set_option linter.unusedSimpArgs false

theorem XT.In.up {n : Nat} {W W' : World} {x : XT} (h : x.In W.heap.size W) (hb : Below W.heap.size W W') : x.In W'.heap.size W' := XT.In.less hb.size _ (XT.In.keep (Below.keptTo hb (Nat.le_refl _)) _ h)
theorem wrap_is (n : Int) : IntKind.i64.wrap n = wrap64 n := by
  simp only [IntKind.wrap, IntKind.bits, IntKind.signed, wrap64, Bool.true_and, decide_eq_true_eq, show (2 : Int) ^ 64 = 18446744073709551616 from by decide, show (2 : Int) ^ (64 - 1) = 9223372036854775808 from by decide]
  split <;> omega
theorem wrap_fits {p : Int} (h0 : 0 ≤ p) (h : p ≤ 2147483647) : wrap64 p = p := by unfold wrap64; omega
theorem no_fit {A p s q : Int} (hq : 0 < q) (hp : p = A * q) (h : s ≤ 2147483647) (h2 : s / q = A) : p ≤ 2147483647 := by
  have h3 : q * (s / q) ≤ s := Int.mul_ediv_self_le (by omega)
  rw [h2, Int.mul_comm] at h3
  omega
theorem two31 (A : Int) (k : Nat) (hA : 0 ≤ A) : (A * 2 ^ k ≤ 2147483647 → A * 2 ^ (min (k : Int) 31).toNat = A * 2 ^ k) ∧ (¬ A * 2 ^ k ≤ 2147483647 → ¬ A * 2 ^ (min (k : Int) 31).toNat ≤ 2147483647 ∧ 0 < A) := by
  have p := two_pos k
  by_cases h : k ≤ 31
  · have e : (min (k : Int) 31).toNat = k := by omega
    rw [e]
    refine ⟨fun _ => rfl, fun h1 => ⟨h1, ?_⟩⟩
    by_cases h2 : A = 0
    · subst h2; simp at h1
    · omega
  · have e : (min (k : Int) 31).toNat = 31 := by omega
    rw [e]
    have h31 : (2147483648 : Int) ≤ 2 ^ k := by
      have h3 : (2 : Nat) ^ 31 ≤ 2 ^ k := Nat.pow_le_pow_right (by decide) (by omega)
      have h4 : ((2 ^ 31 : Nat) : Int) ≤ ((2 ^ k : Nat) : Int) := Int.ofNat_le.2 h3
      simpa using h4
    by_cases h2 : A = 0
    · subst h2; simp
    · have h5 : 1 * 2 ^ k ≤ A * 2 ^ k := Int.mul_le_mul_of_nonneg_right (by omega) (Int.le_of_lt p)
      refine ⟨fun h1 => ?_, fun _ => ⟨?_, by omega⟩⟩
      · omega
      · have h6 : 1 * 2147483648 ≤ A * 2147483648 := Int.mul_le_mul_of_nonneg_right (by omega) (by decide)
        have : (2 : Int) ^ 31 = 2147483648 := by decide
        rw [this]; omega
/-- What is asked of a number and how often. -/
structure Turn (a k : Nat) (A : Int) (yes : Bool) : Prop where
  NA : ∀ W : World, Calls Tryd.prog 25 #[.int .i64 A] W fun e w' => e = .returned (.agg #[.int .i64 1, .string ⟨#[]⟩, .int .i64 0, .int .i64 0, .int .u64 A, .slice none 0 0]) ∧ Below W.heap.size W w'
  NK : ∀ W : World, Calls Tryd.prog 25 #[.int .i64 (k : Int)] W fun e w' => e = .returned (.agg #[.int .i64 1, .string ⟨#[]⟩, .int .i64 0, .int .i64 0, .int .u64 (k : Int), .slice none 0 0]) ∧ Below W.heap.size W w'
  BN : ∀ (op : Int) (W : World), Calls Tryd.prog 24 #[.int .i64 op, .agg #[.int .i64 1, .string ⟨#[]⟩, .int .i64 0, .int .i64 0, .int .u64 A, .slice none 0 0], .agg #[.int .i64 1, .string ⟨#[]⟩, .int .i64 0, .int .i64 0, .int .u64 (k : Int), .slice none 0 0]] W (BinPost op (numT a) (numT k) W)
  BH : ∀ (g : Nat) (W : World), (binT 17 g (numT a) (numT k)).In W.heap.size W → Calls Tryd.prog 24 #[.int .i64 18, .agg #[.int .i64 6, .string ⟨#[]⟩, .int .i64 17, .int .i64 0, .int .u64 0, .slice (some ⟨g, 0, none⟩) 2 2], .agg #[.int .i64 1, .string ⟨#[]⟩, .int .i64 0, .int .i64 0, .int .u64 (k : Int), .slice none 0 0]] W (BinPost 18 (binT 17 g (numT a) (numT k)) (numT k) W)
  no : yes = false → 0 < A ∧ ∀ (g : Nat) (W : World), EnvA W → (binT 17 g (numT a) (numT k)).In W.heap.size W → Calls Tryd.prog 13 #[.agg #[.int .i64 6, .string ⟨#[]⟩, .int .i64 17, .int .i64 0, .int .u64 0, .slice (some ⟨g, 0, none⟩) 2 2], .slice none 0 0] W fun e w' => e = .returned (.tuple #[.int .i64 0, .int .i64 62]) ∧ Below W.heap.size W w'
  I1 : yes = true → ∀ (g : Nat) (W : World), EnvA W → (binT 17 g (numT a) (numT k)).In W.heap.size W → Calls Tryd.prog 23 #[.agg #[.int .i64 6, .string ⟨#[]⟩, .int .i64 17, .int .i64 0, .int .u64 0, .slice (some ⟨g, 0, none⟩) 2 2], .int .i64 (A * 2 ^ k)] W fun e w' => e = .returned (.bool true) ∧ Below W.heap.size W w'
  I2 : ∀ (g : Nat) (W : World), EnvA W → (binT 18 g (numT a) (numT k)).In W.heap.size W → Calls Tryd.prog 23 #[.agg #[.int .i64 6, .string ⟨#[]⟩, .int .i64 18, .int .i64 0, .int .u64 0, .slice (some ⟨g, 0, none⟩) 2 2], .int .i64 (A / 2 ^ k)] W fun e w' => e = .returned (.bool true) ∧ Below W.heap.size W w'
  I3 : yes = true → ∀ (g g2 : Nat) (W : World), EnvA W → (binT 18 g2 (binT 17 g (numT a) (numT k)) (numT k)).In W.heap.size W → Calls Tryd.prog 23 #[.agg #[.int .i64 6, .string ⟨#[]⟩, .int .i64 18, .int .i64 0, .int .u64 0, .slice (some ⟨g2, 0, none⟩) 2 2], .int .i64 A] W fun e w' => e = .returned (.bool true) ∧ Below W.heap.size W w'
theorem turn_of (a k : Nat) (ha : a ≤ 2147483647) (hk : k ≤ 40) : Turn a k (a : Int) (decide ((a : Int) * 2 ^ k ≤ 2147483647)) := by
  have t := two31 (a : Int) k (by omega)
  have p := two_pos k
  have p0 : 0 ≤ (a : Int) * 2 ^ k := Int.mul_nonneg (by omega) (Int.le_of_lt p)
  have hwf := binT_wf 17 0 (numT_wf a (by omega)) (numT_wf k (by omega))
  have e17 : kTwo 17 (a : Int) (k : Int) = (a : Int) * 2 ^ (min (k : Int) 31).toNat := by simp [kTwo]
  refine ⟨num_any a ha, num_any k (by omega), fun op W => nbin op a k W, fun g W h => bin_any 18 (binT 17 g (numT a) (numT k)) (numT k) W.heap.size W (Nat.le_refl _) h (numT_in _ _ _), ?_, ?_, fun g W h1 h2 => is18 g a k ha (by omega) W h1 h2, ?_⟩
  · intro hn
    have hn2 := t.2 (of_decide_eq_false hn)
    refine ⟨hn2.2, fun g W he hi => ?_⟩
    have q := eval_any (binT 17 g (numT a) (numT k)) (by simp [binT, numT, XT.bk, XT.bkL]) (binT_wf _ _ (numT_wf _ (by omega)) (numT_wf _ (by omega))) [] (by decide) none 0 W.heap.size W (Nat.le_refl _) he hi trivial
    rw [ev_two [] 17 (by decide) g a k ha (by omega) (ck17 g a k), e17] at q
    have hc : kConst ((a : Int) * 2 ^ (min (k : Int) 31).toNat) = (0, 62) := by
      unfold kConst kMay; simp [hn2.1]
    rw [hc] at q
    exact q
  · intro hy g W he hi
    have q := is17 g a k ha (by omega) W he hi
    rw [t.1 (of_decide_eq_true hy)] at q
    exact q
  · intro hy g g2 W he hi
    have hle := of_decide_eq_true hy
    have hx : evX [] (binT 17 g (numT a) (numT k)) = ((a : Int) * 2 ^ k, 0) := by
      have q := ev_two [] 17 (by decide) g a k ha (by omega) (ck17 g a k)
      unfold evalK at q
      rw [if_pos (ck17 g a k), e17, t.1 hle] at q
      rw [q]
      unfold kConst kMay
      simp [p0, hle]
    have hkk : evX [] (numT k) = ((k : Int), 0) := by
      rw [numT, evX_mk]; simp [kNode, kNum]; omega
    have hc : checkX (binT 18 g2 (binT 17 g (numT a) (numT k)) (numT k)) = 0 := by rfl
    have he2 : evalK [] (binT 18 g2 (binT 17 g (numT a) (numT k)) (numT k)) = ((a : Int), 0) := by
      unfold evalK
      rw [if_pos hc, show binT 18 g2 (binT 17 g (numT a) (numT k)) (numT k) = .mk 6 [] 18 0 0 (some ⟨g2, 0, none⟩) 2 [binT 17 g (numT a) (numT k), numT k] from rfl, evX_mk]
      have hd : (a : Int) * 2 ^ k / 2 ^ k = a := Int.mul_ediv_cancel _ (by omega)
      simp [kNode, kPair, hx, hkk, kTwo, hd, kConst, kMay]
      omega
    exact is_any (binT 18 g2 (binT 17 g (numT a) (numT k)) (numT k)) (by simp [binT, numT, XT.bk, XT.bkL]) (binT_wf _ _ (binT_wf _ _ (numT_wf _ (by omega)) (numT_wf _ (by omega))) (numT_wf _ (by omega))) a (.inl ⟨by omega, by omega, he2⟩) W.heap.size W (Nat.le_refl _) he hi

set_option maxHeartbeats 32000000 in
set_option maxRecDepth 100000 in
theorem walk_yes (a k : Nat) (ha : a ≤ 2147483647) (hk : k ≤ 40) (w : World) (he : EnvA w) : Calls Tryd.prog 7 #[.int .i64 (a : Int), .int .i64 (k : Int)] w fun e w' => e = .returned (.bool true) ∧ Below w.heap.size w w' := by
  have hT := turn_of a k ha hk
  have s2 : ¬ ((k : Int) < 0) := by omega
  have s4 : ¬ (40 < (k : Int)) := by omega
  have s6 : (0 : Int) ≤ (k : Int) := by omega
  have s8 : (k : Int) ≤ 40 := by omega
  have s1 : ¬ ((a : Int) < 0) := by omega
  have s3 : ¬ (2147483647 < (a : Int)) := by omega
  have s5 : (0 : Int) ≤ (a : Int) := by omega
  have s7 : (a : Int) ≤ 2147483647 := by omega
  generalize (a : Int) = A at *
  have p := two_pos k
  have p0 : 0 ≤ A * 2 ^ k := Int.mul_nonneg s5 (Int.le_of_lt p)
  have hw1 : A * 2 ^ k ≤ 2147483647 → wrap64 (A * 2 ^ k) = A * 2 ^ k ∧ A * 2 ^ k / 2 ^ k = A := fun h => ⟨wrap_fits p0 h, Int.mul_ediv_cancel _ (by omega)⟩
  have hw2 : wrap64 (A * 2 ^ k) ≤ 2147483647 → wrap64 (A * 2 ^ k) / 2 ^ k = A → A * 2 ^ k ≤ 2147483647 := fun h1 h2 => no_fit p rfl h1 h2
  have hw3 : wrap64 (2 ^ k) = 2 ^ k := by
    have h3 : (2 : Nat) ^ k ≤ 2 ^ 40 := Nat.pow_le_pow_right (by decide) hk
    have h4 : ((2 ^ k : Nat) : Int) ≤ ((2 ^ 40 : Nat) : Int) := Int.ofNat_le.2 h3
    have h5 : (2 : Int) ^ k ≤ 1099511627776 := by simpa using h4
    unfold wrap64; omega
  obtain ⟨S, hS⟩ : ∃ S, wrap64 (A * 2 ^ k) = S := ⟨_, rfl⟩
  rw [hS] at hw1 hw2
  obtain ⟨NA, NK, BN, BH, no, I1, I2, I3⟩ := hT
  have hcase : (A * 2 ^ k ≤ 2147483647 ∧ S = A * 2 ^ k ∧ S ≤ 2147483647 ∧ S / 2 ^ k = A) ∨ (¬ A * 2 ^ k ≤ 2147483647 ∧ ¬ S ≤ 2147483647) ∨ (¬ A * 2 ^ k ≤ 2147483647 ∧ S ≤ 2147483647 ∧ ¬ S / 2 ^ k = A) := by
    by_cases h : A * 2 ^ k ≤ 2147483647
    · left; obtain ⟨h1, h2⟩ := hw1 h; exact ⟨h, h1, by omega, by rw [h1]; exact h2⟩
    · right
      by_cases h2 : S ≤ 2147483647
      · right; exact ⟨h, h2, fun h3 => h (hw2 h2 h3)⟩
      · left; exact ⟨h, h2⟩
  clear hw1 hw2 ha hk p p0
  replace NA := Lib.hid NA
  replace NK := Lib.hid NK
  replace BN := Lib.hid BN
  replace BH := Lib.hid BH
  replace no := Lib.hid no
  replace I1 := Lib.hid I1
  replace I2 := Lib.hid I2
  replace I3 := Lib.hid I3
  replace hcase := Lib.hid hcase
  go_enter Tryd.func7, Tryd.ntmps7
  go_wp2_with fail
  refine (live_any _ he).mono ?_
  rintro e w1 ⟨rfl, hq⟩
  go_wp2_with fail
  refine (NA.out _).mono ?_
  rintro e w2 ⟨rfl, hb⟩
  replace hq := step0 hq rfl hb
  clear hb
  go_wp2_with fail
  refine (NK.out _).mono ?_
  rintro e w3 ⟨rfl, hb⟩
  replace hq := step0 hq rfl hb
  clear hb
  go_wp2_with fail
  refine (BN.out _ _).mono ?_
  rintro e w4 ⟨g, rfl, hi, hb⟩
  replace hq := step0 hq rfl hb
  clear hb
  go_upto_region 7 with (fail)
  have hb : Below w4.heap.size w4 (w4.alloc (.cells #[.int .i64 6, .string ⟨#[]⟩, .int .i64 17, .int .i64 0, .int .u64 0, .slice (some ⟨g, 0, none⟩) 2 2] 25)) := (Below.refl _ _).alloc (Nat.le_refl _) _
  have BH0 := World.alloc_heap_new w4 (.cells #[.int .i64 6, .string ⟨#[]⟩, .int .i64 17, .int .i64 0, .int .u64 0, .slice (some ⟨g, 0, none⟩) 2 2] 25)
  replace hi := XT.In.up (n := 0) hi hb
  replace hq := step0 hq rfl hb
  replace he := he.keep hq
  clear hb
  obtain ⟨G, hG⟩ : ∃ G, w4.heap.size = G := ⟨_, rfl⟩
  simp only [hG] at BH0 ⊢
  generalize w4.alloc (.cells #[.int .i64 6, .string ⟨#[]⟩, .int .i64 17, .int .i64 0, .int .u64 0, .slice (some ⟨g, 0, none⟩) 2 2] 25) = w5 at *
  clear hG
  rcases hcase.out with ⟨h1, h2, h3, h4⟩ | ⟨h1, h2⟩ | ⟨h1, h2, h3⟩
  · replace I1 := Lib.hid (I1.out (decide_eq_true h1))
    replace I3 := Lib.hid (I3.out (decide_eq_true h1))
    clear hcase no
    have e1 : wrap64 (A * 2 ^ k) = A * 2 ^ k := hS.trans h2
    have J := fun (v : Int) (hv : v = A * 2 ^ k) => (by rw [hv]; exact I1.out : ∀ (g : Nat) (W : World), EnvA W → (binT 17 g (numT a) (numT k)).In W.heap.size W → Calls Tryd.prog 23 #[.agg #[.int .i64 6, .string ⟨#[]⟩, .int .i64 17, .int .i64 0, .int .u64 0, .slice (some ⟨g, 0, none⟩) 2 2], .int .i64 v] W fun e w' => e = .returned (.bool true) ∧ Below W.heap.size W w')
    have hm : min (IntKind.u64.wrap (k : Int)).toNat 64 = k := by
      have h9 : IntKind.u64.wrap (k : Int) = (k : Int) := by
        show (k : Int) % 18446744073709551616 = k
        omega
      rw [h9]; omega
    have J1 := Lib.hid (J (IntKind.i64.wrap (A * 2 ^ min (IntKind.u64.wrap (k : Int)).toNat 64)) (by rw [hm, wrap_is]; exact e1))
    have J3 := Lib.hid (J (IntKind.i64.wrap (A * IntKind.i64.wrap (2 ^ min (IntKind.u64.wrap (k : Int)).toNat 64))) (by rw [hm, wrap_is, wrap_is, hw3]; exact e1))
    have I2r := Lib.hid (by rw [hm]; exact I2.out : ∀ (g : Nat) (W : World), EnvA W → (binT 18 g (numT a) (numT k)).In W.heap.size W → Calls Tryd.prog 23 #[.agg #[.int .i64 6, .string ⟨#[]⟩, .int .i64 18, .int .i64 0, .int .u64 0, .slice (some ⟨g, 0, none⟩) 2 2], .int .i64 (A / 2 ^ min (IntKind.u64.wrap (k : Int)).toNat 64)] W fun e w' => e = .returned (.bool true) ∧ Below W.heap.size W w')
    have h5 : (S / 2 ^ k == A) = true := by simpa using h4
    clear h1 h2 h4 J I1 e1 hm
    obtain ⟨z0, z1, z2, z3, z4, z5⟩ := open6 BH0
    have I1d := Lib.hid (fun (W : World) (h : Below w5.heap.size w5 W) => J1.out g W (he.keep h) (XT.In.up (n := 0) hi h))
    go_upto_region 11 with (fail)
    subst hS
    clear h5 h3 hw3
    go_region_held3 (fun u1 => u1.cell? ⟨G, 0, none⟩ = some (.int .i64 6) ∧ u1.cell? ⟨G, 1, none⟩ = some (.string ⟨#[]⟩) ∧ u1.cell? ⟨G, 2, none⟩ = some (.int .i64 17) ∧ u1.cell? ⟨G, 3, none⟩ = some (.int .i64 0) ∧ u1.cell? ⟨G, 4, none⟩ = some (.int .u64 0) ∧ u1.cell? ⟨G, 5, none⟩ = some (.slice (some ⟨g, 0, none⟩) 2 2)) (first | (with_reducible exact ⟨z0I, z1I, z2I, z3I, z4I, z5I⟩) | (with_reducible exact ⟨z0H, z1H, z2H, z3H, z4H, z5H⟩) | (with_reducible exact ⟨z0G, z1G, z2G, z3G, z4G, z5G⟩) | (with_reducible exact ⟨z0F, z1F, z2F, z3F, z4F, z5F⟩) | (with_reducible exact ⟨z0E, z1E, z2E, z3E, z4E, z5E⟩) | (with_reducible exact ⟨z0D, z1D, z2D, z3D, z4D, z5D⟩) | (with_reducible exact ⟨z0C, z1C, z2C, z3C, z4C, z5C⟩) | (with_reducible exact ⟨z0B, z1B, z2B, z3B, z4B, z5B⟩) | (with_reducible exact ⟨z0A, z1A, z2A, z3A, z4A, z5A⟩) | (with_reducible exact ⟨z0, z1, z2, z3, z4, z5⟩) | exact ⟨z0I, z1I, z2I, z3I, z4I, z5I⟩ | exact ⟨z0H, z1H, z2H, z3H, z4H, z5H⟩ | exact ⟨z0G, z1G, z2G, z3G, z4G, z5G⟩ | exact ⟨z0F, z1F, z2F, z3F, z4F, z5F⟩ | exact ⟨z0E, z1E, z2E, z3E, z4E, z5E⟩ | exact ⟨z0D, z1D, z2D, z3D, z4D, z5D⟩ | exact ⟨z0C, z1C, z2C, z3C, z4C, z5C⟩ | exact ⟨z0B, z1B, z2B, z3B, z4B, z5B⟩ | exact ⟨z0A, z1A, z2A, z3A, z4A, z5A⟩ | exact ⟨z0, z1, z2, z3, z4, z5⟩) (first | (go_at_call 23; have h9 := J3.out g v8 (he.keep hr8) (XT.In.up (n := 0) hi hr8); refine Calls.mono h9 ?_; clear h9; rintro e v9 ⟨rfl, hb⟩; have hr9 : Below w5.heap.size w5 v9 := hr8.trans (hb.mono hr8.size); have z0I := keep_cell hr9 z0; have z1I := keep_cell hr9 z1; have z2I := keep_cell hr9 z2; have z3I := keep_cell hr9 z3; have z4I := keep_cell hr9 z4; have z5I := keep_cell hr9 z5; clear hb) | (go_at_call 23; have h9 := I3.out g g7 v7 (he.keep hr7) hj7; refine Calls.mono h9 ?_; clear h9; rintro e v8 ⟨rfl, hb⟩; have hr8 : Below w5.heap.size w5 v8 := hr7.trans (hb.mono hr7.size); have z0H := keep_cell hr8 z0; have z1H := keep_cell hr8 z1; have z2H := keep_cell hr8 z2; have z3H := keep_cell hr8 z3; have z4H := keep_cell hr8 z4; have z5H := keep_cell hr8 z5; clear hb I3 hr7) | (go_at_call 24; have h9 := BH.out g v6 (XT.In.up (n := 0) hi hr6); refine Calls.mono h9 ?_; clear h9; rintro e v7 ⟨g7, rfl, hj7, hb⟩; have hr7 : Below w5.heap.size w5 v7 := hr6.trans (hb.mono hr6.size); have z0G := keep_cell hr7 z0; have z1G := keep_cell hr7 z1; have z2G := keep_cell hr7 z2; have z3G := keep_cell hr7 z3; have z4G := keep_cell hr7 z4; have z5G := keep_cell hr7 z5; clear hb BH hr6) | (go_at_call 25; have h9 := (fun (_ : Below w5.heap.size w5 v5) => NK.out v5) hr5; refine Calls.mono h9 ?_; clear h9; rintro e v6 ⟨rfl, hb⟩; have hr6 : Below w5.heap.size w5 v6 := hr5.trans (hb.mono hr5.size); have z0F := keep_cell hr6 z0; have z1F := keep_cell hr6 z1; have z2F := keep_cell hr6 z2; have z3F := keep_cell hr6 z3; have z4F := keep_cell hr6 z4; have z5F := keep_cell hr6 z5; clear hb hr5) | (go_at_call 23; have h9 := I2r.out g4 v4 (he.keep hr4) hj4; refine Calls.mono h9 ?_; clear h9; rintro e v5 ⟨rfl, hb⟩; have hr5 : Below w5.heap.size w5 v5 := hr4.trans (hb.mono hr4.size); have z0E := keep_cell hr5 z0; have z1E := keep_cell hr5 z1; have z2E := keep_cell hr5 z2; have z3E := keep_cell hr5 z3; have z4E := keep_cell hr5 z4; have z5E := keep_cell hr5 z5; clear hb I2r hr4) | (go_at_call 24; have h9 := BN.out 18 v3; refine Calls.mono h9 ?_; clear h9; rintro e v4 ⟨g4, rfl, hj4, hb⟩; have hr4 : Below w5.heap.size w5 v4 := hr3.trans (hb.mono hr3.size); have z0D := keep_cell hr4 z0; have z1D := keep_cell hr4 z1; have z2D := keep_cell hr4 z2; have z3D := keep_cell hr4 z3; have z4D := keep_cell hr4 z4; have z5D := keep_cell hr4 z5; clear hb BN hr3) | (go_at_call 25; have h9 := (fun (_ : Below w5.heap.size w5 v2) => NK.out v2) hr2; refine Calls.mono h9 ?_; clear h9; rintro e v3 ⟨rfl, hb⟩; have hr3 : Below w5.heap.size w5 v3 := hr2.trans (hb.mono hr2.size); have z0C := keep_cell hr3 z0; have z1C := keep_cell hr3 z1; have z2C := keep_cell hr3 z2; have z3C := keep_cell hr3 z3; have z4C := keep_cell hr3 z4; have z5C := keep_cell hr3 z5; clear hb hr2) | (go_at_call 25; have h9 := NA.out v1; refine Calls.mono h9 ?_; clear h9; rintro e v2 ⟨rfl, hb⟩; have hr2 : Below w5.heap.size w5 v2 := hr1.trans (hb.mono hr1.size); have z0B := keep_cell hr2 z0; have z1B := keep_cell hr2 z1; have z2B := keep_cell hr2 z2; have z3B := keep_cell hr2 z3; have z4B := keep_cell hr2 z4; have z5B := keep_cell hr2 z5; clear hb NA hr1) | (go_at_call 23; have h9 := I1d.out _ ((Below.refl w5.heap.size w5).drew); refine Calls.mono h9 ?_; clear h9; rintro e v1 ⟨rfl, hb⟩; have hr1 : Below w5.heap.size w5 v1 := ((Below.refl w5.heap.size w5).drew).trans hb; have z0A := keep_cell hr1 z0; have z1A := keep_cell hr1 z1; have z2A := keep_cell hr1 z2; have z3A := keep_cell hr1 z3; have z4A := keep_cell hr1 z4; have z5A := keep_cell hr1 z5; clear hb I1d))
    go_wp2
    go_ret
    exact ⟨rfl, hq.trans (hr9.mono hq.size)⟩
  · obtain ⟨hA, hno⟩ := no.out (by first | exact decide_eq_false h1 | exact decide_eq_false (Int.not_le.2 h1))
    replace hno := Lib.hid hno
    clear hcase no
    obtain ⟨z0, z1, z2, z3, z4, z5⟩ := open6 BH0
    go_wp2_with fail
    refine (hno.out g _ he hi).mono ?_
    rintro e w6 ⟨rfl, hb⟩
    replace hq := step0 hq rfl hb
    clear hb
    go_wp2
    go_ret
    exact ⟨rfl, hq⟩
  · obtain ⟨hA, hno⟩ := no.out (by first | exact decide_eq_false h1 | exact decide_eq_false (Int.not_le.2 h1))
    replace hno := Lib.hid hno
    have h5 : (S / 2 ^ k == A) = false := by simpa using h3
    clear hcase no
    obtain ⟨z0, z1, z2, z3, z4, z5⟩ := open6 BH0
    go_wp2_with fail
    refine (hno.out g _ he hi).mono ?_
    rintro e w6 ⟨rfl, hb⟩
    replace hq := step0 hq rfl hb
    clear hb
    go_wp2
    go_ret
    exact ⟨rfl, hq⟩
set_option maxHeartbeats 8000000 in
theorem walk_any (a k : Int) (w : World) (he : EnvA w) : Calls Tryd.prog 7 #[.int .i64 a, .int .i64 k] w fun e w' => e = .returned (.bool true) ∧ Below w.heap.size w w' := by
  by_cases h : 0 ≤ a ∧ 0 ≤ k ∧ a ≤ 2147483647 ∧ k ≤ 40
  · obtain ⟨h1, h2, h3, h4⟩ := h
    have q := walk_yes a.toNat k.toNat (by omega) (by omega) w he
    rw [Int.toNat_of_nonneg h1, Int.toNat_of_nonneg h2] at q
    exact q
  · have hs2 : a < 0 ∨ (¬ a < 0 ∧ 2147483647 < a) ∨ (¬ a < 0 ∧ ¬ 2147483647 < a ∧ k < 0) ∨ (¬ a < 0 ∧ ¬ 2147483647 < a ∧ ¬ k < 0 ∧ 40 < k) := by omega
    clear h
    rcases hs2 with h1 | ⟨h1, h2⟩ | ⟨h1, h2, h3⟩ | ⟨h1, h2, h3, h4⟩
    all_goals
      go_enter Tryd.func7, Tryd.ntmps7
      go_wp2_with fail
      refine (live_any _ he).mono ?_
      rintro e w1 ⟨rfl, hq⟩
      go_wp2
      go_ret
      exact ⟨rfl, hq⟩

/-! ### The row's step -/
set_option maxRecDepth 100000 in
theorem contract (H : Type) (enc : TypeId × Value → H) (W : World) (base : Nat) (args : Array Value) (ds gs : List (DataW H)) (before : List MemPlace)
    (hval0 : ∀ (j : Nat) t v, Tryd.f7.params[j]? = some t → args[j]? = some v → Value.okWide Tryd.prog W .any base t v)
    (hW : DataW.Whole enc Tryd.prog Tryd.f7.params.toList Rows.konstTurnsSpec.vars false W args.toList ds gs before) (hbk : Rows.uptoBulkAll (ds ++ gs) ≤ 1048576) (hL : laidMetH Tryd.prog LD W) (hsh : W.ShapedOpen Tryd.prog) :
    Calls Tryd.prog 7 args W fun e W' => ∃ v, e = .returned v ∧ Rows.konstTurnsSpec.post enc Tryd.prog Tryd.f7 false true false false W args v W' := by
  have hval : ∀ (j : Nat) t v, Tryd.f7.params[j]? = some t → args[j]? = some v → Value.okWide Tryd.prog W .any base t v := hval0
  have hW' := hW
  obtain ⟨p, q, hA0, hV, rfl, hfz, hnd⟩ := hW
  have hA : DataW.TrodAll enc Tryd.prog W 0 (fun _ => true) true Tryd.f7.params.toList args.toList ds p := hA0
  rw [Tryd.params7] at hA hval
  obtain ⟨v0, vs0, d0, ds0, p0, q0, hargs, rfl, rfl, h0, r0⟩ := trodAll_cons hA
  obtain ⟨v1, vs1, d1, ds1, p1, q1, rfl, rfl, rfl, h1, r1⟩ := trodAll_cons r0
  obtain ⟨rfl, rfl, rfl⟩ := trodAll_nil r1
  obtain rfl : args = #[v0, v1] := by cases args; simp_all
  obtain ⟨rfl, rfl⟩ := trodVars_none hV
  have he := env_of hL hsh
  simp only [List.append_nil, Rows.uptoBulkAll] at hbk
  have k0 : ∀ (W' : World), Below W.heap.size W W' → DataW.Trod enc Tryd.prog W' 0 (fun b => decide (b < W.heap.size)) true 3 v0 d0 p0 := fun W' hn => Below.trod laidOut (by kernel_rfl) (of_decide_eq_true (by kernel_rfl)) h0 hn (fun x hx => by simpa using hW'.lt x (by simp [hx]))
  have k1 : ∀ (W' : World), Below W.heap.size W W' → DataW.Trod enc Tryd.prog W' 0 (fun b => decide (b < W.heap.size)) true 3 v1 d1 p1 := fun W' hn => Below.trod laidOut (by kernel_rfl) (of_decide_eq_true (by kernel_rfl)) h1 hn (fun x hx => by simpa using hW'.lt x (by simp [hx]))
  obtain ⟨x0, rfl, _, _, wf0⟩ := open_int Tryd.underlying3 (hval 0 3 v0 rfl rfl) h0
  obtain ⟨x1, rfl, _, _, wf1⟩ := open_int Tryd.underlying3 (hval 1 3 v1 rfl rfl) h1
  clear hA0 hval0
  simp only [List.append_nil] at hW'
  refine (walk_any x0 x1 W he).mono fun e W' ⟨hr, bel⟩ => ?_
  subst hr
  exact ⟨_, rfl, _, _, _, [], _, [], hW', trodAll_mk1 (shut_bool Tryd.underlying4 _), (trodAll_cons_mk (k0 _ bel) (trodAll_cons_mk (k1 _ bel) trodAll_mk0)), rfl, bel.frame _, fun h => by cases h⟩
theorem reads (os : Os) {H : Type} (enc : TypeId × Value → H) : ∃ places, DataW.whole enc Tryd.prog ((World.doorLaid Tryd.prog 55 os).forCall (fun _ _ => 0) ⟨#[], #[.int .i64 0, .int .i64 0], []⟩).memory Tryd.f7.params.toList Rows.konstTurnsSpec.vars false #[.int .i64 0, .int .i64 0].toList 8 = some ([.lit (.int .i64 0), .lit (.int .i64 0)], [], places) :=
  ⟨[], by kernel_rfl⟩
set_option maxRecDepth 100000 in
theorem lifted (os : Os) (started : os.Started) (H : Type) (enc : TypeId × Value → H) (F : Stop.Interp) :
    ReturnsInHanded {} Tryd.checked os 7 .any ((Rows.OpenSpec.upto Rows.konstTurnsSpec).preRow enc Tryd.prog Tryd.f7 Rows.konstTurnsUptoRow.domain false Rows.konstTurnsUptoRow.laid) (((Rows.OpenSpec.upto Rows.konstTurnsSpec).at F).post enc Tryd.prog Tryd.f7 false true false false) := by
  obtain ⟨places, hx⟩ := reads os enc
  refine returnsInHanded_of_row (C := Tryd.checked) (s := Rows.OpenSpec.upto Rows.konstTurnsSpec) own started (by kernel_rfl) Tryd.func7
    (witness_row_at (enc := enc) (C := Tryd.checked) false (World.doorLaid Tryd.prog 55 os) #[.int .i64 0, .int .i64 0] rfl (by kernel_rfl) (by kernel_rfl) (by kernel_rfl)
      (OpenSpec.preRow_of_cond 8 hx (by kernel_rfl) (fun k hk => by cases hk; kernel_rfl) (by kernel_rfl) (door_met os _))) ?_
  intro W base args ds gs before hval hW _ hcond _ hL hsh _
  have hbk : Rows.uptoBulkAll (ds ++ gs) ≤ 1048576 := of_decide_eq_true (hcond _ rfl)
  exact contract H enc W base args ds gs before hval hW hbk hL hsh
theorem over : Rows.KonstTurnsUptoSaid :=
  OpenClaim.holds_of_cond 7 Tryd.f7 rfl rfl rfl rfl rfl rfl rfl ⟨rfl, rfl, rfl, rfl, rfl⟩ rfl rfl rfl rfl rfl (by kernel_rfl) Tryd.func7 (by kernel_rfl)
    (of_decide_eq_true (by kernel_rfl)) (by unfold Func.isWrapper; first | (rw [if_pos (by decide +kernel)]; kernel_rfl) | (rw [if_neg (by decide +kernel)]; exact ⟨rfl, rfl⟩))
    (fun os started H enc _ F => by rw [OpenClaim.pre_eq_preRow]; exact lifted os started H enc F)
/-- The given statement. -/
theorem proved : Rows.KonstTurnsUptoCardSaid :=
  Claim7.holds_tied_plain_at .later [] _ _ _ _
    over (fun _ h => by cases h) (by kernel_rfl) (fun _ h => by cases h) konstTurnsUpto_row_tie rfl ⟨rfl, rfl⟩ (by kernel_rfl) rfl
    (fun f fn hf hfn => by
      obtain rfl : f = 7 := Option.some.inj ((show Tryd.prog.funcNamed "filigree/filigreelaw06.KonstTurns" = some 7 by kernel_rfl).symm.trans hf) |>.symm
      obtain rfl : fn = Tryd.f7 := (Option.some.inj (Tryd.func7.symm.trans hfn)).symm
      exact ⟨by kernel_rfl, fun j t ht => by
        rw [Tryd.params7] at ht
        have hm : t ∈ [3, 3] := by simpa using Array.mem_of_getElem? ht
        have hall : ([3, 3].all fun u => !Tryd.prog.wantsStandIn u) = true := by kernel_rfl
        exact (show Tryd.prog.wantsStandIn t = false by simpa using List.all_eq_true.1 hall t hm)⟩)
    (by kernel_rfl)
#print axioms proved
end Go.Proofs.YtlhcnbgllgodoaaDoor.konstTurns
