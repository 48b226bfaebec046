/-
  Both, one, neither.
-/
import Derived.Test.YtlhcnbgllgodoaaDoorTie
import Derived.Test.YtlhcnbgllgodoaaDoorCards
import Derived.Test.YtlhcnbgllgodoaaDoorAsOp
import Derived.Test.YtlhcnbgllgodoaaDoorKsO
import Derived.Test.YtlhcnbgllgodoaaDoorKsL
import Derived.JoinedCond
import Derived.Deep.DeepHandedRow
namespace Go.Proofs.YtlhcnbgllgodoaaDoor.konstLogic
open Go Go.ChangeShapes Go.WideShapes Go.ChangeAt Go.RowKit Go.Joins Go.Sort Go.Deep
set_option linter.unusedVariables false
set_option linter.unusedSimpArgs false

theorem NRow.less {n m : Nat} {W : World} {l : List NT} {a : Option Addr} (h : n ≤ m) (hr : NRow n W l a) : NRow m W l a := InRow.less h (fun _ _ h => h) hr
theorem XT.In.up {n : Nat} {W W' : World} {x : XT} (h : x.In W.heap.size W) (hb : Below W.heap.size W W') : x.In W'.heap.size W' := XT.In.less hb.size _ (XT.In.keep (Below.keptTo hb (Nat.le_refl _)) _ h)
theorem cx_iff (x : XT) : checkX x = 0 ↔ x.sz ≤ 65536 ∧ x.dp ≤ 64 ∧ mayX x = true := by
  unfold checkX
  cases h1 : decide (65536 < x.sz) <;> cases h2 : decide (64 < x.dp) <;> cases h3 : mayX x <;> simp at h1 h2 ⊢ <;> omega
/-- May be, and is small. -/
structure Gd (l : List NT) (s d b : Nat) (v : Int) (x : XT) : Prop where
  may : mayX x = true
  sz : x.sz ≤ s
  dp : x.dp ≤ d
  bk : x.bk ≤ b
  wf : x.Wf
  ev : evX l x = (v, 0)
theorem Gd.un {l : List NT} {s d b : Nat} {v : Int} {x : XT} (h : Gd l s d b v x) (g : Nat) : Gd l (s + 1) (d + 1) (b + 10) (kTruth (v == 0)) (unT 6 g x) := by
  refine ⟨?_, ?_, ?_, ?_, ?_, ?_⟩
  · rw [unT, mayX]
    show (true && (true && (true && (true && (true && (true && mayXL [x])))))) = true
    rw [mayXL, mayXL, h.may]; rfl
  · have := h.sz; simp [unT, XT.sz, XT.szL]; omega
  · have := h.dp; simp [unT, XT.dp, XT.dpL]; omega
  · have := h.bk; simp [unT, XT.bk, XT.bkL]; omega
  · simp [unT, XT.wf_mk, h.wf]
  · rw [unT, evX_mk]; simp [kNode, kNot, h.ev]
theorem Gd.bin {l : List NT} {s d b s' d' b' : Nat} {v v' : Int} {x y : XT} (h : Gd l s d b v x) (h' : Gd l s' d' b' v' y) (op : Int) (ho : op = 25 ∨ op = 26) (g : Nat) : Gd l (s + s' + 1) (max d d' + 1) (b + b' + 10) (kTwo op v v') (binT op g x y) := by
  refine ⟨?_, ?_, ?_, ?_, ?_, ?_⟩
  · rcases ho with rfl | rfl
    all_goals
      rw [binT, mayX]
      show (true && (true && (true && (true && (true && (true && mayXL [x, y])))))) = true
      rw [mayXL, mayXL, mayXL, h.may, h'.may]; rfl
  · have := h.sz; have := h'.sz; simp [binT, XT.sz, XT.szL]; omega
  · have := h.dp; have := h'.dp; simp [binT, XT.dp, XT.dpL]; omega
  · have := h.bk; have := h'.bk; simp [binT, XT.bk, XT.bkL]; omega
  · exact binT_wf _ _ h.wf h'.wf
  · have hk : kConst (kTwo op v v') = (kTwo op v v', 0) := by
      have h2 : 0 ≤ kTwo op v v' ∧ kTwo op v v' ≤ 1 := by
        rcases ho with rfl | rfl
        · have := kTruth_01 (v != 0 && v' != 0); simpa [kTwo] using this
        · have := kTruth_01 (v != 0 || v' != 0); simpa [kTwo] using this
      unfold kConst kMay
      have h3 : kTwo op v v' ≤ 2147483647 := by omega
      simp [h2.1, h3]
    have ho2 : 14 ≤ op ∧ op ≤ 26 := by rcases ho with rfl | rfl <;> decide
    rw [binT, evX_mk]
    simp [kNode, kPair, h.ev, h'.ev, ho2.1, ho2.2, hk]
theorem Gd.eval {l : List NT} {s d b : Nat} {v : Int} {x : XT} (h : Gd l s d b v x) (h1 : s ≤ 65536) (h2 : d ≤ 64) : evalK l x = (v, 0) := by
  unfold evalK
  rw [if_pos ((cx_iff x).2 ⟨Nat.le_trans h.sz h1, Nat.le_trans h.dp h2, h.may⟩), h.ev]
theorem Gd.call {l : List NT} {s d b : Nat} {v : Int} {x : XT} (h : Gd l s d b v x) (h1 : s ≤ 65536) (h2 : d ≤ 64) (h3 : b ≤ 1500000) (hlk : NT.bkL l ≤ 1500000) (a : Option Addr) (c n0 : Nat) (W : World) (hn0 : n0 ≤ W.heap.size) (he : EnvA W) (hx : x.In W.heap.size W) (hl : NRow n0 W l a) : Calls Tryd.prog 13 #[x.val, .slice a l.length c] W fun e w' => e = .returned (.tuple #[.int .i64 v, .int .i64 0]) ∧ Below W.heap.size W w' := by
  have q := eval_any x (Nat.le_trans h.bk h3) h.wf l hlk a c W.heap.size W (Nat.le_refl _) he hx (NRow.less hn0 hl)
  rw [h.eval h1 h2] at q
  exact q
def P1 (a b : Int) : Int := kTruth (kTwo 25 a b == 0)
def P2 (a b : Int) : Int := kTwo 26 (kTruth (a == 0)) (kTruth (b == 0))
def P3 (a b : Int) : Int := kTruth (kTwo 26 a b == 0)
def P4 (a : Int) : Int := kTruth (kTruth (a == 0) == 0)
theorem pcases (a b : Int) : (a = 0 ∧ b = 0 ∧ P1 a b = 1 ∧ P2 a b = 1 ∧ P3 a b = 1 ∧ P4 a = 0) ∨ (a = 0 ∧ b ≠ 0 ∧ P1 a b = 1 ∧ P2 a b = 1 ∧ P3 a b = 0 ∧ P4 a = 0) ∨ (a ≠ 0 ∧ b = 0 ∧ P1 a b = 1 ∧ P2 a b = 1 ∧ P3 a b = 0 ∧ P4 a = 1) ∨ (a ≠ 0 ∧ b ≠ 0 ∧ P1 a b = 0 ∧ P2 a b = 0 ∧ P3 a b = 0 ∧ P4 a = 1) := by
  by_cases ha : a = 0 <;> by_cases hb : b = 0 <;> simp [P1, P2, P3, P4, kTwo, kTruth, ha, hb]
theorem bit_t (W : World) : Calls Tryd.prog 26 #[.bool true] W fun e w' => e = .returned (.int .i64 1) ∧ W = w' := bit_any true W
theorem bit_f (W : World) : Calls Tryd.prog 26 #[.bool false] W fun e w' => e = .returned (.int .i64 0) ∧ W = w' := bit_any false W
/-- The two are something, and small: what is asked of them. -/
structure Logic (l : List NT) (ea : Option Addr) (ec : Nat) (x y : XT) (a b : Int) : Prop where
  B25 : ∀ (n0 : Nat) (W : World), n0 ≤ W.heap.size → x.In n0 W → y.In n0 W → Calls Tryd.prog 24 #[.int .i64 25, x.val, y.val] W (BinPost 25 x y W)
  B26 : ∀ (n0 : Nat) (W : World), n0 ≤ W.heap.size → x.In n0 W → y.In n0 W → Calls Tryd.prog 24 #[.int .i64 26, x.val, y.val] W (BinPost 26 x y W)
  NX : ∀ (n0 : Nat) (W : World), n0 ≤ W.heap.size → x.In n0 W → Calls Tryd.prog 28 #[x.val] W (NotPost x W)
  NY : ∀ (n0 : Nat) (W : World), n0 ≤ W.heap.size → y.In n0 W → Calls Tryd.prog 28 #[y.val] W (NotPost y W)
  NB : ∀ (op : Int) (g : Nat) (W : World), (binT op g x y).In W.heap.size W → Calls Tryd.prog 28 #[.agg #[.int .i64 6, .string ⟨#[]⟩, .int .i64 op, .int .i64 0, .int .u64 0, .slice (some ⟨g, 0, none⟩) 2 2]] W (NotPost (binT op g x y) W)
  NN : ∀ (g : Nat) (W : World), (unT 6 g x).In W.heap.size W → Calls Tryd.prog 28 #[.agg #[.int .i64 5, .string ⟨#[]⟩, .int .i64 6, .int .i64 0, .int .u64 0, .slice (some ⟨g, 0, none⟩) 1 1]] W (NotPost (unT 6 g x) W)
  BN : ∀ (g1 g2 : Nat) (W : World), (unT 6 g1 x).In W.heap.size W → (unT 6 g2 y).In W.heap.size W → Calls Tryd.prog 24 #[.int .i64 26, .agg #[.int .i64 5, .string ⟨#[]⟩, .int .i64 6, .int .i64 0, .int .u64 0, .slice (some ⟨g1, 0, none⟩) 1 1], .agg #[.int .i64 5, .string ⟨#[]⟩, .int .i64 6, .int .i64 0, .int .u64 0, .slice (some ⟨g2, 0, none⟩) 1 1]] W (BinPost 26 (unT 6 g1 x) (unT 6 g2 y) W)
  E1 : ∀ (g g2 n0 : Nat) (W : World), n0 ≤ W.heap.size → EnvA W → (unT 6 g2 (binT 25 g x y)).In W.heap.size W → NRow n0 W l ea → Calls Tryd.prog 13 #[.agg #[.int .i64 5, .string ⟨#[]⟩, .int .i64 6, .int .i64 0, .int .u64 0, .slice (some ⟨g2, 0, none⟩) 1 1], .slice ea l.length ec] W fun e w' => e = .returned (.tuple #[.int .i64 (P1 a b), .int .i64 0]) ∧ Below W.heap.size W w'
  E2 : ∀ (g g1 g2 n0 : Nat) (W : World), n0 ≤ W.heap.size → EnvA W → (binT 26 g (unT 6 g1 x) (unT 6 g2 y)).In W.heap.size W → NRow n0 W l ea → Calls Tryd.prog 13 #[.agg #[.int .i64 6, .string ⟨#[]⟩, .int .i64 26, .int .i64 0, .int .u64 0, .slice (some ⟨g, 0, none⟩) 2 2], .slice ea l.length ec] W fun e w' => e = .returned (.tuple #[.int .i64 (P2 a b), .int .i64 0]) ∧ Below W.heap.size W w'
  E3 : ∀ (g g2 n0 : Nat) (W : World), n0 ≤ W.heap.size → EnvA W → (unT 6 g2 (binT 26 g x y)).In W.heap.size W → NRow n0 W l ea → Calls Tryd.prog 13 #[.agg #[.int .i64 5, .string ⟨#[]⟩, .int .i64 6, .int .i64 0, .int .u64 0, .slice (some ⟨g2, 0, none⟩) 1 1], .slice ea l.length ec] W fun e w' => e = .returned (.tuple #[.int .i64 (P3 a b), .int .i64 0]) ∧ Below W.heap.size W w'
  E4 : ∀ (g g2 n0 : Nat) (W : World), n0 ≤ W.heap.size → EnvA W → (unT 6 g2 (unT 6 g x)).In W.heap.size W → NRow n0 W l ea → Calls Tryd.prog 13 #[.agg #[.int .i64 5, .string ⟨#[]⟩, .int .i64 6, .int .i64 0, .int .u64 0, .slice (some ⟨g2, 0, none⟩) 1 1], .slice ea l.length ec] W fun e w' => e = .returned (.tuple #[.int .i64 (P4 a), .int .i64 0]) ∧ Below W.heap.size W w'
theorem logic_of (l : List NT) (hlk : NT.bkL l ≤ 1500000) (ea : Option Addr) (ec : Nat) (x y : XT) (hbk : x.bk + y.bk ≤ 1400000) (hwx : x.Wf) (hwy : y.Wf) (hx1 : x.sz ≤ 1000) (hx2 : x.dp ≤ 50) (hy1 : y.sz ≤ 1000) (hy2 : y.dp ≤ 50) (hex : (evalK l x).2 = 0) (hey : (evalK l y).2 = 0) : Logic l ea ec x y (evalK l x).1 (evalK l y).1 := by
  have gx : ∀ (x : XT) (b : Nat), x.bk ≤ b → x.Wf → x.sz ≤ 1000 → x.dp ≤ 50 → (evalK l x).2 = 0 → Gd l 1000 50 b (evalK l x).1 x := by
    intro x b h1 h2 h3 h4 h5
    have hc : checkX x = 0 := by
      by_cases h : checkX x = 0
      · exact h
      · unfold evalK at h5; rw [if_neg h] at h5; exact absurd h5 (by decide)
    refine ⟨((cx_iff x).1 hc).2.2, h3, h4, h1, h2, ?_⟩
    have e : evalK l x = evX l x := by unfold evalK; rw [if_pos hc]
    rw [e] at h5 ⊢
    exact Prod.ext rfl h5
  have gX := gx x _ (Nat.le_refl _) hwx hx1 hx2 hex
  have gY := gx y _ (Nat.le_refl _) hwy hy1 hy2 hey
  exact ⟨fun n0 W h1 h2 h3 => bin_any 25 x y n0 W h1 h2 h3, fun n0 W h1 h2 h3 => bin_any 26 x y n0 W h1 h2 h3, fun n0 W h1 h2 => lnot_any x n0 W h1 h2, fun n0 W h1 h2 => lnot_any y n0 W h1 h2,
    fun op g W h => lnot_any (binT op g x y) W.heap.size W (Nat.le_refl _) h, fun g W h => lnot_any (unT 6 g x) W.heap.size W (Nat.le_refl _) h,
    fun g1 g2 W h1 h2 => bin_any 26 (unT 6 g1 x) (unT 6 g2 y) W.heap.size W (Nat.le_refl _) h1 h2,
    fun g g2 n0 W h1 h2 h3 h4 => ((gX.bin gY 25 (.inl rfl) g).un g2).call (by omega) (by omega) (by omega) hlk ea ec n0 W h1 h2 h3 h4,
    fun g g1 g2 n0 W h1 h2 h3 h4 => ((gX.un g1).bin (gY.un g2) 26 (.inr rfl) g).call (by omega) (by omega) (by omega) hlk ea ec n0 W h1 h2 h3 h4,
    fun g g2 n0 W h1 h2 h3 h4 => ((gX.bin gY 26 (.inr rfl) g).un g2).call (by omega) (by omega) (by omega) hlk ea ec n0 W h1 h2 h3 h4,
    fun g g2 n0 W h1 h2 h3 h4 => ((gX.un g).un g2).call (by omega) (by omega) (by omega) hlk ea ec n0 W h1 h2 h3 h4⟩

set_option maxHeartbeats 32000000 in
set_option maxRecDepth 100000 in
theorem walk_any (x y : XT) (hbk : x.bk + y.bk ≤ 1400000) (hwf1 : x.Wf) (hwf2 : y.Wf) (l : List NT) (hlk : NT.bkL l ≤ 1500000) (a : Option Addr) (c n0 : Nat) (w : World) (hn0 : n0 ≤ w.heap.size) (he : EnvA w) (hx1 : x.In n0 w) (hx2 : y.In n0 w) (hl : NRow n0 w l a) : Calls Tryd.prog 8 #[x.val, y.val, .slice a l.length c] w fun e w' => e = .returned (.bool true) ∧ Below w.heap.size w w' := by
  have HF1 := Lib.hid (fun (n0 : Nat) (W : World) (h1 : n0 ≤ W.heap.size) (h3 : x.In n0 W) => kfew_any x (Nat.le_trans x.sz_bk (by omega)) l (Nat.le_trans (NT.bkL_len l) hlk) a c n0 W h1 h3)
  have HD1 := Lib.hid (fun (n0 : Nat) (W : World) (h1 : n0 ≤ W.heap.size) (h3 : x.In n0 W) => refdeepX_any x (Nat.le_trans x.sz_bk (by omega)) n0 W h1 h3)
  have HE1 := Lib.hid (fun (n0 : Nat) (W : World) (h1 : n0 ≤ W.heap.size) (h2 : EnvA W) (h3 : x.In n0 W) (h4 : NRow n0 W l a) => eval_any x (by omega) hwf1 l hlk a c n0 W h1 h2 h3 h4)
  have HF2 := Lib.hid (fun (n0 : Nat) (W : World) (h1 : n0 ≤ W.heap.size) (h3 : y.In n0 W) => kfew_any y (Nat.le_trans y.sz_bk (by omega)) l (Nat.le_trans (NT.bkL_len l) hlk) a c n0 W h1 h3)
  have HD2 := Lib.hid (fun (n0 : Nat) (W : World) (h1 : n0 ≤ W.heap.size) (h3 : y.In n0 W) => refdeepX_any y (Nat.le_trans y.sz_bk (by omega)) n0 W h1 h3)
  have HE2 := Lib.hid (fun (n0 : Nat) (W : World) (h1 : n0 ≤ W.heap.size) (h2 : EnvA W) (h3 : y.In n0 W) (h4 : NRow n0 W l a) => eval_any y (by omega) hwf2 l hlk a c n0 W h1 h2 h3 h4)
  have HG := fun h1 h2 h3 h4 h5 h6 => logic_of l hlk a c x y hbk hwf1 hwf2 h1 h2 h3 h4 h5 h6
  have fw1 : fewK x l = true → x.sz ≤ 1000 := fun h => by simp [fewK] at h; exact h.1.1
  obtain ⟨⟨n1, e1⟩, hE1⟩ : ∃ p, evalK l x = p := ⟨_, rfl⟩
  obtain ⟨d1, hD1⟩ : ∃ d, x.dp = d := ⟨_, rfl⟩
  obtain ⟨f1, hf1⟩ : ∃ f, fewK x l = f := ⟨_, rfl⟩
  have fw2 : fewK y l = true → y.sz ≤ 1000 := fun h => by simp [fewK] at h; exact h.1.1
  obtain ⟨⟨n2, e2⟩, hE2⟩ : ∃ p, evalK l y = p := ⟨_, rfl⟩
  obtain ⟨d2, hD2⟩ : ∃ d, y.dp = d := ⟨_, rfl⟩
  obtain ⟨f2, hf2⟩ : ∃ f, fewK y l = f := ⟨_, rfl⟩
  simp only [hE1, hE2] at HE1 HE2 HG
  simp only [hD1, hD2] at HD1 HD2 HG
  rw [hf1] at fw1
  rw [hf2] at fw2
  simp only [hf1] at HF1
  simp only [hf2] at HF2
  have HG := Lib.hid (fun (q1 : f1 = true) (q2 : d1 ≤ 50) (q3 : f2 = true) (q4 : d2 ≤ 50) (q5 : e1 = 0) (q6 : e2 = 0) => HG (fw1 q1) q2 (fw2 q3) q4 q5 q6)
  clear hE1 hE2 hD1 hD2 hf1 hf2 fw1 fw2 hbk hwf1 hwf2 hlk
  obtain ⟨op1, nm1, xn1, wd1, v1, xa1, xc1, xl1⟩ := x
  obtain ⟨op2, nm2, xn2, wd2, v2, xa2, xc2, xl2⟩ := y
  simp only [XT.val, XT.cells] at HF1 HF2 HD1 HD2 HE1 HE2 ⊢
  go_enter Tryd.func8, Tryd.ntmps8
  go_upto_region 1 with (fail)
  have BX1 := block_alloc (World.alloc_heap_new w (.cells #[.int .i64 op1, .string (bs nm1), .int .i64 xn1, .int .i64 wd1, .int .u64 (v1 : Int), .slice xa1 xl1.length xc1] 25)) (.cells #[.int .i64 op2, .string (bs nm2), .int .i64 xn2, .int .i64 wd2, .int .u64 (v2 : Int), .slice xa2 xl2.length xc2] 25)
  have BX2 := World.alloc_heap_new (w.alloc (.cells #[.int .i64 op1, .string (bs nm1), .int .i64 xn1, .int .i64 wd1, .int .u64 (v1 : Int), .slice xa1 xl1.length xc1] 25)) (.cells #[.int .i64 op2, .string (bs nm2), .int .i64 xn2, .int .i64 wd2, .int .u64 (v2 : Int), .slice xa2 xl2.length xc2] 25)
  simp only [World.size_alloc] at BX2
  have hB : Below w.heap.size w ((w.alloc (.cells #[.int .i64 op1, .string (bs nm1), .int .i64 xn1, .int .i64 wd1, .int .u64 (v1 : Int), .slice xa1 xl1.length xc1] 25)).alloc (.cells #[.int .i64 op2, .string (bs nm2), .int .i64 xn2, .int .i64 wd2, .int .u64 (v2 : Int), .slice xa2 xl2.length xc2] 25)) := (((Below.refl _ _).alloc (by first | exact Nat.le_refl _ | (simp; done) | (simp; omega)) _).alloc (by first | exact Nat.le_refl _ | (simp; done) | (simp; omega)) _)
  have hk9 := Below.keptTo hB hn0
  replace hx1 := XT.In.keep hk9 _ hx1
  replace hx2 := XT.In.keep hk9 _ hx2
  replace hl := hl.keep hk9
  replace he := he.keep hB
  replace hn0 := Nat.le_trans hn0 hB.size
  clear hk9
  generalize ((w.alloc (.cells #[.int .i64 op1, .string (bs nm1), .int .i64 xn1, .int .i64 wd1, .int .u64 (v1 : Int), .slice xa1 xl1.length xc1] 25)).alloc (.cells #[.int .i64 op2, .string (bs nm2), .int .i64 xn2, .int .i64 wd2, .int .u64 (v2 : Int), .slice xa2 xl2.length xc2] 25)) = w1 at *
  obtain ⟨q01, q11, q21, q31, q41, q51⟩ := open6 BX1
  obtain ⟨q02, q12, q22, q32, q42, q52⟩ := open6 BX2
  go_wp2_with fail
  refine (live_any _ he).mono ?_
  rintro e w2 ⟨rfl, hb⟩
  clear q01 q11 q21 q31 q41 q51 q02 q12 q22 q32 q42 q52
  have hk9 := Below.keptTo hb hn0
  replace BX1 := block_kept BX1 hb
  replace hx1 := XT.In.keep hk9 _ hx1
  replace BX2 := block_kept BX2 hb
  replace hx2 := XT.In.keep hk9 _ hx2
  replace hl := hl.keep hk9
  replace he := he.keep hb
  replace hn0 := Nat.le_trans hn0 hb.size
  replace hB := hB.trans (hb.mono hB.size)
  clear hb hk9
  obtain ⟨q01, q11, q21, q31, q41, q51⟩ := open6 BX1
  obtain ⟨q02, q12, q22, q32, q42, q52⟩ := open6 BX2
  go_wp2_with fail
  refine (HF1.out _ _ hn0 hx1).mono ?_
  rintro e w3 ⟨rfl, hb⟩
  clear q01 q11 q21 q31 q41 q51 q02 q12 q22 q32 q42 q52
  have hk9 := Below.keptTo hb hn0
  replace BX1 := block_kept BX1 hb
  replace hx1 := XT.In.keep hk9 _ hx1
  replace BX2 := block_kept BX2 hb
  replace hx2 := XT.In.keep hk9 _ hx2
  replace hl := hl.keep hk9
  replace he := he.keep hb
  replace hn0 := Nat.le_trans hn0 hb.size
  replace hB := hB.trans (hb.mono hB.size)
  clear hb hk9
  clear HF1
  cases hf1 : f1
  case false =>
    go_wp2
    go_ret
    exact ⟨rfl, hB⟩
  obtain ⟨q01, q11, q21, q31, q41, q51⟩ := open6 BX1
  obtain ⟨q02, q12, q22, q32, q42, q52⟩ := open6 BX2
  go_wp2_with fail
  refine (HF2.out _ _ hn0 hx2).mono ?_
  rintro e w4 ⟨rfl, hb⟩
  clear q01 q11 q21 q31 q41 q51 q02 q12 q22 q32 q42 q52
  have hk9 := Below.keptTo hb hn0
  replace BX1 := block_kept BX1 hb
  replace hx1 := XT.In.keep hk9 _ hx1
  replace BX2 := block_kept BX2 hb
  replace hx2 := XT.In.keep hk9 _ hx2
  replace hl := hl.keep hk9
  replace he := he.keep hb
  replace hn0 := Nat.le_trans hn0 hb.size
  replace hB := hB.trans (hb.mono hB.size)
  clear hb hk9
  clear HF2
  cases hf2 : f2
  case false =>
    go_wp2
    go_ret
    exact ⟨rfl, hB⟩
  obtain ⟨q01, q11, q21, q31, q41, q51⟩ := open6 BX1
  obtain ⟨q02, q12, q22, q32, q42, q52⟩ := open6 BX2
  go_wp2_with fail
  refine (HD1.out _ _ hn0 hx1).mono ?_
  rintro e w5 ⟨rfl, hb⟩
  clear q01 q11 q21 q31 q41 q51 q02 q12 q22 q32 q42 q52
  have hk9 := Below.keptTo hb hn0
  replace BX1 := block_kept BX1 hb
  replace hx1 := XT.In.keep hk9 _ hx1
  replace BX2 := block_kept BX2 hb
  replace hx2 := XT.In.keep hk9 _ hx2
  replace hl := hl.keep hk9
  replace he := he.keep hb
  replace hn0 := Nat.le_trans hn0 hb.size
  replace hB := hB.trans (hb.mono hB.size)
  clear hb hk9
  clear HD1
  by_cases hd1 : d1 ≤ 50
  case neg =>
    have hd9 : (50 : Int) < (d1 : Int) := by omega
    go_wp2
    go_ret
    exact ⟨rfl, hB⟩
  have hd19 : ¬ ((50 : Int) < (d1 : Int)) := by omega
  obtain ⟨q01, q11, q21, q31, q41, q51⟩ := open6 BX1
  obtain ⟨q02, q12, q22, q32, q42, q52⟩ := open6 BX2
  go_wp2_with fail
  refine (HD2.out _ _ hn0 hx2).mono ?_
  rintro e w6 ⟨rfl, hb⟩
  clear q01 q11 q21 q31 q41 q51 q02 q12 q22 q32 q42 q52
  have hk9 := Below.keptTo hb hn0
  replace BX1 := block_kept BX1 hb
  replace hx1 := XT.In.keep hk9 _ hx1
  replace BX2 := block_kept BX2 hb
  replace hx2 := XT.In.keep hk9 _ hx2
  replace hl := hl.keep hk9
  replace he := he.keep hb
  replace hn0 := Nat.le_trans hn0 hb.size
  replace hB := hB.trans (hb.mono hB.size)
  clear hb hk9
  clear HD2
  by_cases hd2 : d2 ≤ 50
  case neg =>
    have hd9 : (50 : Int) < (d2 : Int) := by omega
    go_wp2
    go_ret
    exact ⟨rfl, hB⟩
  have hd29 : ¬ ((50 : Int) < (d2 : Int)) := by omega
  obtain ⟨q01, q11, q21, q31, q41, q51⟩ := open6 BX1
  obtain ⟨q02, q12, q22, q32, q42, q52⟩ := open6 BX2
  go_wp2_with fail
  refine (HE1.out _ _ hn0 he hx1 hl).mono ?_
  rintro e w7 ⟨rfl, hb⟩
  clear q01 q11 q21 q31 q41 q51 q02 q12 q22 q32 q42 q52
  have hk9 := Below.keptTo hb hn0
  replace BX1 := block_kept BX1 hb
  replace hx1 := XT.In.keep hk9 _ hx1
  replace BX2 := block_kept BX2 hb
  replace hx2 := XT.In.keep hk9 _ hx2
  replace hl := hl.keep hk9
  replace he := he.keep hb
  replace hn0 := Nat.le_trans hn0 hb.size
  replace hB := hB.trans (hb.mono hB.size)
  clear hb hk9
  obtain ⟨q01, q11, q21, q31, q41, q51⟩ := open6 BX1
  obtain ⟨q02, q12, q22, q32, q42, q52⟩ := open6 BX2
  go_wp2_with fail
  refine (HE2.out _ _ hn0 he hx2 hl).mono ?_
  rintro e w8 ⟨rfl, hb⟩
  clear q01 q11 q21 q31 q41 q51 q02 q12 q22 q32 q42 q52
  have hk9 := Below.keptTo hb hn0
  replace BX1 := block_kept BX1 hb
  replace hx1 := XT.In.keep hk9 _ hx1
  replace BX2 := block_kept BX2 hb
  replace hx2 := XT.In.keep hk9 _ hx2
  replace hl := hl.keep hk9
  replace he := he.keep hb
  replace hn0 := Nat.le_trans hn0 hb.size
  replace hB := hB.trans (hb.mono hB.size)
  clear hb hk9
  clear HE1 HE2
  by_cases h1 : e1 = 0
  case neg =>
    have h19 : (e1 != 0) = true := by simpa using h1
    go_wp2
    go_ret
    exact ⟨rfl, hB⟩
  by_cases h2 : e2 = 0
  case neg =>
    have h29 : (e2 != 0) = true := by simpa using h2
    subst h1
    go_wp2
    go_ret
    exact ⟨rfl, hB⟩
  have HL := HG.out hf1 hd1 hf2 hd2 h1 h2
  clear HG hd1 hd2 hd19 hd29
  subst h1 h2 hf1 hf2
  have hP := Lib.hid (pcases n1 n2)
  obtain ⟨B25, B26, NX, NY, NB, NN, BN, E1, E2, E3, E4⟩ := HL
  simp only [XT.val, XT.cells] at B25 B26 NX NY
  generalize P1 n1 n2 = p1 at *
  generalize P2 n1 n2 = p2 at *
  generalize P3 n1 n2 = p3 at *
  generalize P4 n1 = p4 at *
  replace B25 := Lib.hid B25
  replace B26 := Lib.hid B26
  replace NX := Lib.hid NX
  replace NY := Lib.hid NY
  replace NB := Lib.hid NB
  replace NN := Lib.hid NN
  replace BN := Lib.hid BN
  replace E1 := Lib.hid E1
  replace E2 := Lib.hid E2
  replace E3 := Lib.hid E3
  replace E4 := Lib.hid E4
  obtain ⟨q01, q11, q21, q31, q41, q51⟩ := open6 BX1
  obtain ⟨q02, q12, q22, q32, q42, q52⟩ := open6 BX2
  go_wp2_with fail
  refine (B25.out _ _ hn0 hx1 hx2).mono ?_
  rintro e w9 ⟨g1, rfl, hi, hb⟩
  clear q01 q11 q21 q31 q41 q51 q02 q12 q22 q32 q42 q52
  have hk9 := Below.keptTo hb hn0
  replace BX1 := block_kept BX1 hb
  replace hx1 := XT.In.keep hk9 _ hx1
  replace BX2 := block_kept BX2 hb
  replace hx2 := XT.In.keep hk9 _ hx2
  replace hl := hl.keep hk9
  replace he := he.keep hb
  replace hn0 := Nat.le_trans hn0 hb.size
  replace hB := hB.trans (hb.mono hB.size)
  clear hb hk9
  obtain ⟨q01, q11, q21, q31, q41, q51⟩ := open6 BX1
  obtain ⟨q02, q12, q22, q32, q42, q52⟩ := open6 BX2
  go_wp2_with fail
  refine (NB.out _ _ _ hi).mono ?_
  rintro e w10 ⟨g2, rfl, hj, hb⟩
  clear hi
  clear q01 q11 q21 q31 q41 q51 q02 q12 q22 q32 q42 q52
  have hk9 := Below.keptTo hb hn0
  replace BX1 := block_kept BX1 hb
  replace hx1 := XT.In.keep hk9 _ hx1
  replace BX2 := block_kept BX2 hb
  replace hx2 := XT.In.keep hk9 _ hx2
  replace hl := hl.keep hk9
  replace he := he.keep hb
  replace hn0 := Nat.le_trans hn0 hb.size
  replace hB := hB.trans (hb.mono hB.size)
  clear hb hk9
  obtain ⟨q01, q11, q21, q31, q41, q51⟩ := open6 BX1
  obtain ⟨q02, q12, q22, q32, q42, q52⟩ := open6 BX2
  go_wp2_with fail
  refine (E1.out _ _ _ _ hn0 he hj hl).mono ?_
  rintro e w11 ⟨rfl, hb⟩
  clear hj
  clear q01 q11 q21 q31 q41 q51 q02 q12 q22 q32 q42 q52
  have hk9 := Below.keptTo hb hn0
  replace BX1 := block_kept BX1 hb
  replace hx1 := XT.In.keep hk9 _ hx1
  replace BX2 := block_kept BX2 hb
  replace hx2 := XT.In.keep hk9 _ hx2
  replace hl := hl.keep hk9
  replace he := he.keep hb
  replace hn0 := Nat.le_trans hn0 hb.size
  replace hB := hB.trans (hb.mono hB.size)
  clear hb hk9
  clear B25 E1
  have NXd := Lib.hid (fun (W9 : World) (h9 : Below w11.heap.size w11 W9) => NX.out n0 W9 (Nat.le_trans hn0 h9.size) (XT.In.keep (Below.keptTo h9 hn0) _ hx1))
  obtain ⟨q01, q11, q21, q31, q41, q51⟩ := open6 BX1
  obtain ⟨q02, q12, q22, q32, q42, q52⟩ := open6 BX2
  go_upto_region 9 with (fail)
  go_region_held3 (fun u1 => u1.cell? ⟨w.heap.size, 0, none⟩ = some (.int .i64 op1) ∧ u1.cell? ⟨w.heap.size, 1, none⟩ = some (.string (bs nm1)) ∧ u1.cell? ⟨w.heap.size, 2, none⟩ = some (.int .i64 xn1) ∧ u1.cell? ⟨w.heap.size, 3, none⟩ = some (.int .i64 wd1) ∧ u1.cell? ⟨w.heap.size, 4, none⟩ = some (.int .u64 (v1 : Int)) ∧ u1.cell? ⟨w.heap.size, 5, none⟩ = some (.slice xa1 xl1.length xc1) ∧ u1.cell? ⟨w.heap.size + 1, 0, none⟩ = some (.int .i64 op2) ∧ u1.cell? ⟨w.heap.size + 1, 1, none⟩ = some (.string (bs nm2)) ∧ u1.cell? ⟨w.heap.size + 1, 2, none⟩ = some (.int .i64 xn2) ∧ u1.cell? ⟨w.heap.size + 1, 3, none⟩ = some (.int .i64 wd2) ∧ u1.cell? ⟨w.heap.size + 1, 4, none⟩ = some (.int .u64 (v2 : Int)) ∧ u1.cell? ⟨w.heap.size + 1, 5, none⟩ = some (.slice xa2 xl2.length xc2)) (first | exact ⟨q01, q11, q21, q31, q41, q51, q02, q12, q22, q32, q42, q52⟩ | exact ⟨q01A, q11A, q21A, q31A, q41A, q51A, q02A, q12A, q22A, q32A, q42A, q52A⟩ | exact ⟨q01B, q11B, q21B, q31B, q41B, q51B, q02B, q12B, q22B, q32B, q42B, q52B⟩ | exact ⟨q01C, q11C, q21C, q31C, q41C, q51C, q02C, q12C, q22C, q32C, q42C, q52C⟩ | exact ⟨q01D, q11D, q21D, q31D, q41D, q51D, q02D, q12D, q22D, q32D, q42D, q52D⟩) (first | (go_at_call 28; refine (NXd.out _ (by first | exact Below.refl _ _ | exact (Below.refl _ _).drew | exact below_drawn2 (Below.refl _ _) _)).mono ?_; rintro e wa ⟨g1, rfl, hu1, hb⟩; have hq1 : Below w11.heap.size w11 wa := ((by first | exact Below.refl _ _ | exact (Below.refl _ _).drew | exact below_drawn2 (Below.refl _ _) _) : Below w11.heap.size w11 _).trans hb; have q01A := keep_cell hq1 q01; have q11A := keep_cell hq1 q11; have q21A := keep_cell hq1 q21; have q31A := keep_cell hq1 q31; have q41A := keep_cell hq1 q41; have q51A := keep_cell hq1 q51; have q02A := keep_cell hq1 q02; have q12A := keep_cell hq1 q12; have q22A := keep_cell hq1 q22; have q32A := keep_cell hq1 q32; have q42A := keep_cell hq1 q42; have q52A := keep_cell hq1 q52; clear hb) | (go_at_call 28; refine (NY.out n0 _ (Nat.le_trans hn0 hq1.size) (XT.In.keep (Below.keptTo hq1 hn0) _ hx2)).mono ?_; rintro e wb ⟨g2, rfl, hu2, hb⟩; have hq2 : Below w11.heap.size w11 wb := hq1.trans (hb.mono hq1.size); have hu3 := XT.In.up (n := 0) hu1 hb; have q01B := keep_cell hq2 q01; have q11B := keep_cell hq2 q11; have q21B := keep_cell hq2 q21; have q31B := keep_cell hq2 q31; have q41B := keep_cell hq2 q41; have q51B := keep_cell hq2 q51; have q02B := keep_cell hq2 q02; have q12B := keep_cell hq2 q12; have q22B := keep_cell hq2 q22; have q32B := keep_cell hq2 q32; have q42B := keep_cell hq2 q42; have q52B := keep_cell hq2 q52; clear hb) | (go_at_call 24; refine (BN.out g1 g2 _ hu3 hu2).mono ?_; rintro e wc ⟨g3, rfl, hi3, hb⟩; have hq3 : Below w11.heap.size w11 wc := hq2.trans (hb.mono hq2.size); have q01C := keep_cell hq3 q01; have q11C := keep_cell hq3 q11; have q21C := keep_cell hq3 q21; have q31C := keep_cell hq3 q31; have q41C := keep_cell hq3 q41; have q51C := keep_cell hq3 q51; have q02C := keep_cell hq3 q02; have q12C := keep_cell hq3 q12; have q22C := keep_cell hq3 q22; have q32C := keep_cell hq3 q32; have q42C := keep_cell hq3 q42; have q52C := keep_cell hq3 q52; clear hb) | (go_at_call 13; refine (E2.out g3 g1 g2 n0 _ (Nat.le_trans hn0 hq3.size) (he.keep hq3) hi3 (hl.keep (Below.keptTo hq3 hn0))).mono ?_; rintro e wd ⟨rfl, hb⟩; have hq4 : Below w11.heap.size w11 wd := hq3.trans (hb.mono hq3.size); have q01D := keep_cell hq4 q01; have q11D := keep_cell hq4 q11; have q21D := keep_cell hq4 q21; have q31D := keep_cell hq4 q31; have q41D := keep_cell hq4 q41; have q51D := keep_cell hq4 q51; have q02D := keep_cell hq4 q02; have q12D := keep_cell hq4 q12; have q22D := keep_cell hq4 q22; have q32D := keep_cell hq4 q32; have q42D := keep_cell hq4 q42; have q52D := keep_cell hq4 q52; clear hb))
  clear q01 q01A q01B q01C q01D q11 q11A q11B q11C q11D q21 q21A q21B q21C q21D q31 q31A q31B q31C q31D q41 q41A q41B q41C q41D q51 q51A q51B q51C q51D q02 q02A q02B q02C q02D q12 q12A q12B q12C q12D q22 q22A q22B q22C q22D q32 q32A q32B q32C q32D q42 q42A q42B q42C q42D q52 q52A q52B q52C q52D
  clear NXd hq1 hq2 hq3 hu1 hu2 hu3 hi3 BN E2
  have hk9 := Below.keptTo hq4 hn0
  replace BX1 := block_kept BX1 hq4
  replace hx1 := XT.In.keep hk9 _ hx1
  replace BX2 := block_kept BX2 hq4
  replace hx2 := XT.In.keep hk9 _ hx2
  replace hl := hl.keep hk9
  replace he := he.keep hq4
  replace hn0 := Nat.le_trans hn0 hq4.size
  replace hB := hB.trans (hq4.mono hB.size)
  clear hq4 hk9
  obtain ⟨q01, q11, q21, q31, q41, q51⟩ := open6 BX1
  obtain ⟨q02, q12, q22, q32, q42, q52⟩ := open6 BX2
  go_wp2_with fail
  refine (B26.out _ _ hn0 hx1 hx2).mono ?_
  rintro e w22 ⟨g1, rfl, hi, hb⟩
  clear q01 q11 q21 q31 q41 q51 q02 q12 q22 q32 q42 q52
  have hk9 := Below.keptTo hb hn0
  replace BX1 := block_kept BX1 hb
  replace hx1 := XT.In.keep hk9 _ hx1
  replace BX2 := block_kept BX2 hb
  replace hx2 := XT.In.keep hk9 _ hx2
  replace hl := hl.keep hk9
  replace he := he.keep hb
  replace hn0 := Nat.le_trans hn0 hb.size
  replace hB := hB.trans (hb.mono hB.size)
  clear hb hk9
  obtain ⟨q01, q11, q21, q31, q41, q51⟩ := open6 BX1
  obtain ⟨q02, q12, q22, q32, q42, q52⟩ := open6 BX2
  go_wp2_with fail
  refine (NB.out _ _ _ hi).mono ?_
  rintro e w23 ⟨g2, rfl, hj, hb⟩
  clear hi
  clear q01 q11 q21 q31 q41 q51 q02 q12 q22 q32 q42 q52
  have hk9 := Below.keptTo hb hn0
  replace BX1 := block_kept BX1 hb
  replace hx1 := XT.In.keep hk9 _ hx1
  replace BX2 := block_kept BX2 hb
  replace hx2 := XT.In.keep hk9 _ hx2
  replace hl := hl.keep hk9
  replace he := he.keep hb
  replace hn0 := Nat.le_trans hn0 hb.size
  replace hB := hB.trans (hb.mono hB.size)
  clear hb hk9
  obtain ⟨q01, q11, q21, q31, q41, q51⟩ := open6 BX1
  obtain ⟨q02, q12, q22, q32, q42, q52⟩ := open6 BX2
  go_wp2_with fail
  refine (E3.out _ _ _ _ hn0 he hj hl).mono ?_
  rintro e w24 ⟨rfl, hb⟩
  clear hj
  clear q01 q11 q21 q31 q41 q51 q02 q12 q22 q32 q42 q52
  have hk9 := Below.keptTo hb hn0
  replace BX1 := block_kept BX1 hb
  replace hx1 := XT.In.keep hk9 _ hx1
  replace BX2 := block_kept BX2 hb
  replace hx2 := XT.In.keep hk9 _ hx2
  replace hl := hl.keep hk9
  replace he := he.keep hb
  replace hn0 := Nat.le_trans hn0 hb.size
  replace hB := hB.trans (hb.mono hB.size)
  clear hb hk9
  obtain ⟨q01, q11, q21, q31, q41, q51⟩ := open6 BX1
  obtain ⟨q02, q12, q22, q32, q42, q52⟩ := open6 BX2
  go_wp2_with fail
  refine (NX.out _ _ hn0 hx1).mono ?_
  rintro e w25 ⟨g1, rfl, hi, hb⟩
  clear q01 q11 q21 q31 q41 q51 q02 q12 q22 q32 q42 q52
  have hk9 := Below.keptTo hb hn0
  replace BX1 := block_kept BX1 hb
  replace hx1 := XT.In.keep hk9 _ hx1
  replace BX2 := block_kept BX2 hb
  replace hx2 := XT.In.keep hk9 _ hx2
  replace hl := hl.keep hk9
  replace he := he.keep hb
  replace hn0 := Nat.le_trans hn0 hb.size
  replace hB := hB.trans (hb.mono hB.size)
  clear hb hk9
  obtain ⟨q01, q11, q21, q31, q41, q51⟩ := open6 BX1
  obtain ⟨q02, q12, q22, q32, q42, q52⟩ := open6 BX2
  go_wp2_with fail
  refine (NN.out _ _ hi).mono ?_
  rintro e w26 ⟨g2, rfl, hj, hb⟩
  clear hi
  clear q01 q11 q21 q31 q41 q51 q02 q12 q22 q32 q42 q52
  have hk9 := Below.keptTo hb hn0
  replace BX1 := block_kept BX1 hb
  replace hx1 := XT.In.keep hk9 _ hx1
  replace BX2 := block_kept BX2 hb
  replace hx2 := XT.In.keep hk9 _ hx2
  replace hl := hl.keep hk9
  replace he := he.keep hb
  replace hn0 := Nat.le_trans hn0 hb.size
  replace hB := hB.trans (hb.mono hB.size)
  clear hb hk9
  obtain ⟨q01, q11, q21, q31, q41, q51⟩ := open6 BX1
  obtain ⟨q02, q12, q22, q32, q42, q52⟩ := open6 BX2
  go_wp2_with fail
  refine (E4.out _ _ _ _ hn0 he hj hl).mono ?_
  rintro e w27 ⟨rfl, hb⟩
  clear hj
  clear q01 q11 q21 q31 q41 q51 q02 q12 q22 q32 q42 q52
  have hk9 := Below.keptTo hb hn0
  replace BX1 := block_kept BX1 hb
  replace hx1 := XT.In.keep hk9 _ hx1
  replace BX2 := block_kept BX2 hb
  replace hx2 := XT.In.keep hk9 _ hx2
  replace hl := hl.keep hk9
  replace he := he.keep hb
  replace hn0 := Nat.le_trans hn0 hb.size
  replace hB := hB.trans (hb.mono hB.size)
  clear hb hk9
  clear B26 NX NY NB NN E3 E4 BX1 BX2 hx1 hx2 hl
  rcases hP.out with ⟨rfl, rfl, rfl, rfl, rfl, rfl⟩ | ⟨rfl, h1, rfl, rfl, rfl, rfl⟩ | ⟨h1, rfl, rfl, rfl, rfl, rfl⟩ | ⟨h1, h2, rfl, rfl, rfl, rfl⟩
  · go_wp2_with fail
    refine (bit_t _).mono ?_
    rintro e _ ⟨rfl, rfl⟩
    go_wp2_with fail
    refine (bit_t _).mono ?_
    rintro e _ ⟨rfl, rfl⟩
    go_wp2_with fail
    refine (bit_f _).mono ?_
    rintro e _ ⟨rfl, rfl⟩
    go_wp2
    go_ret
    exact ⟨rfl, hB⟩
  · have h9 : (n2 == 0) = false := by simpa using h1
    go_wp2_with fail
    refine (bit_t _).mono ?_
    rintro e _ ⟨rfl, rfl⟩
    go_wp2_with fail
    refine (bit_f _).mono ?_
    rintro e _ ⟨rfl, rfl⟩
    go_wp2_with fail
    refine (bit_f _).mono ?_
    rintro e _ ⟨rfl, rfl⟩
    go_wp2
    go_ret
    exact ⟨rfl, hB⟩
  · have h9 : (n1 == 0) = false := by simpa using h1
    have h8 : (n1 != 0) = true := by simpa using h1
    go_wp2_with fail
    refine (bit_t _).mono ?_
    rintro e _ ⟨rfl, rfl⟩
    go_wp2_with fail
    refine (bit_f _).mono ?_
    rintro e _ ⟨rfl, rfl⟩
    go_wp2_with fail
    refine (bit_t _).mono ?_
    rintro e _ ⟨rfl, rfl⟩
    go_wp2
    go_ret
    exact ⟨rfl, hB⟩
  · have h9 : (n1 == 0) = false := by simpa using h1
    have h8 : (n1 != 0) = true := by simpa using h1
    have h7 : (n2 == 0) = false := by simpa using h2
    go_wp2_with fail
    refine (bit_f _).mono ?_
    rintro e _ ⟨rfl, rfl⟩
    go_wp2_with fail
    refine (bit_f _).mono ?_
    rintro e _ ⟨rfl, rfl⟩
    go_wp2_with fail
    refine (bit_t _).mono ?_
    rintro e _ ⟨rfl, rfl⟩
    go_wp2
    go_ret
    exact ⟨rfl, hB⟩

/-! ### The row's step -/
set_option maxRecDepth 100000 in
theorem contract (H : Type) (enc : TypeId × Value → H) (W : World) (base : Nat) (args : Array Value) (ds gs : List (DataW H)) (before : List MemPlace)
    (hval0 : ∀ (j : Nat) t v, Tryd.f8.params[j]? = some t → args[j]? = some v → Value.okWide Tryd.prog W .any base t v)
    (hW : DataW.Whole enc Tryd.prog Tryd.f8.params.toList Rows.konstLogicSpec.vars false W args.toList ds gs before) (hbk : Rows.uptoBulkAll (ds ++ gs) ≤ 1048576) (hL : laidMetH Tryd.prog LD W) (hsh : W.ShapedOpen Tryd.prog) :
    Calls Tryd.prog 8 args W fun e W' => ∃ v, e = .returned v ∧ Rows.konstLogicSpec.post enc Tryd.prog Tryd.f8 false true false false W args v W' := by
  have hval : ∀ (j : Nat) t v, Tryd.f8.params[j]? = some t → args[j]? = some v → Value.okWide Tryd.prog W .any base t v := hval0
  have hW' := hW
  obtain ⟨p, q, hA0, hV, rfl, hfz, hnd⟩ := hW
  have hA : DataW.TrodAll enc Tryd.prog W 0 (fun _ => true) true Tryd.f8.params.toList args.toList ds p := hA0
  rw [Tryd.params8] at hA hval
  obtain ⟨v0, vs0, d0, ds0, p0, q0, hargs, rfl, rfl, h0, r0⟩ := trodAll_cons hA
  obtain ⟨v1, vs1, d1, ds1, p1, q1, rfl, rfl, rfl, h1, r1⟩ := trodAll_cons r0
  obtain ⟨v2, vs2, d2, ds2, p2, q2, rfl, rfl, rfl, h2, r2⟩ := trodAll_cons r1
  obtain ⟨rfl, rfl, rfl⟩ := trodAll_nil r2
  obtain rfl : args = #[v0, v1, v2] := by cases args; simp_all
  obtain ⟨rfl, rfl⟩ := trodVars_none hV
  have he := env_of hL hsh
  simp only [List.append_nil, Rows.uptoBulkAll] at hbk
  have k0 : ∀ (W' : World), Below W.heap.size W W' → DataW.Trod enc Tryd.prog W' 0 (fun b => decide (b < W.heap.size)) true 25 v0 d0 p0 := fun W' hn => Below.trod laidOut (by kernel_rfl) (of_decide_eq_true (by kernel_rfl)) h0 hn (fun x hx => by simpa using hW'.lt x (by simp [hx]))
  have k1 : ∀ (W' : World), Below W.heap.size W W' → DataW.Trod enc Tryd.prog W' 0 (fun b => decide (b < W.heap.size)) true 25 v1 d1 p1 := fun W' hn => Below.trod laidOut (by kernel_rfl) (of_decide_eq_true (by kernel_rfl)) h1 hn (fun x hx => by simpa using hW'.lt x (by simp [hx]))
  have k2 : ∀ (W' : World), Below W.heap.size W W' → DataW.Trod enc Tryd.prog W' 0 (fun b => decide (b < W.heap.size)) true 26 v2 d2 p2 := fun W' hn => Below.trod laidOut (by kernel_rfl) (of_decide_eq_true (by kernel_rfl)) h2 hn (fun x hx => by simpa using hW'.lt x (by simp [hx]))
  obtain ⟨t0, rfl, i0, w0, b0⟩ := xt_of (hval 0 25 v0 rfl rfl) h0
  obtain ⟨t1, rfl, i1, w1, b1⟩ := xt_of (hval 1 25 v1 rfl rfl) h1
  obtain ⟨a2, c2, l2, rfl, r2_, b2, z2⟩ := rowN_of (hval 2 26 v2 rfl rfl) h2
  clear hA0 hval0
  simp only [List.append_nil] at hW'
  refine (walk_any t0 t1 (by omega) w0 w1 l2 (by omega) a2 c2 W.heap.size W (Nat.le_refl _) he i0 i1 r2_).mono fun e W' ⟨hr, bel⟩ => ?_
  subst hr
  exact ⟨_, rfl, _, _, _, [], _, [], hW', trodAll_mk1 (shut_bool Tryd.underlying4 _), (trodAll_cons_mk (k0 _ bel) (trodAll_cons_mk (k1 _ bel) (trodAll_cons_mk (k2 _ bel) trodAll_mk0))), rfl, bel.frame _, fun h => by cases h⟩
theorem reads (os : Os) {H : Type} (enc : TypeId × Value → H) : ∃ places, DataW.whole enc Tryd.prog ((World.doorLaid Tryd.prog 55 os).forCall (fun _ _ => 0) ⟨#[], #[.agg #[.int .i64 0, .string ⟨#[]⟩, .int .i64 0, .int .i64 0, .int .u64 0, .slice none 0 0], .agg #[.int .i64 0, .string ⟨#[]⟩, .int .i64 0, .int .i64 0, .int .u64 0, .slice none 0 0], .slice none 0 0], []⟩).memory Tryd.f8.params.toList Rows.konstLogicSpec.vars false #[.agg #[.int .i64 0, .string ⟨#[]⟩, .int .i64 0, .int .i64 0, .int .u64 0, .slice none 0 0], .agg #[.int .i64 0, .string ⟨#[]⟩, .int .i64 0, .int .i64 0, .int .u64 0, .slice none 0 0], .slice none 0 0].toList 8 = some ([.agg [.lit (.int .i64 0), .lit (.string []), .lit (.int .i64 0), .lit (.int .i64 0), .lit (.int .u64 0), .nil], .agg [.lit (.int .i64 0), .lit (.string []), .lit (.int .i64 0), .lit (.int .i64 0), .lit (.int .u64 0), .nil], .nil], [], places) :=
  ⟨[], by kernel_rfl⟩
set_option maxRecDepth 100000 in
theorem lifted (os : Os) (started : os.Started) (H : Type) (enc : TypeId × Value → H) (F : Stop.Interp) :
    ReturnsInHanded {} Tryd.checked os 8 .any ((Rows.OpenSpec.upto Rows.konstLogicSpec).preRow enc Tryd.prog Tryd.f8 Rows.konstLogicUptoRow.domain false Rows.konstLogicUptoRow.laid) (((Rows.OpenSpec.upto Rows.konstLogicSpec).at F).post enc Tryd.prog Tryd.f8 false true false false) := by
  obtain ⟨places, hx⟩ := reads os enc
  refine returnsInHanded_of_row (C := Tryd.checked) (s := Rows.OpenSpec.upto Rows.konstLogicSpec) own started (by kernel_rfl) Tryd.func8
    (witness_row_at (enc := enc) (C := Tryd.checked) false (World.doorLaid Tryd.prog 55 os) #[.agg #[.int .i64 0, .string ⟨#[]⟩, .int .i64 0, .int .i64 0, .int .u64 0, .slice none 0 0], .agg #[.int .i64 0, .string ⟨#[]⟩, .int .i64 0, .int .i64 0, .int .u64 0, .slice none 0 0], .slice none 0 0] rfl (by kernel_rfl) (by kernel_rfl) (by kernel_rfl)
      (OpenSpec.preRow_of_cond 8 hx (by kernel_rfl) (fun k hk => by cases hk; kernel_rfl) (by kernel_rfl) (door_met os _))) ?_
  intro W base args ds gs before hval hW _ hcond _ hL hsh _
  have hbk : Rows.uptoBulkAll (ds ++ gs) ≤ 1048576 := of_decide_eq_true (hcond _ rfl)
  exact contract H enc W base args ds gs before hval hW hbk hL hsh
theorem over : Rows.KonstLogicUptoSaid :=
  OpenClaim.holds_of_cond 8 Tryd.f8 rfl rfl rfl rfl rfl rfl rfl ⟨rfl, rfl, rfl, rfl, rfl⟩ rfl rfl rfl rfl rfl (by kernel_rfl) Tryd.func8 (by kernel_rfl)
    (of_decide_eq_true (by kernel_rfl)) (by unfold Func.isWrapper; first | (rw [if_pos (by decide +kernel)]; kernel_rfl) | (rw [if_neg (by decide +kernel)]; exact ⟨rfl, rfl⟩))
    (fun os started H enc _ F => by rw [OpenClaim.pre_eq_preRow]; exact lifted os started H enc F)
/-- The given statement. -/
theorem proved : Rows.KonstLogicUptoCardSaid :=
  Claim7.holds_tied_plain_at .later [] _ _ _ _
    over (fun _ h => by cases h) (by kernel_rfl) (fun _ h => by cases h) konstLogicUpto_row_tie rfl ⟨rfl, rfl⟩ (by kernel_rfl) rfl
    (fun f fn hf hfn => by
      obtain rfl : f = 8 := Option.some.inj ((show Tryd.prog.funcNamed "filigree/filigreelaw06.KonstLogic" = some 8 by kernel_rfl).symm.trans hf) |>.symm
      obtain rfl : fn = Tryd.f8 := (Option.some.inj (Tryd.func8.symm.trans hfn)).symm
      exact ⟨by kernel_rfl, fun j t ht => by
        rw [Tryd.params8] at ht
        have hm : t ∈ [25, 25, 26] := by simpa using Array.mem_of_getElem? ht
        have hall : ([25, 25, 26].all fun u => !Tryd.prog.wantsStandIn u) = true := by kernel_rfl
        exact (show Tryd.prog.wantsStandIn t = false by simpa using List.all_eq_true.1 hall t hm)⟩)
    (by kernel_rfl)
#print axioms proved
end Go.Proofs.YtlhcnbgllgodoaaDoor.konstLogic
