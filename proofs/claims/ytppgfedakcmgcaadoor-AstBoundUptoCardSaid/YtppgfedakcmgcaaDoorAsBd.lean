/-
  wire, deep, size; the walk of AstBound.
-/
import Derived.Test.YtppgfedakcmgcaaDoorAsLv
import Derived.Deep.LoopGhost
namespace Go.Proofs.YtppgfedakcmgcaaDoor
open Go Go.RowKit Go.Sort
set_option linter.unusedVariables false
set_option linter.unusedSimpArgs false

mutual
/-- No row of it lies in block g. -/
def XT.Av (g : Nat) : XT → Prop | .mk _ _ _ _ _ a _ l => (l = [] ∨ ∀ p, a = some p → p.block ≠ g) ∧ XT.AvL g l
def XT.AvL (g : Nat) : List XT → Prop | [] => True | x :: r => XT.Av g x ∧ XT.AvL g r
end
theorem XT.avL_iff (g : Nat) : ∀ l : List XT, XT.AvL g l ↔ ∀ x ∈ l, x.Av g
  | [] => by simp [XT.AvL]
  | x :: r => by simp [XT.AvL, XT.avL_iff g r]
theorem InRow.keepNe {α : Type} {k : Nat} {cells : α → List Value} {inn inn' : α → Prop} {n g : Nat} {W W' : World} (hk : ∀ b o v, b < n → b ≠ g → W.cell? ⟨b, o, none⟩ = some v → W'.cell? ⟨b, o, none⟩ = some v) : ∀ {l : List α} {a : Option Addr}, (l = [] ∨ ∀ p, a = some p → p.block ≠ g) → (∀ x ∈ l, inn x → inn' x) → InRow k cells inn n W l a → InRow k cells inn' n W' l a
  | [], _, _, _, _ => trivial
  | x :: r, a, hne, hi, h => by
    obtain ⟨⟨b, o, ha, hb, hr⟩, hx, ht⟩ := h
    have hb2 : b ≠ g := by
      rcases hne with h | h
      · cases h
      · exact h _ ha
    refine ⟨⟨b, o, ha, hb, fun j v hv => hk b _ v hb hb2 (hr j v hv)⟩, hi x (by simp) hx, InRow.keepNe hk (.inr ?_) (fun y hy => hi y (by simp [hy])) ht⟩
    intro p hp
    rw [ha, Option.map_some] at hp
    have := Option.some.inj hp
    rw [← this]
    have e : ((⟨b, o, none⟩ : Addr).add k).block = b := by simp [Addr.add]; split <;> rfl
    rw [e]
    exact hb2
theorem XT.In.keepNe {n g : Nat} {W W' : World} (hk : ∀ b o v, b < n → b ≠ g → W.cell? ⟨b, o, none⟩ = some v → W'.cell? ⟨b, o, none⟩ = some v) : ∀ x : XT, x.Av g → x.In n W → x.In n W' := XT.ind fun op nm m wd v a c l ih hav h => by
  rw [XT.In_mk] at *
  rw [XT.Av, XT.avL_iff] at hav
  exact h.keepNe hk hav.1 (fun x hx hi => ih x hx (hav.2 x hx) hi)
theorem XT.In.av {n g : Nat} {W : World} (hg : n ≤ g) : ∀ x : XT, x.In n W → x.Av g := XT.ind fun op nm m wd v a c l ih h => by
  rw [XT.In_mk] at h
  rw [XT.Av, XT.avL_iff]
  refine ⟨?_, fun x hx => ih x hx (h.all x hx)⟩
  cases l with
  | nil => exact .inl rfl
  | cons y r =>
    refine .inr fun p hp => ?_
    obtain ⟨⟨b, o, ha, hb, _⟩, _, _⟩ := h
    rw [ha] at hp
    have := Option.some.inj hp
    rw [← this]
    show b ≠ g
    omega
/-- An expression put into a sign. -/
def un (g : Nat) (t : XT) : XT := .mk 5 [] 1 0 0 (some ⟨g, 0, none⟩) 1 [t]
theorem un_sz (g : Nat) (t : XT) : (un g t).sz = t.sz + 1 := by simp [un, XT.sz, XT.szL]; omega
theorem un_dp (g : Nat) (t : XT) : (un g t).dp = t.dp + 1 := by simp [un, XT.dp, XT.dpL]; omega
theorem un_bk (g : Nat) (t : XT) : (un g t).bk = t.bk + 1 := by simp [un, XT.bk, XT.bkL]; omega
theorem un_wf {g : Nat} {t : XT} (h : t.Wf) : (un g t).Wf := by rw [un, XT.wf_mk]; exact ⟨by omega, fun x hx => by simp at hx; rw [hx]; exact h⟩
theorem un_may (g : Nat) (t : XT) : mayX (un g t) = mayX t := by
  rw [un, mayX]
  show (true && (true && (true && (true && (true && (true && mayXL [t])))))) = _
  rw [mayXL, mayXL]
  simp
theorem cx_zero' (x : XT) : checkX x = 0 ↔ x.sz ≤ 65536 ∧ x.dp ≤ 64 ∧ mayX x = true := by
  unfold checkX
  cases h1 : decide (65536 < x.sz) <;> cases h2 : decide (64 < x.dp) <;> cases h3 : mayX x <;> simp at h1 h2 ⊢ <;> omega
theorem cx_deep (x : XT) (h : 64 < x.dp) : checkX x = 2 := by
  unfold checkX
  rw [show decide (64 < x.dp) = true by simpa using h]
  simp

/-- The file that wire makes. -/
def wireT (gs gi gm : Nat) (x : XT) : FT := ⟨some ⟨gm, 0, none⟩, 1, [⟨[109], none, 0, [], none, 0, [], some ⟨gi, 0, none⟩, 1, [.mk 2 [119] [] (some ⟨gs, 0, none⟩) 1 [x] none 0 [] none 0 [] none 0 [] none 0 [] none 0 []]⟩]⟩
theorem wireT_sz (gs gi gm : Nat) (x : XT) : (wireT gs gi gm x).sz = 2 + x.sz := by
  simp [wireT, FT.sz, MT.szL, MT.sz, BT.szL, PT.szL, IT.szL, IT.sz, XT.szL, ST.szL]; omega
theorem wireT_dp (gs gi gm : Nat) (x : XT) : (wireT gs gi gm x).dp = 2 + x.dp := by
  simp [wireT, FT.dp, MT.dpL, MT.dp, BT.dpL, PT.dpL, IT.dpL, IT.dp, XT.dpL, ST.dpL]; omega
theorem wireT_in {W : World} {gs gi gm n : Nat} {op : Int} {nm : Bytes} {xn wd : Int} {v : Nat} {xa : Option Addr} {xc : Nat} {xl : List XT} (hx : (XT.mk op nm xn wd v xa xc xl).In n W) (h1 : gs < n) (h2 : gi < n) (h3 : gm < n) (b1 : W.heap[gs]? = some (.cells #[.int .i64 op, .string (bs nm), .int .i64 xn, .int .i64 wd, .int .u64 (v : Int), .slice xa xl.length xc] 25 (0, 0))) (b2 : W.heap[gi]? = some (.cells #[.int .i64 2, .string ⟨#[119]⟩, .string ⟨#[]⟩, .slice (some ⟨gs, 0, none⟩) 1 1, .slice none 0 0, .slice none 0 0, .slice none 0 0, .slice none 0 0, .slice none 0 0] 56 (0, 0))) (b3 : W.heap[gm]? = some (.cells #[.string ⟨#[109]⟩, .slice none 0 0, .slice none 0 0, .slice (some ⟨gi, 0, none⟩) 1 1] 59 (0, 0))) : (wireT gs gi gm (.mk op nm xn wd v xa xc xl)).In n W := by
  refine ⟨⟨gm, 0, rfl, h3, rowc_of (o := 0) b3 rfl⟩, ⟨trivial, trivial, ⟨gi, 0, rfl, h2, rowc_of (o := 0) b2 rfl⟩, ?_, trivial⟩, trivial⟩
  rw [IT.In_mk]
  exact ⟨⟨⟨gs, 0, rfl, h1, rowc_of (o := 0) b1 rfl⟩, hx, trivial⟩, trivial, trivial, trivial, trivial, trivial⟩
set_option maxHeartbeats 4000000 in
set_option maxRecDepth 100000 in
theorem wire_any (x : XT) (n0 : Nat) (W : World) (hn0 : n0 ≤ W.heap.size) (hx : x.In n0 W) : Calls Tryd.prog 47 #[x.val] W fun e w' => ∃ gs gi gm, e = .returned (.agg #[.slice (some ⟨gm, 0, none⟩) 1 1]) ∧ (wireT gs gi gm x).In w'.heap.size w' ∧ Below W.heap.size W w' := by
  have hx0 := hx
  obtain ⟨op, nm, xn, wd, v, xa, xc, xl⟩ := x
  simp only [XT.val, XT.cells]
  clear hx
  have B0 := World.alloc_heap_new W (.cells #[.int .i64 op, .string (bs nm), .int .i64 xn, .int .i64 wd, .int .u64 (v : Int), .slice xa xl.length xc] 25)
  have B2 := World.alloc_heap_new ((W.alloc (.cells #[.int .i64 op, .string (bs nm), .int .i64 xn, .int .i64 wd, .int .u64 (v : Int), .slice xa xl.length xc] 25)).alloc (.cells #[.slice (some ⟨W.heap.size + 4, 0, none⟩) 1 1] 41)) (.cells #[.int .i64 op, .string (bs nm), .int .i64 xn, .int .i64 wd, .int .u64 (v : Int), .slice xa xl.length xc] 25)
  have B3 := World.alloc_heap_new (((W.alloc (.cells #[.int .i64 op, .string (bs nm), .int .i64 xn, .int .i64 wd, .int .u64 (v : Int), .slice xa xl.length xc] 25)).alloc (.cells #[.slice (some ⟨W.heap.size + 4, 0, none⟩) 1 1] 41)).alloc (.cells #[.int .i64 op, .string (bs nm), .int .i64 xn, .int .i64 wd, .int .u64 (v : Int), .slice xa xl.length xc] 25)) (.cells #[.int .i64 2, .string ⟨#[119]⟩, .string ⟨#[]⟩, .slice (some ⟨(W.heap.size + 2), 0, none⟩) 1 1, .slice none 0 0, .slice none 0 0, .slice none 0 0, .slice none 0 0, .slice none 0 0] 56)
  have B4 := World.alloc_heap_new ((((W.alloc (.cells #[.int .i64 op, .string (bs nm), .int .i64 xn, .int .i64 wd, .int .u64 (v : Int), .slice xa xl.length xc] 25)).alloc (.cells #[.slice (some ⟨W.heap.size + 4, 0, none⟩) 1 1] 41)).alloc (.cells #[.int .i64 op, .string (bs nm), .int .i64 xn, .int .i64 wd, .int .u64 (v : Int), .slice xa xl.length xc] 25)).alloc (.cells #[.int .i64 2, .string ⟨#[119]⟩, .string ⟨#[]⟩, .slice (some ⟨(W.heap.size + 2), 0, none⟩) 1 1, .slice none 0 0, .slice none 0 0, .slice none 0 0, .slice none 0 0, .slice none 0 0] 56)) (.cells #[.string ⟨#[109]⟩, .slice none 0 0, .slice none 0 0, .slice (some ⟨(W.heap.size + 3), 0, none⟩) 1 1] 59)
  simp only [World.size_alloc, Nat.add_assoc, Nat.reduceAdd] at B2 B3 B4
  replace B2 := block_alloc (block_alloc B2 (.cells #[.int .i64 2, .string ⟨#[119]⟩, .string ⟨#[]⟩, .slice (some ⟨(W.heap.size + 2), 0, none⟩) 1 1, .slice none 0 0, .slice none 0 0, .slice none 0 0, .slice none 0 0, .slice none 0 0] 56)) (.cells #[.string ⟨#[109]⟩, .slice none 0 0, .slice none 0 0, .slice (some ⟨(W.heap.size + 3), 0, none⟩) 1 1] 59)
  replace B3 := block_alloc B3 (.cells #[.string ⟨#[109]⟩, .slice none 0 0, .slice none 0 0, .slice (some ⟨(W.heap.size + 3), 0, none⟩) 1 1] 59)
  have k0 : Below W.heap.size W (W.alloc (.cells #[.int .i64 op, .string (bs nm), .int .i64 xn, .int .i64 wd, .int .u64 (v : Int), .slice xa xl.length xc] 25)) := (Below.refl _ _).alloc (Nat.le_refl _) _
  have k1 := k0.alloc k0.size (.cells #[.slice (some ⟨W.heap.size + 4, 0, none⟩) 1 1] 41)
  have k2 := k1.alloc k1.size (.cells #[.int .i64 op, .string (bs nm), .int .i64 xn, .int .i64 wd, .int .u64 (v : Int), .slice xa xl.length xc] 25)
  have k3 := k2.alloc k2.size (.cells #[.int .i64 2, .string ⟨#[119]⟩, .string ⟨#[]⟩, .slice (some ⟨(W.heap.size + 2), 0, none⟩) 1 1, .slice none 0 0, .slice none 0 0, .slice none 0 0, .slice none 0 0, .slice none 0 0] 56)
  have k4 := k3.alloc k3.size (.cells #[.string ⟨#[109]⟩, .slice none 0 0, .slice none 0 0, .slice (some ⟨(W.heap.size + 3), 0, none⟩) 1 1] 59)
  have hz : (((((W.alloc (.cells #[.int .i64 op, .string (bs nm), .int .i64 xn, .int .i64 wd, .int .u64 (v : Int), .slice xa xl.length xc] 25)).alloc (.cells #[.slice (some ⟨W.heap.size + 4, 0, none⟩) 1 1] 41)).alloc (.cells #[.int .i64 op, .string (bs nm), .int .i64 xn, .int .i64 wd, .int .u64 (v : Int), .slice xa xl.length xc] 25)).alloc (.cells #[.int .i64 2, .string ⟨#[119]⟩, .string ⟨#[]⟩, .slice (some ⟨(W.heap.size + 2), 0, none⟩) 1 1, .slice none 0 0, .slice none 0 0, .slice none 0 0, .slice none 0 0, .slice none 0 0] 56)).alloc (.cells #[.string ⟨#[109]⟩, .slice none 0 0, .slice none 0 0, .slice (some ⟨(W.heap.size + 3), 0, none⟩) 1 1] 59)).heap.size = W.heap.size + 5 := by simp
  have hxi := XT.In.less (m := W.heap.size + 5) (by omega) _ (XT.In.keep (Below.keptTo k4 hn0) _ hx0)
  have hin := wireT_in hxi (show W.heap.size + 2 < W.heap.size + 5 by omega) (show W.heap.size + 3 < W.heap.size + 5 by omega) (show W.heap.size + 4 < W.heap.size + 5 by omega) B2 B3 B4
  rw [← hz] at hin
  have HK := Lib.hid (And.intro hin k4)
  clear B0 B2 B3 B4 k0 k1 k2 k3 k4 hz hxi hin hx0
  go_enter Tryd.func47, Tryd.ntmps47
  go_wp2
  obtain ⟨hin, k5⟩ := HK.out
  refine bodyPost_ret (v := .agg #[.slice (some ⟨W.heap.size + 4, 0, none⟩) 1 1]) (by simp [results, Tryd.results47, go_sem]) rfl ⟨W.heap.size + 2, W.heap.size + 3, W.heap.size + 4, rfl, ?_, ?_⟩
  · exact hin
  · exact k5
set_option maxHeartbeats 4000000 in
theorem deepX_law (x : XT) (hsz : x.sz ≤ 1500000) (n0 : Nat) (W : World) (hn0 : n0 ≤ W.heap.size) (hx : x.In n0 W) : Calls Tryd.prog 23 #[x.val] W fun e w' => e = .returned (.int .i64 (x.dp : Int)) ∧ Below W.heap.size W w' := by
  have hds := x.dp_sz
  have hw := fun (w' : World) a b => wire_any x n0 w' a b
  have hd := fun (w' : World) gs gi gm a => deep_any (wireT gs gi gm x) (by rw [wireT_sz]; omega) w'.heap.size w' (Nat.le_refl _) a
  simp only [wireT_dp] at hd
  obtain ⟨D, hD⟩ : ∃ D, x.dp = D := ⟨_, rfl⟩
  have hD2 : D ≤ 1500000 := by omega
  rw [hD] at hd
  rw [hD]
  have e2 : ((2 + D : Nat) : Int) = 2 + (D : Int) := by omega
  rw [e2] at hd
  have hx0 := hx
  obtain ⟨op, nm, xn, wd, v, xa, xc, xl⟩ := x
  simp only [XT.val, XT.cells] at hw ⊢
  have HW := Lib.hid hw
  have HD := Lib.hid hd
  clear hw hd hx hD hsz hds e2
  go_enter Tryd.func23, Tryd.ntmps23
  go_upto_region 1 with (fail)
  have BX : (W.alloc (.cells #[.int .i64 op, .string (bs nm), .int .i64 xn, .int .i64 wd, .int .u64 (v : Int), .slice xa xl.length xc] 25)).heap[W.heap.size]? = some (.cells #[.int .i64 op, .string (bs nm), .int .i64 xn, .int .i64 wd, .int .u64 (v : Int), .slice xa xl.length xc] 25) := World.alloc_heap_new W _
  have hB : Below W.heap.size W (W.alloc (.cells #[.int .i64 op, .string (bs nm), .int .i64 xn, .int .i64 wd, .int .u64 (v : Int), .slice xa xl.length xc] 25)) := (Below.refl _ _).alloc (Nat.le_refl _) _
  have hi := XT.In.keep (Below.keptTo hB hn0) _ hx0
  have hn := Nat.le_trans hn0 hB.size
  clear hx0
  generalize W.alloc (.cells #[.int .i64 op, .string (bs nm), .int .i64 xn, .int .i64 wd, .int .u64 (v : Int), .slice xa xl.length xc] 25) = w1 at *
  obtain ⟨x0, x1, x2, x3, x4, x5⟩ := open6 BX
  go_wp2_with fail
  refine (HW.out _ hn hi).mono ?_
  rintro e w2 ⟨gs, gi, gm, rfl, hin, hb⟩
  replace hB := hB.trans (hb.mono hB.size)
  have hq := HD.out w2 gs gi gm hin
  simp only [wireT, FT.val, FT.cells, List.length_cons, List.length_nil] at hq
  have HQ := Lib.hid hq
  clear HW HD hq hin hb x0 x1 x2 x3 x4 x5
  go_wp2_with fail
  refine HQ.out.mono ?_
  rintro e w3 ⟨rfl, hb⟩
  replace hB := hB.trans (hb.mono hB.size)
  clear HQ
  go_wp2
  go_ret
  exact ⟨by first | rfl | (congr 2; omega) | (simp; omega), hB⟩
set_option maxHeartbeats 4000000 in
theorem sizeX_law (x : XT) (hsz : x.sz ≤ 1500000) (n0 : Nat) (W : World) (hn0 : n0 ≤ W.heap.size) (hx : x.In n0 W) : Calls Tryd.prog 24 #[x.val] W fun e w' => e = .returned (.int .i64 (x.sz : Int)) ∧ Below W.heap.size W w' := by
  have hds := x.dp_sz
  have hw := fun (w' : World) a b => wire_any x n0 w' a b
  have hd := fun (w' : World) gs gi gm a => size_any (wireT gs gi gm x) (by rw [wireT_sz]; omega) w'.heap.size w' (Nat.le_refl _) a
  simp only [wireT_sz] at hd
  obtain ⟨D, hD⟩ : ∃ D, x.sz = D := ⟨_, rfl⟩
  have hD2 : D ≤ 1500000 := by omega
  rw [hD] at hd
  rw [hD]
  have e2 : ((2 + D : Nat) : Int) = 2 + (D : Int) := by omega
  rw [e2] at hd
  have hx0 := hx
  obtain ⟨op, nm, xn, wd, v, xa, xc, xl⟩ := x
  simp only [XT.val, XT.cells] at hw ⊢
  have HW := Lib.hid hw
  have HD := Lib.hid hd
  clear hw hd hx hD hsz hds e2
  go_enter Tryd.func24, Tryd.ntmps24
  go_upto_region 1 with (fail)
  have BX : (W.alloc (.cells #[.int .i64 op, .string (bs nm), .int .i64 xn, .int .i64 wd, .int .u64 (v : Int), .slice xa xl.length xc] 25)).heap[W.heap.size]? = some (.cells #[.int .i64 op, .string (bs nm), .int .i64 xn, .int .i64 wd, .int .u64 (v : Int), .slice xa xl.length xc] 25) := World.alloc_heap_new W _
  have hB : Below W.heap.size W (W.alloc (.cells #[.int .i64 op, .string (bs nm), .int .i64 xn, .int .i64 wd, .int .u64 (v : Int), .slice xa xl.length xc] 25)) := (Below.refl _ _).alloc (Nat.le_refl _) _
  have hi := XT.In.keep (Below.keptTo hB hn0) _ hx0
  have hn := Nat.le_trans hn0 hB.size
  clear hx0
  generalize W.alloc (.cells #[.int .i64 op, .string (bs nm), .int .i64 xn, .int .i64 wd, .int .u64 (v : Int), .slice xa xl.length xc] 25) = w1 at *
  obtain ⟨x0, x1, x2, x3, x4, x5⟩ := open6 BX
  go_wp2_with fail
  refine (HW.out _ hn hi).mono ?_
  rintro e w2 ⟨gs, gi, gm, rfl, hin, hb⟩
  replace hB := hB.trans (hb.mono hB.size)
  have hq := HD.out w2 gs gi gm hin
  simp only [wireT, FT.val, FT.cells, List.length_cons, List.length_nil] at hq
  have HQ := Lib.hid hq
  clear HW HD hq hin hb x0 x1 x2 x3 x4 x5
  go_wp2_with fail
  refine HQ.out.mono ?_
  rintro e w3 ⟨rfl, hb⟩
  replace hB := hB.trans (hb.mono hB.size)
  clear HQ
  go_wp2
  go_ret
  exact ⟨by first | rfl | (congr 2; omega) | (simp; omega), hB⟩

theorem bound_step {wr : World} {gy : Nat} {Sx Dx Bx k : Nat} {op2 : Int} {nm2 : Bytes} {xn2 wd2 : Int} {v2 : Nat} {xa2 : Option Addr} {xc2 : Nat} {xl2 : List XT}
    (hB : wr.heap[gy]? = some (.cells (XT.mk op2 nm2 xn2 wd2 v2 xa2 xc2 xl2).cells.toArray 25 (0, 0))) (hi : (XT.mk op2 nm2 xn2 wd2 v2 xa2 xc2 xl2).In wr.heap.size wr) (ha : (XT.mk op2 nm2 xn2 wd2 v2 xa2 xc2 xl2).Av gy) (h1 : (XT.mk op2 nm2 xn2 wd2 v2 xa2 xc2 xl2).sz = Sx + k) (h2 : (XT.mk op2 nm2 xn2 wd2 v2 xa2 xc2 xl2).dp = Dx + k) (h3 : mayX (.mk op2 nm2 xn2 wd2 v2 xa2 xc2 xl2) = true) (h4 : (XT.mk op2 nm2 xn2 wd2 v2 xa2 xc2 xl2).bk ≤ Bx + k) (h5 : (XT.mk op2 nm2 xn2 wd2 v2 xa2 xc2 xl2).Wf) :
    ∃ t : XT, (((((((wr.alloc (.cells #[.int .i64 op2, .string (bs nm2), .int .i64 xn2, .int .i64 wd2, .int .u64 (v2 : Int), .slice xa2 xl2.length xc2] 25)).setCell ⟨gy, 0, none⟩ (.int .i64 5)).setCell ⟨gy, 1, none⟩ (.string ⟨#[]⟩)).setCell ⟨gy, 2, none⟩ (.int .i64 1)).setCell ⟨gy, 3, none⟩ (.int .i64 0)).setCell ⟨gy, 4, none⟩ (.int .u64 0)).setCell ⟨gy, 5, none⟩ (.slice (some ⟨wr.heap.size, 0, none⟩) 1 1)).heap[gy]? = some (.cells t.cells.toArray 25 (0, 0)) ∧ t.In (((((((wr.alloc (.cells #[.int .i64 op2, .string (bs nm2), .int .i64 xn2, .int .i64 wd2, .int .u64 (v2 : Int), .slice xa2 xl2.length xc2] 25)).setCell ⟨gy, 0, none⟩ (.int .i64 5)).setCell ⟨gy, 1, none⟩ (.string ⟨#[]⟩)).setCell ⟨gy, 2, none⟩ (.int .i64 1)).setCell ⟨gy, 3, none⟩ (.int .i64 0)).setCell ⟨gy, 4, none⟩ (.int .u64 0)).setCell ⟨gy, 5, none⟩ (.slice (some ⟨wr.heap.size, 0, none⟩) 1 1)).heap.size (((((((wr.alloc (.cells #[.int .i64 op2, .string (bs nm2), .int .i64 xn2, .int .i64 wd2, .int .u64 (v2 : Int), .slice xa2 xl2.length xc2] 25)).setCell ⟨gy, 0, none⟩ (.int .i64 5)).setCell ⟨gy, 1, none⟩ (.string ⟨#[]⟩)).setCell ⟨gy, 2, none⟩ (.int .i64 1)).setCell ⟨gy, 3, none⟩ (.int .i64 0)).setCell ⟨gy, 4, none⟩ (.int .u64 0)).setCell ⟨gy, 5, none⟩ (.slice (some ⟨wr.heap.size, 0, none⟩) 1 1)) ∧ t.Av gy ∧ t.sz = Sx + (k + 1) ∧ t.dp = Dx + (k + 1) ∧ mayX t = true ∧ t.bk ≤ Bx + (k + 1) ∧ t.Wf := by
  have hlt := (Array.getElem?_eq_some_iff.1 hB).1
  have hB2 := block_alloc hB (.cells #[.int .i64 op2, .string (bs nm2), .int .i64 xn2, .int .i64 wd2, .int .u64 (v2 : Int), .slice xa2 xl2.length xc2] 25)
  have hN := World.alloc_heap_new wr (.cells #[.int .i64 op2, .string (bs nm2), .int .i64 xn2, .int .i64 wd2, .int .u64 (v2 : Int), .slice xa2 xl2.length xc2] 25)
  have hne : wr.heap.size ≠ gy := by omega
  have hz : (((((((wr.alloc (.cells #[.int .i64 op2, .string (bs nm2), .int .i64 xn2, .int .i64 wd2, .int .u64 (v2 : Int), .slice xa2 xl2.length xc2] 25)).setCell ⟨gy, 0, none⟩ (.int .i64 5)).setCell ⟨gy, 1, none⟩ (.string ⟨#[]⟩)).setCell ⟨gy, 2, none⟩ (.int .i64 1)).setCell ⟨gy, 3, none⟩ (.int .i64 0)).setCell ⟨gy, 4, none⟩ (.int .u64 0)).setCell ⟨gy, 5, none⟩ (.slice (some ⟨wr.heap.size, 0, none⟩) 1 1)).heap.size = wr.heap.size + 1 := by simp [World.size_setCell]
  have hoth : ∀ b, b ≠ gy → (((((((wr.alloc (.cells #[.int .i64 op2, .string (bs nm2), .int .i64 xn2, .int .i64 wd2, .int .u64 (v2 : Int), .slice xa2 xl2.length xc2] 25)).setCell ⟨gy, 0, none⟩ (.int .i64 5)).setCell ⟨gy, 1, none⟩ (.string ⟨#[]⟩)).setCell ⟨gy, 2, none⟩ (.int .i64 1)).setCell ⟨gy, 3, none⟩ (.int .i64 0)).setCell ⟨gy, 4, none⟩ (.int .u64 0)).setCell ⟨gy, 5, none⟩ (.slice (some ⟨wr.heap.size, 0, none⟩) 1 1)).heap[b]? = (wr.alloc (.cells #[.int .i64 op2, .string (bs nm2), .int .i64 xn2, .int .i64 wd2, .int .u64 (v2 : Int), .slice xa2 xl2.length xc2] 25)).heap[b]? := fun b hb => (Below.heap_setCell _ ⟨gy, 5, none⟩ _ b hb).trans ((Below.heap_setCell _ ⟨gy, 4, none⟩ _ b hb).trans ((Below.heap_setCell _ ⟨gy, 3, none⟩ _ b hb).trans ((Below.heap_setCell _ ⟨gy, 2, none⟩ _ b hb).trans ((Below.heap_setCell _ ⟨gy, 1, none⟩ _ b hb).trans (Below.heap_setCell _ ⟨gy, 0, none⟩ _ b hb)))))
  have hk : ∀ b o v, b < wr.heap.size → b ≠ gy → wr.cell? ⟨b, o, none⟩ = some v → (((((((wr.alloc (.cells #[.int .i64 op2, .string (bs nm2), .int .i64 xn2, .int .i64 wd2, .int .u64 (v2 : Int), .slice xa2 xl2.length xc2] 25)).setCell ⟨gy, 0, none⟩ (.int .i64 5)).setCell ⟨gy, 1, none⟩ (.string ⟨#[]⟩)).setCell ⟨gy, 2, none⟩ (.int .i64 1)).setCell ⟨gy, 3, none⟩ (.int .i64 0)).setCell ⟨gy, 4, none⟩ (.int .u64 0)).setCell ⟨gy, 5, none⟩ (.slice (some ⟨wr.heap.size, 0, none⟩) 1 1)).cell? ⟨b, o, none⟩ = some v := by
    intro b o v hb hbn hv
    have e : (((((((wr.alloc (.cells #[.int .i64 op2, .string (bs nm2), .int .i64 xn2, .int .i64 wd2, .int .u64 (v2 : Int), .slice xa2 xl2.length xc2] 25)).setCell ⟨gy, 0, none⟩ (.int .i64 5)).setCell ⟨gy, 1, none⟩ (.string ⟨#[]⟩)).setCell ⟨gy, 2, none⟩ (.int .i64 1)).setCell ⟨gy, 3, none⟩ (.int .i64 0)).setCell ⟨gy, 4, none⟩ (.int .u64 0)).setCell ⟨gy, 5, none⟩ (.slice (some ⟨wr.heap.size, 0, none⟩) 1 1)).heap[b]? = wr.heap[b]? := (hoth b hbn).trans (Below.heap_alloc wr _ b hb)
    simp only [World.cell?] at hv ⊢
    rw [e]
    exact hv
  refine ⟨un wr.heap.size (.mk op2 nm2 xn2 wd2 v2 xa2 xc2 xl2), ?_, ?_, ?_, by rw [un_sz]; omega, by rw [un_dp]; omega, by rw [un_may]; exact h3, by rw [un_bk]; omega, un_wf h5⟩
  · simp only [XT.cells] at hB2
    simp only [World.setCell, Array.getElem?_modify, ↓reduceIte, Option.map_map]
    rw [hB2]
    rfl
  · rw [hz, un, XT.In_mk]
    refine ⟨⟨wr.heap.size, 0, rfl, by omega, rowc_of (o := 0) ((hoth _ hne).trans hN) rfl⟩, XT.In.less (by omega) _ (XT.In.keepNe hk _ ha hi), trivial⟩
  · rw [un, XT.Av, XT.avL_iff]
    exact ⟨.inr fun p hp => by have := Option.some.inj hp; rw [← this]; exact hne, fun x hx => by simp at hx; rw [hx]; exact ha⟩
theorem frozen_of6 {W : World} {g : Nat} {cs : Array Value} {t : TypeId} (h : W.heap[g]? = some (.cells cs t (0, 0))) (j : Nat) : W.frozen? ⟨g, j, none⟩ = false := by simp [World.frozen?, h]

set_option maxHeartbeats 8000000 in
set_option maxRecDepth 100000 in
theorem bound_walk (x : XT) (m : Int) (hb0 : x.bk ≤ 1048576) (hw0 : x.Wf) (W : World) (he : EnvA W) (hx : x.In W.heap.size W) : Calls Tryd.prog 7 #[x.val, .int .i64 m] W fun e w' => e = .returned (.bool true) ∧ Below W.heap.size W w' := by
  have HE5 := Lib.hid he.size
  have e0 : x.sz ≤ 1048576 := Nat.le_trans x.sz_bk hb0
  have few0 := fun (w' : World) h1 h2 => fewX_any x (by omega) W.heap.size w' h1 h2
  obtain ⟨q0, hq0⟩ : ∃ b, (decide (x.sz ≤ 2000) && decide (x.dp ≤ 100)) = b := ⟨_, rfl⟩
  rw [hq0] at few0
  have cx := fun (w' : World) h1 h2 h3 => checkX_any x (by omega) hw0 W.heap.size w' h1 h2 h3
  have dx := fun (w' : World) h1 h2 => deepX_law x (by omega) W.heap.size w' h1 h2
  have sx := fun (w' : World) h1 h2 => sizeX_law x (by omega) W.heap.size w' h1 h2
  have hz0 := cx_zero' x
  obtain ⟨c0, hc0⟩ : ∃ c, checkX x = c := ⟨_, rfl⟩
  rw [hc0] at cx hz0
  obtain ⟨Sx, hSx⟩ : ∃ c, x.sz = c := ⟨_, rfl⟩
  obtain ⟨Dx, hDx⟩ : ∃ c, x.dp = c := ⟨_, rfl⟩
  obtain ⟨Bx, hBx⟩ : ∃ c, x.bk = c := ⟨_, rfl⟩
  rw [hSx] at sx hz0 hq0 e0
  rw [hDx] at dx hz0 hq0
  rw [hBx] at hb0
  have HB0 := Lib.hid hb0
  have hav := fun g (hg : W.heap.size ≤ g) => XT.In.av hg x hx
  obtain ⟨X, hX⟩ : ∃ X, X = x := ⟨_, rfl⟩
  have j0 := hx
  obtain ⟨op, nm, xn, wd, v, xa, xc, xl⟩ := x
  simp only [XT.val, XT.cells] at few0 cx dx sx ⊢
  have HT := Lib.hid (And.intro hX (And.intro hSx (And.intro hDx (And.intro hBx (And.intro hw0 (And.intro hz0 (And.intro hav (And.intro hq0 e0))))))))
  have Hfew0 := Lib.hid few0
  have Hcx := Lib.hid cx
  have Hdx := Lib.hid dx
  have Hsx := Lib.hid sx
  clear few0 cx dx sx hx hSx hDx hBx hw0 hz0 hav hq0 hc0 e0 hX
  go_enter Tryd.func7, Tryd.ntmps7
  go_upto_region 1 with (fail)
  have B0 := World.alloc_heap_new W (.cells #[.int .i64 op, .string (bs nm), .int .i64 xn, .int .i64 wd, .int .u64 (v : Int), .slice xa xl.length xc] 25)
  have hB : Below W.heap.size W (W.alloc (.cells #[.int .i64 op, .string (bs nm), .int .i64 xn, .int .i64 wd, .int .u64 (v : Int), .slice xa xl.length xc] 25)) := (Below.refl _ _).alloc (Nat.le_refl _) _
  have he1 := he.alloc (.cells #[.int .i64 op, .string (bs nm), .int .i64 xn, .int .i64 wd, .int .u64 (v : Int), .slice xa xl.length xc] 25)
  have hn := hB.size
  replace j0 := XT.In.keep (Below.keptTo hB (Nat.le_refl _)) _ j0
  have hlt0 : W.heap.size < (W.alloc (.cells #[.int .i64 op, .string (bs nm), .int .i64 xn, .int .i64 wd, .int .u64 (v : Int), .slice xa xl.length xc] 25)).heap.size := by simp
  clear he
  generalize W.alloc (.cells #[.int .i64 op, .string (bs nm), .int .i64 xn, .int .i64 wd, .int .u64 (v : Int), .slice xa xl.length xc] 25) = w1 at *
  have HA := Lib.hid (And.intro j0 (And.intro he1 (And.intro hn hlt0)))
  clear j0 he1 hn hlt0
  go_wp2_with fail
  obtain ⟨j0, he1, hn, hlt0⟩ := HA.out
  clear HA
  refine (live_any _ he1).mono ?_
  rintro e w9 ⟨rfl, hb⟩
  replace B0 := block_kept B0 hb
  replace j0 := XT.In.keep (Below.keptTo hb hn) _ j0
  replace he1 := he1.keep hb
  replace hB := hB.trans (hb.mono hB.size)
  replace hn := Nat.le_trans hn hb.size
  replace hlt0 := Nat.lt_of_lt_of_le hlt0 hb.size
  clear hb
  have HA := Lib.hid (And.intro j0 (And.intro he1 (And.intro hn hlt0)))
  clear j0 he1 hn hlt0
  obtain ⟨x0, x1, x2, x3, x4, x5⟩ := open6 B0
  go_wp2_with fail
  obtain ⟨j0, he1, hn, hlt0⟩ := HA.out
  clear HA
  refine (Hfew0.out _ hn j0).mono ?_
  rintro e w9 ⟨rfl, hb⟩
  clear x0 x1 x2 x3 x4 x5
  replace B0 := block_kept B0 hb
  replace j0 := XT.In.keep (Below.keptTo hb hn) _ j0
  replace he1 := he1.keep hb
  replace hB := hB.trans (hb.mono hB.size)
  replace hn := Nat.le_trans hn hb.size
  replace hlt0 := Nat.lt_of_lt_of_le hlt0 hb.size
  clear hb
  have HA := Lib.hid (And.intro j0 (And.intro he1 (And.intro hn hlt0)))
  clear j0 he1 hn hlt0
  cases q0 with
  | false =>
    obtain ⟨x0, x1, x2, x3, x4, x5⟩ := open6 B0
    go_wp2
    go_ret
    exact ⟨rfl, hB⟩
  | true =>
    by_cases hneg : m < 0
    · have d1 : decide (m < 0) = true := by simpa using hneg
      obtain ⟨x0, x1, x2, x3, x4, x5⟩ := open6 B0
      go_wp2
      go_ret
      exact ⟨rfl, hB⟩
    · have d1 : decide (m < 0) = false := by simpa using hneg
      by_cases hbig : 80 < m
      · have d2 : decide (80 < m) = true := by simpa using hbig
        obtain ⟨x0, x1, x2, x3, x4, x5⟩ := open6 B0
        go_wp2
        go_ret
        exact ⟨rfl, hB⟩
      · have d2 : decide (80 < m) = false := by simpa using hbig
        obtain ⟨x0, x1, x2, x3, x4, x5⟩ := open6 B0
        go_wp2_with fail
        obtain ⟨j0, he1, hn, hlt0⟩ := HA.out
        clear HA
        refine (Hcx.out _ hn he1 j0).mono ?_
        rintro e w9 ⟨rfl, hb⟩
        clear x0 x1 x2 x3 x4 x5
        replace B0 := block_kept B0 hb
        replace j0 := XT.In.keep (Below.keptTo hb hn) _ j0
        replace he1 := he1.keep hb
        replace hB := hB.trans (hb.mono hB.size)
        replace hn := Nat.le_trans hn hb.size
        replace hlt0 := Nat.lt_of_lt_of_le hlt0 hb.size
        clear hb
        have HA := Lib.hid (And.intro j0 (And.intro he1 (And.intro hn hlt0)))
        clear j0 he1 hn hlt0
        by_cases hc0 : c0 = 0
        · subst hc0
          obtain ⟨N, hN⟩ : ∃ N : Nat, m = (N : Int) := ⟨m.toNat, by omega⟩
          subst hN
          have hN80 : N ≤ 80 := by omega
          clear hneg hbig d1 d2
          obtain ⟨x0, x1, x2, x3, x4, x5⟩ := open6 B0
          have HNN := Lib.hid hN80
          go_upto_region 5 with (fail)
          clear x0 x1 x2 x3 x4 x5
          obtain ⟨j0, he1, hn, hlt0⟩ := HA.out
          clear HA
          have BY := World.alloc_heap_new w9 (.cells #[.int .i64 op, .string (bs nm), .int .i64 xn, .int .i64 wd, .int .u64 (v : Int), .slice xa xl.length xc] 25)
          replace B0 := block_alloc B0 (.cells #[.int .i64 op, .string (bs nm), .int .i64 xn, .int .i64 wd, .int .u64 (v : Int), .slice xa xl.length xc] 25)
          have kk : Below w9.heap.size w9 (w9.alloc (.cells #[.int .i64 op, .string (bs nm), .int .i64 xn, .int .i64 wd, .int .u64 (v : Int), .slice xa xl.length xc] 25)) := (Below.refl _ _).alloc (Nat.le_refl _) _
          replace j0 := XT.In.keep (Below.keptTo kk hn) _ j0
          replace he1 := he1.keep kk
          replace hB := hB.trans (kk.mono hB.size)
          have hgy : W.heap.size < w9.heap.size := hlt0
          have hzy : (w9.alloc (.cells #[.int .i64 op, .string (bs nm), .int .i64 xn, .int .i64 wd, .int .u64 (v : Int), .slice xa xl.length xc] 25)).heap.size = w9.heap.size + 1 := by simp
          replace hn := Nat.le_trans hn kk.size
          replace hlt0 := Nat.lt_of_lt_of_le hlt0 kk.size
          clear kk
          generalize hv9 : w9.alloc (.cells #[.int .i64 op, .string (bs nm), .int .i64 xn, .int .i64 wd, .int .u64 (v : Int), .slice xa xl.length xc] 25) = v9 at *
          generalize w9.heap.size = gy at *
          clear hv9
          obtain ⟨hX, hSx, hDx, hBx, hw0, hz0, hav, hq0, e0⟩ := HT.out
          have hz1 := hz0.1 (by simp)
          have hs2 : Sx ≤ 2000 := by rw [Bool.and_eq_true, decide_eq_true_eq] at hq0; exact hq0.1
          have HS2 := Lib.hid hs2
          clear hs2
          have hst : ∃ t : XT, v9.heap[gy]? = some (.cells t.cells.toArray 25 (0, 0)) ∧ t.In v9.heap.size v9 ∧ t.Av gy ∧ t.sz = Sx + 0 ∧ t.dp = Dx + 0 ∧ mayX t = true ∧ t.bk ≤ Bx + 0 ∧ t.Wf := ⟨.mk op nm xn wd v xa xc xl, BY, XT.In.less (by omega) _ j0, hav gy (by omega), hSx, hDx, hz1.2.2, Nat.le_of_eq hBx, hw0⟩
          have HST := Lib.hid hst
          have HG := Lib.hid (And.intro hgy hzy)
          clear hX hSx hDx hBx hw0 hz0 hav hq0 hst BY hgy hzy e0
          have HZ := Lib.hid hz1
          clear hz1
          have HA := Lib.hid (And.intro j0 (And.intro he1 (And.intro hn hlt0)))
          clear j0 he1 hn hlt0
          go_wp2
          go_loopg [7] N (fun g u wr => ∃ k : Nat, u = .int .i64 k ∧ k + g = N ∧ Below gy v9 wr ∧ v9.heap.size ≤ wr.heap.size ∧ ∃ t : XT, wr.heap[gy]? = some (.cells t.cells.toArray 25 (0, 0)) ∧ t.In wr.heap.size wr ∧ t.Av gy ∧ t.sz = Sx + k ∧ t.dp = Dx + k ∧ mayX t = true ∧ t.bk ≤ Bx + k ∧ t.Wf)
          case atStart => exact ⟨0, rfl, by omega, Below.refl _ _, Nat.le_refl _, HST.out⟩
          case round =>
            obtain ⟨k, rfl, hk, hb0, hsz9, t, BY, hti, hta, ht1, ht2, ht3, ht4, ht5⟩ := hrel
            have hlg := HG.out
            by_cases hlt : k < N
            · have d1 : decide (k < N) = true := by simpa using hlt
              have d2 : decide ((k : Int) < (N : Int)) = true := by rw [decide_eq_true_eq]; omega
              have y1 : (k : Int) < (N : Int) := by omega
              have y2 : k ≤ 80 := by have := HNN.out; omega
              obtain ⟨op2, nm2, xn2, wd2, v2, xa2, xc2, xl2⟩ := t
              have hstp := bound_step BY hti hta ht1 ht2 ht3 ht4 ht5
              have HSTP := Lib.hid hstp
              simp only [XT.cells] at BY
              obtain ⟨z0, z1, z2, z3, z4, z5⟩ := open6 BY
              have f0 := frozen_of6 BY 0
              have f1 := frozen_of6 BY 1
              have f2 := frozen_of6 BY 2
              have f3 := frozen_of6 BY 3
              have f4 := frozen_of6 BY 4
              have f5 := frozen_of6 BY 5
              have z0A := fun O => alloc_cell z0 O
              have z1A := fun O => alloc_cell z1 O
              have z2A := fun O => alloc_cell z2 O
              have z3A := fun O => alloc_cell z3 O
              have z4A := fun O => alloc_cell z4 O
              have z5A := fun O => alloc_cell z5 O
              have f0A := fun O => frozen_alloc_1 O z0 f0
              have f1A := fun O => frozen_alloc_1 O z1 f1
              have f2A := fun O => frozen_alloc_1 O z2 f2
              have f3A := fun O => frozen_alloc_1 O z3 f3
              have f4A := fun O => frozen_alloc_1 O z4 f4
              have f5A := fun O => frozen_alloc_1 O z5 f5
              have hgl : gy ≤ wr.heap.size := by have := hlg.2; omega
              have HL := Lib.hid (And.intro hgl hsz9)
              clear hstp hti hta ht1 ht2 ht3 ht4 ht5 BY hlg hgl hsz9
              cases gk with
              | zero => omega
              | succ gg =>
                have hkg : k + 1 + gg = N := by omega
                clear hk
                go_wp2
                go_roundg gg
                case rel => exact ⟨k + 1, by simp; first | done | rfl | omega, hkg, ((((((hb0.alloc HL.out.1 _).setCell (p := ⟨gy, 0, none⟩) (Nat.le_refl _) _).setCell (p := ⟨gy, 1, none⟩) (Nat.le_refl _) _).setCell (p := ⟨gy, 2, none⟩) (Nat.le_refl _) _).setCell (p := ⟨gy, 3, none⟩) (Nat.le_refl _) _).setCell (p := ⟨gy, 4, none⟩) (Nat.le_refl _) _).setCell (p := ⟨gy, 5, none⟩) (Nat.le_refl _) _, by have := HL.out.2; simp [World.size_setCell]; omega, HSTP.out⟩
                case measure => omega
            · have d1 : decide (k < N) = false := by simpa using hlt
              have d2 : decide ((k : Int) < (N : Int)) = false := by rw [decide_eq_false_iff_not]; omega
              have hkN : k = N := by omega
              subst hkN
              obtain ⟨j0, he1, hn, hlt0⟩ := HA.out
              clear HA
              have hb := hb0
              have B0w : wr.heap[W.heap.size]? = some (.cells #[.int .i64 op, .string (bs nm), .int .i64 xn, .int .i64 wd, .int .u64 (v : Int), .slice xa xl.length xc] 25 (0, 0)) := (hb.block W.heap.size (by have := hlg.1; omega)).trans B0
              have hkt : KeptTo W.heap.size v9 wr := Below.keptTo hb (by have := hlg.1; omega)
              replace j0 := XT.In.keep hkt _ j0
              replace he1 : EnvA wr := EnvA.low he1 (fun b h5 => Nat.lt_of_lt_of_le (Nat.lt_of_lt_of_le h5 HE5.out) (Nat.le_of_lt hlg.1)) hb
              replace hB := hB.trans (hb.mono (by have := hlg.1; omega))
              replace hn : W.heap.size ≤ wr.heap.size := Nat.le_trans hn hsz9
              replace hlt0 : W.heap.size < wr.heap.size := Nat.lt_of_lt_of_le hlt0 hsz9
              clear B0
              have B0 := B0w
              clear B0w hb hkt hb0
              obtain ⟨op2, nm2, xn2, wd2, v2, xa2, xc2, xl2⟩ := t
              have cy := fun (w' : World) h1 h2 h3 => checkX_any (.mk op2 nm2 xn2 wd2 v2 xa2 xc2 xl2) (by have := HB0.out; omega) ht5 wr.heap.size w' h1 h2 h3
              have sy := fun (w' : World) h1 h2 => sizeX_law (.mk op2 nm2 xn2 wd2 v2 xa2 xc2 xl2) (by have h9 := XT.sz_bk (.mk op2 nm2 xn2 wd2 v2 xa2 xc2 xl2); have := HB0.out; omega) wr.heap.size w' h1 h2
              rw [ht1] at sy
              have hcy := cx_zero' (.mk op2 nm2 xn2 wd2 v2 xa2 xc2 xl2)
              have hcd := cx_deep (.mk op2 nm2 xn2 wd2 v2 xa2 xc2 xl2)
              rw [ht1, ht2, ht3] at hcy
              rw [ht2] at hcd
              obtain ⟨c1, hc1⟩ : ∃ c, checkX (.mk op2 nm2 xn2 wd2 v2 xa2 xc2 xl2) = c := ⟨_, rfl⟩
              rw [hc1] at cy hcy hcd
              have eS : ((Sx + k : Nat) : Int) = (Sx : Int) + (k : Int) := by omega
              rw [eS] at sy
              simp only [XT.val, XT.cells] at cy sy
              simp only [XT.cells] at BY
              have Hcy := Lib.hid cy
              have Hsy := Lib.hid sy
              have HCY := Lib.hid (And.intro hcy hcd)
              have HTI := Lib.hid hti
              have Sx2 : Sx ≤ 2000 := HS2.out
              have Dx2 : Dx ≤ 64 := HZ.out.2.1
              have k80 : k ≤ 80 := HNN.out
              clear cy sy hcy hcd hc1 eS ht1 ht2 ht3 ht4 ht5 hta hti hlg hlt hk hsz9
              have HNY := Lib.hid (Nat.le_refl wr.heap.size)
              have HA := Lib.hid (And.intro j0 (And.intro he1 (And.intro hn hlt0)))
              clear j0 he1 hn hlt0
              obtain ⟨x0, x1, x2, x3, x4, x5⟩ := open6 B0
              obtain ⟨z0, z1, z2, z3, z4, z5⟩ := open6 BY
              go_wp2_with fail
              obtain ⟨j0, he1, hn, hlt0⟩ := HA.out
              clear HA
              refine (Hdx.out _ hn j0).mono ?_
              rintro e w9 ⟨rfl, hb⟩
              clear x0 x1 x2 x3 x4 x5 z0 z1 z2 z3 z4 z5
              replace BY := block_kept BY hb
              have hti := XT.In.keep (Below.keptTo hb HNY.out) _ HTI.out
              clear HTI
              have HTI := Lib.hid hti
              clear hti
              have hny := Nat.le_trans HNY.out hb.size
              clear HNY
              have HNY := Lib.hid hny
              clear hny
              replace B0 := block_kept B0 hb
              replace j0 := XT.In.keep (Below.keptTo hb hn) _ j0
              replace he1 := he1.keep hb
              replace hB := hB.trans (hb.mono hB.size)
              replace hn := Nat.le_trans hn hb.size
              replace hlt0 := Nat.lt_of_lt_of_le hlt0 hb.size
              clear hb
              have HA := Lib.hid (And.intro j0 (And.intro he1 (And.intro hn hlt0)))
              clear j0 he1 hn hlt0
              by_cases hfit : Dx + k ≤ 64
              · have e3 : decide ((Dx : Int) + (k : Int) ≤ 64) = true := by simp; omega
                have hcc : c1 = 0 := HCY.out.1.2 ⟨by omega, hfit, by simp⟩
                subst hcc
                obtain ⟨x0, x1, x2, x3, x4, x5⟩ := open6 B0
                obtain ⟨z0, z1, z2, z3, z4, z5⟩ := open6 BY
                go_wp2_with fail
                obtain ⟨j0, he1, hn, hlt0⟩ := HA.out
                clear HA
                refine (Hcy.out _ HNY.out he1 HTI.out).mono ?_
                rintro e w9 ⟨rfl, hb⟩
                clear x0 x1 x2 x3 x4 x5 z0 z1 z2 z3 z4 z5
                replace BY := block_kept BY hb
                have hti := XT.In.keep (Below.keptTo hb HNY.out) _ HTI.out
                clear HTI
                have HTI := Lib.hid hti
                clear hti
                have hny := Nat.le_trans HNY.out hb.size
                clear HNY
                have HNY := Lib.hid hny
                clear hny
                replace B0 := block_kept B0 hb
                replace j0 := XT.In.keep (Below.keptTo hb hn) _ j0
                replace he1 := he1.keep hb
                replace hB := hB.trans (hb.mono hB.size)
                replace hn := Nat.le_trans hn hb.size
                replace hlt0 := Nat.lt_of_lt_of_le hlt0 hb.size
                clear hb
                have HA := Lib.hid (And.intro j0 (And.intro he1 (And.intro hn hlt0)))
                clear j0 he1 hn hlt0
                obtain ⟨x0, x1, x2, x3, x4, x5⟩ := open6 B0
                obtain ⟨z0, z1, z2, z3, z4, z5⟩ := open6 BY
                go_upto_region 12 with (fail)
                obtain ⟨j0, he1, hn, hlt0⟩ := HA.out
                clear HA
                have bq := fun (dq : Nat) (os : Array Obj) => below_regrown w9 dq os
                have Qy := Lib.hid (fun (dq : Nat) (os : Array Obj) => Hsy.out (grow (redrawn w9 dq) os) (Nat.le_trans HNY.out (bq dq os).size) (XT.In.keep (Below.keptTo (bq dq os) HNY.out) _ HTI.out))
                have Qx := Lib.hid (fun (dq : Nat) (os : Array Obj) => Hsx.out (grow (redrawn w9 dq) os) (Nat.le_trans hn (bq dq os).size) (XT.In.keep (Below.keptTo (bq dq os) hn) _ j0))
                clear bq j0 he1 hn hlt0
                have x0R := cell_regrown x0
                have x1R := cell_regrown x1
                have x2R := cell_regrown x2
                have x3R := cell_regrown x3
                have x4R := cell_regrown x4
                have x5R := cell_regrown x5
                have z0R := cell_regrown z0
                have z1R := cell_regrown z1
                have z2R := cell_regrown z2
                have z3R := cell_regrown z3
                have z4R := cell_regrown z4
                have z5R := cell_regrown z5
                refine wp_region_quiet_below (by kernel_rfl) (by kernel_rfl) ?_
                repeat (go_big_quiet_step (first | (go_at_call_of 24 (Value.agg #[Value.int IntKind.i64 op, Value.string (bs nm), Value.int IntKind.i64 xn, Value.int IntKind.i64 wd, Value.int IntKind.u64 (v : Int), Value.slice xa (List.length xl) xc]); exact Calls.regrown_of (Qx.out _ _)) | (go_at_call 24; exact Calls.regrown_of (Qy.out _ _))))
                refine wpQuiet_nil ?_
                intro _ hw'
                obtain ⟨⟨dq, osq⟩, hw''⟩ := hw'
                subst hw''
                have hb := below_regrown w9 dq osq
                replace hB := hB.trans (hb.mono hB.size)
                clear x0R x1R x2R x3R x4R x5R z0R z1R z2R z3R z4R z5R
                go_wp2
                go_ret
                exact ⟨rfl, hB⟩
              · have e3 : decide ((Dx : Int) + (k : Int) ≤ 64) = false := by simp; omega
                have hcc : c1 = 2 := HCY.out.2 (by omega)
                subst hcc
                obtain ⟨x0, x1, x2, x3, x4, x5⟩ := open6 B0
                obtain ⟨z0, z1, z2, z3, z4, z5⟩ := open6 BY
                go_wp2_with fail
                obtain ⟨j0, he1, hn, hlt0⟩ := HA.out
                clear HA
                refine (Hcy.out _ HNY.out he1 HTI.out).mono ?_
                rintro e w9 ⟨rfl, hb⟩
                clear x0 x1 x2 x3 x4 x5 z0 z1 z2 z3 z4 z5
                replace BY := block_kept BY hb
                have hti := XT.In.keep (Below.keptTo hb HNY.out) _ HTI.out
                clear HTI
                have HTI := Lib.hid hti
                clear hti
                have hny := Nat.le_trans HNY.out hb.size
                clear HNY
                have HNY := Lib.hid hny
                clear hny
                replace B0 := block_kept B0 hb
                replace j0 := XT.In.keep (Below.keptTo hb hn) _ j0
                replace he1 := he1.keep hb
                replace hB := hB.trans (hb.mono hB.size)
                replace hn := Nat.le_trans hn hb.size
                replace hlt0 := Nat.lt_of_lt_of_le hlt0 hb.size
                clear hb
                have HA := Lib.hid (And.intro j0 (And.intro he1 (And.intro hn hlt0)))
                clear j0 he1 hn hlt0
                obtain ⟨x0, x1, x2, x3, x4, x5⟩ := open6 B0
                obtain ⟨z0, z1, z2, z3, z4, z5⟩ := open6 BY
                go_wp2_with fail
                obtain ⟨j0, he1, hn, hlt0⟩ := HA.out
                clear HA
                refine (Hcy.out _ HNY.out he1 HTI.out).mono ?_
                rintro e w9 ⟨rfl, hb⟩
                clear x0 x1 x2 x3 x4 x5 z0 z1 z2 z3 z4 z5
                replace BY := block_kept BY hb
                have hti := XT.In.keep (Below.keptTo hb HNY.out) _ HTI.out
                clear HTI
                have HTI := Lib.hid hti
                clear hti
                have hny := Nat.le_trans HNY.out hb.size
                clear HNY
                have HNY := Lib.hid hny
                clear hny
                replace B0 := block_kept B0 hb
                replace j0 := XT.In.keep (Below.keptTo hb hn) _ j0
                replace he1 := he1.keep hb
                replace hB := hB.trans (hb.mono hB.size)
                replace hn := Nat.le_trans hn hb.size
                replace hlt0 := Nat.lt_of_lt_of_le hlt0 hb.size
                clear hb
                have HA := Lib.hid (And.intro j0 (And.intro he1 (And.intro hn hlt0)))
                clear j0 he1 hn hlt0
                obtain ⟨x0, x1, x2, x3, x4, x5⟩ := open6 B0
                obtain ⟨z0, z1, z2, z3, z4, z5⟩ := open6 BY
                go_upto_region 12 with (fail)
                obtain ⟨j0, he1, hn, hlt0⟩ := HA.out
                clear HA
                have bq := fun (dq : Nat) (os : Array Obj) => below_regrown w9 dq os
                have Qy := Lib.hid (fun (dq : Nat) (os : Array Obj) => Hsy.out (grow (redrawn w9 dq) os) (Nat.le_trans HNY.out (bq dq os).size) (XT.In.keep (Below.keptTo (bq dq os) HNY.out) _ HTI.out))
                have Qx := Lib.hid (fun (dq : Nat) (os : Array Obj) => Hsx.out (grow (redrawn w9 dq) os) (Nat.le_trans hn (bq dq os).size) (XT.In.keep (Below.keptTo (bq dq os) hn) _ j0))
                clear bq j0 he1 hn hlt0
                have x0R := cell_regrown x0
                have x1R := cell_regrown x1
                have x2R := cell_regrown x2
                have x3R := cell_regrown x3
                have x4R := cell_regrown x4
                have x5R := cell_regrown x5
                have z0R := cell_regrown z0
                have z1R := cell_regrown z1
                have z2R := cell_regrown z2
                have z3R := cell_regrown z3
                have z4R := cell_regrown z4
                have z5R := cell_regrown z5
                refine wp_region_quiet_below (by kernel_rfl) (by kernel_rfl) ?_
                repeat (go_big_quiet_step (first | (go_at_call_of 24 (Value.agg #[Value.int IntKind.i64 op, Value.string (bs nm), Value.int IntKind.i64 xn, Value.int IntKind.i64 wd, Value.int IntKind.u64 (v : Int), Value.slice xa (List.length xl) xc]); exact Calls.regrown_of (Qx.out _ _)) | (go_at_call 24; exact Calls.regrown_of (Qy.out _ _))))
                refine wpQuiet_nil ?_
                intro _ hw'
                obtain ⟨⟨dq, osq⟩, hw''⟩ := hw'
                subst hw''
                have hb := below_regrown w9 dq osq
                replace hB := hB.trans (hb.mono hB.size)
                clear x0R x1R x2R x3R x4R x5R z0R z1R z2R z3R z4R z5R
                go_wp2
                go_ret
                exact ⟨rfl, hB⟩
        · have hc2 : (c0 == 0) = false := by simpa using hc0
          have hc3 : decide (c0 = 0) = false := by simpa using hc0
          obtain ⟨x0, x1, x2, x3, x4, x5⟩ := open6 B0
          go_wp2
          go_ret
          exact ⟨rfl, hB⟩
end Go.Proofs.YtppgfedakcmgcaaDoor
