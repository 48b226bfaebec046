/-
  FaF, FaG, in one text.
-/
import Derived.Test.YtbcgeglkmpcnpaaDoorFbB
import Derived.Test.YtbcgeglkmpcnpaaDoorEzO
import Derived.Test.YtbcgeglkmpcnpaaDoorEzY
import Derived.Test.YtbcgeglkmpcnpaaDoorFbC
import Derived.StillTailTactics
namespace Go.Proofs.YtbcgeglkmpcnpaaDoor
open Go Go.RowKit
set_option linter.unusedVariables false
set_option linter.unusedSimpArgs false
open Go.Sort

def TT.xl : TT → List ET | .mk _ _ _ _ _ _ xl _ _ _ => xl
theorem KeptP.toBelow {p : Nat → Prop} {n : Nat} {a b : World} (h : KeptP p a b) (hn : n ≤ a.heap.size) (hp : ∀ k, k < n → ¬ p k) : Below n a b := ⟨h.os, h.tape, h.output, h.size, fun k hk => h.block k (by omega) (hp k hk)⟩
theorem szT_cells (cl : Bool) (gl : List GT) (x : TT) (m : Option Int) (f : Int) : (szT cl gl x m f).1.cells = x.cells := by
  obtain ⟨op, sg, uh, ul, xa, xc, xl, sa, sc, sl⟩ := x
  rw [szT_mk]
  simp only [TT.cells, szL_len, szTL_len]
theorem szTL_cells (cl : Bool) (gl : List GT) : ∀ (l : List TT) (m : Option Int) (f : Int), (szTL cl gl l m f).1.flatMap TT.cells = l.flatMap TT.cells
  | [], m, f => by rw [szTL_nil]
  | x :: r, m, f => by rw [szTL_cons, List.flatMap_cons, List.flatMap_cons, szT_cells, szTL_cells cl gl r]
theorem TT.Own.le {W : World} {lo hi : Nat} : ∀ {x : TT}, x.Own W lo hi → lo ≤ hi
  | .mk op sg uh ul xa xc xl sa sc sl, h => by
    rw [TT.own_mk] at h
    obtain ⟨m, h1, h2, _⟩ := h
    omega
/-- What a statement asks of the world: its rows are apart from the signals and the sizer. -/
structure StC (n0 g lo hi : Nat) (gl : List GT) (ga : Option Addr) (f : Int) (w : World) : Prop where
  ng : n0 ≤ g
  nl : n0 ≤ lo
  lh : lo ≤ hi
  hh : hi ≤ w.heap.size
  gn : ¬ (lo ≤ g ∧ g < hi)
  gs : GsIn n0 w gl ga
  sz : SzAt g f w
theorem StC.gl {n0 g lo hi : Nat} {gl : List GT} {ga : Option Addr} {f : Int} {w : World} (h : StC n0 g lo hi gl ga f w) : g < w.heap.size := (Array.getElem?_eq_some_iff.1 h.sz).1
theorem StC.step {n0 g lo hi lo' hi' : Nat} {gl : List GT} {ga : Option Addr} {f f' : Int} {w w' : World} (h : StC n0 g lo hi gl ga f w) (k : KeptP (Chp g lo' hi') w w') (h1 : lo ≤ lo') (h2 : hi' ≤ hi) (hs : SzAt g f' w') : StC n0 g lo hi gl ga f' w' :=
  ⟨h.ng, h.nl, h.lh, Nat.le_trans h.hh k.size, h.gn, h.gs.keep (Below.keptTo (k.toBelow (n := n0) (by have := h.nl; have := h.lh; have := h.hh; omega) (fun j hj => by unfold Chp; have := h.ng; have := h.nl; omega)) (Nat.le_refl _)), hs⟩
theorem StC.below {n0 g lo hi : Nat} {gl : List GT} {ga : Option Addr} {f : Int} {w w' : World} (h : StC n0 g lo hi gl ga f w) (k : Below w.heap.size w w') : StC n0 g lo hi gl ga f w' :=
  ⟨h.ng, h.nl, h.lh, Nat.le_trans h.hh k.size, h.gn, h.gs.keep (Below.keptTo k (by have := h.nl; have := h.lh; have := h.hh; omega)), block_kept h.sz k⟩
theorem StC.sub {n0 g lo hi lo' hi' : Nat} {gl : List GT} {ga : Option Addr} {f : Int} {w : World} (h : StC n0 g lo hi gl ga f w) (h1 : lo ≤ lo') (h2 : lo' ≤ hi') (h3 : hi' ≤ hi) : StC n0 g lo' hi' gl ga f w :=
  ⟨h.ng, by have := h.nl; omega, h2, by have := h.hh; omega, by have := h.gn; omega, h.gs, h.sz⟩
/-- What sizing a statement leaves. -/
def StP (g lo hi : Nat) (r : TT × Int) (w : World) : Ending → World → Prop := fun e w' => e = .returned (.tuple #[]) ∧ KeptP (Chp g lo hi) w w' ∧ r.1.Own w' lo hi ∧ SzAt g r.2 w'
def StL (g lo hi : Nat) (sa : Option Addr) (sc : Nat) (r : List TT × Int) (w : World) : Ending → World → Prop := fun e w' => e = .returned (.tuple #[]) ∧ KeptP (Chp g lo hi) w w' ∧ RowTT w' lo hi sa sc r.1 ∧ SzAt g r.2 w'
theorem KeptP.chp {g lo hi lo' hi' : Nat} {a b : World} (h : KeptP (Chp g lo hi) a b) (h1 : lo' ≤ lo) (h2 : hi ≤ hi') : KeptP (Chp g lo' hi') a b := h.mono (fun k hk => by unfold Chp at *; omega)
theorem KeptP.on {g lo hi a1 b1 : Nat} {a b : World} (h : KeptP (Chp g lo hi) a b) (hs : b1 ≤ a.heap.size) (hg : ¬ (a1 ≤ g ∧ g < b1)) (hd : b1 ≤ lo ∨ hi ≤ a1) : SameOn a1 b1 a b := fun k h1 h2 => h.block k (by omega) (by unfold Chp; omega)
theorem KeptP.at {g lo hi k : Nat} {a b : World} {o : Obj} (h : KeptP (Chp g lo hi) a b) (he : a.heap[k]? = some o) (hk : k ≠ g) (hn : hi ≤ k) : b.heap[k]? = some o := (h.block k (Array.getElem?_eq_some_iff.1 he).1 (by unfold Chp; omega)).trans he
theorem lown_same {W W' : World} {l : List TT} {lo hi : Nat} (h : LOwn (TT.Own W) lo hi l) (hs : SameOn lo hi W W') : LOwn (TT.Own W') lo hi l := LOwn.keep (fun x _ => TT.Own.keep x) hs h
/-- The call sizes a statement. -/
def StmtOK (cl : Bool) (gl : List GT) (x : TT) : Prop := ∀ (ga : Option Addr) (gc : Nat) (n0 g lo hi : Nat) (f : Int) (w : World), StC n0 g lo hi gl ga f w → x.Own w lo hi → Calls Tryd.prog 104 #[.agg #[.pointer (some ⟨g, 0, none⟩), .slice ga gl.length gc, .bool cl], x.val] w (StP g lo hi (szT cl gl x none f) w)
set_option maxHeartbeats 8000000 in
set_option maxRecDepth 100000 in
theorem drives_any (gl : List GT) (g : Nat) (ga : Option Addr) (gc : Nat) (cl : Bool) (kd : Int) (w : World) : Calls Tryd.prog 106 #[.agg #[.pointer (some ⟨g, 0, none⟩), .slice ga gl.length gc, .bool cl], .int .i64 kd] w fun e w' => e = .returned (.bool (drivesB cl kd)) ∧ Below w.heap.size w w' := by
  obtain ⟨wa, hwa⟩ : ∃ wa, w.alloc (.cells #[.pointer (some ⟨g, 0, none⟩), .slice ga gl.length gc, .bool cl] 114) = wa := ⟨_, rfl⟩
  have hba : Below w.heap.size w wa := by rw [← hwa]; exact (Below.refl _ _).alloc (Nat.le_refl _) _
  have BX : wa.heap[w.heap.size]? = some (.cells #[.pointer (some ⟨g, 0, none⟩), .slice ga gl.length gc, .bool cl] 114) := by rw [← hwa]; exact World.alloc_heap_new w _
  obtain ⟨x0, x1, x2⟩ := ope3 BX
  have HB := Lib.hid hba
  clear BX hba
  obtain ⟨R, hR⟩ : ∃ R, drivesB cl kd = R := ⟨_, rfl⟩
  rw [hR]
  have HR := Lib.hid hR
  clear hR
  obtain ⟨b4, hb4⟩ : ∃ b, (kd == 4) = b := ⟨_, rfl⟩
  obtain ⟨b3, hb3⟩ : ∃ b, (kd == 3) = b := ⟨_, rfl⟩
  obtain ⟨b2, hb2⟩ : ∃ b, (kd == 2) = b := ⟨_, rfl⟩
  have HE : Hid (R = if cl = true then b4 else (b3 || b2)) := Lib.hid (by rw [← HR.out, drivesB, hb4, hb3, hb2])
  clear HR
  cases cl <;> cases b3
  all_goals
    go_enter Tryd.func106, Tryd.ntmps106
    go_upto_region 1 with (fail)
    (try rw [hwa])
    go_wp2
    go_ret
    exact ⟨by rw [HE.out]; simp, HB.out⟩
set_option maxHeartbeats 8000000 in
set_option maxRecDepth 100000 in
theorem statements_any (cl : Bool) (gl : List GT) (l : List TT) (hll : l.length ≤ 12000000) (hc : ∀ x ∈ l, StmtOK cl gl x) (ga : Option Addr) (gc : Nat) (n0 g lo hi : Nat) (sa : Option Addr) (sc : Nat) (f : Int) (w : World) (hS : StC n0 g lo hi gl ga f w) (hr : RowTT w lo hi sa sc l) :
    Calls Tryd.prog 83 #[.agg #[.pointer (some ⟨g, 0, none⟩), .slice ga gl.length gc, .bool cl], .slice sa l.length sc] w (StL g lo hi sa sc (szTL cl gl l none f) w) := by
  obtain ⟨gx, hgx⟩ : ∃ gx, w.heap.size = gx := ⟨_, rfl⟩
  obtain ⟨w1, hw1⟩ : ∃ w1, w.alloc (.cells #[.pointer (some ⟨g, 0, none⟩), .slice ga gl.length gc, .bool cl] 114) = w1 := ⟨_, rfl⟩
  have hb : Below w.heap.size w w1 := by rw [← hw1]; exact (Below.refl _ _).alloc (Nat.le_refl _) _
  have BB : w1.heap[gx]? = some (.cells #[.pointer (some ⟨g, 0, none⟩), .slice ga gl.length gc, .bool cl] 114) := by rw [← hw1, ← hgx]; exact World.alloc_heap_new w _
  have hgg := hS.gl
  have hhg := hS.hh
  by_cases hl0 : l = []
  · subst hl0
    rcases hr with ⟨_, rfl, rfl⟩ | ⟨B, _, _, _, _, h5, _⟩
    · have HP : Hid (StL g lo hi none 0 (szTL cl gl [] none f) w (.returned (.tuple #[])) w1) := Lib.hid (by
        rw [szTL_nil]
        exact ⟨rfl, KeptP.of_below hb, Or.inl ⟨rfl, rfl, rfl⟩, block_kept hS.sz hb⟩)
      clear hS hb BB
      go_enter Tryd.func83, Tryd.ntmps83
      go_upto_region 1 with (fail)
      (try rw [hw1])
      go_wp2
      go_loopw [8] (fun u wr => u = .int .i64 0 ∧ wr = w1) (fun u _ => 0)
      case atStart => exact ⟨rfl, rfl⟩
      case round =>
        obtain ⟨rfl, rfl⟩ := hrel
        go_wp2
        exact bodyPost_end (v := .tuple #[]) (by simp [results, Tryd.results83, go_sem]) rfl HP.out
    · exact absurd rfl h5
  rcases hr with ⟨h, _, _⟩ | ⟨B, rfl, h2, h3, h4, h5, h6, h7⟩
  · exact absurd h hl0
  have HS := Lib.hid hS
  have HR := Lib.hid (And.intro h2 (And.intro h3 (And.intro h4 h5)))
  have H1 : Hid (KeptP (Chp g lo hi) w w1 ∧ RowT 48 w1 B (l.flatMap TT.cells) ∧ LOwn (TT.Own w1) (B + 1) hi l ∧ SzAt g f w1 ∧ w1.heap[gx]? = some (.cells #[.pointer (some ⟨g, 0, none⟩), .slice ga gl.length gc, .bool cl] 114)) := Lib.hid ⟨KeptP.of_below hb, h6.keep (hb.block B (by omega)), lown_same h7 (fun k h1 h2 => hb.block k (by omega)), block_kept hS.sz hb, BB⟩
  clear hS h2 h3 h4 h5 h6 h7 hl0 hb BB
  go_enter Tryd.func83, Tryd.ntmps83
  go_upto_region 1 with (fail)
  (try rw [hw1])
  (try rw [hgx])
  clear hw1
  go_wp2
  go_loopw [8] (fun u wr => ∃ (k m : Nat), u = .int .i64 k ∧ k ≤ l.length ∧ KeptP (Chp g lo hi) w wr ∧ RowT 48 wr B (l.flatMap TT.cells) ∧ LOwn (TT.Own wr) (B + 1) m (szTL cl gl (l.take k) none f).1 ∧ LOwn (TT.Own wr) m hi (l.drop k) ∧ SzAt g (szTL cl gl (l.take k) none f).2 wr ∧ wr.heap[gx]? = some (.cells #[.pointer (some ⟨g, 0, none⟩), .slice ga gl.length gc, .bool cl] 114)) (fun u _ => l.length - (intOf u).toNat)
  case atStart => exact ⟨0, B + 1, rfl, Nat.zero_le _, H1.out.1, H1.out.2.1, by rw [List.take_zero, szTL_nil, LOwn]; exact Nat.le_refl _, by rw [List.drop_zero]; exact H1.out.2.2.1, by rw [List.take_zero, szTL_nil]; exact H1.out.2.2.2.1, H1.out.2.2.2.2⟩
  case round =>
    obtain ⟨k, m, rfl, hk, hkp, hrm, ho1, ho2, hsz, hbx⟩ := hrel
    by_cases hlt : k < l.length
    · have d1 : decide (k < l.length) = true := by simpa using hlt
      have d2 : decide ((k : Int) < (l.length : Int)) = true := by rw [decide_eq_true_eq]; omega
      have x1 : (k : Int) < (l.length : Int) := by omega
      have hrc : RowC wr B (k * 6) l[k].cells := by
        have h9 := hrm
        rw [← List.take_append_drop k l, ← List.getElem_cons_drop hlt, List.flatMap_append, List.flatMap_cons] at h9
        exact rowT_cells h9 (k * 6) (by rw [flat_len6 TT.cells_len, List.length_take]; congr 1; omega)
      rw [← List.getElem_cons_drop hlt, LOwn] at ho2
      obtain ⟨m2, hm1, hox, ho2⟩ := ho2
      have hcx := hc l[k] (List.getElem_mem hlt)
      have HSN := Lib.hid (szTL_snoc cl gl l k hlt none f)
      obtain ⟨F, hF⟩ : ∃ F, (szTL cl gl (l.take k) none f).2 = F := ⟨_, rfl⟩
      rw [hF] at hsz
      have HF := Lib.hid hF
      have hBm := ho1.le
      have hm2 := hox.le
      have hmh := ho2.le
      have hC1 : StC n0 g m m2 gl ga F wr := by
        have h8 := HS.out.step (f' := F) (hkp.chp (Nat.le_refl _) (Nat.le_refl _)) (Nat.le_refl _) (Nat.le_refl _) hsz
        exact h8.sub (by have := HR.out.1; omega) hm2 hmh
      obtain ⟨wb, hwb⟩ : ∃ wb, wr.alloc (.cells l[k].cells.toArray 48) = wb := ⟨_, rfl⟩
      have hbb : Below wr.heap.size wr wb := by rw [← hwb]; exact (Below.refl _ _).alloc (Nat.le_refl _) _
      have hhr : hi ≤ wr.heap.size := Nat.le_trans hhg hkp.size
      have hgr : gx < wr.heap.size := (Array.getElem?_eq_some_iff.1 hbx).1
      have c0 := hcx ga gc n0 g m m2 F wb (hC1.below hbb) (TT.Own.keep _ _ _ (fun q h1 h2 => hbb.block q (by omega)) hox)
      have c0K := Lib.hid c0
      have HQ := Lib.hid (And.intro hkp (And.intro hrm (And.intro ho1 (And.intro ho2 (And.intro hbb (And.intro hbx (And.intro hC1 (And.intro hhr hgr))))))))
      have hbx1 := block_kept hbx hbb
      obtain ⟨y0, y1, y2⟩ := ope3 hbx1
      have BN : wb.heap[wr.heap.size]? = some (.cells l[k].cells.toArray 48) := by rw [← hwb]; exact World.alloc_heap_new wr _
      clear hcx c0 hkp hrm ho1 ho2 hsz hox hF hC1 hbb hbx hbx1
      obtain ⟨X, hX⟩ : ∃ X, X = l[k] := ⟨_, rfl⟩
      rw [← hX] at hrc hwb c0K HSN BN
      obtain ⟨op, sg, uh, ul, xa, xc, xl, sa, sc, sl⟩ := X
      simp only [TT.cells] at hrc hwb BN
      simp only [TT.val, TT.cells] at c0K
      have HX := Lib.hid hX
      clear hX
      have r0 : wr.cell? ⟨B, k * 6, none⟩ = some (.int .i64 op) := hrc 0 _ rfl
      have r1 : wr.cell? ⟨B, k * 6 + 1, none⟩ = some (.int .i64 sg) := hrc 1 _ rfl
      have r2 : wr.cell? ⟨B, k * 6 + 2, none⟩ = some (.int .i64 uh) := hrc 2 _ rfl
      have r3 : wr.cell? ⟨B, k * 6 + 3, none⟩ = some (.int .i64 ul) := hrc 3 _ rfl
      have r4 : wr.cell? ⟨B, k * 6 + 4, none⟩ = some (.slice xa xl.length xc) := hrc 4 _ rfl
      have r5 : wr.cell? ⟨B, k * 6 + 5, none⟩ = some (.slice sa sl.length sc) := hrc 5 _ rfl
      obtain ⟨v0, v1, v2, v3, v4, v5⟩ := ope6_ BN
      clear hrc BN
      go_upto_region 4 with (fail)
      (try rw [hwb])
      go_wp2_with fail
      refine c0K.out.mono ?_
      clear c0K y0 y1 y2 r0 r1 r2 r3 r4 r5 v0 v1 v2 v3 v4 v5
      rintro e W2 ⟨rfl, k2, o2, s2⟩
      have HP : Hid (KeptP (Chp g lo hi) w W2 ∧ RowT 48 W2 B (l.flatMap TT.cells) ∧ LOwn (TT.Own W2) (B + 1) m2 (szTL cl gl (l.take (k + 1)) none f).1 ∧ LOwn (TT.Own W2) m2 hi (l.drop (k + 1)) ∧ SzAt g (szTL cl gl (l.take (k + 1)) none f).2 W2 ∧ W2.heap[gx]? = some (.cells #[.pointer (some ⟨g, 0, none⟩), .slice ga gl.length gc, .bool cl] 114)) := Lib.hid (by
        obtain ⟨hkp, hrm, ho1, ho2, hbb, hbx, hC1, hhr, hgr⟩ := HQ.out
        obtain ⟨h2, h3, h4, h5⟩ := HR.out
        have hgn := HS.out.gn
        have hz := hbb.size
        have hsame : ∀ a b, b ≤ wr.heap.size → ¬ (a ≤ g ∧ g < b) → (b ≤ m ∨ m2 ≤ a) → SameOn a b wr W2 := fun a b h1 h6 h7 q h8 h9 => by
          rw [k2.on (a1 := a) (b1 := b) (by omega) h6 h7 q h8 h9, hbb.block q (by omega)]
        refine ⟨(hkp.trans (KeptP.of_below hbb)).trans (k2.chp (by omega) (by omega)), ?_, ?_, ?_, ?_, ?_⟩
        · exact hrm.keep (hsame B (B + 1) (by omega) (by omega) (Or.inl (by omega)) B (Nat.le_refl _) (by omega))
        · rw [HSN.out]
          simp only [HF.out]
          exact LOwn.snoc (own := TT.Own W2) (fun lo lo' hi h1 h2 => TT.Own.wider h1 h2 (Nat.le_refl _)) (lown_same ho1 (hsame _ _ (by omega) (by omega) (Or.inl (Nat.le_refl _)))) o2 hm2
        · exact lown_same ho2 (hsame _ _ (by omega) (by omega) (Or.inr (Nat.le_refl _)))
        · rw [HSN.out]
          simp only [HF.out]
          exact s2
        · exact k2.at (block_kept hbx hbb) (by omega) (by omega))
      clear k2 o2 s2 HQ HSN HF HX
      go_wp2
      go_roundw
      case rel => exact ⟨k + 1, m2, by simp; first | done | rfl | omega, by omega, HP.out⟩
      case measure => simp [intOf]; omega
    · have d1 : decide (k < l.length) = false := by simpa using hlt
      have d2 : decide ((k : Int) < (l.length : Int)) = false := by rw [decide_eq_false_iff_not]; omega
      have HP : Hid (StL g lo hi (some ⟨B, 0, none⟩) sc (szTL cl gl l none f) w (.returned (.tuple #[])) wr) := Lib.hid (by
        obtain ⟨h2, h3, h4, h5⟩ := HR.out
        rw [List.take_of_length_le (by omega)] at ho1 hsz
        have h8 := ho2.le
        refine ⟨rfl, hkp, Or.inr ⟨B, rfl, h2, h3, by rw [szTL_len]; exact h4, ?_, by rw [szTL_cells]; exact hrm, ho1.widen h8⟩, hsz⟩
        intro h9
        have h10 := congrArg List.length h9
        rw [szTL_len] at h10
        exact h5 (List.length_eq_zero_iff.1 h10))
      clear hkp hrm ho1 ho2 hsz hbx hlt
      go_wp2
      exact bodyPost_end (v := .tuple #[]) (by simp [results, Tryd.results83, go_sem]) rfl HP.out
set_option maxHeartbeats 8000000 in
set_option maxRecDepth 100000 in
theorem st_block (cl : Bool) (gl : List GT) (sg uh ul : Int) (xa : Option Addr) (xc : Nat) (xl : List ET) (sa : Option Addr) (sc : Nat) (sl : List TT) (ga : Option Addr) (gc : Nat) (n0 g lo hi : Nat) (f : Int) (w : World) (hS : StC n0 g lo hi gl ga f w) (hxl : xl = []) (hll : sl.length ≤ 12000000) (hc : ∀ x ∈ sl, StmtOK cl gl x) (ho : (TT.mk 5 sg uh ul xa xc xl sa sc sl).Own w lo hi) :
    Calls Tryd.prog 104 #[.agg #[.pointer (some ⟨g, 0, none⟩), .slice ga gl.length gc, .bool cl], (TT.mk 5 sg uh ul xa xc xl sa sc sl).val] w (StP g lo hi (szT cl gl (.mk 5 sg uh ul xa xc xl sa sc sl) none f) w) := by
  rw [TT.own_mk] at ho
  obtain ⟨m, hm1, hm2, hoe, hot⟩ := ho
  subst hxl
  simp only [TT.val, TT.cells, List.length_nil]
  obtain ⟨gx, hgx⟩ : ∃ gx, w.heap.size = gx := ⟨_, rfl⟩
  obtain ⟨wa, hwa⟩ : ∃ wa, w.alloc (.cells #[.pointer (some ⟨g, 0, none⟩), .slice ga gl.length gc, .bool cl] 114) = wa := ⟨_, rfl⟩
  have hsa : wa.heap.size = gx + 1 := by rw [← hwa, World.size_alloc, hgx]
  have hba : Below w.heap.size w wa := by rw [← hwa]; exact (Below.refl _ _).alloc (Nat.le_refl _) _
  have BA : wa.heap[gx]? = some (.cells #[.pointer (some ⟨g, 0, none⟩), .slice ga gl.length gc, .bool cl] 114) := by rw [← hwa, ← hgx]; exact World.alloc_heap_new w _
  obtain ⟨w1, hw1⟩ : ∃ w1, wa.alloc (.cells #[.int .i64 5, .int .i64 sg, .int .i64 uh, .int .i64 ul, .slice xa 0 xc, .slice sa sl.length sc] 48) = w1 := ⟨_, rfl⟩
  have hb1 : Below wa.heap.size wa w1 := by rw [← hw1]; exact (Below.refl _ _).alloc (Nat.le_refl _) _
  have BT : w1.heap[gx + 1]? = some (.cells #[.int .i64 5, .int .i64 sg, .int .i64 uh, .int .i64 ul, .slice xa 0 xc, .slice sa sl.length sc] 48) := by rw [← hw1, ← hsa]; exact World.alloc_heap_new wa _
  have BB := block_kept BA hb1
  have hb : Below w.heap.size w w1 := hba.trans (hb1.mono hba.size)
  have hs1 : w1.heap.size = gx + 2 := by rw [← hw1, World.size_alloc, hsa]
  have hgg := hS.gl
  have hhg := hS.hh
  have hS1 := hS.below hb
  obtain ⟨y0, y1, y2⟩ := ope3 BB
  obtain ⟨x0, x1, x2, x3, x4, x5⟩ := ope6_ BT
  have c0 := statements_any cl gl sl hll hc ga gc n0 g m hi sa sc f w1 (hS1.sub hm1 hm2 (Nat.le_refl _)) (hot.keep (fun x _ => TT.Own.keep x) (fun q h1 h2 => hb.block q (by omega)))
  have HE : Hid (szT cl gl (.mk 5 sg uh ul xa xc [] sa sc sl) none f = (.mk 5 sg uh ul xa xc [] sa sc (szTL cl gl sl none f).1, (szTL cl gl sl none f).2)) := Lib.hid (by
    rw [szT_mk]
    simp [szL, preT, cmT, insT])
  have HX := Lib.hid (And.intro hb (And.intro hoe (And.intro hm1 (And.intro hm2 hS))))
  have c0K := Lib.hid c0
  clear c0 hba BA hb1 BT BB hb hS hS1 hoe hot hc
  go_enter Tryd.func104, Tryd.ntmps104
  go_upto_region 1 with (fail)
  (try rw [hwa])
  (try rw [hgx])
  (try rw [hw1])
  (try rw [hsa])
  go_wp2_with fail
  refine c0K.out.mono ?_
  clear c0K
  rintro e W2 ⟨rfl, k2, r2, s2⟩
  have HP : Hid (StP g lo hi (szT cl gl (.mk 5 sg uh ul xa xc [] sa sc sl) none f) w (.returned (.tuple #[])) W2) := Lib.hid (by
    obtain ⟨hb, hoe, hm1, hm2, hS⟩ := HX.out
    have hgn := hS.gn
    rw [HE.out]
    refine ⟨rfl, (KeptP.of_below hb).trans (k2.chp hm1 (Nat.le_refl _)), ?_, s2⟩
    rw [TT.own_mk]
    exact ⟨m, hm1, hm2, (hoe.keep (fun q h1 h2 => hb.block q (by omega))).keep (k2.on (by omega) (by omega) (Or.inl (Nat.le_refl _))), r2⟩)
  clear k2 r2 s2 HX HE x0 x1 x2 x3 x4 x5 y0 y1 y2
  go_wp2
  exact bodyPost_end (v := .tuple #[]) (by simp [results, Tryd.results104, go_sem]) rfl HP.out
set_option maxHeartbeats 8000000 in
set_option maxRecDepth 100000 in
theorem st_if (cl : Bool) (gl : List GT) (sg uh ul : Int) (xa : Option Addr) (xc : Nat) (xl : List ET) (sa : Option Addr) (sc : Nat) (sl : List TT) (ga : Option Addr) (gc : Nat) (n0 g lo hi : Nat) (f : Int) (w : World) (hS : StC n0 g lo hi gl ga f w) (hxl : xl.length = 1) (hce : ∀ x ∈ xl, SzOK x ∧ OwOK x) (hll : sl.length ≤ 12000000) (hc : ∀ x ∈ sl, StmtOK cl gl x) (ho : (TT.mk 2 sg uh ul xa xc xl sa sc sl).Own w lo hi) :
    Calls Tryd.prog 104 #[.agg #[.pointer (some ⟨g, 0, none⟩), .slice ga gl.length gc, .bool cl], (TT.mk 2 sg uh ul xa xc xl sa sc sl).val] w (StP g lo hi (szT cl gl (.mk 2 sg uh ul xa xc xl sa sc sl) none f) w) := by
  rw [TT.own_mk] at ho
  obtain ⟨m, hm1, hm2, hoe, hot⟩ := ho
  simp only [TT.val, TT.cells]
  have HXL := Lib.hid hxl
  rw [hxl]
  obtain ⟨gx, hgx⟩ : ∃ gx, w.heap.size = gx := ⟨_, rfl⟩
  obtain ⟨wa, hwa⟩ : ∃ wa, w.alloc (.cells #[.pointer (some ⟨g, 0, none⟩), .slice ga gl.length gc, .bool cl] 114) = wa := ⟨_, rfl⟩
  have hsa : wa.heap.size = gx + 1 := by rw [← hwa, World.size_alloc, hgx]
  have hba : Below w.heap.size w wa := by rw [← hwa]; exact (Below.refl _ _).alloc (Nat.le_refl _) _
  have BA : wa.heap[gx]? = some (.cells #[.pointer (some ⟨g, 0, none⟩), .slice ga gl.length gc, .bool cl] 114) := by rw [← hwa, ← hgx]; exact World.alloc_heap_new w _
  obtain ⟨w1, hw1⟩ : ∃ w1, wa.alloc (.cells #[.int .i64 2, .int .i64 sg, .int .i64 uh, .int .i64 ul, .slice xa 1 xc, .slice sa sl.length sc] 48) = w1 := ⟨_, rfl⟩
  have hb1 : Below wa.heap.size wa w1 := by rw [← hw1]; exact (Below.refl _ _).alloc (Nat.le_refl _) _
  have BT : w1.heap[gx + 1]? = some (.cells #[.int .i64 2, .int .i64 sg, .int .i64 uh, .int .i64 ul, .slice xa 1 xc, .slice sa sl.length sc] 48) := by rw [← hw1, ← hsa]; exact World.alloc_heap_new wa _
  have BB := block_kept BA hb1
  have hb : Below w.heap.size w w1 := hba.trans (hb1.mono hba.size)
  have hs1 : w1.heap.size = gx + 2 := by rw [← hw1, World.size_alloc, hsa]
  have hgg := hS.gl
  have hhg := hS.hh
  have hS1 := hS.below hb
  obtain ⟨y0, y1, y2⟩ := ope3 BB
  obtain ⟨x0, x1, x2, x3, x4, x5⟩ := ope6_ BT
  have hoe1 : OwnRow w1 lo m xa xc xl := hoe.keep (fun q h1 h2 => hb.block q (by omega))
  obtain ⟨B, hB⟩ : ∃ B, xa = some ⟨B, 0, none⟩ := by
    rcases hoe with ⟨h, _, _⟩ | ⟨B, h, _⟩
    · rw [h] at hxl; cases hxl
    · exact ⟨B, h⟩
  have c0 := bitsSome_any g lo m B [] xl [] (by omega) hce xc xc f w1 (by omega) (by have := hS.gn; omega) (by rw [← hB]; simpa using hoe1) hS1.sz 0 (by simp)
  rw [hxl, ← hB] at c0
  obtain ⟨P, hP⟩ : ∃ P, szL xl 0 (fun _ => (true, 1)) f = P := ⟨_, rfl⟩
  rw [hP] at c0
  have HE : Hid (szT cl gl (.mk 2 sg uh ul xa xc xl sa sc sl) none f = (.mk 2 sg uh ul xa xc P.1 sa sc (szTL cl gl sl none P.2).1, (szTL cl gl sl none P.2).2)) := Lib.hid (by
    rw [szT_mk]
    have e1 : (fun (_ : Nat) => insT none 2 uh ul) = (fun _ => (true, 1)) := by funext j; simp [insT]
    simp [preT, cmT, e1, hP])
  have c1 := fun (W : World) (k : KeptP (Chp g lo m) w1 W) (h : SzAt g P.2 W) => statements_any cl gl sl hll hc ga gc n0 g m hi sa sc P.2 W ((hS1.step (k.chp (Nat.le_refl _) hm2) (Nat.le_refl _) (Nat.le_refl _) h).sub hm1 hm2 (Nat.le_refl _)) (ROwn.keep (fun x _ => TT.Own.keep x) (k.on (by omega) (by have := hS.gn; omega) (Or.inr (Nat.le_refl _))) (hot.keep (fun x _ => TT.Own.keep x) (fun q h1 h2 => hb.block q (by omega))))
  have c1K := Lib.hid c1
  have HX := Lib.hid (And.intro hb (And.intro BB (And.intro hm1 (And.intro hm2 (And.intro hS BT)))))
  have c0K := Lib.hid c0
  have HB2 := Lib.hid hB
  clear c0 c1 hba BA hb1 BT BB hb hS hS1 hoe hot hc hce hoe1 hP hxl hB
  go_enter Tryd.func104, Tryd.ntmps104
  go_upto_region 1 with (fail)
  (try rw [hwa])
  (try rw [hgx])
  (try rw [hw1])
  (try rw [hsa])
  go_wp2_with fail
  refine c0K.out.mono ?_
  clear c0K x0 x1 x2 x3 x4 x5 y0 y1 y2
  rintro e W2 ⟨rfl, k2, r2, s2⟩
  have c2 := c1K.out W2 k2 s2
  have BB2 := k2.at HX.out.2.1 (by omega) (by have := HX.out.2.2.2.1; omega)
  have BT2 := k2.at HX.out.2.2.2.2.2 (by omega) (by have := HX.out.2.2.2.1; omega)
  obtain ⟨y0, y1, y2⟩ := ope3 BB2
  obtain ⟨x0, x1, x2, x3, x4, x5⟩ := ope6_ BT2
  have HK2 := Lib.hid (And.intro k2 r2)
  clear k2 r2 s2 BB2 BT2
  go_wp2_with fail
  refine c2.mono ?_
  clear c2 c1K x0 x1 x2 x3 x4 x5 y0 y1 y2
  rintro e W3 ⟨rfl, k3, r3, s3⟩
  have HP : Hid (StP g lo hi (szT cl gl (.mk 2 sg uh ul xa xc xl sa sc sl) none f) w (.returned (.tuple #[])) W3) := Lib.hid (by
    obtain ⟨hb, BB, hm1, hm2, hS, BT⟩ := HX.out
    obtain ⟨k2, r2⟩ := HK2.out
    have hgn := hS.gn
    have hz := k2.size
    rw [HE.out]
    refine ⟨rfl, ((KeptP.of_below hb).trans (k2.chp (Nat.le_refl _) hm2)).trans (k3.chp hm1 (Nat.le_refl _)), ?_, s3⟩
    rw [TT.own_mk]
    refine ⟨m, hm1, hm2, ?_, r3⟩
    have h9 : OwnRow W2 lo m xa xc P.1 := by rw [HB2.out]; simpa [HB2.out] using r2
    exact h9.keep (k3.on (by omega) (by omega) (Or.inl (Nat.le_refl _))))
  clear k3 r3 s3 HX HE HK2
  go_wp2
  exact bodyPost_end (v := .tuple #[]) (by simp [results, Tryd.results104, go_sem]) rfl HP.out
end Go.Proofs.YtbcgeglkmpcnpaaDoor
namespace Go.Proofs.YtbcgeglkmpcnpaaDoor
open Go Go.RowKit
set_option linter.unusedVariables false
set_option linter.unusedSimpArgs false
open Go.Sort

theorem ownrow_wd {W : World} {lo hi B xc : Nat} {l : List ET} (h : OwnRow W lo hi (some ⟨B, 0, none⟩) xc l) (hl : l.length = 1) : W.cell? ⟨B, 1, none⟩ = some (.int .i64 ((l.map ET.wd).getD 0 0)) := by
  rcases h with ⟨_, h, _⟩ | ⟨B', h1, _, _, _, _, h6, _⟩
  · cases h
  · simp only [Option.some.injEq, Addr.mk.injEq, and_true] at h1
    subst h1
    obtain ⟨x, rfl⟩ := one_of hl
    obtain ⟨op, wd, v, sg, uh, ul, xn, xa, xc2, xl⟩ := x
    have h9 : RowM W B ([] ++ ((ET.mk op wd v sg uh ul xn xa xc2 xl).cells ++ [])) := by simpa [flatE] using h6
    exact rowM_cells h9 0 rfl 1 _ rfl
theorem drew_on (lo hi : Nat) (w : World) : SameOn lo hi w w.drew := fun _ _ _ => rfl
theorem StC.drew {n0 g lo hi : Nat} {gl : List GT} {ga : Option Addr} {f : Int} {w : World} (h : StC n0 g lo hi gl ga f w) : StC n0 g lo hi gl ga f w.drew :=
  h.step (KeptP.drew (Chp g lo hi) w) (Nat.le_refl _) (Nat.le_refl _) (h.sz.keep rfl)
set_option maxHeartbeats 8000000 in
set_option maxRecDepth 100000 in
theorem st_assign (cl : Bool) (gl : List GT) (sg uh ul : Int) (xa : Option Addr) (xc : Nat) (xl : List ET) (sa : Option Addr) (sc : Nat) (sl : List TT) (ga : Option Addr) (gc : Nat) (n0 g lo hi : Nat) (f : Int) (w : World) (hS : StC n0 g lo hi gl ga f w) (hxl : xl.length = 1) (hce : ∀ x ∈ xl, SzOK x) (hsl : sl = []) (hbits : haveBitsB gl sg uh ul = true) (hwd : ∀ x ∈ gl, x.wd ≤ 64) (ho : (TT.mk 1 sg uh ul xa xc xl sa sc sl).Own w lo hi) :
    Calls Tryd.prog 104 #[.agg #[.pointer (some ⟨g, 0, none⟩), .slice ga gl.length gc, .bool cl], (TT.mk 1 sg uh ul xa xc xl sa sc sl).val] w (StP g lo hi (szT cl gl (.mk 1 sg uh ul xa xc xl sa sc sl) none f) w) := by
  rw [TT.own_mk] at ho
  obtain ⟨m, hm1, hm2, hoe, hot⟩ := ho
  have hbf := haveBits_facts hbits
  have hwl := widthOf_le hwd sg
  have v1 : uh ≤ 63 := by omega
  have v2 : 0 ≤ ul := by omega
  have v3 : ul ≤ uh := by omega
  obtain ⟨zs, rfl⟩ : ∃ zs : Nat, sg = (zs : Int) := ⟨sg.toNat, by omega⟩
  have hzl : zs < gl.length := by omega
  obtain ⟨zb, zo, rfl, hzb, hzr0, _⟩ := InRow.kept hS.gs (Below.keptTo (Below.refl n0 w) (Nat.le_refl _)) hzl
  have hot : sl = [] ∧ sa = none ∧ sc = 0 := by
    rcases hot with h | ⟨B, _, _, _, _, h, _⟩
    · exact h
    · exact absurd hsl h
  simp only [TT.val, TT.cells]
  rw [hxl]
  clear hbf hwl hbits
  obtain ⟨gx, hgx⟩ : ∃ gx, w.heap.size = gx := ⟨_, rfl⟩
  obtain ⟨wa, hwa⟩ : ∃ wa, w.alloc (.cells #[.pointer (some ⟨g, 0, none⟩), .slice (some ⟨zb, zo, none⟩) gl.length gc, .bool cl] 114) = wa := ⟨_, rfl⟩
  have hsa : wa.heap.size = gx + 1 := by rw [← hwa, World.size_alloc, hgx]
  have hba : Below w.heap.size w wa := by rw [← hwa]; exact (Below.refl _ _).alloc (Nat.le_refl _) _
  have BA : wa.heap[gx]? = some (.cells #[.pointer (some ⟨g, 0, none⟩), .slice (some ⟨zb, zo, none⟩) gl.length gc, .bool cl] 114) := by rw [← hwa, ← hgx]; exact World.alloc_heap_new w _
  obtain ⟨w1, hw1⟩ : ∃ w1, wa.alloc (.cells #[.int .i64 1, .int .i64 (zs : Int), .int .i64 uh, .int .i64 ul, .slice xa 1 xc, .slice sa sl.length sc] 48) = w1 := ⟨_, rfl⟩
  have hb1 : Below wa.heap.size wa w1 := by rw [← hw1]; exact (Below.refl _ _).alloc (Nat.le_refl _) _
  have BT : w1.heap[gx + 1]? = some (.cells #[.int .i64 1, .int .i64 (zs : Int), .int .i64 uh, .int .i64 ul, .slice xa 1 xc, .slice sa sl.length sc] 48) := by rw [← hw1, ← hsa]; exact World.alloc_heap_new wa _
  have BB := block_kept BA hb1
  have hb : Below w.heap.size w w1 := hba.trans (hb1.mono hba.size)
  have hs1 : w1.heap.size = gx + 2 := by rw [← hw1, World.size_alloc, hsa]
  have hgg := hS.gl
  have hzr : RowC w1 zb (zo + zs * 4) (GT.cells gl[zs]) := fun j v hj => keep_cell hb (hzr0 j v hj)
  have hhg := hS.hh
  have hS1 := hS.below hb
  obtain ⟨y0, y1, y2⟩ := ope3 BB
  obtain ⟨x0, x1, x2, x3, x4, x5⟩ := ope6_ BT
  obtain ⟨FF, hFF⟩ : ∃ FF, wantF f (drivesB cl (kindOf gl (zs : Int))) 85 = FF := ⟨_, rfl⟩
  obtain ⟨kd, hkd⟩ : ∃ kd, kindOf gl (zs : Int) = kd := ⟨_, rfl⟩
  rw [hkd] at hFF
  have hzc0 : RowC w1 zb (zo + zs * 4) (GT.cells gl[zs]) := hzr
  have hzc : w1.cell? ⟨zb, zo + zs * 4 + 2, none⟩ = some (.int .i64 kd) := by
    have h9 : gl[zs].kd = kd := by rw [← hkd]; simp [kindOf, hzl]
    rw [← h9]
    exact hzc0 2 _ rfl
  have zcell : ∀ {W : World}, W.heap[zb]? = w1.heap[zb]? → W.cell? ⟨zb, zo + zs * 4 + 2, none⟩ = some (.int .i64 kd) := fun {W} h => by
    have h9 := hzc
    simp only [World.cell?] at h9 ⊢
    rw [h]; exact h9
  have hoe1 : OwnRow w1 lo m xa xc xl := hoe.keep (fun q h1 h2 => hb.block q (by omega))
  have HE : Hid (szT cl gl (.mk 1 (zs : Int) uh ul xa xc xl sa sc sl) none f = (.mk 1 (zs : Int) uh ul xa xc (szL xl 0 (fun _ => (false, uh - ul + 1)) FF).1 sa sc [], (szL xl 0 (fun _ => (false, uh - ul + 1)) FF).2)) := Lib.hid (by
    rw [szT_mk, hsl, szTL_nil]
    have e1 : (fun (_ : Nat) => insT none 1 uh ul) = (fun _ => (false, uh - ul + 1)) := by funext j; simp [insT]
    have e2 : preT cl gl none 1 (zs : Int) f = FF := by rw [← hFF, ← hkd]; simp [preT]
    rw [e1, e2])
  have hcc := fun (W : World) (h : Kb1 g w1 W) (hs : SzAt g FF W) => sizeRow_any (uh - ul + 1) g lo m xa xc xl (by omega) hce FF W (by have := h.size; omega) (by have := hS.gn; omega) (hoe1.keep (fun q h1 h2 => h.block q (by omega) (by have := hS.gn; omega))) hs
  have hdr := fun (W : World) => drives_any gl g (some ⟨zb, zo, none⟩) gc cl kd W
  have hwn := fun (W : World) (h : SzAt g f W) => want_any g f (drivesB cl kd) 85 W h
  rw [hFF] at hwn
  rw [hxl] at hcc
  have HCC := Lib.hid hcc
  have HD := Lib.hid hdr
  have HWN := Lib.hid hwn
  have hzg : zb ≠ g := by have := hS.ng; omega
  have hzs1 : zb < w1.heap.size := by have := hS.nl; have := hS.lh; have := hb.size; omega
  have hgx1 : gx ≠ g ∧ gx + 1 ≠ g := by omega
  have ckeep : ∀ {W W' : World} {b : Bool}, (Kb1 g w1 W ∧ W.heap[gx]? = some (.cells #[.pointer (some ⟨g, 0, none⟩), .slice (some ⟨zb, zo, none⟩) gl.length gc, .bool cl] 114) ∧ W.heap[gx + 1]? = some (.cells #[.int .i64 1, .int .i64 (zs : Int), .int .i64 uh, .int .i64 ul, .slice xa 1 xc, .slice sa sl.length sc] 48) ∧ W.heap[zb]? = w1.heap[zb]? ∧ (b = false → SzAt g f W) ∧ (b = true → SzAt g FF W)) → Below W.heap.size W W' → (Kb1 g w1 W' ∧ W'.heap[gx]? = some (.cells #[.pointer (some ⟨g, 0, none⟩), .slice (some ⟨zb, zo, none⟩) gl.length gc, .bool cl] 114) ∧ W'.heap[gx + 1]? = some (.cells #[.int .i64 1, .int .i64 (zs : Int), .int .i64 uh, .int .i64 ul, .slice xa 1 xc, .slice sa sl.length sc] 48) ∧ W'.heap[zb]? = w1.heap[zb]? ∧ (b = false → SzAt g f W') ∧ (b = true → SzAt g FF W')) := fun {W W' b} h hb => ⟨h.1.trans (Kb1.of_below hb), block_kept h.2.1 hb, block_kept h.2.2.1 hb, (hb.block zb (by have := h.1.size; omega)).trans h.2.2.2.1, fun q => block_kept (h.2.2.2.2.1 q) hb, fun q => block_kept (h.2.2.2.2.2 q) hb⟩
  have cwant : ∀ {W W' : World} {b : Bool}, (Kb1 g w1 W ∧ W.heap[gx]? = some (.cells #[.pointer (some ⟨g, 0, none⟩), .slice (some ⟨zb, zo, none⟩) gl.length gc, .bool cl] 114) ∧ W.heap[gx + 1]? = some (.cells #[.int .i64 1, .int .i64 (zs : Int), .int .i64 uh, .int .i64 ul, .slice xa 1 xc, .slice sa sl.length sc] 48) ∧ W.heap[zb]? = w1.heap[zb]? ∧ (b = false → SzAt g f W) ∧ (b = true → SzAt g FF W)) → Kb1 g W W' → SzAt g FF W' → (Kb1 g w1 W' ∧ W'.heap[gx]? = some (.cells #[.pointer (some ⟨g, 0, none⟩), .slice (some ⟨zb, zo, none⟩) gl.length gc, .bool cl] 114) ∧ W'.heap[gx + 1]? = some (.cells #[.int .i64 1, .int .i64 (zs : Int), .int .i64 uh, .int .i64 ul, .slice xa 1 xc, .slice sa sl.length sc] 48) ∧ W'.heap[zb]? = w1.heap[zb]? ∧ (true = false → SzAt g f W') ∧ (true = true → SzAt g FF W')) := fun {W W' b} h k hs => ⟨h.1.trans k, k.kept h.2.1 hgx1.1, k.kept h.2.2.1 hgx1.2, (k.block zb (by have := h.1.size; omega) hzg).trans h.2.2.2.1, fun q => (by cases q), fun _ => hs⟩
  have HC0 : Hid (Kb1 g w1 w1.drew ∧ w1.drew.heap[gx]? = some (.cells #[.pointer (some ⟨g, 0, none⟩), .slice (some ⟨zb, zo, none⟩) gl.length gc, .bool cl] 114) ∧ w1.drew.heap[gx + 1]? = some (.cells #[.int .i64 1, .int .i64 (zs : Int), .int .i64 uh, .int .i64 ul, .slice xa 1 xc, .slice sa sl.length sc] 48) ∧ w1.drew.heap[zb]? = w1.heap[zb]? ∧ (false = false → SzAt g f w1.drew) ∧ (false = true → SzAt g FF w1.drew)) := Lib.hid ⟨⟨rfl, rfl, rfl, Nat.le_refl _, fun _ _ _ => rfl⟩, BB, BT, rfl, fun _ => hS1.sz, fun h => by cases h⟩
  have HX := Lib.hid (And.intro hb (And.intro hm1 (And.intro hm2 (And.intro hS hot))))
  have q1 : (zs : Int) < (gl.length : Int) := by omega
  clear hba BA hb1 BT BB hb hS hS1 hoe hot hce hoe1 hcc hdr hwn hzc0 hzc hkd hFF hzr hzg hzs1 hgx1 hxl hsl
  go_enter Tryd.func104, Tryd.ntmps104
  go_upto_region 6 with (fail)
  (try rw [hwa])
  (try rw [hgx])
  (try rw [hw1])
  (try rw [hsa])
  clear hwa hw1 hsa x0 x1 x2 x3 x4 x5 y0 y1 y2
  refine wp_region_inv (fun (b : Nat → Bool) (a : Act) (W9 : World) => ∃ (u0 u1 u2 u3 u4 u5 u6 u7 u8 u9 u10 u11 : Value), a = { tmps := #[.agg #[.pointer (some ⟨g, 0, none⟩), .slice (some ⟨zb, zo, none⟩) gl.length gc, .bool cl], .agg #[.int .i64 1, .int .i64 (zs : Int), .int .i64 uh, .int .i64 ul, .slice xa 1 xc, .slice sa sl.length sc], .pointer (some ⟨gx, 0, none⟩), .pointer (some ⟨gx + 1, 0, none⟩), undef, undef, .pointer (some ⟨gx + 1, 0, none⟩), .int .i64 1, .bool true, .bool true, undef, undef, undef, undef, undef, undef, u0, u1, u2, u3, u4, u5, u6, u7, u8, u9, u10, u11, undef, undef, undef, undef, undef, undef, undef, undef, undef, undef, undef, undef, undef, undef, undef, undef, undef, undef, undef, undef, undef, undef, undef, undef, undef, undef, undef, undef, undef, undef, undef, undef, undef, undef, undef, undef, undef, undef, undef, undef, undef, undef, undef, undef, undef, undef, undef], defers := [] } ∧ (Kb1 g w1 W9 ∧ W9.heap[gx]? = some (.cells #[.pointer (some ⟨g, 0, none⟩), .slice (some ⟨zb, zo, none⟩) gl.length gc, .bool cl] 114) ∧ W9.heap[gx + 1]? = some (.cells #[.int .i64 1, .int .i64 (zs : Int), .int .i64 uh, .int .i64 ul, .slice xa 1 xc, .slice sa sl.length sc] 48) ∧ W9.heap[zb]? = w1.heap[zb]? ∧ (b 11 = false → SzAt g f W9) ∧ (b 11 = true → SzAt g FF W9)) ∧ (b 0 = true → u0 = .pointer (some ⟨gx, 0, none⟩)) ∧ (b 1 = true → u1 = .pointer (some ⟨g, 0, none⟩)) ∧ (b 2 = true → u2 = .agg #[.pointer (some ⟨g, 0, none⟩), .slice (some ⟨zb, zo, none⟩) gl.length gc, .bool cl]) ∧ (b 3 = true → u3 = .pointer (some ⟨gx, 1, none⟩)) ∧ (b 4 = true → u4 = .slice (some ⟨zb, zo, none⟩) gl.length gc) ∧ (b 5 = true → u5 = .pointer (some ⟨gx + 1, 1, none⟩)) ∧ (b 6 = true → u6 = .int .i64 (zs : Int)) ∧ (b 7 = true → u7 = .pointer (some ⟨zb, zo + zs * 4, none⟩)) ∧ (b 8 = true → u8 = .pointer (some ⟨zb, zo + zs * 4 + 2, none⟩)) ∧ (b 9 = true → u9 = .int .i64 kd) ∧ (b 10 = true → u10 = .bool (drivesB cl kd)) ∧ (b 11 = true → u11 = .tuple #[])) (by kernel_rfl) (by kernel_rfl) ?_ ?_ ?_
  · refine ⟨undef, undef, undef, undef, undef, undef, undef, undef, undef, undef, undef, undef, rfl, HC0.out, fun h => (by cases h), fun h => (by cases h), fun h => (by cases h), fun h => (by cases h), fun h => (by cases h), fun h => (by cases h), fun h => (by cases h), fun h => (by cases h), fun h => (by cases h), fun h => (by cases h), fun h => (by cases h), fun h => (by cases h)⟩
  · refine ⟨⟨rfl, ?_⟩, ⟨⟨rfl, ?_⟩, ⟨⟨rfl, ?_⟩, ⟨⟨rfl, ?_⟩, ⟨⟨rfl, ?_⟩, ⟨⟨rfl, ?_⟩, ⟨⟨rfl, ?_⟩, ⟨⟨rfl, ?_⟩, ⟨⟨rfl, ?_⟩, ⟨⟨rfl, ?_⟩, ⟨⟨rfl, ?_⟩, ⟨⟨rfl, ?_⟩, trivial⟩⟩⟩⟩⟩⟩⟩⟩⟩⟩⟩⟩
    · intro b a W9 hbk hd hcl hJ K hK
      obtain ⟨u0, u1, u2, u3, u4, u5, u6, u7, u8, u9, u10, u11, rfl, hC, f0, f1, f2, f3, f4, f5, f6, f7, f8, f9, f10, f11⟩ := hJ
      go_simp
      exact hK _ _ ⟨_, _, _, _, _, _, _, _, _, _, _, _, rfl, hC, (fun _ => rfl), (f1), (f2), (f3), (f4), (f5), (f6), (f7), (f8), (f9), (f10), (f11)⟩
    · intro b a W9 hbk hd hcl hJ K hK
      obtain ⟨u0, u1, u2, u3, u4, u5, u6, u7, u8, u9, u10, u11, rfl, hC, f0, f1, f2, f3, f4, f5, f6, f7, f8, f9, f10, f11⟩ := hJ
      have d0 := f0 (hd ⟨0, .data⟩ (by simp) rfl)
      obtain ⟨y0, y1, y2⟩ := ope3 hC.2.1
      subst d0
      go_simp
      exact hK _ _ ⟨_, _, _, _, _, _, _, _, _, _, _, _, rfl, hC, (f0), (fun _ => rfl), (f2), (f3), (f4), (f5), (f6), (f7), (f8), (f9), (f10), (f11)⟩
    · intro b a W9 hbk hd hcl hJ K hK
      obtain ⟨u0, u1, u2, u3, u4, u5, u6, u7, u8, u9, u10, u11, rfl, hC, f0, f1, f2, f3, f4, f5, f6, f7, f8, f9, f10, f11⟩ := hJ
      obtain ⟨y0, y1, y2⟩ := ope3 hC.2.1
      go_simp
      exact hK _ _ ⟨_, _, _, _, _, _, _, _, _, _, _, _, rfl, hC, (f0), (f1), (fun _ => rfl), (f3), (f4), (f5), (f6), (f7), (f8), (f9), (f10), (f11)⟩
    · intro b a W9 hbk hd hcl hJ K hK
      obtain ⟨u0, u1, u2, u3, u4, u5, u6, u7, u8, u9, u10, u11, rfl, hC, f0, f1, f2, f3, f4, f5, f6, f7, f8, f9, f10, f11⟩ := hJ
      go_simp
      exact hK _ _ ⟨_, _, _, _, _, _, _, _, _, _, _, _, rfl, hC, (f0), (f1), (f2), (fun _ => rfl), (f4), (f5), (f6), (f7), (f8), (f9), (f10), (f11)⟩
    · intro b a W9 hbk hd hcl hJ K hK
      obtain ⟨u0, u1, u2, u3, u4, u5, u6, u7, u8, u9, u10, u11, rfl, hC, f0, f1, f2, f3, f4, f5, f6, f7, f8, f9, f10, f11⟩ := hJ
      have d3 := f3 (hd ⟨3, .data⟩ (by simp) rfl)
      obtain ⟨y0, y1, y2⟩ := ope3 hC.2.1
      subst d3
      go_simp
      exact hK _ _ ⟨_, _, _, _, _, _, _, _, _, _, _, _, rfl, hC, (f0), (f1), (f2), (f3), (fun _ => rfl), (f5), (f6), (f7), (f8), (f9), (f10), (f11)⟩
    · intro b a W9 hbk hd hcl hJ K hK
      obtain ⟨u0, u1, u2, u3, u4, u5, u6, u7, u8, u9, u10, u11, rfl, hC, f0, f1, f2, f3, f4, f5, f6, f7, f8, f9, f10, f11⟩ := hJ
      go_simp
      exact hK _ _ ⟨_, _, _, _, _, _, _, _, _, _, _, _, rfl, hC, (f0), (f1), (f2), (f3), (f4), (fun _ => rfl), (f6), (f7), (f8), (f9), (f10), (f11)⟩
    · intro b a W9 hbk hd hcl hJ K hK
      obtain ⟨u0, u1, u2, u3, u4, u5, u6, u7, u8, u9, u10, u11, rfl, hC, f0, f1, f2, f3, f4, f5, f6, f7, f8, f9, f10, f11⟩ := hJ
      have d5 := f5 (hd ⟨5, .data⟩ (by simp) rfl)
      obtain ⟨x0, x1, x2, x3, x4, x5⟩ := ope6_ hC.2.2.1
      subst d5
      go_simp
      exact hK _ _ ⟨_, _, _, _, _, _, _, _, _, _, _, _, rfl, hC, (f0), (f1), (f2), (f3), (f4), (f5), (fun _ => rfl), (f7), (f8), (f9), (f10), (f11)⟩
    · intro b a W9 hbk hd hcl hJ K hK
      obtain ⟨u0, u1, u2, u3, u4, u5, u6, u7, u8, u9, u10, u11, rfl, hC, f0, f1, f2, f3, f4, f5, f6, f7, f8, f9, f10, f11⟩ := hJ
      have d4 := f4 (hd ⟨4, .data⟩ (by simp) rfl)
      have d6 := f6 (hd ⟨6, .data⟩ (by simp) rfl)
      subst d4
      subst d6
      go_simp
      exact hK _ _ ⟨_, _, _, _, _, _, _, _, _, _, _, _, rfl, hC, (f0), (f1), (f2), (f3), (f4), (f5), (f6), (fun _ => rfl), (f8), (f9), (f10), (f11)⟩
    · intro b a W9 hbk hd hcl hJ K hK
      obtain ⟨u0, u1, u2, u3, u4, u5, u6, u7, u8, u9, u10, u11, rfl, hC, f0, f1, f2, f3, f4, f5, f6, f7, f8, f9, f10, f11⟩ := hJ
      have d7 := f7 (hd ⟨7, .data⟩ (by simp) rfl)
      subst d7
      go_simp
      exact hK _ _ ⟨_, _, _, _, _, _, _, _, _, _, _, _, rfl, hC, (f0), (f1), (f2), (f3), (f4), (f5), (f6), (f7), (fun _ => rfl), (f9), (f10), (f11)⟩
    · intro b a W9 hbk hd hcl hJ K hK
      obtain ⟨u0, u1, u2, u3, u4, u5, u6, u7, u8, u9, u10, u11, rfl, hC, f0, f1, f2, f3, f4, f5, f6, f7, f8, f9, f10, f11⟩ := hJ
      have d8 := f8 (hd ⟨8, .data⟩ (by simp) rfl)
      subst d8
      have zc := zcell hC.2.2.2.1
      go_simp
      exact hK _ _ ⟨_, _, _, _, _, _, _, _, _, _, _, _, rfl, hC, (f0), (f1), (f2), (f3), (f4), (f5), (f6), (f7), (f8), (fun _ => rfl), (f10), (f11)⟩
    · intro b a W9 hbk hd hcl hJ K hK
      obtain ⟨u0, u1, u2, u3, u4, u5, u6, u7, u8, u9, u10, u11, rfl, hC, f0, f1, f2, f3, f4, f5, f6, f7, f8, f9, f10, f11⟩ := hJ
      have d2 := f2 (hd ⟨2, .data⟩ (by simp) rfl)
      have d9 := f9 (hd ⟨9, .data⟩ (by simp) rfl)
      subst d2
      subst d9
      go_simp
      refine (HD.out W9).mono ?_
      rintro e W8 ⟨rfl, hb⟩
      have hC' := ckeep hC hb
      exact hK _ _ ⟨_, _, _, _, _, _, _, _, _, _, _, _, rfl, hC', (f0), (f1), (f2), (f3), (f4), (f5), (f6), (f7), (f8), (f9), (fun _ => rfl), (f11)⟩
    · intro b a W9 hbk hd hcl hJ K hK
      obtain ⟨u0, u1, u2, u3, u4, u5, u6, u7, u8, u9, u10, u11, rfl, hC, f0, f1, f2, f3, f4, f5, f6, f7, f8, f9, f10, f11⟩ := hJ
      have d1 := f1 (hd ⟨1, .data⟩ (by simp) rfl)
      have d10 := f10 (hd ⟨10, .data⟩ (by simp) rfl)
      subst d1
      subst d10
      go_simp
      refine (HWN.out W9 (hC.2.2.2.2.1 hbk)).mono ?_
      rintro e W8 ⟨rfl, hk8, hs8⟩
      have hC' := cwant hC hk8 hs8
      exact hK _ _ ⟨_, _, _, _, _, _, _, _, _, _, _, _, rfl, hC', (f0), (f1), (f2), (f3), (f4), (f5), (f6), (f7), (f8), (f9), (f10), (fun _ => rfl)⟩
  · intro b a W9 hb hJ
    obtain ⟨u0, u1, u2, u3, u4, u5, u6, u7, u8, u9, u10, u11, rfl, hC, f0, f1, f2, f3, f4, f5, f6, f7, f8, f9, f10, f11⟩ := hJ
    replace f0 := f0 (hb 0 (by decide))
    replace f1 := f1 (hb 1 (by decide))
    replace f2 := f2 (hb 2 (by decide))
    replace f3 := f3 (hb 3 (by decide))
    replace f4 := f4 (hb 4 (by decide))
    replace f5 := f5 (hb 5 (by decide))
    replace f6 := f6 (hb 6 (by decide))
    replace f7 := f7 (hb 7 (by decide))
    replace f8 := f8 (hb 8 (by decide))
    replace f9 := f9 (hb 9 (by decide))
    replace f10 := f10 (hb 10 (by decide))
    replace f11 := f11 (hb 11 (by decide))
    have hz9 := hC.2.2.2.2.2 (hb 11 (by decide))
    have c0K := Lib.hid (HCC.out W9 hC.1 hz9)
    obtain ⟨x0, x1, x2, x3, x4, x5⟩ := ope6_ hC.2.2.1
    obtain ⟨y0, y1, y2⟩ := ope3 hC.2.1
    have HK9 := Lib.hid hC.1
    clear hC hz9 f0 f1 f2 f3 f4 f5 f6 f7 f8 f9 f10 f11 ckeep cwant zcell
    go_wp2_with fail
    refine c0K.out.mono ?_
    clear c0K x0 x1 x2 x3 x4 x5 y0 y1 y2
    rintro e W2 ⟨rfl, k2, r2, s2⟩
    have HP : Hid (StP g lo hi (szT cl gl (.mk 1 (zs : Int) uh ul xa xc xl sa sc sl) none f) w (.returned (.tuple #[])) W2) := Lib.hid (by
      obtain ⟨hb, hm1, hm2, hS, hot⟩ := HX.out
      have hgn := hS.gn
      have hz := HK9.out.size
      rw [HE.out]
      refine ⟨rfl, ((KeptP.of_below hb).trans (KeptP.of_kb1 HK9.out (Or.inl rfl))).trans (k2.chp (Nat.le_refl _) hm2), ?_, s2⟩
      rw [TT.own_mk]
      exact ⟨m, hm1, hm2, by simpa using r2, Or.inl ⟨rfl, hot.2⟩⟩)
    clear k2 r2 s2 HX HE HK9
    go_wp2
    exact bodyPost_end (v := .tuple #[]) (by simp [results, Tryd.results104, go_sem]) rfl HP.out
set_option maxHeartbeats 8000000 in
set_option maxRecDepth 100000 in
theorem st_case (cl : Bool) (gl : List GT) (sg uh ul : Int) (xa : Option Addr) (xc : Nat) (xl : List ET) (sa : Option Addr) (sc : Nat) (sl : List TT) (ga : Option Addr) (gc : Nat) (n0 g lo hi : Nat) (f : Int) (w : World) (hS : StC n0 g lo hi gl ga f w) (hxl : xl.length = 1) (hce : ∀ x ∈ xl, SzOK x) (hsl : sl ≠ []) (hll : sl.length ≤ 12000000) (hca : ∀ y ∈ sl, (y.xl.length ≤ 12000000 ∧ ∀ x ∈ y.xl, SzOK x) ∧ y.sl.length ≤ 12000000 ∧ ∀ z ∈ y.sl, StmtOK cl gl z) (ho : (TT.mk 3 sg uh ul xa xc xl sa sc sl).Own w lo hi) :
    Calls Tryd.prog 104 #[.agg #[.pointer (some ⟨g, 0, none⟩), .slice ga gl.length gc, .bool cl], (TT.mk 3 sg uh ul xa xc xl sa sc sl).val] w (StP g lo hi (szT cl gl (.mk 3 sg uh ul xa xc xl sa sc sl) none f) w) := by
  rw [TT.own_mk] at ho
  obtain ⟨m, hm1, hm2, hoe, hot⟩ := ho
  simp only [TT.val, TT.cells]
  obtain ⟨BE, rfl⟩ : ∃ B, xa = some ⟨B, 0, none⟩ := by
    rcases hoe with ⟨h, _, _⟩ | ⟨B, h, _⟩
    · rw [h] at hxl; cases hxl
    · exact ⟨B, h⟩
  rcases hot with ⟨h, _, _⟩ | ⟨B, rfl, h2, h3, h4, h5, h6, h7⟩
  · exact absurd h hsl
  rw [hxl]
  obtain ⟨gx, hgx⟩ : ∃ gx, w.heap.size = gx := ⟨_, rfl⟩
  obtain ⟨wa, hwa⟩ : ∃ wa, w.alloc (.cells #[.pointer (some ⟨g, 0, none⟩), .slice ga gl.length gc, .bool cl] 114) = wa := ⟨_, rfl⟩
  have hsa : wa.heap.size = gx + 1 := by rw [← hwa, World.size_alloc, hgx]
  have hba : Below w.heap.size w wa := by rw [← hwa]; exact (Below.refl _ _).alloc (Nat.le_refl _) _
  have BA : wa.heap[gx]? = some (.cells #[.pointer (some ⟨g, 0, none⟩), .slice ga gl.length gc, .bool cl] 114) := by rw [← hwa, ← hgx]; exact World.alloc_heap_new w _
  obtain ⟨w1, hw1⟩ : ∃ w1, wa.alloc (.cells #[.int .i64 3, .int .i64 sg, .int .i64 uh, .int .i64 ul, .slice (some ⟨BE, 0, none⟩) 1 xc, .slice (some ⟨B, 0, none⟩) sl.length sc] 48) = w1 := ⟨_, rfl⟩
  have hb1 : Below wa.heap.size wa w1 := by rw [← hw1]; exact (Below.refl _ _).alloc (Nat.le_refl _) _
  have BT : w1.heap[gx + 1]? = some (.cells #[.int .i64 3, .int .i64 sg, .int .i64 uh, .int .i64 ul, .slice (some ⟨BE, 0, none⟩) 1 xc, .slice (some ⟨B, 0, none⟩) sl.length sc] 48) := by rw [← hw1, ← hsa]; exact World.alloc_heap_new wa _
  have BB := block_kept BA hb1
  have hb : Below w.heap.size w w1 := hba.trans (hb1.mono hba.size)
  have hs1 : w1.heap.size = gx + 2 := by rw [← hw1, World.size_alloc, hsa]
  have hgg := hS.gl
  have hhg := hS.hh
  have hS1 := hS.below hb
  obtain ⟨y0, y1, y2⟩ := ope3 BB
  obtain ⟨x0, x1, x2, x3, x4, x5⟩ := ope6_ BT
  have hoe1 : OwnRow w1 lo m (some ⟨BE, 0, none⟩) xc xl := hoe.keep (fun q h1 h2 => hb.block q (by omega))
  have c0 := sizeRow_any 0 g lo m (some ⟨BE, 0, none⟩) xc xl (by omega) hce f w1 (by omega) (by have := hS.gn; omega) hoe1 hS1.sz
  rw [hxl] at c0
  have hPl : (szL xl 0 (fun _ => (false, 0)) f).1.length = 1 := by rw [szL_len]; exact hxl
  obtain ⟨P, hP⟩ : ∃ P, szL xl 0 (fun _ => (false, 0)) f = P := ⟨_, rfl⟩
  rw [hP] at c0 hPl
  obtain ⟨wd, hwd⟩ : ∃ wd, (P.1.map ET.wd).getD 0 0 = wd := ⟨_, rfl⟩
  have HE : Hid (szT cl gl (.mk 3 sg uh ul (some ⟨BE, 0, none⟩) xc xl (some ⟨B, 0, none⟩) sc sl) none f = (.mk 3 sg uh ul (some ⟨BE, 0, none⟩) xc P.1 (some ⟨B, 0, none⟩) sc (szTL cl gl sl (some wd) P.2).1, (szTL cl gl sl (some wd) P.2).2)) := Lib.hid (by
    rw [szT_mk]
    have e1 : (fun (_ : Nat) => insT none 3 uh ul) = (fun _ => (false, 0)) := by funext j; simp [insT]
    simp [preT, cmT, e1, hP, ← hwd])
  have HPW := Lib.hid (And.intro hPl hwd)
  have HT := Lib.hid (And.intro h2 (And.intro h3 (And.intro h4 h5)))
  have HX := Lib.hid (And.intro hb (And.intro BB (And.intro hm1 (And.intro hm2 (And.intro hS1 (And.intro BT (And.intro (h6.keep (hb.block B (by omega))) (lown_same h7 (fun q h1 h2 => hb.block q (by omega))))))))))
  have HS := Lib.hid hS
  have HCA := Lib.hid hca
  have c0K := Lib.hid c0
  clear c0 hba BA hb1 BT BB hb hS hS1 hoe hce hoe1 hP hxl h2 h3 h4 h5 h6 h7 hca hPl hwd hsl
  go_enter Tryd.func104, Tryd.ntmps104
  go_upto_region 1 with (fail)
  (try rw [hwa])
  (try rw [hgx])
  (try rw [hw1])
  (try rw [hsa])
  go_wp2_with fail
  refine c0K.out.mono ?_
  clear c0K x0 x1 x2 x3 x4 x5 y0 y1 y2
  rintro e W2 ⟨rfl, k2, r2, s2⟩
  have r2' : OwnRow W2 lo m (some ⟨BE, 0, none⟩) xc P.1 := by simpa using r2
  have H2 : Hid (KeptP (Chp g lo hi) w W2 ∧ RowT 48 W2 B (sl.flatMap TT.cells) ∧ LOwn (TT.Own W2) (B + 1) hi sl ∧ SzAt g P.2 W2 ∧ OwnRow W2 lo m (some ⟨BE, 0, none⟩) xc P.1 ∧ W2.heap[gx]? = some (.cells #[.pointer (some ⟨g, 0, none⟩), .slice ga gl.length gc, .bool cl] 114) ∧ W2.heap[gx + 1]? = some (.cells #[.int .i64 3, .int .i64 sg, .int .i64 uh, .int .i64 ul, .slice (some ⟨BE, 0, none⟩) 1 xc, .slice (some ⟨B, 0, none⟩) sl.length sc] 48)) := Lib.hid (by
    obtain ⟨hb, BB, hm1, hm2, hS1, BT, h6, h7⟩ := HX.out
    obtain ⟨h2, h3, h4, h5⟩ := HT.out
    have hgn := HS.out.gn
    have hsm : ∀ a b, b ≤ w1.heap.size → ¬ (a ≤ g ∧ g < b) → m ≤ a → SameOn a b w1 W2 := fun a b h1 h6 h7 => k2.on h1 h6 (Or.inr h7)
    refine ⟨(KeptP.of_below hb).trans (k2.chp (Nat.le_refl _) hm2), h6.keep (hsm B (B + 1) (by omega) (by omega) h2 B (Nat.le_refl _) (by omega)), lown_same h7 (hsm _ _ (by omega) (by omega) (by omega)), s2, r2', k2.at BB (by omega) (by omega), k2.at BT (by omega) (by omega)⟩)
  clear k2 r2 s2 r2'
  have BT2 := H2.out.2.2.2.2.2.2
  obtain ⟨x0, x1, x2, x3, x4, x5⟩ := ope6_ BT2
  clear BT2
  go_upto_region 9 with (fail)
  go_wp2
  clear x0 x1 x2 x3 x4 x5
  go_loopw [47] (fun u wr => ∃ (k q : Nat), u = .int .i64 k ∧ k ≤ sl.length ∧ KeptP (Chp g lo hi) w wr ∧ RowT 48 wr B (sl.flatMap TT.cells) ∧ LOwn (TT.Own wr) (B + 1) q (szTL cl gl (sl.take k) (some wd) P.2).1 ∧ LOwn (TT.Own wr) q hi (sl.drop k) ∧ SzAt g (szTL cl gl (sl.take k) (some wd) P.2).2 wr ∧ OwnRow wr lo m (some ⟨BE, 0, none⟩) xc P.1 ∧ wr.heap[gx]? = some (.cells #[.pointer (some ⟨g, 0, none⟩), .slice ga gl.length gc, .bool cl] 114) ∧ wr.heap[gx + 1]? = some (.cells #[.int .i64 3, .int .i64 sg, .int .i64 uh, .int .i64 ul, .slice (some ⟨BE, 0, none⟩) 1 xc, .slice (some ⟨B, 0, none⟩) sl.length sc] 48)) (fun u _ => sl.length - (intOf u).toNat)
  case atStart => exact ⟨0, B + 1, rfl, Nat.zero_le _, H2.out.1, H2.out.2.1, by rw [List.take_zero, szTL_nil, LOwn]; exact Nat.le_refl _, by rw [List.drop_zero]; exact H2.out.2.2.1, by rw [List.take_zero, szTL_nil]; exact H2.out.2.2.2.1, H2.out.2.2.2.2⟩
  case round =>
    obtain ⟨k, q, rfl, hk, hkp, hrm, ho1, ho2, hsz, hor, hbx, hbt⟩ := hrel
    by_cases hlt : k < sl.length
    · have d1 : decide (k < sl.length) = true := by simpa using hlt
      have d2 : decide ((k : Int) < (sl.length : Int)) = true := by rw [decide_eq_true_eq]; omega
      have e1 : (k : Int) < (sl.length : Int) := by omega
      have hrc : RowC wr B (k * 6) sl[k].cells := by
        have h9 := hrm
        rw [← List.take_append_drop k sl, ← List.getElem_cons_drop hlt, List.flatMap_append, List.flatMap_cons] at h9
        exact rowT_cells h9 (k * 6) (by rw [flat_len6 TT.cells_len, List.length_take]; congr 1; omega)
      rw [← List.getElem_cons_drop hlt, LOwn] at ho2
      obtain ⟨q2, hq1, hox, ho2⟩ := ho2
      have hca := HCA.out sl[k] (List.getElem_mem hlt)
      have HSN := Lib.hid (szTL_snoc cl gl sl k hlt (some wd) P.2)
      obtain ⟨F, hF⟩ : ∃ F, (szTL cl gl (sl.take k) (some wd) P.2).2 = F := ⟨_, rfl⟩
      rw [hF] at hsz
      have HF := Lib.hid hF
      have hBq := ho1.le
      have hq2 := hox.le
      have hqh := ho2.le
      obtain ⟨X, hX⟩ : ∃ X, X = sl[k] := ⟨_, rfl⟩
      rw [← hX] at hrc hox hca HSN
      obtain ⟨op2, sg2, uh2, ul2, xa2, xc2, xl2, sa2, sc2, sl2⟩ := X
      clear hX
      simp only [TT.cells] at hrc
      rw [TT.own_mk] at hox
      obtain ⟨q1, hqa, hqb, hoe2, hot2⟩ := hox
      simp only [TT.xl, TT.sl] at hca
      obtain ⟨⟨hl1, hce2⟩, hl2, hcs2⟩ := hca
      obtain ⟨wb, hwb⟩ : ∃ wb, wr.alloc (.cells #[.int .i64 op2, .int .i64 sg2, .int .i64 uh2, .int .i64 ul2, .slice xa2 xl2.length xc2, .slice sa2 sl2.length sc2] 48) = wb := ⟨_, rfl⟩
      have hbb : Below wr.heap.size wr wb := by rw [← hwb]; exact (Below.refl _ _).alloc (Nat.le_refl _) _
      have hgr : gx + 1 < wr.heap.size := (Array.getElem?_eq_some_iff.1 hbt).1
      have hhr : hi ≤ wr.heap.size := Nat.le_trans hhg hkp.size
      have hC1 : StC n0 g q q2 gl ga F wr := by
        have h8 := HS.out.step (f' := F) hkp (Nat.le_refl _) (Nat.le_refl _) hsz
        exact h8.sub (by have := HT.out.1; have := HX.out.2.2.1; omega) hq2 hqh
      have hC2 : StC n0 g q q2 gl ga F wb.drew := (hC1.below hbb).drew
      have BN : wb.heap[wr.heap.size]? = some (.cells #[.int .i64 op2, .int .i64 sg2, .int .i64 uh2, .int .i64 ul2, .slice xa2 xl2.length xc2, .slice sa2 sl2.length sc2] 48) := by rw [← hwb]; exact World.alloc_heap_new wr _
      have hor1 : OwnRow wb lo m (some ⟨BE, 0, none⟩) xc P.1 := hor.keep (fun j h1 h2 => hbb.block j (by have := HX.out.2.2.2.1; omega))
      have zw := ownrow_wd hor1 HPW.out.1
      rw [HPW.out.2] at zw
      have c0 := sizeRow_any wd g q q1 xa2 xc2 xl2 hl1 hce2 F wb.drew (by have := hC2.hh; omega) (by have := hC2.gn; omega) (OwnRow.keep (drew_on _ _ _) (hoe2.keep (fun j h1 h2 => hbb.block j (by omega)))) hC2.sz
      obtain ⟨P2, hP2⟩ : ∃ P2, szL xl2 0 (fun _ => (false, wd)) F = P2 := ⟨_, rfl⟩
      rw [hP2] at c0
      have HE2 : Hid (szT cl gl (.mk op2 sg2 uh2 ul2 xa2 xc2 xl2 sa2 sc2 sl2) (some wd) F = (.mk op2 sg2 uh2 ul2 xa2 xc2 P2.1 sa2 sc2 (szTL cl gl sl2 none P2.2).1, (szTL cl gl sl2 none P2.2).2)) := Lib.hid (by
        rw [szT_mk]
        simp only [insT, preT, cmT, hP2])
      have c1 := fun (W : World) (k : KeptP (Chp g q q1) wb.drew W) (h : SzAt g P2.2 W) => statements_any cl gl sl2 hl2 hcs2 ga gc n0 g q1 q2 sa2 sc2 P2.2 W ((hC2.step (k.chp (Nat.le_refl _) hqb) (Nat.le_refl _) (Nat.le_refl _) h).sub hqa hqb (Nat.le_refl _)) (ROwn.keep (fun x _ => TT.Own.keep x) (k.on (by have := hC2.hh; omega) (by have := hC2.gn; omega) (Or.inr (Nat.le_refl _))) (ROwn.keep (fun x _ => TT.Own.keep x) (drew_on _ _ _) (hot2.keep (fun x _ => TT.Own.keep x) (fun j h1 h2 => hbb.block j (by omega)))))
      have c0K := Lib.hid c0
      have c1K := Lib.hid c1
      have HDR := Lib.hid (KeptP.drew (Chp g lo hi) wb)
      have HDS := Lib.hid (show ∀ j : Nat, wb.drew.heap[j]? = wb.heap[j]? from fun _ => rfl)
      have hbx1 := block_kept hbx hbb
      have hbt1 := block_kept hbt hbb
      have HQ := Lib.hid (And.intro hkp (And.intro hrm (And.intro ho1 (And.intro ho2 (And.intro hbb (And.intro hC1 (And.intro hhr (And.intro hgr (And.intro hor1 (And.intro hqa (And.intro hqb (And.intro (show wb.drew.heap[gx]? = _ from hbx1) (And.intro (show wb.drew.heap[gx + 1]? = _ from hbt1) (show wb.drew.heap[wr.heap.size]? = _ from BN))))))))))))))
      obtain ⟨y0, y1, y2⟩ := ope3 hbx1
      obtain ⟨x0, x1, x2, x3, x4, x5⟩ := ope6_ hbt1
      obtain ⟨v0, v1, v2, v3, v4, v5⟩ := ope6_ BN
      have r0 : wr.cell? ⟨B, k * 6, none⟩ = some (.int .i64 op2) := hrc 0 _ rfl
      have r1 : wr.cell? ⟨B, k * 6 + 1, none⟩ = some (.int .i64 sg2) := hrc 1 _ rfl
      have r2 : wr.cell? ⟨B, k * 6 + 2, none⟩ = some (.int .i64 uh2) := hrc 2 _ rfl
      have r3 : wr.cell? ⟨B, k * 6 + 3, none⟩ = some (.int .i64 ul2) := hrc 3 _ rfl
      have r4 : wr.cell? ⟨B, k * 6 + 4, none⟩ = some (.slice xa2 xl2.length xc2) := hrc 4 _ rfl
      have r5 : wr.cell? ⟨B, k * 6 + 5, none⟩ = some (.slice sa2 sl2.length sc2) := hrc 5 _ rfl
      clear hrc hkp hrm ho1 ho2 hsz hor hbx hbt hF hoe2 hot2 hce2 hcs2 hbb hC1 hC2 BN hor1 c0 c1 hbx1 hbt1 hP2
      go_upto_region 12 with (fail)
      (try rw [hwb])
      clear r0 r1 r2 r3 r4 r5
      go_still_tail 9, (by kernel_rfl)
      change wpList _ _ _ _ _ wb.drew
      have hwbs : wb.drew.heap.size = wb.heap.size := rfl
      generalize wb.drew = w6 at *
      go_wp2_with fail
      refine c0K.out.mono ?_
      clear c0K x0 x1 x2 x3 x4 x5 y0 y1 y2 v0 v1 v2 v3 v4 v5 zw
      rintro e W3 ⟨rfl, k3, r3, s3⟩
      have c2 := c1K.out W3 k3 s3
      have HK3 : Hid (W3.heap[gx]? = some (.cells #[.pointer (some ⟨g, 0, none⟩), .slice ga gl.length gc, .bool cl] 114) ∧ W3.heap[gx + 1]? = some (.cells #[.int .i64 3, .int .i64 sg, .int .i64 uh, .int .i64 ul, .slice (some ⟨BE, 0, none⟩) 1 xc, .slice (some ⟨B, 0, none⟩) sl.length sc] 48) ∧ W3.heap[wr.heap.size]? = some (.cells #[.int .i64 op2, .int .i64 sg2, .int .i64 uh2, .int .i64 ul2, .slice xa2 xl2.length xc2, .slice sa2 sl2.length sc2] 48)) := Lib.hid (by
        obtain ⟨hkp, hrm, ho1, ho2, hbb, hC1, hhr, hgr, hor1, hqa, hqb, g1, g2, g3⟩ := HQ.out
        exact ⟨k3.at g1 (by omega) (by omega), k3.at g2 (by omega) (by omega), k3.at g3 (by omega) (by omega)⟩)
      obtain ⟨y0, y1, y2⟩ := ope3 HK3.out.1
      obtain ⟨v0, v1, v2, v3, v4, v5⟩ := ope6_ HK3.out.2.2
      have HR3 := Lib.hid (And.intro k3 r3)
      clear k3 r3 s3
      go_wp2_with fail
      refine c2.mono ?_
      clear c2 c1K y0 y1 y2 v0 v1 v2 v3 v4 v5
      rintro e W4 ⟨rfl, k4, r4, s4⟩
      have HP : Hid (KeptP (Chp g lo hi) w W4 ∧ RowT 48 W4 B (sl.flatMap TT.cells) ∧ LOwn (TT.Own W4) (B + 1) q2 (szTL cl gl (sl.take (k + 1)) (some wd) P.2).1 ∧ LOwn (TT.Own W4) q2 hi (sl.drop (k + 1)) ∧ SzAt g (szTL cl gl (sl.take (k + 1)) (some wd) P.2).2 W4 ∧ OwnRow W4 lo m (some ⟨BE, 0, none⟩) xc P.1 ∧ W4.heap[gx]? = some (.cells #[.pointer (some ⟨g, 0, none⟩), .slice ga gl.length gc, .bool cl] 114) ∧ W4.heap[gx + 1]? = some (.cells #[.int .i64 3, .int .i64 sg, .int .i64 uh, .int .i64 ul, .slice (some ⟨BE, 0, none⟩) 1 xc, .slice (some ⟨B, 0, none⟩) sl.length sc] 48)) := Lib.hid (by
        obtain ⟨hkp, hrm, ho1, ho2, hbb, hC1, hhr, hgr, hor1, hqa, hqb, g1, g2, g3⟩ := HQ.out
        obtain ⟨h2, h3, h4, h5⟩ := HT.out
        obtain ⟨k3, r3⟩ := HR3.out
        have hgn := HS.out.gn
        have hm1 := HX.out.2.2.1
        have hm2 := HX.out.2.2.2.1
        have z1 := hbb.size
        have z2 := HDR.out.size
        have z3 := k3.size
        have hsm : ∀ a b, b ≤ wr.heap.size → ¬ (a ≤ g ∧ g < b) → (b ≤ q ∨ q2 ≤ a) → SameOn a b wr W4 := fun a b h1 h6 h7 j h8 h9 => by
          rw [k4.on (a1 := a) (b1 := b) (by omega) h6 (by omega) j h8 h9, k3.on (a1 := a) (b1 := b) (by omega) h6 (by omega) j h8 h9, HDS.out j, hbb.block j (by omega)]
        refine ⟨((((hkp.trans (KeptP.of_below hbb)).trans HDR.out).trans (k3.chp (by omega) (by omega))).trans (k4.chp (by omega) (by omega))), ?_, ?_, ?_, ?_, ?_, ?_, ?_⟩
        · exact hrm.keep (hsm B (B + 1) (by omega) (by omega) (Or.inl (by omega)) B (Nat.le_refl _) (by omega))
        · rw [HSN.out]
          simp only [HF.out, HE2.out]
          refine LOwn.snoc (own := TT.Own W4) (fun lo lo' hi h1 h2 => TT.Own.wider h1 h2 (Nat.le_refl _)) (lown_same ho1 (hsm _ _ (by omega) (by omega) (Or.inl (Nat.le_refl _)))) ?_ hq2
          rw [TT.own_mk]
          refine ⟨q1, hqa, hqb, ?_, r4⟩
          have h9 : OwnRow W3 q q1 xa2 xc2 P2.1 := by simpa using r3
          exact h9.keep (k4.on (by omega) (by omega) (Or.inl (Nat.le_refl _)))
        · exact lown_same ho2 (hsm _ _ (by omega) (by omega) (Or.inr (Nat.le_refl _)))
        · rw [HSN.out]
          simp only [HF.out, HE2.out]
          exact s4
        · exact hor1.keep (fun j h8 h9 => by rw [k4.on (a1 := lo) (b1 := m) (by omega) (by omega) (by omega) j h8 h9, k3.on (a1 := lo) (b1 := m) (by omega) (by omega) (by omega) j h8 h9, HDS.out j])
        · exact k4.at HK3.out.1 (by omega) (by omega)
        · exact k4.at HK3.out.2.1 (by omega) (by omega))
      clear k4 r4 s4 HQ HSN HF HE2 HR3 HK3
      go_wp2
      go_roundw
      case rel => exact ⟨k + 1, q2, by simp; first | done | rfl | omega, by omega, HP.out⟩
      case measure => simp [intOf]; omega
    · have d1 : decide (k < sl.length) = false := by simpa using hlt
      have d2 : decide ((k : Int) < (sl.length : Int)) = false := by rw [decide_eq_false_iff_not]; omega
      have HP : Hid (StP g lo hi (szT cl gl (.mk 3 sg uh ul (some ⟨BE, 0, none⟩) xc xl (some ⟨B, 0, none⟩) sc sl) none f) w (.returned (.tuple #[])) wr) := Lib.hid (by
        obtain ⟨h2, h3, h4, h5⟩ := HT.out
        rw [List.take_of_length_le (by omega)] at ho1 hsz
        have h8 := ho2.le
        rw [HE.out]
        refine ⟨rfl, hkp, ?_, hsz⟩
        rw [TT.own_mk]
        refine ⟨m, HX.out.2.2.1, HX.out.2.2.2.1, hor, Or.inr ⟨B, rfl, h2, h3, by rw [szTL_len]; exact h4, ?_, by rw [szTL_cells]; exact hrm, ho1.widen h8⟩⟩
        intro h9
        have h10 := congrArg List.length h9
        rw [szTL_len] at h10
        exact h5 (List.length_eq_zero_iff.1 h10))
      clear hkp hrm ho1 ho2 hsz hor hbx hbt hlt
      go_wp2
      exact bodyPost_end (v := .tuple #[]) (by simp [results, Tryd.results104, go_sem]) rfl HP.out
theorem st_any (cl : Bool) {gl : List GT} (hwd : ∀ x ∈ gl, x.wd ≤ 64) : ∀ x : TT, x.bk ≤ 4500000 → x.Wf → (mayT gl x 0 = true → StmtOK cl gl x) ∧ ((∃ m, 2 ≤ m ∧ mayT gl x m = true) → ∀ y ∈ x.sl, StmtOK cl gl y) ∧ (mayT gl x 1 = true → StmtOK cl gl x) := by
  refine TT.ind ?_
  intro op sg uh ul xa xc xl sa sc sl ih hbk hwf
  rw [TT.wf_mk] at hwf
  simp only [TT.bk] at hbk
  have l1 := ET.bkL_len xl
  have l2 := TT.bkL_len sl
  have ih' := fun y (hy : y ∈ sl) => ih y hy (by have := TT.bkL_mem hy; omega) (hwf.2 y hy)
  have hE : mayEL gl xl = true → ∀ x ∈ xl, SzOK x ∧ OwOK x := fun h x hx => by
    rw [mayEL_all, List.all_eq_true] at h
    exact ⟨size_any hwd x (by have := ET.bkL_mem hx; omega) (hwf.1 x hx) (h x hx), ow_any hwd x (by have := ET.bkL_mem hx; omega) (h x hx)⟩
  have hT : ∀ m, m < 2 → mayTL gl sl m = true → ∀ y ∈ sl, StmtOK cl gl y := fun m hm h y hy => by
    rw [mayTL_all, List.all_eq_true] at h
    rcases (show m = 0 ∨ m = 1 by omega) with rfl | rfl
    · exact (ih' y hy).1 (h y hy)
    · exact (ih' y hy).2.2 (h y hy)
  have hB : mayT gl (.mk op sg uh ul xa xc xl sa sc sl) 1 = true → StmtOK cl gl (.mk op sg uh ul xa xc xl sa sc sl) := fun h => by
    rw [may_block] at h
    simp only [Bool.and_eq_true, beq_iff_eq] at h
    obtain ⟨rfl, _, hx, hs⟩ := h
    have hx0 : xl = [] := List.length_eq_zero_iff.1 (by omega)
    intro ga gc n0 g lo hi f w hS ho
    exact st_block cl gl sg uh ul xa xc xl sa sc sl ga gc n0 g lo hi f w hS hx0 (by omega) (hT 0 (by omega) hs) ho
  refine ⟨fun h => ?_, ?_, hB⟩
  · by_cases t1 : op = 1
    · subst t1
      rw [may_assign] at h
      simp only [Bool.and_eq_true, beq_iff_eq] at h
      obtain ⟨hbits, hx, hm, hs⟩ := h
      intro ga gc n0 g lo hi f w hS ho
      exact st_assign cl gl sg uh ul xa xc xl sa sc sl ga gc n0 g lo hi f w hS (by omega) (fun x hx => (hE hm x hx).1) (List.length_eq_zero_iff.1 (by omega)) hbits hwd ho
    by_cases t2 : op = 2
    · subst t2
      rw [may_if] at h
      simp only [Bool.and_eq_true, beq_iff_eq] at h
      obtain ⟨_, hx, hm, _, hs⟩ := h
      intro ga gc n0 g lo hi f w hS ho
      exact st_if cl gl sg uh ul xa xc xl sa sc sl ga gc n0 g lo hi f w hS (by omega) (hE hm) (by omega) (hT 1 (by omega) hs) ho
    by_cases t3 : op = 3
    · subst t3
      rw [may_case] at h
      simp only [Bool.and_eq_true, beq_iff_eq, decide_eq_true_eq] at h
      obtain ⟨_, hx, hm, hs, hl0⟩ := h
      rw [mayAL_get] at hs
      intro ga gc n0 g lo hi f w hS ho
      refine st_case cl gl sg uh ul xa xc xl sa sc sl ga gc n0 g lo hi f w hS (by omega) (fun x hx => (hE hm x hx).1) (fun h => by rw [h] at hl0; exact absurd hl0 (by decide)) (by omega) (fun y hy => ?_) ho
      obtain ⟨k, hk, rfl⟩ := List.mem_iff_getElem.1 hy
      have h9 := hs k hk
      have hyb := TT.bkL_mem hy
      have hyw := hwf.2 _ hy
      have h10 := (ih' _ hy).2.1 ⟨_, by split <;> omega, h9⟩
      generalize hX : sl[k] = X at *
      obtain ⟨op2, sg2, uh2, ul2, xa2, xc2, xl2, sa2, sc2, sl2⟩ := X
      simp only [TT.bk] at hyb
      rw [TT.wf_mk] at hyw
      have l3 := ET.bkL_len xl2
      have l4 := TT.bkL_len sl2
      have h11 : mayT gl (.mk op2 sg2 uh2 ul2 xa2 xc2 xl2 sa2 sc2 sl2) (if decide (k + 1 = sl.length) = true then 3 else 2) = true := by simpa using h9
      rw [may_arm] at h11
      simp only [Bool.and_eq_true, List.all_eq_true] at h11
      obtain ⟨_, _, _, hlab, _⟩ := h11
      exact ⟨⟨by simp only [TT.xl]; omega, fun x hx => size_any hwd x (by have := ET.bkL_mem (show x ∈ xl2 from hx); omega) (hyw.1 x hx) (hlab x hx).2⟩, by simp only [TT.sl]; omega, h10⟩
    · rw [may_else gl op sg uh ul xa xc xl sa sc sl t1 t2 t3] at h
      exact hB h
  · rintro ⟨m, hm, h⟩ y hy
    rw [mayT, if_neg (by omega), if_neg (by omega), if_neg (by omega), if_neg (by omega)] at h
    simp only [Bool.and_eq_true] at h
    exact hT 0 (by omega) h.2.2.2.2 y hy
end Go.Proofs.YtbcgeglkmpcnpaaDoor
