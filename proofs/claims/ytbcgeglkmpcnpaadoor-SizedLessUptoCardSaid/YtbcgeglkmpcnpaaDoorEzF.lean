/-
  sized: the meter: nodes are counted until there is one too many, or too deep.
-/
import Derived.Test.YtbcgeglkmpcnpaaDoorEzE
namespace Go.Proofs.YtbcgeglkmpcnpaaDoor
open Go Go.RowKit
set_option linter.unusedVariables false
set_option linter.unusedSimpArgs false
open Go.Sort

/-- All blocks but one lie as they lay. -/
structure Kb1 (B : Nat) (W W' : World) : Prop where
  os : W'.os = W.os
  tape : W'.tape = W.tape
  output : W'.output = W.output
  size : W.heap.size ≤ W'.heap.size
  block : ∀ k, k < W.heap.size → k ≠ B → W'.heap[k]? = W.heap[k]?
theorem Kb1.refl (B : Nat) (W : World) : Kb1 B W W := ⟨rfl, rfl, rfl, Nat.le_refl _, fun _ _ _ => rfl⟩
theorem Kb1.trans {B : Nat} {a b c : World} (h : Kb1 B a b) (k : Kb1 B b c) : Kb1 B a c :=
  ⟨k.os.trans h.os, k.tape.trans h.tape, k.output.trans h.output, Nat.le_trans h.size k.size, fun i hi hn => (k.block i (Nat.lt_of_lt_of_le hi h.size) hn).trans (h.block i hi hn)⟩
theorem Kb1.of_below {B : Nat} {a b : World} (h : Below a.heap.size a b) : Kb1 B a b := ⟨h.os, h.tape, h.output, h.size, fun i hi _ => h.block i hi⟩
theorem Kb1.alloc {B : Nat} {a b : World} (h : Kb1 B a b) (o : Obj) : Kb1 B a (b.alloc o) := h.trans (Kb1.of_below ((Below.refl _ _).alloc (Nat.le_refl _) o))
theorem Kb1.setCell (B : Nat) (W : World) (v : Value) : Kb1 B W (W.setCell ⟨B, 0, none⟩ v) := ⟨rfl, rfl, rfl, by simp, fun k _ hn => Below.heap_setCell W ⟨B, 0, none⟩ v k hn⟩
/-- A block that is not older than a world is none of its blocks. -/
theorem Kb1.below {B n : Nat} {a w : World} (h : Kb1 B a w) (hn : n ≤ B) (ha : n ≤ a.heap.size) : Below n a w := ⟨h.os, h.tape, h.output, h.size, fun k hk => h.block k (by omega) (by omega)⟩
theorem Kb1.keptTo {B n : Nat} {a w : World} (h : Kb1 B a w) (hn : n ≤ B) (ha : n ≤ a.heap.size) : KeptTo n a w := Below.keptTo (h.below hn ha) (Nat.le_refl _)
theorem Kb1.kept {B g : Nat} {a w : World} {o : Obj} (h : Kb1 B a w) (hg : a.heap[g]? = some o) (hn : g ≠ B) : w.heap[g]? = some o := (h.block g (Array.getElem?_eq_some_iff.1 hg).1 hn).trans hg
/-- The meter and what it has counted. -/
def Mt (g : Nat) (c : Int) (w : World) : Prop := w.heap[g]? = some (.cells #[.int .i64 c] 89 (0, 0))
theorem Mt.cell {g : Nat} {c : Int} {w : World} (h : Mt g c w) : w.cell? ⟨g, 0, none⟩ = some (.int .i64 c) := by
  unfold Mt at h; simp [World.cell?, h]
theorem Mt.frozen {g : Nat} {c : Int} {w : World} (h : Mt g c w) : w.frozen? ⟨g, 0, none⟩ = false := by
  unfold Mt at h; simp [World.frozen?, h]
theorem Mt.set {g : Nat} {c : Int} {w : World} (h : Mt g c w) (d : Int) : Mt g d (w.setCell ⟨g, 0, none⟩ (.int .i64 d)) := by
  unfold Mt at *; simp [World.setCell, Array.getElem?_modify, h]
theorem Mt.lt {g : Nat} {c : Int} {w : World} (h : Mt g c w) : g < w.heap.size := (Array.getElem?_eq_some_iff.1 h).1
theorem Mt.alloc {g : Nat} {c : Int} {w : World} (h : Mt g c w) (o : Obj) : Mt g c (w.alloc o) := block_alloc h o
/-- Are so many nodes, so deep, within the bounds? -/
def okB (c d : Int) (sz dp : Nat) : Bool := decide (c + (sz : Int) ≤ 65536) && decide (d + (dp : Int) ≤ 65)
/-- What a walk of the meter leaves. -/
def MtP (g : Nat) (c d : Int) (sz dp : Nat) (w : World) : Ending → World → Prop := fun e w' => e = .returned (.bool (okB c d sz dp)) ∧ Kb1 g w w' ∧ (okB c d sz dp = true → Mt g (c + (sz : Int)) w')
theorem MtP_eq (g : Nat) (c d : Int) (sz dp : Nat) (w : World) : MtP g c d sz dp w = fun e w' => e = .returned (.bool (okB c d sz dp)) ∧ Kb1 g w w' ∧ (okB c d sz dp = true → Mt g (c + (sz : Int)) w') := rfl
set_option maxHeartbeats 8000000 in
set_option maxRecDepth 100000 in
theorem node_any (g : Nat) (c d : Int) (hc0 : 0 ≤ c) (hc : c ≤ 65536) (w : World) (h : Mt g c w) : Calls Tryd.prog 89 #[.pointer (some ⟨g, 0, none⟩), .int .i64 d] w fun e w' => e = .returned (.bool (okB c d 1 1)) ∧ w' = w.setCell ⟨g, 0, none⟩ (.int .i64 (c + 1)) := by
  have z0 := h.cell
  have f0 := h.frozen
  have z1 := (h.set (c + 1)).cell
  have hR : okB c d 1 1 = (decide (c + 1 ≤ 65536) && decide (d ≤ 64)) := by
    rw [okB, Bool.eq_iff_iff, Bool.and_eq_true, Bool.and_eq_true, decide_eq_true_eq, decide_eq_true_eq, decide_eq_true_eq, decide_eq_true_eq]; omega
  have HR := Lib.hid hR
  rw [hR]
  clear hR h
  rcases Bool.eq_false_or_eq_true (decide (c + 1 ≤ 65536)) with q1 | q1
  all_goals
    go_enter Tryd.func89, Tryd.ntmps89
    go_wp2
    go_ret
    exact ⟨by simp [q1], rfl⟩
set_option maxHeartbeats 8000000 in
set_option maxRecDepth 100000 in
theorem eachE_any (g : Nat) (d : Int) (hd0 : 0 ≤ d) (hd : d ≤ 65) (n0 : Nat) (hng : n0 ≤ g) (l : List ET) (hll : l.length ≤ 12000000) (hc : ∀ x ∈ l, ∀ (c : Int) w, 0 ≤ c → c ≤ 65536 → n0 ≤ w.heap.size → Mt g c w → x.In n0 w → Calls Tryd.prog 53 #[.pointer (some ⟨g, 0, none⟩), x.val, .int .i64 d] w (MtP g c d x.sz x.dp w)) (c : Int) (hc0 : 0 ≤ c) (hcc : c ≤ 65536) (a : Option Addr) (cp : Nat) (w : World) (hn0 : n0 ≤ w.heap.size) (hm : Mt g c w) (hin : InRow 8 ET.cells (ET.In n0 w) n0 w l a) :
    Calls Tryd.prog 90 #[.slice a l.length cp, .int .i64 d, .func (.func 53) #[.pointer (some ⟨g, 0, none⟩)] #[]] w (MtP g c d (ET.szL l) (ET.dpL l) w) := by
  obtain ⟨R, hR⟩ : ∃ R, okB c d (ET.szL l) (ET.dpL l) = R := ⟨_, rfl⟩
  rw [MtP_eq]
  rw [hR]
  have HR := Lib.hid hR
  clear hR
  go_enter Tryd.func90, Tryd.ntmps90
  go_wp2
  go_loopw [11] (fun u wr => ∃ k : Nat, u = .int .i64 k ∧ k ≤ l.length ∧ okB c d (ET.szL (l.take k)) (ET.dpL (l.take k)) = true ∧ Kb1 g w wr ∧ Mt g (c + (ET.szL (l.take k) : Int)) wr) (fun u _ => l.length - (intOf u).toNat)
  case atStart => exact ⟨0, rfl, Nat.zero_le _, by simp [okB, ET.szL, ET.dpL]; omega, Kb1.refl _ _, by simpa [ET.szL] using hm⟩
  case round =>
    obtain ⟨k, rfl, hk, hal, hb0, hmk⟩ := hrel
    have HA := Lib.hid hal
    have hs1 : c + (ET.szL (l.take k) : Int) ≤ 65536 := by simp only [okB, Bool.and_eq_true, decide_eq_true_eq] at hal; exact hal.1
    obtain ⟨ck, hck⟩ : ∃ ck : Int, c + (ET.szL (l.take k) : Int) = ck := ⟨_, rfl⟩
    rw [hck] at hmk hs1
    have hs0 : 0 ≤ ck := by omega
    have HCK := Lib.hid hck
    clear hal hck
    by_cases hlt : k < l.length
    · have d1 : decide (k < l.length) = true := by simpa using hlt
      have d2 : decide ((k : Int) < (l.length : Int)) = true := by rw [decide_eq_true_eq]; omega
      have x1 : (k : Int) < (l.length : Int) := by omega
      have hkt := hb0.keptTo hng hn0
      obtain ⟨b, o, rfl, hb, hr, hx⟩ := hin.kept hkt hlt
      have HZ := Lib.hid (ET.szL_take l k hlt)
      have HD := Lib.hid (ET.dpL_take l k hlt)
      have HZ2 := Lib.hid (ET.szL_take_le l (k + 1))
      have HD2 : Hid (ET.dpL (l.take (k + 1)) ≤ ET.dpL l) := Lib.hid (by have h9 := ET.dpL_app (l.take (k + 1)) (l.drop (k + 1)); rw [List.take_append_drop] at h9; omega)
      have hcx := hc l[k] (List.getElem_mem hlt) ck
      have hxin := hx.keep hkt
      have zz := hb0.size
      obtain ⟨sx, hsx⟩ : ∃ s, l[k].sz = s := ⟨_, rfl⟩
      obtain ⟨dx, hdx⟩ : ∃ s, l[k].dp = s := ⟨_, rfl⟩
      rw [hsx, hdx] at hcx
      rw [hsx] at HZ
      rw [hdx] at HD
      clear hsx hdx
      generalize hgx : l[k] = x at *
      obtain ⟨op, wd, v, sg, uh, ul, xn, xa, xc, xl⟩ := x
      have c0 := fun (o' : Obj) => hcx (wr.alloc o') hs0 hs1 (by simp; omega) (hmk.alloc o') (hxin.keep (Below.keptTo ((Below.refl _ _).alloc (Nat.le_refl _) o') (by omega)))
      have r0 : wr.cell? ⟨b, o + k * 8, none⟩ = some (.int .i64 op) := hr 0 _ rfl
      have r1 : wr.cell? ⟨b, o + k * 8 + 1, none⟩ = some (.int .i64 wd) := hr 1 _ rfl
      have r2 : wr.cell? ⟨b, o + k * 8 + 2, none⟩ = some (.int .u64 (v : Int)) := hr 2 _ rfl
      have r3 : wr.cell? ⟨b, o + k * 8 + 3, none⟩ = some (.int .i64 sg) := hr 3 _ rfl
      have r4 : wr.cell? ⟨b, o + k * 8 + 4, none⟩ = some (.int .i64 uh) := hr 4 _ rfl
      have r5 : wr.cell? ⟨b, o + k * 8 + 5, none⟩ = some (.int .i64 ul) := hr 5 _ rfl
      have r6 : wr.cell? ⟨b, o + k * 8 + 6, none⟩ = some (.int .i64 xn) := hr 6 _ rfl
      have r7 : wr.cell? ⟨b, o + k * 8 + 7, none⟩ = some (.slice xa xl.length xc) := hr 7 _ rfl
      simp only [ET.val, ET.cells, MtP_eq] at c0
      obtain ⟨bp, hbp⟩ : ∃ b, okB ck d sx dx = b := ⟨_, rfl⟩
      simp only [hbp] at c0
      have HBP := Lib.hid hbp
      clear hin hc hcx hr hx hxin hgx hmk hbp hkt
      cases bp with
      | true =>
        have HT : Hid (okB c d (ET.szL (l.take (k + 1))) (ET.dpL (l.take (k + 1))) = true) := Lib.hid (by have h1 := HA.out; have h2 := HBP.out; have h3 := HCK.out; rw [HZ.out, HD.out]; simp only [okB, Bool.and_eq_true, decide_eq_true_eq] at *; omega)
        go_wp2_with fail
        refine (c0 _).mono ?_
        clear c0
        rintro e W1 ⟨rfl, hb1, hm1⟩
        have hb2 := (hb0.alloc _).trans hb1
        have hm2 := hm1 (by first | rfl | trivial)
        have hm3 : Mt g (c + (ET.szL (l.take (k + 1)) : Int)) W1 := by
          have e9 : c + (ET.szL (l.take (k + 1)) : Int) = ck + (sx : Int) := by rw [HZ.out]; have h3 := HCK.out; omega
          rw [e9]; exact hm2
        have HM := Lib.hid (And.intro hb2 hm3)
        clear hb1 hm1 hm2 hb2 hm3 hb0
        go_wp2
        go_roundw
        case rel => exact ⟨k + 1, by simp; first | done | rfl | omega, by omega, HT.out, HM.out.1, HM.out.2⟩
        case measure => simp [intOf]; omega
      | false =>
        have HE : Hid (R = false) := Lib.hid (by
          have h1 := HR.out; have h2 := HBP.out; have h3 := HCK.out; have h4 := HZ.out; have h5 := HD.out; have h6 := HZ2.out; have h7 := HD2.out
          rw [← h1]
          rw [Bool.eq_false_iff] at h2 ⊢
          intro h8; apply h2
          simp only [okB, Bool.and_eq_true, decide_eq_true_eq] at *
          omega)
        go_wp2_with fail
        refine (c0 _).mono ?_
        clear c0
        rintro e W1 ⟨rfl, hb1, hm1⟩
        have hb2 := (hb0.alloc _).trans hb1
        have HM := Lib.hid hb2
        clear hb1 hm1 hb0 hb2
        go_wp2
        go_ret
        exact ⟨by rw [HE.out]; rfl, HM.out, fun h => by rw [HE.out] at h; cases h⟩
    · have d1 : decide (k < l.length) = false := by simpa using hlt
      have d2 : decide ((k : Int) < (l.length : Int)) = false := by rw [decide_eq_false_iff_not]; omega
      have hkl : k = l.length := by omega
      have HE : Hid (R = true) := Lib.hid (by have h1 := HA.out; rw [hkl, List.take_length] at h1; rw [← HR.out]; exact h1)
      have HM : Hid (Kb1 g w wr ∧ Mt g (c + (ET.szL l : Int)) wr) := Lib.hid (by refine ⟨hb0, ?_⟩; have h3 := HCK.out; rw [hkl, List.take_length] at h3; rw [h3]; exact hmk)
      clear hkl hb0 hmk
      go_wp2
      go_ret
      exact ⟨by rw [HE.out]; rfl, HM.out.1, fun _ => HM.out.2⟩
set_option maxHeartbeats 8000000 in
set_option maxRecDepth 100000 in
theorem meterE_any : ∀ x : ET, x.bk ≤ 4500000 → ∀ (n0 g : Nat) (c d : Int) (w : World), n0 ≤ g → 0 ≤ c → c ≤ 65536 → 0 ≤ d → d ≤ 65 → n0 ≤ w.heap.size → Mt g c w → x.In n0 w → Calls Tryd.prog 53 #[.pointer (some ⟨g, 0, none⟩), x.val, .int .i64 d] w (MtP g c d x.sz x.dp w) := by
  refine ET.ind ?_
  intro op wd v sg uh ul xn xa xc xl ih hbk n0 g c d w hng hc0 hc hd0 hd hn0 hm hin
  rw [ET.In_mk] at hin
  simp only [ET.bk] at hbk
  have hlen := ET.bkL_len xl
  have hall := fun (c' : Int) h1 h2 h7 (w' : World) h3 h4 h5 => eachE_any g (d + 1) (by omega) h7 n0 hng xl (by omega) (fun y hy c2 w2 g1 g2 g3 g4 g5 => ih y hy (by have := ET.bkL_mem hy; omega) n0 g c2 (d + 1) w2 hng g1 g2 (by omega) h7 g3 g4 g5) c' h1 h2 xa xc w' h3 h4 h5
  have hnd := fun (w' : World) h1 => node_any g c d hc0 hc w' h1
  obtain ⟨R, hR⟩ : ∃ R, okB c d (ET.sz (.mk op wd v sg uh ul xn xa xc xl)) (ET.dp (.mk op wd v sg uh ul xn xa xc xl)) = R := ⟨_, rfl⟩
  rw [MtP_eq]
  rw [hR]
  have HS : Hid (ET.sz (.mk op wd v sg uh ul xn xa xc xl) = 1 + ET.szL xl) := Lib.hid (by rw [ET.sz])
  have HD : Hid (ET.dp (.mk op wd v sg uh ul xn xa xc xl) = 1 + ET.dpL xl) := Lib.hid (by rw [ET.dp])
  have HR := Lib.hid hR
  clear hR ih hbk hlen
  obtain ⟨sz, hsz⟩ : ∃ z, ET.sz (.mk op wd v sg uh ul xn xa xc xl) = z := ⟨_, rfl⟩
  rw [hsz] at HS HR ⊢
  obtain ⟨dp, hdp⟩ : ∃ z, ET.dp (.mk op wd v sg uh ul xn xa xc xl) = z := ⟨_, rfl⟩
  rw [hdp] at HD HR
  clear hsz hdp
  simp only [ET.val, ET.cells]
  obtain ⟨gx, hgx⟩ : ∃ gx, w.heap.size = gx := ⟨_, rfl⟩
  obtain ⟨w1, hw1⟩ : ∃ w1, w.alloc (.cells #[.int .i64 op, .int .i64 wd, .int .u64 (v : Int), .int .i64 sg, .int .i64 uh, .int .i64 ul, .int .i64 xn, .slice xa xl.length xc] 30) = w1 := ⟨_, rfl⟩
  have BX : w1.heap[gx]? = some (.cells #[.int .i64 op, .int .i64 wd, .int .u64 (v : Int), .int .i64 sg, .int .i64 uh, .int .i64 ul, .int .i64 xn, .slice xa xl.length xc] 30) := by rw [← hw1, ← hgx]; exact World.alloc_heap_new w _
  have hb0 : Below w.heap.size w w1 := by rw [← hw1]; exact (Below.refl _ _).alloc (Nat.le_refl _) _
  have hm1 : Mt g c w1 := by rw [← hw1]; exact hm.alloc _
  have hgg : gx ≠ g := by have := hm.lt; omega
  have hk0 : Kb1 g w w1 := Kb1.of_below hb0
  have hn1 : n0 ≤ w1.heap.size := Nat.le_trans hn0 hb0.size
  have hin1 := hin.keep (Below.keptTo hb0 hn0) (fun x _ => ET.In.keep (Below.keptTo hb0 hn0) x)
  have c0 := hnd w1 hm1
  obtain ⟨w2, hw2⟩ : ∃ w2, w1.setCell ⟨g, 0, none⟩ (.int .i64 (c + 1)) = w2 := ⟨_, rfl⟩
  rw [hw2] at c0
  have hk1 : Kb1 g w1 w2 := by rw [← hw2]; exact Kb1.setCell g w1 _
  have hm2 : Mt g (c + 1) w2 := by rw [← hw2]; exact hm1.set _
  have hn2 : n0 ≤ w2.heap.size := Nat.le_trans hn1 hk1.size
  have hin2 := hin1.keep (hk1.keptTo hng hn1) (fun x _ => ET.In.keep (hk1.keptTo hng hn1) x)
  obtain ⟨x0, x1, x2, x3, x4, x5, x6, x7⟩ := ope8 (hk1.kept BX hgg)
  have HK := Lib.hid (hk0.trans hk1)
  clear hin hm hin1 hnd BX hb0 hm1 hk0 hn1 hw2 hk1
  obtain ⟨b1, hb1⟩ : ∃ b, okB c d 1 1 = b := ⟨_, rfl⟩
  rw [hb1] at c0
  cases b1 with
  | false =>
    have HE : Hid (R = false) := Lib.hid (by
      have h1 := HR.out; have h2 := HS.out; have h3 := HD.out
      rw [← h1]
      rw [Bool.eq_false_iff] at hb1 ⊢
      intro h8; apply hb1
      simp only [okB, Bool.and_eq_true, decide_eq_true_eq] at *
      omega)
    clear hb1 hall hin2 hm2
    go_enter Tryd.func53, Tryd.ntmps53
    go_wp2_with fail
    (try rw [hw1])
    (try rw [hgx])
    refine c0.mono ?_
    clear c0
    rintro e W1 ⟨rfl, rfl⟩
    go_wp2
    go_ret
    exact ⟨by rw [HE.out]; rfl, HK.out, fun h => by rw [HE.out] at h; cases h⟩
  | true =>
    have hcd : c + 1 ≤ 65536 ∧ d + 1 ≤ 65 := by simp only [okB, Bool.and_eq_true, decide_eq_true_eq] at hb1; omega
    have c1 := hall (c + 1) (by omega) hcd.1 hcd.2 w2 hn2 hm2 hin2
    have HE : Hid (okB (c + 1) (d + 1) (ET.szL xl) (ET.dpL xl) = R) := Lib.hid (by
      have h1 := HR.out; have h2 := HS.out; have h3 := HD.out
      rw [← h1, h2, h3]
      rw [Bool.eq_iff_iff]
      simp only [okB, Bool.and_eq_true, decide_eq_true_eq]
      omega)
    rw [MtP_eq] at c1
    rw [HE.out] at c1
    have HF : Hid (c + 1 + (ET.szL xl : Int) = c + (sz : Int)) := Lib.hid (by rw [HS.out]; omega)
    rw [HF.out] at c1
    have v1 : d + 1 ≤ 65 := hcd.2
    clear hb1 hall hin2 hm2 hcd
    go_enter Tryd.func53, Tryd.ntmps53
    go_wp2_with fail
    (try rw [hw1])
    (try rw [hgx])
    refine c0.mono ?_
    clear c0
    rintro e W1 ⟨rfl, rfl⟩
    go_wp2_with fail
    refine c1.mono ?_
    clear c1
    rintro e W2 ⟨rfl, hk2, hm3⟩
    have HK2 := Lib.hid (And.intro (HK.out.trans hk2) hm3)
    clear hk2 hm3 x0 x1 x2 x3 x4 x5 x6 x7
    cases R
    all_goals
      go_wp2
      go_ret
      first | exact ⟨rfl, HK2.out.1, HK2.out.2⟩ | exact ⟨rfl, HK2.out.1, HK2.out.2 trivial⟩ | exact ⟨rfl, HK2.out.1, HK2.out.2 rfl⟩ | exact ⟨rfl, HK2.out.1, fun h => HK2.out.2 rfl⟩ | exact ⟨rfl, HK2.out.1, fun h => by cases h⟩ | exact ⟨rfl, HK2.out.1, trivial⟩ | exact ⟨rfl, HK2.out.1⟩
set_option maxHeartbeats 8000000 in
set_option maxRecDepth 100000 in
theorem withinBounds_any (x : ET) (hbk : x.bk ≤ 4500000) (n0 : Nat) (w : World) (hn0 : n0 ≤ w.heap.size) (hin : x.In n0 w) : Calls Tryd.prog 29 #[x.val] w fun e w' => e = .returned (.bool (okB 0 1 x.sz x.dp)) ∧ Below w.heap.size w w' := by
  have hc := fun (w' : World) (g : Nat) (h1 : n0 ≤ g) h2 h3 h4 => meterE_any x hbk n0 g 0 1 w' h1 (by omega) (by omega) (by omega) (by omega) h2 h3 h4
  obtain ⟨R, hR⟩ : ∃ R, okB 0 1 x.sz x.dp = R := ⟨_, rfl⟩
  simp only [MtP_eq, hR] at hc
  rw [hR]
  clear hR hbk
  obtain ⟨op, wd, v, sg, uh, ul, xn, xa, xc, xl⟩ := x
  simp only [ET.val, ET.cells] at hc ⊢
  obtain ⟨gx, hgx⟩ : ∃ gx, w.heap.size = gx := ⟨_, rfl⟩
  obtain ⟨w1, hw1⟩ : ∃ w1, w.alloc (.cells #[.int .i64 op, .int .i64 wd, .int .u64 (v : Int), .int .i64 sg, .int .i64 uh, .int .i64 ul, .int .i64 xn, .slice xa xl.length xc] 30) = w1 := ⟨_, rfl⟩
  have hb0 : Below w.heap.size w w1 := by rw [← hw1]; exact (Below.refl _ _).alloc (Nat.le_refl _) _
  have hsz : w1.heap.size = gx + 1 := by rw [← hw1, World.size_alloc, hgx]
  have BX : w1.heap[gx]? = some (.cells #[.int .i64 op, .int .i64 wd, .int .u64 (v : Int), .int .i64 sg, .int .i64 uh, .int .i64 ul, .int .i64 xn, .slice xa xl.length xc] 30) := by rw [← hw1, ← hgx]; exact World.alloc_heap_new w _
  obtain ⟨w2, hw2⟩ : ∃ w2, w1.alloc (.cells #[.int .i64 0] 89 (0, 0)) = w2 := ⟨_, rfl⟩
  have hb1 : Below w1.heap.size w1 w2 := by rw [← hw2]; exact (Below.refl _ _).alloc (Nat.le_refl _) _
  have hm0 : Mt (gx + 1) 0 w2 := by unfold Mt; rw [← hw2, ← hsz]; exact World.alloc_heap_new w1 _
  obtain ⟨w3, hw3⟩ : ∃ w3, w2.setCell ⟨gx + 1, 0, none⟩ (.int .i64 0) = w3 := ⟨_, rfl⟩
  have hm : Mt (gx + 1) 0 w3 := by rw [← hw3]; exact hm0.set 0
  have hb2 : Below w.heap.size w w3 := by rw [← hw3]; exact (hb0.trans (hb1.mono hb0.size)).setCell (p := ⟨gx + 1, 0, none⟩) (by show w.heap.size ≤ gx + 1; omega) _
  have hk1 : Kb1 (gx + 1) w2 w3 := by rw [← hw3]; exact Kb1.setCell _ _ _
  obtain ⟨x0, x1, x2, x3, x4, x5, x6, x7⟩ := ope8 (hk1.kept (block_kept BX hb1) (by omega))
  have c0 := hc w3 (gx + 1) (by omega) (by have := hb2.size; omega) hm (ET.In.keep (Below.keptTo hb2 hn0) _ hin)
  have HB := Lib.hid hb2
  have y0 := hm0.cell
  have y1 := hm0.frozen
  have HG := Lib.hid hgx
  clear hc hin BX hb0 hb1 hm hm0 hb2 hk1
  go_enter Tryd.func29, Tryd.ntmps29
  go_upto_region 1 with (fail)
  (try rw [hw1])
  (try rw [hgx])
  go_wp2_with fail
  (try rw [hsz])
  (try rw [hw2])
  (try rw [hw3])
  refine c0.mono ?_
  clear c0
  rintro e W1 ⟨rfl, hk, hm⟩
  have HK : Hid (Below w.heap.size w W1) := Lib.hid (HB.out.trans (hk.below (by have := HG.out; omega) HB.out.size))
  clear hk hm x0 x1 x2 x3 x4 x5 x6 x7
  cases R
  all_goals
    go_wp2
    go_ret
    exact ⟨rfl, by first | exact HK.out | (have h9 := HK.out; rw [hgx] at h9; exact h9)⟩
end Go.Proofs.YtbcgeglkmpcnpaaDoor
