/-
  sized: which expressions may be: all, shapes.expression.
-/
import Derived.Test.YtbcgeglkmpcnpaaDoorEzD
import Derived.Deep.DeepCutAuto
namespace Go.Proofs.YtbcgeglkmpcnpaaDoor
open Go Go.RowKit
set_option linter.unusedVariables false
set_option linter.unusedSimpArgs false
open Go.Sort

/-- What an expression of a kind has: parts, more, first, last. -/
def ke : Nat → Int × Bool × Int × Int
  | 3 => (1, false, 0, 0)
  | 4 => (1, false, 1, 6)
  | 5 => (2, false, 11, 26)
  | 6 => (3, false, 0, 0)
  | 7 => (1, true, 0, 0)
  | 8 => (1, false, 31, 33)
  | _ => (0, false, 0, 0)
def keC (k : Nat) : List Value := [.int .i64 (ke k).1, .bool (ke k).2.1, .int .i64 (ke k).2.2.1, .int .i64 (ke k).2.2.2]
/-- What of the world is read: the table of kinds. -/
def EnvZ (w : World) : Prop := ∀ k, k < 9 → RowC w 0 (k * 4) (keC k)
theorem EnvZ.keep {w w' : World} (h : EnvZ w) (hb : Below w.heap.size w w') : EnvZ w' := fun k hk j v hv => keep_cell hb (h k hk j v hv)
theorem EnvZ.alloc {w : World} (h : EnvZ w) (x : Obj) : EnvZ (w.alloc x) := h.keep ((Below.refl _ _).alloc (Nat.le_refl _) x)
theorem GsIn.alloc {n : Nat} {w : World} (hn : n ≤ w.heap.size) {gl : List GT} {ga : Option Addr} (h : GsIn n w gl ga) (x : Obj) : GsIn n (w.alloc x) gl ga := h.keep (Below.keptTo ((Below.refl _ _).alloc (Nat.le_refl _) x) hn)

def opIn (op : Int) : Bool := decide (1 ≤ op) && decide (op < 9)
def countP (n p : Int) (m : Bool) : Bool := (n == p) || (m && decide (p < n))
mutual
/-- May an expression be? -/
def mayE (gl : List GT) : ET → Bool
  | .mk op wd v sg uh ul xn _ _ xl => opIn op && (numFits op wd v && (bitsFitB gl op sg uh ul && (decide ((ke op.toNat).2.2.1 ≤ xn) && (decide (xn ≤ (ke op.toNat).2.2.2) && (countP xl.length (ke op.toNat).1 (ke op.toNat).2.1 && mayEL gl xl)))))
def mayEL (gl : List GT) : List ET → Bool
  | [] => true
  | x :: r => mayE gl x && mayEL gl r
end
theorem mayEL_all (gl : List GT) : ∀ l : List ET, mayEL gl l = l.all (mayE gl)
  | [] => rfl
  | x :: r => by rw [mayEL, mayEL_all gl r]; rfl
theorem all_take {α : Type} (p : α → Bool) (l : List α) (k : Nat) (h : k < l.length) : (l.take (k + 1)).all p = ((l.take k).all p && p l[k]) := by
  rw [List.take_succ_eq_append_getElem h, List.all_append]; simp
theorem all_stop {α : Type} (p : α → Bool) (l : List α) (k : Nat) (h : k < l.length) (hp : p l[k] = false) : l.all p = false := by
  rw [List.all_eq_false]; exact ⟨l[k], List.getElem_mem h, by rw [hp]; decide⟩
theorem ET.wf_mk {op wd : Int} {v : Nat} {sg uh ul xn : Int} {xa : Option Addr} {xc : Nat} {xl : List ET} : ET.Wf (.mk op wd v sg uh ul xn xa xc xl) ↔ v < 18446744073709551616 ∧ ∀ x ∈ xl, x.Wf := by
  rw [ET.Wf, ET.wfL_iff]

set_option maxHeartbeats 4000000 in
set_option maxRecDepth 100000 in
theorem allE_any (gl : List GT) (ga : Option Addr) (gc : Nat) (p : ET → Bool) (n0 : Nat) (l : List ET) (hll : l.length ≤ 12000000) (hc : ∀ x ∈ l, ∀ w, n0 ≤ w.heap.size → EnvZ w → GsIn n0 w gl ga → x.In n0 w → Calls Tryd.prog 28 #[.slice ga gl.length gc, x.val] w fun e w' => e = .returned (.bool (p x)) ∧ Below w.heap.size w w') (a : Option Addr) (c : Nat) (w : World) (hn0 : n0 ≤ w.heap.size) (he : EnvZ w) (hg : GsIn n0 w gl ga) (hin : InRow 8 ET.cells (ET.In n0 w) n0 w l a) :
    Calls Tryd.prog 52 #[.slice a l.length c, .func (.func 28) #[.slice ga gl.length gc] #[]] w fun e w' => e = .returned (.bool (l.all p)) ∧ Below w.heap.size w w' := by
  go_enter Tryd.func52, Tryd.ntmps52
  go_wp2
  go_loopw [9] (fun u wr => ∃ k : Nat, u = .int .i64 k ∧ k ≤ l.length ∧ (l.take k).all p = true ∧ Below w.heap.size w wr) (fun u _ => l.length - (intOf u).toNat)
  case atStart => exact ⟨0, rfl, Nat.zero_le _, rfl, Below.refl _ _⟩
  case round =>
    obtain ⟨k, rfl, hk, hal, hb0⟩ := hrel
    have HA := Lib.hid hal
    clear hal
    by_cases hlt : k < l.length
    · have d1 : decide (k < l.length) = true := by simpa using hlt
      have d2 : decide ((k : Int) < (l.length : Int)) = true := by rw [decide_eq_true_eq]; omega
      have x1 : (k : Int) < (l.length : Int) := by omega
      obtain ⟨b, o, rfl, hb, hr, hx⟩ := hin.kept (Below.keptTo hb0 hn0) hlt
      have HT := Lib.hid (all_take p l k hlt)
      have HS := Lib.hid (all_stop p l k hlt)
      have hcx := hc l[k] (List.getElem_mem hlt)
      have hxin := hx.keep (Below.keptTo hb0 hn0)
      have her := he.keep hb0
      have hgr := hg.keep (Below.keptTo hb0 hn0)
      have zz := hb0.size
      generalize p l[k] = bp at *
      generalize hgx : l[k] = x at *
      obtain ⟨op, wd, v, sg, uh, ul, xn, xa, xc, xl⟩ := x
      have c0 := fun (o' : Obj) => hcx (wr.alloc o') (by simp; omega) (her.alloc o') (hgr.alloc (by omega) o') (hxin.keep (Below.keptTo ((Below.refl _ _).alloc (Nat.le_refl _) o') (by omega)))
      have r0 : wr.cell? ⟨b, o + k * 8, none⟩ = some (.int .i64 op) := hr 0 _ rfl
      have r1 : wr.cell? ⟨b, o + k * 8 + 1, none⟩ = some (.int .i64 wd) := hr 1 _ rfl
      have r2 : wr.cell? ⟨b, o + k * 8 + 2, none⟩ = some (.int .u64 (v : Int)) := hr 2 _ rfl
      have r3 : wr.cell? ⟨b, o + k * 8 + 3, none⟩ = some (.int .i64 sg) := hr 3 _ rfl
      have r4 : wr.cell? ⟨b, o + k * 8 + 4, none⟩ = some (.int .i64 uh) := hr 4 _ rfl
      have r5 : wr.cell? ⟨b, o + k * 8 + 5, none⟩ = some (.int .i64 ul) := hr 5 _ rfl
      have r6 : wr.cell? ⟨b, o + k * 8 + 6, none⟩ = some (.int .i64 xn) := hr 6 _ rfl
      have r7 : wr.cell? ⟨b, o + k * 8 + 7, none⟩ = some (.slice xa xl.length xc) := hr 7 _ rfl
      simp only [ET.val, ET.cells] at c0
      clear hin hc hcx hr hx hxin hgx he her hg hgr
      cases bp with
      | true =>
        clear HS
        go_wp2_with fail
        refine (c0 _).mono ?_
        clear c0
        rintro e W1 ⟨rfl, hb1⟩
        have hb2 := hb0.trans (((Below.refl _ _).alloc (Nat.le_refl _) _).trans (hb1.mono (by simp)) |>.mono zz)
        go_wp2
        go_roundw
        case rel => exact ⟨k + 1, by simp; first | done | rfl | omega, by omega, by rw [HT.out, HA.out]; rfl, hb2⟩
        case measure => simp [intOf]; omega
      | false =>
        have HE : Hid (l.all p = false) := Lib.hid (HS.out rfl)
        clear HS HT
        go_wp2_with fail
        refine (c0 _).mono ?_
        clear c0
        rintro e W1 ⟨rfl, hb1⟩
        have hb2 := hb0.trans (((Below.refl _ _).alloc (Nat.le_refl _) _).trans (hb1.mono (by simp)) |>.mono zz)
        go_wp2
        go_ret
        exact ⟨by rw [HE.out]; rfl, hb2⟩
    · have d1 : decide (k < l.length) = false := by simpa using hlt
      have d2 : decide ((k : Int) < (l.length : Int)) = false := by rw [decide_eq_false_iff_not]; omega
      have hkl : k = l.length := by omega
      have HE : Hid (l.all p = true) := Lib.hid (by have := HA.out; rw [hkl, List.take_length] at this; exact this)
      clear hkl
      go_wp2
      go_ret
      exact ⟨by rw [HE.out]; rfl, hb0⟩
set_option maxHeartbeats 8000000 in
set_option maxRecDepth 100000 in
theorem mayE_any (gl : List GT) (ga : Option Addr) (gc : Nat) : ∀ x : ET, x.bk ≤ 4500000 → x.Wf → ∀ (n0 : Nat) (w : World), n0 ≤ w.heap.size → EnvZ w → GsIn n0 w gl ga → x.In n0 w → Calls Tryd.prog 28 #[.slice ga gl.length gc, x.val] w fun e w' => e = .returned (.bool (mayE gl x)) ∧ Below w.heap.size w w' := by
  refine ET.ind ?_
  intro op wd v sg uh ul xn xa xc xl ih hbk hwf n0 w hn0 he hg hin
  rw [ET.In_mk] at hin
  rw [ET.wf_mk] at hwf
  obtain ⟨hv, hwl⟩ := hwf
  simp only [ET.bk] at hbk
  have hlen := ET.bkL_len xl
  have hall := fun (w' : World) h1 h2 h3 h4 => allE_any gl ga gc (mayE gl) n0 xl (by omega) (fun y hy w2 g1 g2 g3 g4 => ih y hy (by have := ET.bkL_mem hy; omega) (hwl y hy) n0 w2 g1 g2 g3 g4) xa xc w' h1 h2 h3 h4
  have hnum := fun (w' : World) => numberFits_any op wd v sg uh ul xn xa xc xl w' hv
  have hbit := fun (w' : World) h1 h2 => bitsFit_any n0 gl ga gc op wd v sg uh ul xn xa xc xl w' h1 h2
  have HV := Lib.hid hv
  have HI : Hid (mayE gl (.mk op wd v sg uh ul xn xa xc xl) = (opIn op && (numFits op wd v && (bitsFitB gl op sg uh ul && (decide ((ke op.toNat).2.2.1 ≤ xn) && (decide (xn ≤ (ke op.toNat).2.2.2) && (countP xl.length (ke op.toNat).1 (ke op.toNat).2.1 && xl.all (mayE gl)))))))) := Lib.hid (by rw [mayE, mayEL_all])
  generalize mayE gl (.mk op wd v sg uh ul xn xa xc xl) = R at *
  clear ih hv hwl hbk
  simp only [ET.val, ET.cells]
  by_cases t1 : op < 1
  · have e1 : decide (op < 1) = true := by simpa using t1
    replace HI : Hid (R = false) := Lib.hid (by rw [HI.out]; simp [opIn]; omega)
    clear t1 hall hnum hbit hin he hg
    go_enter Tryd.func28, Tryd.ntmps28
    go_wp2
    go_ret
    exact ⟨by rw [HI.out]; rfl, (Below.refl _ _).alloc (Nat.le_refl _) _⟩
  by_cases t2 : 8 < op
  · have e1 : decide (op < 1) = false := by simpa using t1
    have e2 : decide (8 < op) = true := by simpa using t2
    have e3 : decide (op > 8) = true := e2
    replace HI : Hid (R = false) := Lib.hid (by rw [HI.out]; simp [opIn]; omega)
    clear t1 t2 hall hnum hbit hin he hg
    go_enter Tryd.func28, Tryd.ntmps28
    go_wp2
    go_ret
    exact ⟨by rw [HI.out]; rfl, (Below.refl _ _).alloc (Nat.le_refl _) _⟩
  obtain ⟨k, rfl⟩ : ∃ k : Nat, op = (k : Int) := ⟨op.toNat, by omega⟩
  have e1 : decide ((k : Int) < 1) = false := by rw [decide_eq_false_iff_not]; omega
  have e2 : decide (8 < (k : Int)) = false := by rw [decide_eq_false_iff_not]; omega
  have e3 : decide ((k : Int) > 8) = false := e2
  have ho : opIn (k : Int) = true := by simp only [opIn, Bool.and_eq_true, decide_eq_true_eq]; omega
  replace HI : Hid (R = (numFits (k : Int) wd v && (bitsFitB gl (k : Int) sg uh ul && (decide ((ke k).2.2.1 ≤ xn) && (decide (xn ≤ (ke k).2.2.2) && (countP xl.length (ke k).1 (ke k).2.1 && xl.all (mayE gl))))))) := Lib.hid (by rw [HI.out, ho, Int.toNat_natCast]; rfl)
  obtain ⟨n, hn⟩ : ∃ n, xl.length = n := ⟨_, rfl⟩
  rw [hn] at HI hall hnum hbit
  (try rw [hn])
  have HN := Lib.hid hn
  clear hn
  have hX := (he.alloc (.cells #[.int .i64 (k : Int), .int .i64 wd, .int .u64 (v : Int), .int .i64 sg, .int .i64 uh, .int .i64 ul, .int .i64 xn, .slice xa n xc] 30)) k (by omega)
  have c0 := hX 0 _ rfl
  have c1 := hX 1 _ rfl
  have c2 := hX 2 _ rfl
  have c3 := hX 3 _ rfl
  simp only [Nat.add_zero] at c0
  obtain ⟨kp, km, kf, kl, hk⟩ : ∃ a b c d, ke k = (a, b, c, d) := ⟨_, _, _, _, rfl⟩
  rw [hk] at c0 c1 c2 c3 HI
  simp only at c0 c1 c2 c3 HI
  have q1 : (k : Int) < 9 := by omega
  have q2 : k < 9 := by omega
  have q3 : (0 : Int) ≤ (k : Int) := by omega
  clear ho hX hk t1 t2
  obtain ⟨b1, hb1⟩ : ∃ b, numFits (k : Int) wd v = b := ⟨_, rfl⟩
  obtain ⟨b2, hb2⟩ : ∃ b, bitsFitB gl (k : Int) sg uh ul = b := ⟨_, rfl⟩
  obtain ⟨b3, hb3⟩ : ∃ b, decide (kf ≤ xn) = b := ⟨_, rfl⟩
  obtain ⟨b4, hb4⟩ : ∃ b, decide (xn ≤ kl) = b := ⟨_, rfl⟩
  obtain ⟨b6, hb6⟩ : ∃ b, xl.all (mayE gl) = b := ⟨_, rfl⟩
  rw [hb1] at HI
  rw [hb2] at HI
  simp only [hb1] at hnum
  simp only [hb2] at hbit
  rw [hb3, hb4] at HI
  rw [hb6] at hall HI
  have HBB := Lib.hid (And.intro hb1 (And.intro hb2 hb6))
  clear hb1 hb2 hb6 hlen
  by_cases t3 : (n : Int) = kp
  · have u1 : ((n : Int) == kp) = true := by rw [beq_iff_eq]; exact t3
    have h5 : countP (n : Int) kp km = true := by simp [countP, t3]
    rw [h5] at HI
    clear t3 h5
    have BX : (w.alloc (.cells #[.int .i64 (k : Int), .int .i64 wd, .int .u64 (v : Int), .int .i64 sg, .int .i64 uh, .int .i64 ul, .int .i64 xn, .slice xa n xc] 30)).heap[w.heap.size]? = some (.cells #[.int .i64 (k : Int), .int .i64 wd, .int .u64 (v : Int), .int .i64 sg, .int .i64 uh, .int .i64 ul, .int .i64 xn, .slice xa n xc] 30) := World.alloc_heap_new w _
    have hB : Below w.heap.size w (w.alloc (.cells #[.int .i64 (k : Int), .int .i64 wd, .int .u64 (v : Int), .int .i64 sg, .int .i64 uh, .int .i64 ul, .int .i64 xn, .slice xa n xc] 30)) := (Below.refl _ _).alloc (Nat.le_refl _) _
    have he1 := he.alloc (.cells #[.int .i64 (k : Int), .int .i64 wd, .int .u64 (v : Int), .int .i64 sg, .int .i64 uh, .int .i64 ul, .int .i64 xn, .slice xa n xc] 30)
    have hg1 := hg.alloc hn0 (.cells #[.int .i64 (k : Int), .int .i64 wd, .int .u64 (v : Int), .int .i64 sg, .int .i64 uh, .int .i64 ul, .int .i64 xn, .slice xa n xc] 30)
    have hin1 := hin.keep (Below.keptTo hB hn0) (fun x _ => ET.In.keep (Below.keptTo hB hn0) x)
    clear he hin hg
    go_enter Tryd.func28, Tryd.ntmps28
    go_upto_region 1 with (fail)
    generalize w.alloc (.cells #[.int .i64 (k : Int), .int .i64 wd, .int .u64 (v : Int), .int .i64 sg, .int .i64 uh, .int .i64 ul, .int .i64 xn, .slice xa n xc] 30) = w1 at *
    obtain ⟨x0, x1, x2, x3, x4, x5, x6, x7⟩ := ope8 BX
    go_upto_region 4 with (fail)
    have BK : (w1.alloc (.cells #[.int .i64 kp, .bool km, .int .i64 kf, .int .i64 kl] 85)).heap[w1.heap.size]? = some (.cells #[.int .i64 kp, .bool km, .int .i64 kf, .int .i64 kl] 85) := World.alloc_heap_new w1 _
    have BX2 := block_alloc BX (.cells #[.int .i64 kp, .bool km, .int .i64 kf, .int .i64 kl] 85)
    have hz1 := hB.size
    have hB2 := hB.alloc hz1 (.cells #[.int .i64 kp, .bool km, .int .i64 kf, .int .i64 kl] 85)
    have he2 := he1.alloc (.cells #[.int .i64 kp, .bool km, .int .i64 kf, .int .i64 kl] 85)
    have hg2 := hg1.alloc (by omega) (.cells #[.int .i64 kp, .bool km, .int .i64 kf, .int .i64 kl] 85)
    have k1 : Below w1.heap.size w1 (w1.alloc (.cells #[.int .i64 kp, .bool km, .int .i64 kf, .int .i64 kl] 85)) := (Below.refl _ _).alloc (Nat.le_refl _) _
    have hin2 := hin1.keep (Below.keptTo k1 (by omega)) (fun x _ => ET.In.keep (Below.keptTo k1 (by omega)) x)
    have hne : w1.heap.size ≠ w.heap.size := by have := (Array.getElem?_eq_some_iff.1 BX).1; omega
    clear x0 x1 x2 x3 x4 x5 x6 x7 c0 c1 c2 c3 he1 hg1 hin1 BX hB k1
    generalize w1.alloc (.cells #[.int .i64 kp, .bool km, .int .i64 kf, .int .i64 kl] 85) = w2 at *
    generalize w1.heap.size = gk at *
    have hn1 : n0 ≤ w2.heap.size := by have := hB2.size; omega
    obtain ⟨x0, x1, x2, x3, x4, x5, x6, x7⟩ := ope8 BX2
    obtain ⟨y0, y1, y2, y3⟩ := ope4 BK
    go_wp2_with fail
    refine (hnum _).mono ?_
    rintro e1 w1 ⟨rfl, hb⟩
    clear x0 x1 x2 x3 x4 x5 x6 x7 y0 y1 y2 y3
    replace BX2 := block_kept BX2 hb
    replace BK := block_kept BK hb
    have hk9 := Below.keptTo hb hn1
    replace hin2 := hin2.keep hk9 (fun x _ => ET.In.keep hk9 x)
    replace he2 := he2.keep hb
    replace hg2 := hg2.keep hk9
    replace hn1 := Nat.le_trans hn1 hb.size
    clear hk9
    replace hB2 := hB2.trans (hb.mono hB2.size)
    clear hb
    cases b1 with
    | false =>
      obtain ⟨x0, x1, x2, x3, x4, x5, x6, x7⟩ := ope8 BX2
      obtain ⟨y0, y1, y2, y3⟩ := ope4 BK
      go_wp2
      go_ret
      exact ⟨by rw [HI.out]; rfl, hB2⟩
    | true =>
      obtain ⟨x0, x1, x2, x3, x4, x5, x6, x7⟩ := ope8 BX2
      obtain ⟨y0, y1, y2, y3⟩ := ope4 BK
      go_wp2_with fail
      refine (hbit _ hn1 hg2).mono ?_
      rintro e1 w1 ⟨rfl, hb⟩
      clear x0 x1 x2 x3 x4 x5 x6 x7 y0 y1 y2 y3
      replace BX2 := block_kept BX2 hb
      replace BK := block_kept BK hb
      have hk9 := Below.keptTo hb hn1
      replace hin2 := hin2.keep hk9 (fun x _ => ET.In.keep hk9 x)
      replace he2 := he2.keep hb
      replace hg2 := hg2.keep hk9
      replace hn1 := Nat.le_trans hn1 hb.size
      clear hk9
      replace hB2 := hB2.trans (hb.mono hB2.size)
      clear hb
      cases b2 with
      | false =>
        obtain ⟨x0, x1, x2, x3, x4, x5, x6, x7⟩ := ope8 BX2
        obtain ⟨y0, y1, y2, y3⟩ := ope4 BK
        go_wp2
        go_ret
        exact ⟨by rw [HI.out]; rfl, hB2⟩
      | true =>
        cases b3 with
        | false =>
          obtain ⟨x0, x1, x2, x3, x4, x5, x6, x7⟩ := ope8 BX2
          obtain ⟨y0, y1, y2, y3⟩ := ope4 BK
          go_wp2
          go_ret
          exact ⟨by rw [HI.out]; rfl, hB2⟩
        | true =>
          cases b4 with
          | false =>
            obtain ⟨x0, x1, x2, x3, x4, x5, x6, x7⟩ := ope8 BX2
            obtain ⟨y0, y1, y2, y3⟩ := ope4 BK
            go_wp2
            go_ret
            exact ⟨by rw [HI.out]; rfl, hB2⟩
          | true =>
            obtain ⟨x0, x1, x2, x3, x4, x5, x6, x7⟩ := ope8 BX2
            obtain ⟨y0, y1, y2, y3⟩ := ope4 BK
            go_wp2_with fail
            refine (hall _ hn1 he2 hg2 hin2).mono ?_
            rintro e1 w1 ⟨rfl, hb⟩
            clear x0 x1 x2 x3 x4 x5 x6 x7 y0 y1 y2 y3
            replace BX2 := block_kept BX2 hb
            replace BK := block_kept BK hb
            have hk9 := Below.keptTo hb hn1
            replace hin2 := hin2.keep hk9 (fun x _ => ET.In.keep hk9 x)
            replace he2 := he2.keep hb
            replace hg2 := hg2.keep hk9
            replace hn1 := Nat.le_trans hn1 hb.size
            clear hk9
            replace hB2 := hB2.trans (hb.mono hB2.size)
            clear hb
            obtain ⟨x0, x1, x2, x3, x4, x5, x6, x7⟩ := ope8 BX2
            obtain ⟨y0, y1, y2, y3⟩ := ope4 BK
            go_wp2
            go_ret
            exact ⟨by rw [HI.out]; rfl, hB2⟩
  have u1 : ((n : Int) == kp) = false := by rw [beq_eq_false_iff_ne]; exact t3
  clear t3
  cases km with
  | false =>
    have h5 : countP (n : Int) kp false = false := by simp only [countP, u1]; rfl
    rw [h5] at HI
    clear h5
    have BX : (w.alloc (.cells #[.int .i64 (k : Int), .int .i64 wd, .int .u64 (v : Int), .int .i64 sg, .int .i64 uh, .int .i64 ul, .int .i64 xn, .slice xa n xc] 30)).heap[w.heap.size]? = some (.cells #[.int .i64 (k : Int), .int .i64 wd, .int .u64 (v : Int), .int .i64 sg, .int .i64 uh, .int .i64 ul, .int .i64 xn, .slice xa n xc] 30) := World.alloc_heap_new w _
    have hB : Below w.heap.size w (w.alloc (.cells #[.int .i64 (k : Int), .int .i64 wd, .int .u64 (v : Int), .int .i64 sg, .int .i64 uh, .int .i64 ul, .int .i64 xn, .slice xa n xc] 30)) := (Below.refl _ _).alloc (Nat.le_refl _) _
    have he1 := he.alloc (.cells #[.int .i64 (k : Int), .int .i64 wd, .int .u64 (v : Int), .int .i64 sg, .int .i64 uh, .int .i64 ul, .int .i64 xn, .slice xa n xc] 30)
    have hg1 := hg.alloc hn0 (.cells #[.int .i64 (k : Int), .int .i64 wd, .int .u64 (v : Int), .int .i64 sg, .int .i64 uh, .int .i64 ul, .int .i64 xn, .slice xa n xc] 30)
    have hin1 := hin.keep (Below.keptTo hB hn0) (fun x _ => ET.In.keep (Below.keptTo hB hn0) x)
    clear he hin hg
    go_enter Tryd.func28, Tryd.ntmps28
    go_upto_region 1 with (fail)
    generalize w.alloc (.cells #[.int .i64 (k : Int), .int .i64 wd, .int .u64 (v : Int), .int .i64 sg, .int .i64 uh, .int .i64 ul, .int .i64 xn, .slice xa n xc] 30) = w1 at *
    obtain ⟨x0, x1, x2, x3, x4, x5, x6, x7⟩ := ope8 BX
    go_upto_region 4 with (fail)
    have BK : (w1.alloc (.cells #[.int .i64 kp, .bool false, .int .i64 kf, .int .i64 kl] 85)).heap[w1.heap.size]? = some (.cells #[.int .i64 kp, .bool false, .int .i64 kf, .int .i64 kl] 85) := World.alloc_heap_new w1 _
    have BX2 := block_alloc BX (.cells #[.int .i64 kp, .bool false, .int .i64 kf, .int .i64 kl] 85)
    have hz1 := hB.size
    have hB2 := hB.alloc hz1 (.cells #[.int .i64 kp, .bool false, .int .i64 kf, .int .i64 kl] 85)
    have he2 := he1.alloc (.cells #[.int .i64 kp, .bool false, .int .i64 kf, .int .i64 kl] 85)
    have hg2 := hg1.alloc (by omega) (.cells #[.int .i64 kp, .bool false, .int .i64 kf, .int .i64 kl] 85)
    have k1 : Below w1.heap.size w1 (w1.alloc (.cells #[.int .i64 kp, .bool false, .int .i64 kf, .int .i64 kl] 85)) := (Below.refl _ _).alloc (Nat.le_refl _) _
    have hin2 := hin1.keep (Below.keptTo k1 (by omega)) (fun x _ => ET.In.keep (Below.keptTo k1 (by omega)) x)
    have hne : w1.heap.size ≠ w.heap.size := by have := (Array.getElem?_eq_some_iff.1 BX).1; omega
    clear x0 x1 x2 x3 x4 x5 x6 x7 c0 c1 c2 c3 he1 hg1 hin1 BX hB k1
    generalize w1.alloc (.cells #[.int .i64 kp, .bool false, .int .i64 kf, .int .i64 kl] 85) = w2 at *
    generalize w1.heap.size = gk at *
    have hn1 : n0 ≤ w2.heap.size := by have := hB2.size; omega
    obtain ⟨x0, x1, x2, x3, x4, x5, x6, x7⟩ := ope8 BX2
    obtain ⟨y0, y1, y2, y3⟩ := ope4 BK
    go_wp2_with fail
    refine (hnum _).mono ?_
    rintro e1 w1 ⟨rfl, hb⟩
    clear x0 x1 x2 x3 x4 x5 x6 x7 y0 y1 y2 y3
    replace BX2 := block_kept BX2 hb
    replace BK := block_kept BK hb
    have hk9 := Below.keptTo hb hn1
    replace hin2 := hin2.keep hk9 (fun x _ => ET.In.keep hk9 x)
    replace he2 := he2.keep hb
    replace hg2 := hg2.keep hk9
    replace hn1 := Nat.le_trans hn1 hb.size
    clear hk9
    replace hB2 := hB2.trans (hb.mono hB2.size)
    clear hb
    cases b1 with
    | false =>
      obtain ⟨x0, x1, x2, x3, x4, x5, x6, x7⟩ := ope8 BX2
      obtain ⟨y0, y1, y2, y3⟩ := ope4 BK
      go_wp2
      go_ret
      exact ⟨by rw [HI.out]; rfl, hB2⟩
    | true =>
      obtain ⟨x0, x1, x2, x3, x4, x5, x6, x7⟩ := ope8 BX2
      obtain ⟨y0, y1, y2, y3⟩ := ope4 BK
      go_wp2_with fail
      refine (hbit _ hn1 hg2).mono ?_
      rintro e1 w1 ⟨rfl, hb⟩
      clear x0 x1 x2 x3 x4 x5 x6 x7 y0 y1 y2 y3
      replace BX2 := block_kept BX2 hb
      replace BK := block_kept BK hb
      have hk9 := Below.keptTo hb hn1
      replace hin2 := hin2.keep hk9 (fun x _ => ET.In.keep hk9 x)
      replace he2 := he2.keep hb
      replace hg2 := hg2.keep hk9
      replace hn1 := Nat.le_trans hn1 hb.size
      clear hk9
      replace hB2 := hB2.trans (hb.mono hB2.size)
      clear hb
      cases b2 with
      | false =>
        obtain ⟨x0, x1, x2, x3, x4, x5, x6, x7⟩ := ope8 BX2
        obtain ⟨y0, y1, y2, y3⟩ := ope4 BK
        go_wp2
        go_ret
        exact ⟨by rw [HI.out]; rfl, hB2⟩
      | true =>
        cases b3 with
        | false =>
          obtain ⟨x0, x1, x2, x3, x4, x5, x6, x7⟩ := ope8 BX2
          obtain ⟨y0, y1, y2, y3⟩ := ope4 BK
          go_wp2
          go_ret
          exact ⟨by rw [HI.out]; rfl, hB2⟩
        | true =>
          cases b4 with
          | false =>
            obtain ⟨x0, x1, x2, x3, x4, x5, x6, x7⟩ := ope8 BX2
            obtain ⟨y0, y1, y2, y3⟩ := ope4 BK
            go_wp2
            go_ret
            exact ⟨by rw [HI.out]; rfl, hB2⟩
          | true =>
            obtain ⟨x0, x1, x2, x3, x4, x5, x6, x7⟩ := ope8 BX2
            obtain ⟨y0, y1, y2, y3⟩ := ope4 BK
            go_wp2
            go_ret
            exact ⟨by rw [HI.out]; rfl, hB2⟩
  | true =>
    by_cases t4 : kp < (n : Int)
    · have u2 : decide (kp < (n : Int)) = true := by simpa using t4
      have u3 : decide ((n : Int) > kp) = true := u2
      have h5 : countP (n : Int) kp true = true := by simp only [countP, u1, u2]; rfl
      rw [h5] at HI
      clear t4 h5
      have BX : (w.alloc (.cells #[.int .i64 (k : Int), .int .i64 wd, .int .u64 (v : Int), .int .i64 sg, .int .i64 uh, .int .i64 ul, .int .i64 xn, .slice xa n xc] 30)).heap[w.heap.size]? = some (.cells #[.int .i64 (k : Int), .int .i64 wd, .int .u64 (v : Int), .int .i64 sg, .int .i64 uh, .int .i64 ul, .int .i64 xn, .slice xa n xc] 30) := World.alloc_heap_new w _
      have hB : Below w.heap.size w (w.alloc (.cells #[.int .i64 (k : Int), .int .i64 wd, .int .u64 (v : Int), .int .i64 sg, .int .i64 uh, .int .i64 ul, .int .i64 xn, .slice xa n xc] 30)) := (Below.refl _ _).alloc (Nat.le_refl _) _
      have he1 := he.alloc (.cells #[.int .i64 (k : Int), .int .i64 wd, .int .u64 (v : Int), .int .i64 sg, .int .i64 uh, .int .i64 ul, .int .i64 xn, .slice xa n xc] 30)
      have hg1 := hg.alloc hn0 (.cells #[.int .i64 (k : Int), .int .i64 wd, .int .u64 (v : Int), .int .i64 sg, .int .i64 uh, .int .i64 ul, .int .i64 xn, .slice xa n xc] 30)
      have hin1 := hin.keep (Below.keptTo hB hn0) (fun x _ => ET.In.keep (Below.keptTo hB hn0) x)
      clear he hin hg
      go_enter Tryd.func28, Tryd.ntmps28
      go_upto_region 1 with (fail)
      generalize w.alloc (.cells #[.int .i64 (k : Int), .int .i64 wd, .int .u64 (v : Int), .int .i64 sg, .int .i64 uh, .int .i64 ul, .int .i64 xn, .slice xa n xc] 30) = w1 at *
      obtain ⟨x0, x1, x2, x3, x4, x5, x6, x7⟩ := ope8 BX
      go_upto_region 4 with (fail)
      have BK : (w1.alloc (.cells #[.int .i64 kp, .bool true, .int .i64 kf, .int .i64 kl] 85)).heap[w1.heap.size]? = some (.cells #[.int .i64 kp, .bool true, .int .i64 kf, .int .i64 kl] 85) := World.alloc_heap_new w1 _
      have BX2 := block_alloc BX (.cells #[.int .i64 kp, .bool true, .int .i64 kf, .int .i64 kl] 85)
      have hz1 := hB.size
      have hB2 := hB.alloc hz1 (.cells #[.int .i64 kp, .bool true, .int .i64 kf, .int .i64 kl] 85)
      have he2 := he1.alloc (.cells #[.int .i64 kp, .bool true, .int .i64 kf, .int .i64 kl] 85)
      have hg2 := hg1.alloc (by omega) (.cells #[.int .i64 kp, .bool true, .int .i64 kf, .int .i64 kl] 85)
      have k1 : Below w1.heap.size w1 (w1.alloc (.cells #[.int .i64 kp, .bool true, .int .i64 kf, .int .i64 kl] 85)) := (Below.refl _ _).alloc (Nat.le_refl _) _
      have hin2 := hin1.keep (Below.keptTo k1 (by omega)) (fun x _ => ET.In.keep (Below.keptTo k1 (by omega)) x)
      have hne : w1.heap.size ≠ w.heap.size := by have := (Array.getElem?_eq_some_iff.1 BX).1; omega
      clear x0 x1 x2 x3 x4 x5 x6 x7 c0 c1 c2 c3 he1 hg1 hin1 BX hB k1
      generalize w1.alloc (.cells #[.int .i64 kp, .bool true, .int .i64 kf, .int .i64 kl] 85) = w2 at *
      generalize w1.heap.size = gk at *
      have hn1 : n0 ≤ w2.heap.size := by have := hB2.size; omega
      obtain ⟨x0, x1, x2, x3, x4, x5, x6, x7⟩ := ope8 BX2
      obtain ⟨y0, y1, y2, y3⟩ := ope4 BK
      go_wp2_with fail
      refine (hnum _).mono ?_
      rintro e1 w1 ⟨rfl, hb⟩
      clear x0 x1 x2 x3 x4 x5 x6 x7 y0 y1 y2 y3
      replace BX2 := block_kept BX2 hb
      replace BK := block_kept BK hb
      have hk9 := Below.keptTo hb hn1
      replace hin2 := hin2.keep hk9 (fun x _ => ET.In.keep hk9 x)
      replace he2 := he2.keep hb
      replace hg2 := hg2.keep hk9
      replace hn1 := Nat.le_trans hn1 hb.size
      clear hk9
      replace hB2 := hB2.trans (hb.mono hB2.size)
      clear hb
      cases b1 with
      | false =>
        obtain ⟨x0, x1, x2, x3, x4, x5, x6, x7⟩ := ope8 BX2
        obtain ⟨y0, y1, y2, y3⟩ := ope4 BK
        go_wp2
        go_ret
        exact ⟨by rw [HI.out]; rfl, hB2⟩
      | true =>
        obtain ⟨x0, x1, x2, x3, x4, x5, x6, x7⟩ := ope8 BX2
        obtain ⟨y0, y1, y2, y3⟩ := ope4 BK
        go_wp2_with fail
        refine (hbit _ hn1 hg2).mono ?_
        rintro e1 w1 ⟨rfl, hb⟩
        clear x0 x1 x2 x3 x4 x5 x6 x7 y0 y1 y2 y3
        replace BX2 := block_kept BX2 hb
        replace BK := block_kept BK hb
        have hk9 := Below.keptTo hb hn1
        replace hin2 := hin2.keep hk9 (fun x _ => ET.In.keep hk9 x)
        replace he2 := he2.keep hb
        replace hg2 := hg2.keep hk9
        replace hn1 := Nat.le_trans hn1 hb.size
        clear hk9
        replace hB2 := hB2.trans (hb.mono hB2.size)
        clear hb
        cases b2 with
        | false =>
          obtain ⟨x0, x1, x2, x3, x4, x5, x6, x7⟩ := ope8 BX2
          obtain ⟨y0, y1, y2, y3⟩ := ope4 BK
          go_wp2
          go_ret
          exact ⟨by rw [HI.out]; rfl, hB2⟩
        | true =>
          cases b3 with
          | false =>
            obtain ⟨x0, x1, x2, x3, x4, x5, x6, x7⟩ := ope8 BX2
            obtain ⟨y0, y1, y2, y3⟩ := ope4 BK
            go_wp2
            go_ret
            exact ⟨by rw [HI.out]; rfl, hB2⟩
          | true =>
            cases b4 with
            | false =>
              obtain ⟨x0, x1, x2, x3, x4, x5, x6, x7⟩ := ope8 BX2
              obtain ⟨y0, y1, y2, y3⟩ := ope4 BK
              go_wp2
              go_ret
              exact ⟨by rw [HI.out]; rfl, hB2⟩
            | true =>
              obtain ⟨x0, x1, x2, x3, x4, x5, x6, x7⟩ := ope8 BX2
              obtain ⟨y0, y1, y2, y3⟩ := ope4 BK
              go_wp2_with fail
              refine (hall _ hn1 he2 hg2 hin2).mono ?_
              rintro e1 w1 ⟨rfl, hb⟩
              clear x0 x1 x2 x3 x4 x5 x6 x7 y0 y1 y2 y3
              replace BX2 := block_kept BX2 hb
              replace BK := block_kept BK hb
              have hk9 := Below.keptTo hb hn1
              replace hin2 := hin2.keep hk9 (fun x _ => ET.In.keep hk9 x)
              replace he2 := he2.keep hb
              replace hg2 := hg2.keep hk9
              replace hn1 := Nat.le_trans hn1 hb.size
              clear hk9
              replace hB2 := hB2.trans (hb.mono hB2.size)
              clear hb
              obtain ⟨x0, x1, x2, x3, x4, x5, x6, x7⟩ := ope8 BX2
              obtain ⟨y0, y1, y2, y3⟩ := ope4 BK
              go_wp2
              go_ret
              exact ⟨by rw [HI.out]; rfl, hB2⟩
    · have u2 : decide (kp < (n : Int)) = false := by simpa using t4
      have u3 : decide ((n : Int) > kp) = false := u2
      have h5 : countP (n : Int) kp true = false := by simp only [countP, u1, u2]; rfl
      rw [h5] at HI
      clear t4 h5
      have BX : (w.alloc (.cells #[.int .i64 (k : Int), .int .i64 wd, .int .u64 (v : Int), .int .i64 sg, .int .i64 uh, .int .i64 ul, .int .i64 xn, .slice xa n xc] 30)).heap[w.heap.size]? = some (.cells #[.int .i64 (k : Int), .int .i64 wd, .int .u64 (v : Int), .int .i64 sg, .int .i64 uh, .int .i64 ul, .int .i64 xn, .slice xa n xc] 30) := World.alloc_heap_new w _
      have hB : Below w.heap.size w (w.alloc (.cells #[.int .i64 (k : Int), .int .i64 wd, .int .u64 (v : Int), .int .i64 sg, .int .i64 uh, .int .i64 ul, .int .i64 xn, .slice xa n xc] 30)) := (Below.refl _ _).alloc (Nat.le_refl _) _
      have he1 := he.alloc (.cells #[.int .i64 (k : Int), .int .i64 wd, .int .u64 (v : Int), .int .i64 sg, .int .i64 uh, .int .i64 ul, .int .i64 xn, .slice xa n xc] 30)
      have hg1 := hg.alloc hn0 (.cells #[.int .i64 (k : Int), .int .i64 wd, .int .u64 (v : Int), .int .i64 sg, .int .i64 uh, .int .i64 ul, .int .i64 xn, .slice xa n xc] 30)
      have hin1 := hin.keep (Below.keptTo hB hn0) (fun x _ => ET.In.keep (Below.keptTo hB hn0) x)
      clear he hin hg
      go_enter Tryd.func28, Tryd.ntmps28
      go_upto_region 1 with (fail)
      generalize w.alloc (.cells #[.int .i64 (k : Int), .int .i64 wd, .int .u64 (v : Int), .int .i64 sg, .int .i64 uh, .int .i64 ul, .int .i64 xn, .slice xa n xc] 30) = w1 at *
      obtain ⟨x0, x1, x2, x3, x4, x5, x6, x7⟩ := ope8 BX
      go_upto_region 4 with (fail)
      have BK : (w1.alloc (.cells #[.int .i64 kp, .bool true, .int .i64 kf, .int .i64 kl] 85)).heap[w1.heap.size]? = some (.cells #[.int .i64 kp, .bool true, .int .i64 kf, .int .i64 kl] 85) := World.alloc_heap_new w1 _
      have BX2 := block_alloc BX (.cells #[.int .i64 kp, .bool true, .int .i64 kf, .int .i64 kl] 85)
      have hz1 := hB.size
      have hB2 := hB.alloc hz1 (.cells #[.int .i64 kp, .bool true, .int .i64 kf, .int .i64 kl] 85)
      have he2 := he1.alloc (.cells #[.int .i64 kp, .bool true, .int .i64 kf, .int .i64 kl] 85)
      have hg2 := hg1.alloc (by omega) (.cells #[.int .i64 kp, .bool true, .int .i64 kf, .int .i64 kl] 85)
      have k1 : Below w1.heap.size w1 (w1.alloc (.cells #[.int .i64 kp, .bool true, .int .i64 kf, .int .i64 kl] 85)) := (Below.refl _ _).alloc (Nat.le_refl _) _
      have hin2 := hin1.keep (Below.keptTo k1 (by omega)) (fun x _ => ET.In.keep (Below.keptTo k1 (by omega)) x)
      have hne : w1.heap.size ≠ w.heap.size := by have := (Array.getElem?_eq_some_iff.1 BX).1; omega
      clear x0 x1 x2 x3 x4 x5 x6 x7 c0 c1 c2 c3 he1 hg1 hin1 BX hB k1
      generalize w1.alloc (.cells #[.int .i64 kp, .bool true, .int .i64 kf, .int .i64 kl] 85) = w2 at *
      generalize w1.heap.size = gk at *
      have hn1 : n0 ≤ w2.heap.size := by have := hB2.size; omega
      obtain ⟨x0, x1, x2, x3, x4, x5, x6, x7⟩ := ope8 BX2
      obtain ⟨y0, y1, y2, y3⟩ := ope4 BK
      go_wp2_with fail
      refine (hnum _).mono ?_
      rintro e1 w1 ⟨rfl, hb⟩
      clear x0 x1 x2 x3 x4 x5 x6 x7 y0 y1 y2 y3
      replace BX2 := block_kept BX2 hb
      replace BK := block_kept BK hb
      have hk9 := Below.keptTo hb hn1
      replace hin2 := hin2.keep hk9 (fun x _ => ET.In.keep hk9 x)
      replace he2 := he2.keep hb
      replace hg2 := hg2.keep hk9
      replace hn1 := Nat.le_trans hn1 hb.size
      clear hk9
      replace hB2 := hB2.trans (hb.mono hB2.size)
      clear hb
      cases b1 with
      | false =>
        obtain ⟨x0, x1, x2, x3, x4, x5, x6, x7⟩ := ope8 BX2
        obtain ⟨y0, y1, y2, y3⟩ := ope4 BK
        go_wp2
        go_ret
        exact ⟨by rw [HI.out]; rfl, hB2⟩
      | true =>
        obtain ⟨x0, x1, x2, x3, x4, x5, x6, x7⟩ := ope8 BX2
        obtain ⟨y0, y1, y2, y3⟩ := ope4 BK
        go_wp2_with fail
        refine (hbit _ hn1 hg2).mono ?_
        rintro e1 w1 ⟨rfl, hb⟩
        clear x0 x1 x2 x3 x4 x5 x6 x7 y0 y1 y2 y3
        replace BX2 := block_kept BX2 hb
        replace BK := block_kept BK hb
        have hk9 := Below.keptTo hb hn1
        replace hin2 := hin2.keep hk9 (fun x _ => ET.In.keep hk9 x)
        replace he2 := he2.keep hb
        replace hg2 := hg2.keep hk9
        replace hn1 := Nat.le_trans hn1 hb.size
        clear hk9
        replace hB2 := hB2.trans (hb.mono hB2.size)
        clear hb
        cases b2 with
        | false =>
          obtain ⟨x0, x1, x2, x3, x4, x5, x6, x7⟩ := ope8 BX2
          obtain ⟨y0, y1, y2, y3⟩ := ope4 BK
          go_wp2
          go_ret
          exact ⟨by rw [HI.out]; rfl, hB2⟩
        | true =>
          cases b3 with
          | false =>
            obtain ⟨x0, x1, x2, x3, x4, x5, x6, x7⟩ := ope8 BX2
            obtain ⟨y0, y1, y2, y3⟩ := ope4 BK
            go_wp2
            go_ret
            exact ⟨by rw [HI.out]; rfl, hB2⟩
          | true =>
            cases b4 with
            | false =>
              obtain ⟨x0, x1, x2, x3, x4, x5, x6, x7⟩ := ope8 BX2
              obtain ⟨y0, y1, y2, y3⟩ := ope4 BK
              go_wp2
              go_ret
              exact ⟨by rw [HI.out]; rfl, hB2⟩
            | true =>
              obtain ⟨x0, x1, x2, x3, x4, x5, x6, x7⟩ := ope8 BX2
              obtain ⟨y0, y1, y2, y3⟩ := ope4 BK
              go_wp2
              go_ret
              exact ⟨by rw [HI.out]; rfl, hB2⟩
end Go.Proofs.YtbcgeglkmpcnpaaDoor
