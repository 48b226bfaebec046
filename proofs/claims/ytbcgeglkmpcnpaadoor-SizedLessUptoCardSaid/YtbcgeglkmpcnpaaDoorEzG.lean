/-
  sized: how wide an expression is of its own.
-/
import Derived.Test.YtbcgeglkmpcnpaaDoorEzF
namespace Go.Proofs.YtbcgeglkmpcnpaaDoor
open Go Go.RowKit
set_option linter.unusedVariables false
set_option linter.unusedSimpArgs false
open Go.Sort

def eith (a b : Int) : Int := if a = 0 then b else a
def sumW : Int → List Int → Int
  | s, [] => s
  | s, x :: r => if x = 0 then 0 else sumW (s + x) r
def owO (xn : Int) (l : List Int) : Int := if xn = 1 ∨ xn = 2 ∨ xn = 17 ∨ xn = 18 then l.getD 0 0 else if 11 ≤ xn ∧ xn ≤ 16 then eith (l.getD 0 0) (l.getD 1 0) else 1
def owF (op wd uh ul xn : Int) (l : List Int) : Int := if op = 1 ∨ op = 8 then wd else if op = 2 then uh - ul + 1 else if op = 4 ∨ op = 5 then owO xn l else if op = 6 then eith (l.getD 1 0) (l.getD 2 0) else if op = 7 then sumW 0 l else 1
mutual
/-- How wide an expression is of its own, or 0. -/
def ow : ET → Int
  | .mk op wd _ _ uh ul xn _ _ xl => owF op wd uh ul xn (owL xl)
def owL : List ET → List Int
  | [] => []
  | x :: r => ow x :: owL r
end
theorem owL_map : ∀ l : List ET, owL l = l.map ow
  | [] => rfl
  | x :: r => by rw [owL, owL_map r]; rfl
theorem owL_get (l : List ET) (k : Nat) (h : k < l.length) : (owL l).getD k 0 = ow l[k] := by rw [owL_map]; simp [h]
/-- What an expression's shape says of it. -/
theorem may_facts {gl : List GT} {op wd : Int} {v : Nat} {sg uh ul xn : Int} {xa : Option Addr} {xc : Nat} {xl : List ET} (h : mayE gl (.mk op wd v sg uh ul xn xa xc xl) = true) : (1 ≤ op ∧ op ≤ 8) ∧ numFits op wd v = true ∧ bitsFitB gl op sg uh ul = true ∧ (ke op.toNat).2.2.1 ≤ xn ∧ xn ≤ (ke op.toNat).2.2.2 ∧ countP xl.length (ke op.toNat).1 (ke op.toNat).2.1 = true ∧ ∀ x ∈ xl, mayE gl x = true := by
  rw [mayE, mayEL_all] at h
  simp only [Bool.and_eq_true, opIn, decide_eq_true_eq, List.all_eq_true] at h
  obtain ⟨⟨h1, h2⟩, h3, h4, h5, h6, h7, h8⟩ := h
  exact ⟨⟨h1, by omega⟩, h3, h4, h5, h6, h7, h8⟩
theorem sumW_bound : ∀ (l : List Int) (b : Int) (s : Int), 0 ≤ s → (∀ x ∈ l, 0 ≤ x ∧ x ≤ b) → 0 ≤ b → 0 ≤ sumW s l ∧ sumW s l ≤ s + b * l.length
  | [], b, s, hs, _, hb => by simp [sumW]; exact hs
  | x :: r, b, s, hs, h, hb => by
    have h1 := h x (by simp)
    have h0 : (0 : Int) ≤ b * r.length := Int.mul_nonneg hb (by omega)
    have e : b * ((x :: r).length : Int) = b + b * (r.length : Int) := by simp [Int.mul_add]; omega
    rw [e]
    unfold sumW
    split
    · omega
    · have h2 := sumW_bound r b (s + x) (by omega) (fun y hy => h y (by simp [hy])) hb
      omega
theorem sumW_le : ∀ (l : List ET) (s : Int), 0 ≤ s → (∀ x ∈ l, 0 ≤ ow x ∧ ow x ≤ 64 * (x.sz : Int)) → 0 ≤ sumW s (owL l) ∧ sumW s (owL l) ≤ s + 64 * (ET.szL l : Int)
  | [], s, hs, _ => by simp [owL, sumW, ET.szL]; exact hs
  | x :: r, s, hs, h => by
    have h1 := h x (by simp)
    rw [owL, sumW, ET.szL]
    split
    · omega
    · have h2 := sumW_le r (s + ow x) (by omega) (fun y hy => h y (by simp [hy]))
      omega
theorem isW_le {w : Int} (h : isW w = true) : 1 ≤ w ∧ w ≤ 64 := by simpa [isW] using h
theorem widthOf_le {gl : List GT} (hg : ∀ g ∈ gl, g.wd ≤ 64) (k : Int) : widthOf gl k ≤ 64 := by
  unfold widthOf
  cases h : gl[k.toNat]? with
  | none => simp
  | some g => simpa using hg g (List.mem_of_getElem? h)
theorem haveBits_facts {gl : List GT} {k hi lo : Int} (h : haveBitsB gl k hi lo = true) : (0 ≤ k ∧ k < (gl.length : Int)) ∧ 0 ≤ lo ∧ lo ≤ hi ∧ hi < widthOf gl k := by
  simpa [haveBitsB, haveB, and_assoc] using h
theorem ow_bound {gl : List GT} (hg : ∀ g ∈ gl, g.wd ≤ 64) : ∀ x : ET, mayE gl x = true → 0 ≤ ow x ∧ ow x ≤ 64 * (x.sz : Int) := by
  refine ET.ind ?_
  intro op wd v sg uh ul xn xa xc xl ih hm
  obtain ⟨ho, h2, h3, h4, h5, h6, h7⟩ := may_facts hm
  have hp : ∀ k : Nat, 0 ≤ (owL xl).getD k 0 ∧ (owL xl).getD k 0 ≤ 64 * (ET.szL xl : Int) := by
    intro k
    by_cases hk : k < xl.length
    · rw [owL_get xl k hk]
      have := ih xl[k] (List.getElem_mem hk) (h7 _ (List.getElem_mem hk))
      have h9 : xl[k].sz ≤ ET.szL xl := ET.szL_mem (List.getElem_mem hk)
      omega
    · have : (owL xl).getD k 0 = 0 := by rw [owL_map, List.getD_eq_getElem?_getD, List.getElem?_eq_none (by simp; omega)]; rfl
      omega
  have hs := sumW_le xl 0 (by omega) (fun x hx => ih x hx (h7 x hx))
  have p0 := hp 0
  have p1 := hp 1
  have p2 := hp 2
  rw [ow, ET.sz]
  unfold owF
  split
  · rename_i h
    rcases h with h | h
    · subst h
      simp [numFits, isW] at h2
      omega
    · subst h
      simp [numFits, isW] at h2
      omega
  split
  · rename_i h
    subst h
    have h3' := haveBits_facts (by simpa [bitsFitB] using h3)
    have := widthOf_le hg sg
    omega
  split
  · unfold owO eith
    split
    · omega
    · split
      · split <;> omega
      · omega
  split
  · unfold eith
    split <;> omega
  split
  · omega
  · omega
set_option maxHeartbeats 8000000 in
set_option maxRecDepth 100000 in
theorem either_any (a b : ET) (n0 : Nat) (ha : ∀ w, n0 ≤ w.heap.size → a.In n0 w → Calls Tryd.prog 55 #[a.val] w fun e w' => e = .returned (.int .i64 (ow a)) ∧ Below w.heap.size w w') (hb : ∀ w, n0 ≤ w.heap.size → b.In n0 w → Calls Tryd.prog 55 #[b.val] w fun e w' => e = .returned (.int .i64 (ow b)) ∧ Below w.heap.size w w') (w : World) (hn0 : n0 ≤ w.heap.size) (hia : a.In n0 w) (hib : b.In n0 w) :
    Calls Tryd.prog 92 #[a.val, b.val] w fun e w' => e = .returned (.int .i64 (eith (ow a) (ow b))) ∧ Below w.heap.size w w' := by
  obtain ⟨R, hR⟩ : ∃ R, eith (ow a) (ow b) = R := ⟨_, rfl⟩
  rw [hR]
  generalize ow a = p at *
  generalize ow b = q at *
  obtain ⟨gx, hgx⟩ : ∃ gx, w.heap.size = gx := ⟨_, rfl⟩
  obtain ⟨oa, hoa⟩ : ∃ o : Obj, (Obj.cells a.cells.toArray 30 (0, 0)) = o := ⟨_, rfl⟩
  obtain ⟨ob, hob⟩ : ∃ o : Obj, (Obj.cells b.cells.toArray 30 (0, 0)) = o := ⟨_, rfl⟩
  obtain ⟨op, wd, v, sg, uh, ul, xn, xa, xc, xl⟩ := a
  obtain ⟨op2, wd2, v2, sg2, uh2, ul2, xn2, xa2, xc2, xl2⟩ := b
  simp only [ET.val, ET.cells] at *
  obtain ⟨w1, hw1⟩ : ∃ w1, (w.alloc (.cells #[.int .i64 op, .int .i64 wd, .int .u64 (v : Int), .int .i64 sg, .int .i64 uh, .int .i64 ul, .int .i64 xn, .slice xa xl.length xc] 30)).alloc (.cells #[.int .i64 op2, .int .i64 wd2, .int .u64 (v2 : Int), .int .i64 sg2, .int .i64 uh2, .int .i64 ul2, .int .i64 xn2, .slice xa2 xl2.length xc2] 30) = w1 := ⟨_, rfl⟩
  have hb0 : Below w.heap.size w w1 := by rw [← hw1]; exact ((Below.refl _ _).alloc (Nat.le_refl _) _).alloc (by simp) _
  have BX : w1.heap[gx]? = some (.cells #[.int .i64 op, .int .i64 wd, .int .u64 (v : Int), .int .i64 sg, .int .i64 uh, .int .i64 ul, .int .i64 xn, .slice xa xl.length xc] 30) := by rw [← hw1, ← hgx]; exact block_alloc (World.alloc_heap_new w _) _
  have BY : w1.heap[gx + 1]? = some (.cells #[.int .i64 op2, .int .i64 wd2, .int .u64 (v2 : Int), .int .i64 sg2, .int .i64 uh2, .int .i64 ul2, .int .i64 xn2, .slice xa2 xl2.length xc2] 30) := by
    rw [← hw1, ← hgx]
    have h9 := World.alloc_heap_new (w.alloc (.cells #[.int .i64 op, .int .i64 wd, .int .u64 (v : Int), .int .i64 sg, .int .i64 uh, .int .i64 ul, .int .i64 xn, .slice xa xl.length xc] 30)) (.cells #[.int .i64 op2, .int .i64 wd2, .int .u64 (v2 : Int), .int .i64 sg2, .int .i64 uh2, .int .i64 ul2, .int .i64 xn2, .slice xa2 xl2.length xc2] 30)
    rwa [World.size_alloc] at h9
  obtain ⟨z0, z1, z2, z3, z4, z5, z6, z7⟩ := ope8 BX
  have ha1 := ha w1 (Nat.le_trans hn0 hb0.size) (ET.In.keep (Below.keptTo hb0 hn0) _ hia)
  have HB := Lib.hid (And.intro hb0 BY)
  have HR := Lib.hid hR
  have HIB := Lib.hid (And.intro hn0 hib)
  have HBC := Lib.hid hb
  clear hR ha hb hia hib BX BY hb0 hoa hob hn0
  by_cases t0 : p = 0
  · have e0 : (p != 0) = false := by rw [bne_eq_false_iff_eq]; exact t0
    have HE : Hid (q = R) := Lib.hid (by rw [← HR.out, eith, if_pos t0])
    have HT := Lib.hid t0
    clear t0 HR
    go_enter Tryd.func92, Tryd.ntmps92
    go_wp2_with fail
    (try rw [hw1])
    (try rw [hgx])
    refine ha1.mono ?_
    clear ha1 z0 z1 z2 z3 z4 z5 z6 z7
    rintro e W1 ⟨rfl, hb1⟩
    obtain ⟨y0, y1, y2, y3, y4, y5, y6, y7⟩ := ope8 (block_kept HB.out.2 hb1)
    have hb2 := HB.out.1.trans (hb1.mono HB.out.1.size)
    have c1 := HBC.out W1 (Nat.le_trans HIB.out.1 hb2.size) (ET.In.keep (Below.keptTo hb2 HIB.out.1) _ HIB.out.2)
    have HB2 := Lib.hid hb2
    clear hb1 hb2
    go_wp2_with fail
    refine c1.mono ?_
    clear c1
    rintro e W2 ⟨rfl, hb3⟩
    have HB3 := Lib.hid (HB2.out.trans (hb3.mono HB2.out.size))
    clear hb3
    go_wp2
    go_ret
    exact ⟨by rw [← HE.out]; rfl, by first | exact HB3.out | (have h9 := HB3.out; rw [hgx] at h9; exact h9)⟩
  · have e0 : (p != 0) = true := by rw [bne_iff_ne]; exact t0
    have HE : Hid (p = R) := Lib.hid (by rw [← HR.out, eith, if_neg t0])
    clear t0 HR HBC HIB
    go_enter Tryd.func92, Tryd.ntmps92
    go_wp2_with fail
    (try rw [hw1])
    (try rw [hgx])
    refine ha1.mono ?_
    clear ha1 z0 z1 z2 z3 z4 z5 z6 z7
    rintro e W1 ⟨rfl, hb1⟩
    have hb2 := Lib.hid (HB.out.1.trans (hb1.mono HB.out.1.size))
    clear hb1
    go_wp2
    go_ret
    exact ⟨by rw [← HE.out]; rfl, by first | exact hb2.out | (have h9 := hb2.out; rw [hgx] at h9; exact h9)⟩
theorem sumW_drop (s : Int) (l : List ET) (k : Nat) (h : k < l.length) : sumW s (owL (l.drop k)) = if ow l[k] = 0 then 0 else sumW (s + ow l[k]) (owL (l.drop (k + 1))) := by
  rw [← List.getElem_cons_drop h, owL, sumW]
set_option maxHeartbeats 8000000 in
set_option maxRecDepth 100000 in
theorem allW_any (n0 : Nat) (l : List ET) (hll : l.length ≤ 12000000) (hbd : ∀ x ∈ l, 0 ≤ ow x ∧ ow x ≤ 300000000) (hc : ∀ x ∈ l, ∀ w, n0 ≤ w.heap.size → x.In n0 w → Calls Tryd.prog 55 #[x.val] w fun e w' => e = .returned (.int .i64 (ow x)) ∧ Below w.heap.size w w') (a : Option Addr) (c : Nat) (w : World) (hn0 : n0 ≤ w.heap.size) (hin : InRow 8 ET.cells (ET.In n0 w) n0 w l a) :
    Calls Tryd.prog 93 #[.slice a l.length c] w fun e w' => e = .returned (.int .i64 (sumW 0 (owL l))) ∧ Below w.heap.size w w' := by
  obtain ⟨R, hR⟩ : ∃ R, sumW 0 (owL l) = R := ⟨_, rfl⟩
  rw [hR]
  have HR := Lib.hid hR
  clear hR
  go_enter Tryd.func93, Tryd.ntmps93
  go_wp2
  go_loopg [3, 9] l.length (fun g s u wr => ∃ (k : Nat) (S : Int), u = .int .i64 k ∧ s = .int .i64 S ∧ k + g = l.length ∧ sumW S (owL (l.drop k)) = R ∧ 0 ≤ S ∧ S ≤ 300000000 * (k : Int) ∧ Below w.heap.size w wr)
  case atStart => exact ⟨0, 0, rfl, rfl, by omega, by rw [List.drop_zero]; exact HR.out, by omega, by omega, Below.refl _ _⟩
  case round =>
    obtain ⟨k, S, rfl, rfl, hk, hkk, hS0, hS1, hb0⟩ := hrel
    have HK := Lib.hid hkk
    clear hkk
    by_cases hlt : k < l.length
    · have d1 : decide (k < l.length) = true := by simpa using hlt
      have d2 : decide ((k : Int) < (l.length : Int)) = true := by rw [decide_eq_true_eq]; omega
      have x1 : (k : Int) < (l.length : Int) := by omega
      obtain ⟨b, o, rfl, hb, hr, hx⟩ := hin.kept (Below.keptTo hb0 hn0) hlt
      have HD := Lib.hid (sumW_drop S l k hlt)
      have hcx := hc l[k] (List.getElem_mem hlt)
      have hbx := hbd l[k] (List.getElem_mem hlt)
      have hxin := hx.keep (Below.keptTo hb0 hn0)
      have zz := hb0.size
      generalize ow l[k] = p at *
      generalize hgx : l[k] = x at *
      obtain ⟨op, wd, v, sg, uh, ul, xn, xa, xc, xl⟩ := x
      have c0 := fun (o' : Obj) => hcx (wr.alloc o') (by simp; omega) (hxin.keep (Below.keptTo ((Below.refl _ _).alloc (Nat.le_refl _) o') (by omega)))
      have r0 : wr.cell? ⟨b, o + k * 8, none⟩ = some (.int .i64 op) := hr 0 _ rfl
      have r1 : wr.cell? ⟨b, o + k * 8 + 1, none⟩ = some (.int .i64 wd) := hr 1 _ rfl
      have r2 : wr.cell? ⟨b, o + k * 8 + 2, none⟩ = some (.int .u64 (v : Int)) := hr 2 _ rfl
      have r3 : wr.cell? ⟨b, o + k * 8 + 3, none⟩ = some (.int .i64 sg) := hr 3 _ rfl
      have r4 : wr.cell? ⟨b, o + k * 8 + 4, none⟩ = some (.int .i64 uh) := hr 4 _ rfl
      have r5 : wr.cell? ⟨b, o + k * 8 + 5, none⟩ = some (.int .i64 ul) := hr 5 _ rfl
      have r6 : wr.cell? ⟨b, o + k * 8 + 6, none⟩ = some (.int .i64 xn) := hr 6 _ rfl
      have r7 : wr.cell? ⟨b, o + k * 8 + 7, none⟩ = some (.slice xa xl.length xc) := hr 7 _ rfl
      simp only [ET.val, ET.cells] at c0
      have x3 : S ≤ 3600000000000000 := by omega
      have x4 : 0 ≤ p := hbx.1
      have x5 : p ≤ 300000000 := hbx.2
      have HG : Hid (S + p ≤ 300000000 * ((k + 1 : Nat) : Int)) := Lib.hid (by omega)
      clear hin hc hcx hr hx hxin hgx hbx hbd hS1
      obtain ⟨gg, rfl⟩ : ∃ gg, gk = gg + 1 := ⟨gk - 1, by omega⟩
      by_cases t0 : p = 0
      · have e0 : (p == 0) = true := by rw [beq_iff_eq]; exact t0
        have HE : Hid (R = 0) := Lib.hid (by rw [← HK.out, HD.out, if_pos t0])
        clear t0 HD
        go_wp2_with fail
        refine (c0 _).mono ?_
        clear c0
        rintro e W1 ⟨rfl, hb1⟩
        have hb2 := Lib.hid (hb0.trans (((Below.refl _ _).alloc (Nat.le_refl _) _).trans (hb1.mono (by simp)) |>.mono zz))
        clear hb1 hb0
        go_wp2
        go_ret
        exact ⟨by rw [HE.out]; rfl, hb2.out⟩
      · have e0 : (p == 0) = false := by rw [beq_eq_false_iff_ne]; exact t0
        have HE : Hid (sumW (S + p) (owL (l.drop (k + 1))) = R) := Lib.hid (by rw [← HK.out, HD.out, if_neg t0])
        clear t0 HD
        go_wp2_with fail
        refine (c0 _).mono ?_
        clear c0
        rintro e W1 ⟨rfl, hb1⟩
        have hb2 := Lib.hid (hb0.trans (((Below.refl _ _).alloc (Nat.le_refl _) _).trans (hb1.mono (by simp)) |>.mono zz))
        clear hb1 hb0
        go_wp2
        go_roundg gg
        case rel => exact ⟨k + 1, S + p, by simp; first | done | rfl | omega, rfl, by omega, HE.out, by omega, HG.out, hb2.out⟩
        case measure => omega
    · have d1 : decide (k < l.length) = false := by simpa using hlt
      have d2 : decide ((k : Int) < (l.length : Int)) = false := by rw [decide_eq_false_iff_not]; omega
      have HE : Hid (S = R) := Lib.hid (by have h1 := HK.out; rw [List.drop_eq_nil_of_le (by omega)] at h1; exact h1)
      go_wp2
      go_ret
      exact ⟨by rw [HE.out]; rfl, hb0⟩
set_option maxHeartbeats 8000000 in
set_option maxRecDepth 100000 in
theorem opW_any (op wd : Int) (v : Nat) (sg uh ul xn : Int) (xa : Option Addr) (xc : Nat) (xl : List ET) (n0 : Nat) (hll : xl.length ≤ 12000000) (h1 : xn = 1 ∨ xn = 2 ∨ xn = 17 ∨ xn = 18 → 1 ≤ xl.length) (h2 : 11 ≤ xn ∧ xn ≤ 16 → 2 ≤ xl.length) (hc : ∀ x ∈ xl, ∀ w, n0 ≤ w.heap.size → x.In n0 w → Calls Tryd.prog 55 #[x.val] w fun e w' => e = .returned (.int .i64 (ow x)) ∧ Below w.heap.size w w') (w : World) (hn0 : n0 ≤ w.heap.size) (hin : InRow 8 ET.cells (ET.In n0 w) n0 w xl xa) :
    Calls Tryd.prog 91 #[(ET.mk op wd v sg uh ul xn xa xc xl).val] w fun e w' => e = .returned (.int .i64 (owO xn (owL xl))) ∧ Below w.heap.size w w' := by
  obtain ⟨R, hR⟩ : ∃ R, owO xn (owL xl) = R := ⟨_, rfl⟩
  rw [hR]
  simp only [ET.val, ET.cells]
  obtain ⟨gx, hgx⟩ : ∃ gx, w.heap.size = gx := ⟨_, rfl⟩
  obtain ⟨w1, hw1⟩ : ∃ w1, w.alloc (.cells #[.int .i64 op, .int .i64 wd, .int .u64 (v : Int), .int .i64 sg, .int .i64 uh, .int .i64 ul, .int .i64 xn, .slice xa xl.length xc] 30) = w1 := ⟨_, rfl⟩
  have hb0 : Below w.heap.size w w1 := by rw [← hw1]; exact (Below.refl _ _).alloc (Nat.le_refl _) _
  have BX : w1.heap[gx]? = some (.cells #[.int .i64 op, .int .i64 wd, .int .u64 (v : Int), .int .i64 sg, .int .i64 uh, .int .i64 ul, .int .i64 xn, .slice xa xl.length xc] 30) := by rw [← hw1, ← hgx]; exact World.alloc_heap_new w _
  obtain ⟨z0, z1, z2, z3, z4, z5, z6, z7⟩ := ope8 BX
  have hn1 : n0 ≤ w1.heap.size := Nat.le_trans hn0 hb0.size
  have hin1 := hin.keep (Below.keptTo hb0 hn0) (fun x _ => ET.In.keep (Below.keptTo hb0 hn0) x)
  have HB := Lib.hid hb0
  clear hin hb0 BX
  by_cases t1 : xn = 1
  · subst t1
    have hlen := h1 (by omega)
    have x0 : (0 : Int) < (xl.length : Int) := by omega
    obtain ⟨b0, o0, ha0, hb0, hr0, hx0⟩ := InRow.at hin1 (show 0 < xl.length by omega)
    subst ha0
    have hc0 := hc xl[0] (List.getElem_mem (by omega))
    obtain ⟨p0, hp0⟩ : ∃ p, ow xl[0] = p := ⟨_, rfl⟩
    have HE : Hid (R = p0) := Lib.hid (by rw [← hR, ← hp0, ← owL_get xl 0 (by omega)]; simp [owO])
    clear hR h1 h2
    generalize hgy0 : xl[0] = y0 at *
    obtain ⟨op3, wd3, v3, sg3, uh3, ul3, xn3, xa3, xc3, xl3⟩ := y0
    have r0 : w1.cell? ⟨b0, o0, none⟩ = some (.int .i64 op3) := by have h9 := hr0 0 _ rfl; simpa using h9
    have r1 : w1.cell? ⟨b0, o0 + 1, none⟩ = some (.int .i64 wd3) := by have h9 := hr0 1 _ rfl; simpa using h9
    have r2 : w1.cell? ⟨b0, o0 + 2, none⟩ = some (.int .u64 (v3 : Int)) := by have h9 := hr0 2 _ rfl; simpa using h9
    have r3 : w1.cell? ⟨b0, o0 + 3, none⟩ = some (.int .i64 sg3) := by have h9 := hr0 3 _ rfl; simpa using h9
    have r4 : w1.cell? ⟨b0, o0 + 4, none⟩ = some (.int .i64 uh3) := by have h9 := hr0 4 _ rfl; simpa using h9
    have r5 : w1.cell? ⟨b0, o0 + 5, none⟩ = some (.int .i64 ul3) := by have h9 := hr0 5 _ rfl; simpa using h9
    have r6 : w1.cell? ⟨b0, o0 + 6, none⟩ = some (.int .i64 xn3) := by have h9 := hr0 6 _ rfl; simpa using h9
    have r7 : w1.cell? ⟨b0, o0 + 7, none⟩ = some (.slice xa3 xl3.length xc3) := by have h9 := hr0 7 _ rfl; simpa using h9
    have c0 := hc0 w1 hn1 hx0
    simp only [ET.val, ET.cells] at c0
    (try simp only [hp0] at c0)
    clear hr0 hx0 hc0 hc hin1 hgy0 hb0
    go_enter Tryd.func91, Tryd.ntmps91
    go_wp2_with fail
    (try rw [hw1])
    (try rw [hgx])
    refine c0.mono ?_
    clear c0
    rintro e W1 ⟨rfl, hb1⟩
    have HB2 := Lib.hid (HB.out.trans (hb1.mono HB.out.size))
    clear hb1
    go_wp2
    go_ret
    exact ⟨by rw [HE.out]; rfl, by first | exact HB2.out | (have h9 := HB2.out; rw [hgx] at h9; exact h9)⟩
  have e1 : (xn == 1) = false := by rw [beq_eq_false_iff_ne]; exact t1
  by_cases t2 : xn = 2
  · subst t2
    have hlen := h1 (by omega)
    have x0 : (0 : Int) < (xl.length : Int) := by omega
    obtain ⟨b0, o0, ha0, hb0, hr0, hx0⟩ := InRow.at hin1 (show 0 < xl.length by omega)
    subst ha0
    have hc0 := hc xl[0] (List.getElem_mem (by omega))
    obtain ⟨p0, hp0⟩ : ∃ p, ow xl[0] = p := ⟨_, rfl⟩
    have HE : Hid (R = p0) := Lib.hid (by rw [← hR, ← hp0, ← owL_get xl 0 (by omega)]; simp [owO])
    clear hR h1 h2
    generalize hgy0 : xl[0] = y0 at *
    obtain ⟨op3, wd3, v3, sg3, uh3, ul3, xn3, xa3, xc3, xl3⟩ := y0
    have r0 : w1.cell? ⟨b0, o0, none⟩ = some (.int .i64 op3) := by have h9 := hr0 0 _ rfl; simpa using h9
    have r1 : w1.cell? ⟨b0, o0 + 1, none⟩ = some (.int .i64 wd3) := by have h9 := hr0 1 _ rfl; simpa using h9
    have r2 : w1.cell? ⟨b0, o0 + 2, none⟩ = some (.int .u64 (v3 : Int)) := by have h9 := hr0 2 _ rfl; simpa using h9
    have r3 : w1.cell? ⟨b0, o0 + 3, none⟩ = some (.int .i64 sg3) := by have h9 := hr0 3 _ rfl; simpa using h9
    have r4 : w1.cell? ⟨b0, o0 + 4, none⟩ = some (.int .i64 uh3) := by have h9 := hr0 4 _ rfl; simpa using h9
    have r5 : w1.cell? ⟨b0, o0 + 5, none⟩ = some (.int .i64 ul3) := by have h9 := hr0 5 _ rfl; simpa using h9
    have r6 : w1.cell? ⟨b0, o0 + 6, none⟩ = some (.int .i64 xn3) := by have h9 := hr0 6 _ rfl; simpa using h9
    have r7 : w1.cell? ⟨b0, o0 + 7, none⟩ = some (.slice xa3 xl3.length xc3) := by have h9 := hr0 7 _ rfl; simpa using h9
    have c0 := hc0 w1 hn1 hx0
    simp only [ET.val, ET.cells] at c0
    (try simp only [hp0] at c0)
    clear hr0 hx0 hc0 hc hin1 hgy0 hb0
    go_enter Tryd.func91, Tryd.ntmps91
    go_wp2_with fail
    (try rw [hw1])
    (try rw [hgx])
    refine c0.mono ?_
    clear c0
    rintro e W1 ⟨rfl, hb1⟩
    have HB2 := Lib.hid (HB.out.trans (hb1.mono HB.out.size))
    clear hb1
    go_wp2
    go_ret
    exact ⟨by rw [HE.out]; rfl, by first | exact HB2.out | (have h9 := HB2.out; rw [hgx] at h9; exact h9)⟩
  have e2 : (xn == 2) = false := by rw [beq_eq_false_iff_ne]; exact t2
  by_cases t17 : xn = 17
  · subst t17
    have hlen := h1 (by omega)
    have x0 : (0 : Int) < (xl.length : Int) := by omega
    obtain ⟨b0, o0, ha0, hb0, hr0, hx0⟩ := InRow.at hin1 (show 0 < xl.length by omega)
    subst ha0
    have hc0 := hc xl[0] (List.getElem_mem (by omega))
    obtain ⟨p0, hp0⟩ : ∃ p, ow xl[0] = p := ⟨_, rfl⟩
    have HE : Hid (R = p0) := Lib.hid (by rw [← hR, ← hp0, ← owL_get xl 0 (by omega)]; simp [owO])
    clear hR h1 h2
    generalize hgy0 : xl[0] = y0 at *
    obtain ⟨op3, wd3, v3, sg3, uh3, ul3, xn3, xa3, xc3, xl3⟩ := y0
    have r0 : w1.cell? ⟨b0, o0, none⟩ = some (.int .i64 op3) := by have h9 := hr0 0 _ rfl; simpa using h9
    have r1 : w1.cell? ⟨b0, o0 + 1, none⟩ = some (.int .i64 wd3) := by have h9 := hr0 1 _ rfl; simpa using h9
    have r2 : w1.cell? ⟨b0, o0 + 2, none⟩ = some (.int .u64 (v3 : Int)) := by have h9 := hr0 2 _ rfl; simpa using h9
    have r3 : w1.cell? ⟨b0, o0 + 3, none⟩ = some (.int .i64 sg3) := by have h9 := hr0 3 _ rfl; simpa using h9
    have r4 : w1.cell? ⟨b0, o0 + 4, none⟩ = some (.int .i64 uh3) := by have h9 := hr0 4 _ rfl; simpa using h9
    have r5 : w1.cell? ⟨b0, o0 + 5, none⟩ = some (.int .i64 ul3) := by have h9 := hr0 5 _ rfl; simpa using h9
    have r6 : w1.cell? ⟨b0, o0 + 6, none⟩ = some (.int .i64 xn3) := by have h9 := hr0 6 _ rfl; simpa using h9
    have r7 : w1.cell? ⟨b0, o0 + 7, none⟩ = some (.slice xa3 xl3.length xc3) := by have h9 := hr0 7 _ rfl; simpa using h9
    have c0 := hc0 w1 hn1 hx0
    simp only [ET.val, ET.cells] at c0
    (try simp only [hp0] at c0)
    clear hr0 hx0 hc0 hc hin1 hgy0 hb0
    go_enter Tryd.func91, Tryd.ntmps91
    go_wp2_with fail
    (try rw [hw1])
    (try rw [hgx])
    refine c0.mono ?_
    clear c0
    rintro e W1 ⟨rfl, hb1⟩
    have HB2 := Lib.hid (HB.out.trans (hb1.mono HB.out.size))
    clear hb1
    go_wp2
    go_ret
    exact ⟨by rw [HE.out]; rfl, by first | exact HB2.out | (have h9 := HB2.out; rw [hgx] at h9; exact h9)⟩
  have e17 : (xn == 17) = false := by rw [beq_eq_false_iff_ne]; exact t17
  by_cases t18 : xn = 18
  · subst t18
    have hlen := h1 (by omega)
    have x0 : (0 : Int) < (xl.length : Int) := by omega
    obtain ⟨b0, o0, ha0, hb0, hr0, hx0⟩ := InRow.at hin1 (show 0 < xl.length by omega)
    subst ha0
    have hc0 := hc xl[0] (List.getElem_mem (by omega))
    obtain ⟨p0, hp0⟩ : ∃ p, ow xl[0] = p := ⟨_, rfl⟩
    have HE : Hid (R = p0) := Lib.hid (by rw [← hR, ← hp0, ← owL_get xl 0 (by omega)]; simp [owO])
    clear hR h1 h2
    generalize hgy0 : xl[0] = y0 at *
    obtain ⟨op3, wd3, v3, sg3, uh3, ul3, xn3, xa3, xc3, xl3⟩ := y0
    have r0 : w1.cell? ⟨b0, o0, none⟩ = some (.int .i64 op3) := by have h9 := hr0 0 _ rfl; simpa using h9
    have r1 : w1.cell? ⟨b0, o0 + 1, none⟩ = some (.int .i64 wd3) := by have h9 := hr0 1 _ rfl; simpa using h9
    have r2 : w1.cell? ⟨b0, o0 + 2, none⟩ = some (.int .u64 (v3 : Int)) := by have h9 := hr0 2 _ rfl; simpa using h9
    have r3 : w1.cell? ⟨b0, o0 + 3, none⟩ = some (.int .i64 sg3) := by have h9 := hr0 3 _ rfl; simpa using h9
    have r4 : w1.cell? ⟨b0, o0 + 4, none⟩ = some (.int .i64 uh3) := by have h9 := hr0 4 _ rfl; simpa using h9
    have r5 : w1.cell? ⟨b0, o0 + 5, none⟩ = some (.int .i64 ul3) := by have h9 := hr0 5 _ rfl; simpa using h9
    have r6 : w1.cell? ⟨b0, o0 + 6, none⟩ = some (.int .i64 xn3) := by have h9 := hr0 6 _ rfl; simpa using h9
    have r7 : w1.cell? ⟨b0, o0 + 7, none⟩ = some (.slice xa3 xl3.length xc3) := by have h9 := hr0 7 _ rfl; simpa using h9
    have c0 := hc0 w1 hn1 hx0
    simp only [ET.val, ET.cells] at c0
    (try simp only [hp0] at c0)
    clear hr0 hx0 hc0 hc hin1 hgy0 hb0
    go_enter Tryd.func91, Tryd.ntmps91
    go_wp2_with fail
    (try rw [hw1])
    (try rw [hgx])
    refine c0.mono ?_
    clear c0
    rintro e W1 ⟨rfl, hb1⟩
    have HB2 := Lib.hid (HB.out.trans (hb1.mono HB.out.size))
    clear hb1
    go_wp2
    go_ret
    exact ⟨by rw [HE.out]; rfl, by first | exact HB2.out | (have h9 := HB2.out; rw [hgx] at h9; exact h9)⟩
  have e18 : (xn == 18) = false := by rw [beq_eq_false_iff_ne]; exact t18
  by_cases t11 : xn = 11
  · subst t11
    have hlen := h2 (by omega)
    have x0 : (0 : Int) < (xl.length : Int) := by omega
    have x1 : (1 : Int) < (xl.length : Int) := by omega
    clear t1 t2 t17 t18 e1 e2 e17 e18
    obtain ⟨b0, o0, ha0, hb0, hr0, hx0⟩ := InRow.at hin1 (show 0 < xl.length by omega)
    subst ha0
    have hc0 := hc xl[0] (List.getElem_mem (by omega))
    obtain ⟨p0, hp0⟩ : ∃ p, ow xl[0] = p := ⟨_, rfl⟩
    obtain ⟨b1, o1, ha1, hb1, hr1, hx1⟩ := InRow.at hin1 (show 1 < xl.length by omega)
    simp only [Option.some.injEq, Addr.mk.injEq] at ha1
    obtain ⟨e1, e2, -⟩ := ha1
    subst e1 e2
    have hc1 := hc xl[1] (List.getElem_mem (by omega))
    obtain ⟨p1, hp1⟩ : ∃ p, ow xl[1] = p := ⟨_, rfl⟩
    have HE : Hid (R = eith p0 p1) := Lib.hid (by rw [← hR, ← hp0, ← hp1, ← owL_get xl 0 (by omega), ← owL_get xl 1 (by omega)]; simp [owO])
    clear hR h1 h2
    obtain ⟨q, hq⟩ : ∃ q, eith p0 p1 = q := ⟨_, rfl⟩
    have c9 := fun (dq : Nat) (os : Array Obj) => either_any xl[0] xl[1] n0 hc0 hc1 (grow (redrawn w1 dq) os) (Nat.le_trans hn1 (below_regrown w1 dq os).size) (ET.In.keep (Below.keptTo (below_regrown w1 dq os) hn1) _ hx0) (ET.In.keep (Below.keptTo (below_regrown w1 dq os) hn1) _ hx1)
    simp only [hp0, hp1, hq] at c9
    have HE2 : Hid (R = q) := Lib.hid (by rw [HE.out, hq])
    generalize hgy0 : xl[0] = y0 at *
    obtain ⟨op3, wd3, v3, sg3, uh3, ul3, xn3, xa3, xc3, xl3⟩ := y0
    have r0 : w1.cell? ⟨b0, o0, none⟩ = some (.int .i64 op3) := by have h9 := hr0 0 _ rfl; simpa using h9
    have r1 : w1.cell? ⟨b0, o0 + 1, none⟩ = some (.int .i64 wd3) := by have h9 := hr0 1 _ rfl; simpa using h9
    have r2 : w1.cell? ⟨b0, o0 + 2, none⟩ = some (.int .u64 (v3 : Int)) := by have h9 := hr0 2 _ rfl; simpa using h9
    have r3 : w1.cell? ⟨b0, o0 + 3, none⟩ = some (.int .i64 sg3) := by have h9 := hr0 3 _ rfl; simpa using h9
    have r4 : w1.cell? ⟨b0, o0 + 4, none⟩ = some (.int .i64 uh3) := by have h9 := hr0 4 _ rfl; simpa using h9
    have r5 : w1.cell? ⟨b0, o0 + 5, none⟩ = some (.int .i64 ul3) := by have h9 := hr0 5 _ rfl; simpa using h9
    have r6 : w1.cell? ⟨b0, o0 + 6, none⟩ = some (.int .i64 xn3) := by have h9 := hr0 6 _ rfl; simpa using h9
    have r7 : w1.cell? ⟨b0, o0 + 7, none⟩ = some (.slice xa3 xl3.length xc3) := by have h9 := hr0 7 _ rfl; simpa using h9
    generalize hgy1 : xl[1] = y1 at *
    obtain ⟨op4, wd4, v4, sg4, uh4, ul4, xn4, xa4, xc4, xl4⟩ := y1
    have s0 : w1.cell? ⟨b0, o0 + 8, none⟩ = some (.int .i64 op4) := by have h9 := hr1 0 _ rfl; simpa using h9
    have s1 : w1.cell? ⟨b0, o0 + 8 + 1, none⟩ = some (.int .i64 wd4) := by have h9 := hr1 1 _ rfl; simpa using h9
    have s2 : w1.cell? ⟨b0, o0 + 8 + 2, none⟩ = some (.int .u64 (v4 : Int)) := by have h9 := hr1 2 _ rfl; simpa using h9
    have s3 : w1.cell? ⟨b0, o0 + 8 + 3, none⟩ = some (.int .i64 sg4) := by have h9 := hr1 3 _ rfl; simpa using h9
    have s4 : w1.cell? ⟨b0, o0 + 8 + 4, none⟩ = some (.int .i64 uh4) := by have h9 := hr1 4 _ rfl; simpa using h9
    have s5 : w1.cell? ⟨b0, o0 + 8 + 5, none⟩ = some (.int .i64 ul4) := by have h9 := hr1 5 _ rfl; simpa using h9
    have s6 : w1.cell? ⟨b0, o0 + 8 + 6, none⟩ = some (.int .i64 xn4) := by have h9 := hr1 6 _ rfl; simpa using h9
    have s7 : w1.cell? ⟨b0, o0 + 8 + 7, none⟩ = some (.slice xa4 xl4.length xc4) := by have h9 := hr1 7 _ rfl; simpa using h9
    simp only [ET.val, ET.cells] at c9
    have HCX := Lib.hid c9
    have r0R := cell_regrown r0
    have r1R := cell_regrown r1
    have r2R := cell_regrown r2
    have r3R := cell_regrown r3
    have r4R := cell_regrown r4
    have r5R := cell_regrown r5
    have r6R := cell_regrown r6
    have r7R := cell_regrown r7
    have s0R := cell_regrown s0
    have s1R := cell_regrown s1
    have s2R := cell_regrown s2
    have s3R := cell_regrown s3
    have s4R := cell_regrown s4
    have s5R := cell_regrown s5
    have s6R := cell_regrown s6
    have s7R := cell_regrown s7
    have z7R := cell_regrown z7
    clear hr0 hr1 hx0 hx1 hc0 hc1 hc hin1 hgy0 hgy1 hb0 hb1 c9 hq hp0 hp1 HE
    go_enter Tryd.func91, Tryd.ntmps91
    go_wp2_with fail
    (try rw [hw1])
    (try rw [hgx])
    refine wp_region_quiet_below (by kernel_rfl) (by kernel_rfl) ?_
    repeat (go_big_quiet_step (first | (go_at_call 92; exact Calls.regrown_of (HCX.out _ _))))
    refine wpQuiet_nil ?_
    intro _ hw'
    obtain ⟨⟨dq, osq⟩, hw''⟩ := hw'
    subst hw''
    have hbq := below_regrown w1 dq osq
    have HB2 := Lib.hid (HB.out.trans (hbq.mono HB.out.size))
    clear r0R r0 r1R r1 r2R r2 r3R r3 r4R r4 r5R r5 r6R r6 r7R r7 s0R s0 s1R s1 s2R s2 s3R s3 s4R s4 s5R s5 s6R s6 s7R s7 z7R hbq
    generalize grow (redrawn w1 dq) osq = w3 at *
    go_wp2
    go_ret
    exact ⟨by rw [HE2.out]; rfl, by first | exact HB2.out | (have h9 := HB2.out; rw [hgx] at h9; exact h9)⟩
  have e11 : (xn == 11) = false := by rw [beq_eq_false_iff_ne]; exact t11
  by_cases t12 : xn = 12
  · subst t12
    have hlen := h2 (by omega)
    have x0 : (0 : Int) < (xl.length : Int) := by omega
    have x1 : (1 : Int) < (xl.length : Int) := by omega
    clear t1 t2 t17 t18 e1 e2 e17 e18 t11 e11
    obtain ⟨b0, o0, ha0, hb0, hr0, hx0⟩ := InRow.at hin1 (show 0 < xl.length by omega)
    subst ha0
    have hc0 := hc xl[0] (List.getElem_mem (by omega))
    obtain ⟨p0, hp0⟩ : ∃ p, ow xl[0] = p := ⟨_, rfl⟩
    obtain ⟨b1, o1, ha1, hb1, hr1, hx1⟩ := InRow.at hin1 (show 1 < xl.length by omega)
    simp only [Option.some.injEq, Addr.mk.injEq] at ha1
    obtain ⟨e1, e2, -⟩ := ha1
    subst e1 e2
    have hc1 := hc xl[1] (List.getElem_mem (by omega))
    obtain ⟨p1, hp1⟩ : ∃ p, ow xl[1] = p := ⟨_, rfl⟩
    have HE : Hid (R = eith p0 p1) := Lib.hid (by rw [← hR, ← hp0, ← hp1, ← owL_get xl 0 (by omega), ← owL_get xl 1 (by omega)]; simp [owO])
    clear hR h1 h2
    obtain ⟨q, hq⟩ : ∃ q, eith p0 p1 = q := ⟨_, rfl⟩
    have c9 := fun (dq : Nat) (os : Array Obj) => either_any xl[0] xl[1] n0 hc0 hc1 (grow (redrawn w1 dq) os) (Nat.le_trans hn1 (below_regrown w1 dq os).size) (ET.In.keep (Below.keptTo (below_regrown w1 dq os) hn1) _ hx0) (ET.In.keep (Below.keptTo (below_regrown w1 dq os) hn1) _ hx1)
    simp only [hp0, hp1, hq] at c9
    have HE2 : Hid (R = q) := Lib.hid (by rw [HE.out, hq])
    generalize hgy0 : xl[0] = y0 at *
    obtain ⟨op3, wd3, v3, sg3, uh3, ul3, xn3, xa3, xc3, xl3⟩ := y0
    have r0 : w1.cell? ⟨b0, o0, none⟩ = some (.int .i64 op3) := by have h9 := hr0 0 _ rfl; simpa using h9
    have r1 : w1.cell? ⟨b0, o0 + 1, none⟩ = some (.int .i64 wd3) := by have h9 := hr0 1 _ rfl; simpa using h9
    have r2 : w1.cell? ⟨b0, o0 + 2, none⟩ = some (.int .u64 (v3 : Int)) := by have h9 := hr0 2 _ rfl; simpa using h9
    have r3 : w1.cell? ⟨b0, o0 + 3, none⟩ = some (.int .i64 sg3) := by have h9 := hr0 3 _ rfl; simpa using h9
    have r4 : w1.cell? ⟨b0, o0 + 4, none⟩ = some (.int .i64 uh3) := by have h9 := hr0 4 _ rfl; simpa using h9
    have r5 : w1.cell? ⟨b0, o0 + 5, none⟩ = some (.int .i64 ul3) := by have h9 := hr0 5 _ rfl; simpa using h9
    have r6 : w1.cell? ⟨b0, o0 + 6, none⟩ = some (.int .i64 xn3) := by have h9 := hr0 6 _ rfl; simpa using h9
    have r7 : w1.cell? ⟨b0, o0 + 7, none⟩ = some (.slice xa3 xl3.length xc3) := by have h9 := hr0 7 _ rfl; simpa using h9
    generalize hgy1 : xl[1] = y1 at *
    obtain ⟨op4, wd4, v4, sg4, uh4, ul4, xn4, xa4, xc4, xl4⟩ := y1
    have s0 : w1.cell? ⟨b0, o0 + 8, none⟩ = some (.int .i64 op4) := by have h9 := hr1 0 _ rfl; simpa using h9
    have s1 : w1.cell? ⟨b0, o0 + 8 + 1, none⟩ = some (.int .i64 wd4) := by have h9 := hr1 1 _ rfl; simpa using h9
    have s2 : w1.cell? ⟨b0, o0 + 8 + 2, none⟩ = some (.int .u64 (v4 : Int)) := by have h9 := hr1 2 _ rfl; simpa using h9
    have s3 : w1.cell? ⟨b0, o0 + 8 + 3, none⟩ = some (.int .i64 sg4) := by have h9 := hr1 3 _ rfl; simpa using h9
    have s4 : w1.cell? ⟨b0, o0 + 8 + 4, none⟩ = some (.int .i64 uh4) := by have h9 := hr1 4 _ rfl; simpa using h9
    have s5 : w1.cell? ⟨b0, o0 + 8 + 5, none⟩ = some (.int .i64 ul4) := by have h9 := hr1 5 _ rfl; simpa using h9
    have s6 : w1.cell? ⟨b0, o0 + 8 + 6, none⟩ = some (.int .i64 xn4) := by have h9 := hr1 6 _ rfl; simpa using h9
    have s7 : w1.cell? ⟨b0, o0 + 8 + 7, none⟩ = some (.slice xa4 xl4.length xc4) := by have h9 := hr1 7 _ rfl; simpa using h9
    simp only [ET.val, ET.cells] at c9
    have HCX := Lib.hid c9
    have r0R := cell_regrown r0
    have r1R := cell_regrown r1
    have r2R := cell_regrown r2
    have r3R := cell_regrown r3
    have r4R := cell_regrown r4
    have r5R := cell_regrown r5
    have r6R := cell_regrown r6
    have r7R := cell_regrown r7
    have s0R := cell_regrown s0
    have s1R := cell_regrown s1
    have s2R := cell_regrown s2
    have s3R := cell_regrown s3
    have s4R := cell_regrown s4
    have s5R := cell_regrown s5
    have s6R := cell_regrown s6
    have s7R := cell_regrown s7
    have z7R := cell_regrown z7
    clear hr0 hr1 hx0 hx1 hc0 hc1 hc hin1 hgy0 hgy1 hb0 hb1 c9 hq hp0 hp1 HE
    go_enter Tryd.func91, Tryd.ntmps91
    go_wp2_with fail
    (try rw [hw1])
    (try rw [hgx])
    refine wp_region_quiet_below (by kernel_rfl) (by kernel_rfl) ?_
    repeat (go_big_quiet_step (first | (go_at_call 92; exact Calls.regrown_of (HCX.out _ _))))
    refine wpQuiet_nil ?_
    intro _ hw'
    obtain ⟨⟨dq, osq⟩, hw''⟩ := hw'
    subst hw''
    have hbq := below_regrown w1 dq osq
    have HB2 := Lib.hid (HB.out.trans (hbq.mono HB.out.size))
    clear r0R r0 r1R r1 r2R r2 r3R r3 r4R r4 r5R r5 r6R r6 r7R r7 s0R s0 s1R s1 s2R s2 s3R s3 s4R s4 s5R s5 s6R s6 s7R s7 z7R hbq
    generalize grow (redrawn w1 dq) osq = w3 at *
    go_wp2
    go_ret
    exact ⟨by rw [HE2.out]; rfl, by first | exact HB2.out | (have h9 := HB2.out; rw [hgx] at h9; exact h9)⟩
  have e12 : (xn == 12) = false := by rw [beq_eq_false_iff_ne]; exact t12
  by_cases t13 : xn = 13
  · subst t13
    have hlen := h2 (by omega)
    have x0 : (0 : Int) < (xl.length : Int) := by omega
    have x1 : (1 : Int) < (xl.length : Int) := by omega
    clear t1 t2 t17 t18 e1 e2 e17 e18 t11 e11 t12 e12
    obtain ⟨b0, o0, ha0, hb0, hr0, hx0⟩ := InRow.at hin1 (show 0 < xl.length by omega)
    subst ha0
    have hc0 := hc xl[0] (List.getElem_mem (by omega))
    obtain ⟨p0, hp0⟩ : ∃ p, ow xl[0] = p := ⟨_, rfl⟩
    obtain ⟨b1, o1, ha1, hb1, hr1, hx1⟩ := InRow.at hin1 (show 1 < xl.length by omega)
    simp only [Option.some.injEq, Addr.mk.injEq] at ha1
    obtain ⟨e1, e2, -⟩ := ha1
    subst e1 e2
    have hc1 := hc xl[1] (List.getElem_mem (by omega))
    obtain ⟨p1, hp1⟩ : ∃ p, ow xl[1] = p := ⟨_, rfl⟩
    have HE : Hid (R = eith p0 p1) := Lib.hid (by rw [← hR, ← hp0, ← hp1, ← owL_get xl 0 (by omega), ← owL_get xl 1 (by omega)]; simp [owO])
    clear hR h1 h2
    obtain ⟨q, hq⟩ : ∃ q, eith p0 p1 = q := ⟨_, rfl⟩
    have c9 := fun (dq : Nat) (os : Array Obj) => either_any xl[0] xl[1] n0 hc0 hc1 (grow (redrawn w1 dq) os) (Nat.le_trans hn1 (below_regrown w1 dq os).size) (ET.In.keep (Below.keptTo (below_regrown w1 dq os) hn1) _ hx0) (ET.In.keep (Below.keptTo (below_regrown w1 dq os) hn1) _ hx1)
    simp only [hp0, hp1, hq] at c9
    have HE2 : Hid (R = q) := Lib.hid (by rw [HE.out, hq])
    generalize hgy0 : xl[0] = y0 at *
    obtain ⟨op3, wd3, v3, sg3, uh3, ul3, xn3, xa3, xc3, xl3⟩ := y0
    have r0 : w1.cell? ⟨b0, o0, none⟩ = some (.int .i64 op3) := by have h9 := hr0 0 _ rfl; simpa using h9
    have r1 : w1.cell? ⟨b0, o0 + 1, none⟩ = some (.int .i64 wd3) := by have h9 := hr0 1 _ rfl; simpa using h9
    have r2 : w1.cell? ⟨b0, o0 + 2, none⟩ = some (.int .u64 (v3 : Int)) := by have h9 := hr0 2 _ rfl; simpa using h9
    have r3 : w1.cell? ⟨b0, o0 + 3, none⟩ = some (.int .i64 sg3) := by have h9 := hr0 3 _ rfl; simpa using h9
    have r4 : w1.cell? ⟨b0, o0 + 4, none⟩ = some (.int .i64 uh3) := by have h9 := hr0 4 _ rfl; simpa using h9
    have r5 : w1.cell? ⟨b0, o0 + 5, none⟩ = some (.int .i64 ul3) := by have h9 := hr0 5 _ rfl; simpa using h9
    have r6 : w1.cell? ⟨b0, o0 + 6, none⟩ = some (.int .i64 xn3) := by have h9 := hr0 6 _ rfl; simpa using h9
    have r7 : w1.cell? ⟨b0, o0 + 7, none⟩ = some (.slice xa3 xl3.length xc3) := by have h9 := hr0 7 _ rfl; simpa using h9
    generalize hgy1 : xl[1] = y1 at *
    obtain ⟨op4, wd4, v4, sg4, uh4, ul4, xn4, xa4, xc4, xl4⟩ := y1
    have s0 : w1.cell? ⟨b0, o0 + 8, none⟩ = some (.int .i64 op4) := by have h9 := hr1 0 _ rfl; simpa using h9
    have s1 : w1.cell? ⟨b0, o0 + 8 + 1, none⟩ = some (.int .i64 wd4) := by have h9 := hr1 1 _ rfl; simpa using h9
    have s2 : w1.cell? ⟨b0, o0 + 8 + 2, none⟩ = some (.int .u64 (v4 : Int)) := by have h9 := hr1 2 _ rfl; simpa using h9
    have s3 : w1.cell? ⟨b0, o0 + 8 + 3, none⟩ = some (.int .i64 sg4) := by have h9 := hr1 3 _ rfl; simpa using h9
    have s4 : w1.cell? ⟨b0, o0 + 8 + 4, none⟩ = some (.int .i64 uh4) := by have h9 := hr1 4 _ rfl; simpa using h9
    have s5 : w1.cell? ⟨b0, o0 + 8 + 5, none⟩ = some (.int .i64 ul4) := by have h9 := hr1 5 _ rfl; simpa using h9
    have s6 : w1.cell? ⟨b0, o0 + 8 + 6, none⟩ = some (.int .i64 xn4) := by have h9 := hr1 6 _ rfl; simpa using h9
    have s7 : w1.cell? ⟨b0, o0 + 8 + 7, none⟩ = some (.slice xa4 xl4.length xc4) := by have h9 := hr1 7 _ rfl; simpa using h9
    simp only [ET.val, ET.cells] at c9
    have HCX := Lib.hid c9
    have r0R := cell_regrown r0
    have r1R := cell_regrown r1
    have r2R := cell_regrown r2
    have r3R := cell_regrown r3
    have r4R := cell_regrown r4
    have r5R := cell_regrown r5
    have r6R := cell_regrown r6
    have r7R := cell_regrown r7
    have s0R := cell_regrown s0
    have s1R := cell_regrown s1
    have s2R := cell_regrown s2
    have s3R := cell_regrown s3
    have s4R := cell_regrown s4
    have s5R := cell_regrown s5
    have s6R := cell_regrown s6
    have s7R := cell_regrown s7
    have z7R := cell_regrown z7
    clear hr0 hr1 hx0 hx1 hc0 hc1 hc hin1 hgy0 hgy1 hb0 hb1 c9 hq hp0 hp1 HE
    go_enter Tryd.func91, Tryd.ntmps91
    go_wp2_with fail
    (try rw [hw1])
    (try rw [hgx])
    refine wp_region_quiet_below (by kernel_rfl) (by kernel_rfl) ?_
    repeat (go_big_quiet_step (first | (go_at_call 92; exact Calls.regrown_of (HCX.out _ _))))
    refine wpQuiet_nil ?_
    intro _ hw'
    obtain ⟨⟨dq, osq⟩, hw''⟩ := hw'
    subst hw''
    have hbq := below_regrown w1 dq osq
    have HB2 := Lib.hid (HB.out.trans (hbq.mono HB.out.size))
    clear r0R r0 r1R r1 r2R r2 r3R r3 r4R r4 r5R r5 r6R r6 r7R r7 s0R s0 s1R s1 s2R s2 s3R s3 s4R s4 s5R s5 s6R s6 s7R s7 z7R hbq
    generalize grow (redrawn w1 dq) osq = w3 at *
    go_wp2
    go_ret
    exact ⟨by rw [HE2.out]; rfl, by first | exact HB2.out | (have h9 := HB2.out; rw [hgx] at h9; exact h9)⟩
  have e13 : (xn == 13) = false := by rw [beq_eq_false_iff_ne]; exact t13
  by_cases t14 : xn = 14
  · subst t14
    have hlen := h2 (by omega)
    have x0 : (0 : Int) < (xl.length : Int) := by omega
    have x1 : (1 : Int) < (xl.length : Int) := by omega
    clear t1 t2 t17 t18 e1 e2 e17 e18 t11 e11 t12 e12 t13 e13
    obtain ⟨b0, o0, ha0, hb0, hr0, hx0⟩ := InRow.at hin1 (show 0 < xl.length by omega)
    subst ha0
    have hc0 := hc xl[0] (List.getElem_mem (by omega))
    obtain ⟨p0, hp0⟩ : ∃ p, ow xl[0] = p := ⟨_, rfl⟩
    obtain ⟨b1, o1, ha1, hb1, hr1, hx1⟩ := InRow.at hin1 (show 1 < xl.length by omega)
    simp only [Option.some.injEq, Addr.mk.injEq] at ha1
    obtain ⟨e1, e2, -⟩ := ha1
    subst e1 e2
    have hc1 := hc xl[1] (List.getElem_mem (by omega))
    obtain ⟨p1, hp1⟩ : ∃ p, ow xl[1] = p := ⟨_, rfl⟩
    have HE : Hid (R = eith p0 p1) := Lib.hid (by rw [← hR, ← hp0, ← hp1, ← owL_get xl 0 (by omega), ← owL_get xl 1 (by omega)]; simp [owO])
    clear hR h1 h2
    obtain ⟨q, hq⟩ : ∃ q, eith p0 p1 = q := ⟨_, rfl⟩
    have c9 := fun (dq : Nat) (os : Array Obj) => either_any xl[0] xl[1] n0 hc0 hc1 (grow (redrawn w1 dq) os) (Nat.le_trans hn1 (below_regrown w1 dq os).size) (ET.In.keep (Below.keptTo (below_regrown w1 dq os) hn1) _ hx0) (ET.In.keep (Below.keptTo (below_regrown w1 dq os) hn1) _ hx1)
    simp only [hp0, hp1, hq] at c9
    have HE2 : Hid (R = q) := Lib.hid (by rw [HE.out, hq])
    generalize hgy0 : xl[0] = y0 at *
    obtain ⟨op3, wd3, v3, sg3, uh3, ul3, xn3, xa3, xc3, xl3⟩ := y0
    have r0 : w1.cell? ⟨b0, o0, none⟩ = some (.int .i64 op3) := by have h9 := hr0 0 _ rfl; simpa using h9
    have r1 : w1.cell? ⟨b0, o0 + 1, none⟩ = some (.int .i64 wd3) := by have h9 := hr0 1 _ rfl; simpa using h9
    have r2 : w1.cell? ⟨b0, o0 + 2, none⟩ = some (.int .u64 (v3 : Int)) := by have h9 := hr0 2 _ rfl; simpa using h9
    have r3 : w1.cell? ⟨b0, o0 + 3, none⟩ = some (.int .i64 sg3) := by have h9 := hr0 3 _ rfl; simpa using h9
    have r4 : w1.cell? ⟨b0, o0 + 4, none⟩ = some (.int .i64 uh3) := by have h9 := hr0 4 _ rfl; simpa using h9
    have r5 : w1.cell? ⟨b0, o0 + 5, none⟩ = some (.int .i64 ul3) := by have h9 := hr0 5 _ rfl; simpa using h9
    have r6 : w1.cell? ⟨b0, o0 + 6, none⟩ = some (.int .i64 xn3) := by have h9 := hr0 6 _ rfl; simpa using h9
    have r7 : w1.cell? ⟨b0, o0 + 7, none⟩ = some (.slice xa3 xl3.length xc3) := by have h9 := hr0 7 _ rfl; simpa using h9
    generalize hgy1 : xl[1] = y1 at *
    obtain ⟨op4, wd4, v4, sg4, uh4, ul4, xn4, xa4, xc4, xl4⟩ := y1
    have s0 : w1.cell? ⟨b0, o0 + 8, none⟩ = some (.int .i64 op4) := by have h9 := hr1 0 _ rfl; simpa using h9
    have s1 : w1.cell? ⟨b0, o0 + 8 + 1, none⟩ = some (.int .i64 wd4) := by have h9 := hr1 1 _ rfl; simpa using h9
    have s2 : w1.cell? ⟨b0, o0 + 8 + 2, none⟩ = some (.int .u64 (v4 : Int)) := by have h9 := hr1 2 _ rfl; simpa using h9
    have s3 : w1.cell? ⟨b0, o0 + 8 + 3, none⟩ = some (.int .i64 sg4) := by have h9 := hr1 3 _ rfl; simpa using h9
    have s4 : w1.cell? ⟨b0, o0 + 8 + 4, none⟩ = some (.int .i64 uh4) := by have h9 := hr1 4 _ rfl; simpa using h9
    have s5 : w1.cell? ⟨b0, o0 + 8 + 5, none⟩ = some (.int .i64 ul4) := by have h9 := hr1 5 _ rfl; simpa using h9
    have s6 : w1.cell? ⟨b0, o0 + 8 + 6, none⟩ = some (.int .i64 xn4) := by have h9 := hr1 6 _ rfl; simpa using h9
    have s7 : w1.cell? ⟨b0, o0 + 8 + 7, none⟩ = some (.slice xa4 xl4.length xc4) := by have h9 := hr1 7 _ rfl; simpa using h9
    simp only [ET.val, ET.cells] at c9
    have HCX := Lib.hid c9
    have r0R := cell_regrown r0
    have r1R := cell_regrown r1
    have r2R := cell_regrown r2
    have r3R := cell_regrown r3
    have r4R := cell_regrown r4
    have r5R := cell_regrown r5
    have r6R := cell_regrown r6
    have r7R := cell_regrown r7
    have s0R := cell_regrown s0
    have s1R := cell_regrown s1
    have s2R := cell_regrown s2
    have s3R := cell_regrown s3
    have s4R := cell_regrown s4
    have s5R := cell_regrown s5
    have s6R := cell_regrown s6
    have s7R := cell_regrown s7
    have z7R := cell_regrown z7
    clear hr0 hr1 hx0 hx1 hc0 hc1 hc hin1 hgy0 hgy1 hb0 hb1 c9 hq hp0 hp1 HE
    go_enter Tryd.func91, Tryd.ntmps91
    go_wp2_with fail
    (try rw [hw1])
    (try rw [hgx])
    refine wp_region_quiet_below (by kernel_rfl) (by kernel_rfl) ?_
    repeat (go_big_quiet_step (first | (go_at_call 92; exact Calls.regrown_of (HCX.out _ _))))
    refine wpQuiet_nil ?_
    intro _ hw'
    obtain ⟨⟨dq, osq⟩, hw''⟩ := hw'
    subst hw''
    have hbq := below_regrown w1 dq osq
    have HB2 := Lib.hid (HB.out.trans (hbq.mono HB.out.size))
    clear r0R r0 r1R r1 r2R r2 r3R r3 r4R r4 r5R r5 r6R r6 r7R r7 s0R s0 s1R s1 s2R s2 s3R s3 s4R s4 s5R s5 s6R s6 s7R s7 z7R hbq
    generalize grow (redrawn w1 dq) osq = w3 at *
    go_wp2
    go_ret
    exact ⟨by rw [HE2.out]; rfl, by first | exact HB2.out | (have h9 := HB2.out; rw [hgx] at h9; exact h9)⟩
  have e14 : (xn == 14) = false := by rw [beq_eq_false_iff_ne]; exact t14
  by_cases t15 : xn = 15
  · subst t15
    have hlen := h2 (by omega)
    have x0 : (0 : Int) < (xl.length : Int) := by omega
    have x1 : (1 : Int) < (xl.length : Int) := by omega
    clear t1 t2 t17 t18 e1 e2 e17 e18 t11 e11 t12 e12 t13 e13 t14 e14
    obtain ⟨b0, o0, ha0, hb0, hr0, hx0⟩ := InRow.at hin1 (show 0 < xl.length by omega)
    subst ha0
    have hc0 := hc xl[0] (List.getElem_mem (by omega))
    obtain ⟨p0, hp0⟩ : ∃ p, ow xl[0] = p := ⟨_, rfl⟩
    obtain ⟨b1, o1, ha1, hb1, hr1, hx1⟩ := InRow.at hin1 (show 1 < xl.length by omega)
    simp only [Option.some.injEq, Addr.mk.injEq] at ha1
    obtain ⟨e1, e2, -⟩ := ha1
    subst e1 e2
    have hc1 := hc xl[1] (List.getElem_mem (by omega))
    obtain ⟨p1, hp1⟩ : ∃ p, ow xl[1] = p := ⟨_, rfl⟩
    have HE : Hid (R = eith p0 p1) := Lib.hid (by rw [← hR, ← hp0, ← hp1, ← owL_get xl 0 (by omega), ← owL_get xl 1 (by omega)]; simp [owO])
    clear hR h1 h2
    obtain ⟨q, hq⟩ : ∃ q, eith p0 p1 = q := ⟨_, rfl⟩
    have c9 := fun (dq : Nat) (os : Array Obj) => either_any xl[0] xl[1] n0 hc0 hc1 (grow (redrawn w1 dq) os) (Nat.le_trans hn1 (below_regrown w1 dq os).size) (ET.In.keep (Below.keptTo (below_regrown w1 dq os) hn1) _ hx0) (ET.In.keep (Below.keptTo (below_regrown w1 dq os) hn1) _ hx1)
    simp only [hp0, hp1, hq] at c9
    have HE2 : Hid (R = q) := Lib.hid (by rw [HE.out, hq])
    generalize hgy0 : xl[0] = y0 at *
    obtain ⟨op3, wd3, v3, sg3, uh3, ul3, xn3, xa3, xc3, xl3⟩ := y0
    have r0 : w1.cell? ⟨b0, o0, none⟩ = some (.int .i64 op3) := by have h9 := hr0 0 _ rfl; simpa using h9
    have r1 : w1.cell? ⟨b0, o0 + 1, none⟩ = some (.int .i64 wd3) := by have h9 := hr0 1 _ rfl; simpa using h9
    have r2 : w1.cell? ⟨b0, o0 + 2, none⟩ = some (.int .u64 (v3 : Int)) := by have h9 := hr0 2 _ rfl; simpa using h9
    have r3 : w1.cell? ⟨b0, o0 + 3, none⟩ = some (.int .i64 sg3) := by have h9 := hr0 3 _ rfl; simpa using h9
    have r4 : w1.cell? ⟨b0, o0 + 4, none⟩ = some (.int .i64 uh3) := by have h9 := hr0 4 _ rfl; simpa using h9
    have r5 : w1.cell? ⟨b0, o0 + 5, none⟩ = some (.int .i64 ul3) := by have h9 := hr0 5 _ rfl; simpa using h9
    have r6 : w1.cell? ⟨b0, o0 + 6, none⟩ = some (.int .i64 xn3) := by have h9 := hr0 6 _ rfl; simpa using h9
    have r7 : w1.cell? ⟨b0, o0 + 7, none⟩ = some (.slice xa3 xl3.length xc3) := by have h9 := hr0 7 _ rfl; simpa using h9
    generalize hgy1 : xl[1] = y1 at *
    obtain ⟨op4, wd4, v4, sg4, uh4, ul4, xn4, xa4, xc4, xl4⟩ := y1
    have s0 : w1.cell? ⟨b0, o0 + 8, none⟩ = some (.int .i64 op4) := by have h9 := hr1 0 _ rfl; simpa using h9
    have s1 : w1.cell? ⟨b0, o0 + 8 + 1, none⟩ = some (.int .i64 wd4) := by have h9 := hr1 1 _ rfl; simpa using h9
    have s2 : w1.cell? ⟨b0, o0 + 8 + 2, none⟩ = some (.int .u64 (v4 : Int)) := by have h9 := hr1 2 _ rfl; simpa using h9
    have s3 : w1.cell? ⟨b0, o0 + 8 + 3, none⟩ = some (.int .i64 sg4) := by have h9 := hr1 3 _ rfl; simpa using h9
    have s4 : w1.cell? ⟨b0, o0 + 8 + 4, none⟩ = some (.int .i64 uh4) := by have h9 := hr1 4 _ rfl; simpa using h9
    have s5 : w1.cell? ⟨b0, o0 + 8 + 5, none⟩ = some (.int .i64 ul4) := by have h9 := hr1 5 _ rfl; simpa using h9
    have s6 : w1.cell? ⟨b0, o0 + 8 + 6, none⟩ = some (.int .i64 xn4) := by have h9 := hr1 6 _ rfl; simpa using h9
    have s7 : w1.cell? ⟨b0, o0 + 8 + 7, none⟩ = some (.slice xa4 xl4.length xc4) := by have h9 := hr1 7 _ rfl; simpa using h9
    simp only [ET.val, ET.cells] at c9
    have HCX := Lib.hid c9
    have r0R := cell_regrown r0
    have r1R := cell_regrown r1
    have r2R := cell_regrown r2
    have r3R := cell_regrown r3
    have r4R := cell_regrown r4
    have r5R := cell_regrown r5
    have r6R := cell_regrown r6
    have r7R := cell_regrown r7
    have s0R := cell_regrown s0
    have s1R := cell_regrown s1
    have s2R := cell_regrown s2
    have s3R := cell_regrown s3
    have s4R := cell_regrown s4
    have s5R := cell_regrown s5
    have s6R := cell_regrown s6
    have s7R := cell_regrown s7
    have z7R := cell_regrown z7
    clear hr0 hr1 hx0 hx1 hc0 hc1 hc hin1 hgy0 hgy1 hb0 hb1 c9 hq hp0 hp1 HE
    go_enter Tryd.func91, Tryd.ntmps91
    go_wp2_with fail
    (try rw [hw1])
    (try rw [hgx])
    refine wp_region_quiet_below (by kernel_rfl) (by kernel_rfl) ?_
    repeat (go_big_quiet_step (first | (go_at_call 92; exact Calls.regrown_of (HCX.out _ _))))
    refine wpQuiet_nil ?_
    intro _ hw'
    obtain ⟨⟨dq, osq⟩, hw''⟩ := hw'
    subst hw''
    have hbq := below_regrown w1 dq osq
    have HB2 := Lib.hid (HB.out.trans (hbq.mono HB.out.size))
    clear r0R r0 r1R r1 r2R r2 r3R r3 r4R r4 r5R r5 r6R r6 r7R r7 s0R s0 s1R s1 s2R s2 s3R s3 s4R s4 s5R s5 s6R s6 s7R s7 z7R hbq
    generalize grow (redrawn w1 dq) osq = w3 at *
    go_wp2
    go_ret
    exact ⟨by rw [HE2.out]; rfl, by first | exact HB2.out | (have h9 := HB2.out; rw [hgx] at h9; exact h9)⟩
  have e15 : (xn == 15) = false := by rw [beq_eq_false_iff_ne]; exact t15
  by_cases t16 : xn = 16
  · subst t16
    have hlen := h2 (by omega)
    have x0 : (0 : Int) < (xl.length : Int) := by omega
    have x1 : (1 : Int) < (xl.length : Int) := by omega
    clear t1 t2 t17 t18 e1 e2 e17 e18 t11 e11 t12 e12 t13 e13 t14 e14 t15 e15
    obtain ⟨b0, o0, ha0, hb0, hr0, hx0⟩ := InRow.at hin1 (show 0 < xl.length by omega)
    subst ha0
    have hc0 := hc xl[0] (List.getElem_mem (by omega))
    obtain ⟨p0, hp0⟩ : ∃ p, ow xl[0] = p := ⟨_, rfl⟩
    obtain ⟨b1, o1, ha1, hb1, hr1, hx1⟩ := InRow.at hin1 (show 1 < xl.length by omega)
    simp only [Option.some.injEq, Addr.mk.injEq] at ha1
    obtain ⟨e1, e2, -⟩ := ha1
    subst e1 e2
    have hc1 := hc xl[1] (List.getElem_mem (by omega))
    obtain ⟨p1, hp1⟩ : ∃ p, ow xl[1] = p := ⟨_, rfl⟩
    have HE : Hid (R = eith p0 p1) := Lib.hid (by rw [← hR, ← hp0, ← hp1, ← owL_get xl 0 (by omega), ← owL_get xl 1 (by omega)]; simp [owO])
    clear hR h1 h2
    obtain ⟨q, hq⟩ : ∃ q, eith p0 p1 = q := ⟨_, rfl⟩
    have c9 := fun (dq : Nat) (os : Array Obj) => either_any xl[0] xl[1] n0 hc0 hc1 (grow (redrawn w1 dq) os) (Nat.le_trans hn1 (below_regrown w1 dq os).size) (ET.In.keep (Below.keptTo (below_regrown w1 dq os) hn1) _ hx0) (ET.In.keep (Below.keptTo (below_regrown w1 dq os) hn1) _ hx1)
    simp only [hp0, hp1, hq] at c9
    have HE2 : Hid (R = q) := Lib.hid (by rw [HE.out, hq])
    generalize hgy0 : xl[0] = y0 at *
    obtain ⟨op3, wd3, v3, sg3, uh3, ul3, xn3, xa3, xc3, xl3⟩ := y0
    have r0 : w1.cell? ⟨b0, o0, none⟩ = some (.int .i64 op3) := by have h9 := hr0 0 _ rfl; simpa using h9
    have r1 : w1.cell? ⟨b0, o0 + 1, none⟩ = some (.int .i64 wd3) := by have h9 := hr0 1 _ rfl; simpa using h9
    have r2 : w1.cell? ⟨b0, o0 + 2, none⟩ = some (.int .u64 (v3 : Int)) := by have h9 := hr0 2 _ rfl; simpa using h9
    have r3 : w1.cell? ⟨b0, o0 + 3, none⟩ = some (.int .i64 sg3) := by have h9 := hr0 3 _ rfl; simpa using h9
    have r4 : w1.cell? ⟨b0, o0 + 4, none⟩ = some (.int .i64 uh3) := by have h9 := hr0 4 _ rfl; simpa using h9
    have r5 : w1.cell? ⟨b0, o0 + 5, none⟩ = some (.int .i64 ul3) := by have h9 := hr0 5 _ rfl; simpa using h9
    have r6 : w1.cell? ⟨b0, o0 + 6, none⟩ = some (.int .i64 xn3) := by have h9 := hr0 6 _ rfl; simpa using h9
    have r7 : w1.cell? ⟨b0, o0 + 7, none⟩ = some (.slice xa3 xl3.length xc3) := by have h9 := hr0 7 _ rfl; simpa using h9
    generalize hgy1 : xl[1] = y1 at *
    obtain ⟨op4, wd4, v4, sg4, uh4, ul4, xn4, xa4, xc4, xl4⟩ := y1
    have s0 : w1.cell? ⟨b0, o0 + 8, none⟩ = some (.int .i64 op4) := by have h9 := hr1 0 _ rfl; simpa using h9
    have s1 : w1.cell? ⟨b0, o0 + 8 + 1, none⟩ = some (.int .i64 wd4) := by have h9 := hr1 1 _ rfl; simpa using h9
    have s2 : w1.cell? ⟨b0, o0 + 8 + 2, none⟩ = some (.int .u64 (v4 : Int)) := by have h9 := hr1 2 _ rfl; simpa using h9
    have s3 : w1.cell? ⟨b0, o0 + 8 + 3, none⟩ = some (.int .i64 sg4) := by have h9 := hr1 3 _ rfl; simpa using h9
    have s4 : w1.cell? ⟨b0, o0 + 8 + 4, none⟩ = some (.int .i64 uh4) := by have h9 := hr1 4 _ rfl; simpa using h9
    have s5 : w1.cell? ⟨b0, o0 + 8 + 5, none⟩ = some (.int .i64 ul4) := by have h9 := hr1 5 _ rfl; simpa using h9
    have s6 : w1.cell? ⟨b0, o0 + 8 + 6, none⟩ = some (.int .i64 xn4) := by have h9 := hr1 6 _ rfl; simpa using h9
    have s7 : w1.cell? ⟨b0, o0 + 8 + 7, none⟩ = some (.slice xa4 xl4.length xc4) := by have h9 := hr1 7 _ rfl; simpa using h9
    simp only [ET.val, ET.cells] at c9
    have HCX := Lib.hid c9
    have r0R := cell_regrown r0
    have r1R := cell_regrown r1
    have r2R := cell_regrown r2
    have r3R := cell_regrown r3
    have r4R := cell_regrown r4
    have r5R := cell_regrown r5
    have r6R := cell_regrown r6
    have r7R := cell_regrown r7
    have s0R := cell_regrown s0
    have s1R := cell_regrown s1
    have s2R := cell_regrown s2
    have s3R := cell_regrown s3
    have s4R := cell_regrown s4
    have s5R := cell_regrown s5
    have s6R := cell_regrown s6
    have s7R := cell_regrown s7
    have z7R := cell_regrown z7
    clear hr0 hr1 hx0 hx1 hc0 hc1 hc hin1 hgy0 hgy1 hb0 hb1 c9 hq hp0 hp1 HE
    go_enter Tryd.func91, Tryd.ntmps91
    go_wp2_with fail
    (try rw [hw1])
    (try rw [hgx])
    refine wp_region_quiet_below (by kernel_rfl) (by kernel_rfl) ?_
    repeat (go_big_quiet_step (first | (go_at_call 92; exact Calls.regrown_of (HCX.out _ _))))
    refine wpQuiet_nil ?_
    intro _ hw'
    obtain ⟨⟨dq, osq⟩, hw''⟩ := hw'
    subst hw''
    have hbq := below_regrown w1 dq osq
    have HB2 := Lib.hid (HB.out.trans (hbq.mono HB.out.size))
    clear r0R r0 r1R r1 r2R r2 r3R r3 r4R r4 r5R r5 r6R r6 r7R r7 s0R s0 s1R s1 s2R s2 s3R s3 s4R s4 s5R s5 s6R s6 s7R s7 z7R hbq
    generalize grow (redrawn w1 dq) osq = w3 at *
    go_wp2
    go_ret
    exact ⟨by rw [HE2.out]; rfl, by first | exact HB2.out | (have h9 := HB2.out; rw [hgx] at h9; exact h9)⟩
  have e16 : (xn == 16) = false := by rw [beq_eq_false_iff_ne]; exact t16
  have HE : Hid (R = 1) := Lib.hid (by rw [← hR, owO, if_neg (by omega), if_neg (by omega)])
  clear hR h1 h2 hc hin1 t1 t2 t17 t18 t11 t12 t13 t14 t15 t16
  go_enter Tryd.func91, Tryd.ntmps91
  go_wp2
  (try rw [hw1])
  go_ret
  exact ⟨by rw [HE.out]; rfl, by first | exact HB.out | (have h9 := HB.out; rw [hgx] at h9; exact h9) | (have h9 := HB.out; rw [← hw1] at h9; exact h9)⟩
end Go.Proofs.YtbcgeglkmpcnpaaDoor
