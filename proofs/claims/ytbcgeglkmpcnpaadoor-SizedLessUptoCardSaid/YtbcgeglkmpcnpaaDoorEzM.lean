/-
  sized: parts of a tree sized: bit, whole rows, a stretch of a row.
-/
import Derived.Test.YtbcgeglkmpcnpaaDoorEzL
namespace Go.Proofs.YtbcgeglkmpcnpaaDoor
open Go Go.RowKit
set_option linter.unusedVariables false
set_option linter.unusedSimpArgs false
open Go.Sort

theorem rowT_cells {t : TypeId} {W : World} {B : Nat} {pre post cs : List Value} (h : RowT t W B (pre ++ (cs ++ post))) (o : Nat) (ho : pre.length = o) : RowC W B o cs := by
  subst ho
  intro j v hj
  unfold RowT at h
  obtain ⟨hl, hv⟩ := List.getElem?_eq_some_iff.1 hj
  simp only [World.cell?, h]
  simp [List.getElem?_append, hl]
  exact hv
theorem rowM_cells {W : World} {B : Nat} {pre post cs : List Value} (h : RowM W B (pre ++ (cs ++ post))) (o : Nat) (ho : pre.length = o) : RowC W B o cs := rowT_cells h o ho
theorem rowM_in {W : World} {B : Nat} {n : Nat} (hB : B < n) {inn : ET → Prop} : ∀ (l : List ET) (pre post : List Value) (o : Nat), pre.length = o → RowM W B (pre ++ (flatE l ++ post)) → (∀ x ∈ l, inn x) → InRow 8 ET.cells inn n W l (some ⟨B, o, none⟩)
  | [], _, _, _, _, _, _ => by unfold InRow; trivial
  | x :: r, pre, post, o, ho, h, hi => by
    rw [flatE_cons, List.append_assoc] at h
    unfold InRow
    refine ⟨⟨B, o, rfl, hB, rowM_cells h o ho⟩, hi x (by simp), ?_⟩
    rw [← List.append_assoc] at h
    have h9 := rowM_in hB r (pre ++ x.cells) post (o + 8) (by rw [List.length_append, ET.cells_len, ho]) h (fun y hy => hi y (by simp [hy]))
    simpa [Addr.add] using h9
theorem ownL_in {W : World} : ∀ (l : List ET) (lo hi : Nat), (∀ x ∈ l, ∀ lo hi, x.Own W lo hi → x.In hi W) → ET.OwnL W lo hi l → ∀ x ∈ l, x.In hi W
  | [], _, _, _, _, x, hx => by cases hx
  | y :: r, lo, hi, hi2, h, x, hx => by
    rw [ET.OwnL] at h
    obtain ⟨m, h1, h2, h3⟩ := h
    rcases List.mem_cons.1 hx with e | e
    · subst e; exact ET.In.less h3.le _ (hi2 x (by simp) lo m h2)
    · exact ownL_in r m hi (fun z hz => hi2 z (by simp [hz])) h3 x e
theorem ET.Own.inn {W : World} : ∀ (x : ET) (lo hi : Nat), x.Own W lo hi → x.In hi W := by
  refine ET.ind ?_
  intro op wd v sg uh ul xn xa xc xl ih lo hi h
  rw [ET.In_mk]
  rw [ET.own_mk] at h
  rcases h with ⟨rfl, rfl, _⟩ | ⟨B, rfl, h2, h3, h4, h5, h6, h7⟩
  · unfold InRow; trivial
  · have h8 := ownL_in xl (B + 1) hi ih h7
    exact rowM_in h3 xl [] [] 0 rfl (by simpa using h6) h8
theorem OwnRow.inn {W : World} {lo hi : Nat} {xa : Option Addr} {xc : Nat} {xl : List ET} (h : OwnRow W lo hi xa xc xl) : InRow 8 ET.cells (ET.In hi W) hi W xl xa := (ET.In_mk hi W (op := 0) (wd := 0) (v := 0) (sg := 0) (uh := 0) (ul := 0) (xn := 0) (xc := xc)).1 (ET.Own.inn (.mk 0 0 0 0 0 0 0 xa xc xl) lo hi (ET.own_mk.2 h))
theorem ET.OwnL.split {W : World} : ∀ {a b : List ET} {lo hi : Nat}, ET.OwnL W lo hi (a ++ b) → ∃ m, ET.OwnL W lo m a ∧ ET.OwnL W m hi b
  | [], b, lo, hi, h => ⟨lo, by rw [ET.OwnL]; exact Nat.le_refl _, h⟩
  | x :: r, b, lo, hi, h => by
    rw [List.cons_append, ET.OwnL] at h
    obtain ⟨q, h1, h2, h3⟩ := h
    obtain ⟨m, h4, h5⟩ := h3.split
    exact ⟨m, by rw [ET.OwnL]; exact ⟨q, h1, h2, h4⟩, h5⟩
theorem ET.OwnL.join {W : World} : ∀ {a b : List ET} {lo m hi : Nat}, ET.OwnL W lo m a → ET.OwnL W m hi b → ET.OwnL W lo hi (a ++ b)
  | [], b, lo, m, hi, h, k => by
    rw [ET.OwnL] at h
    cases b with
    | nil => rw [ET.OwnL] at k; rw [List.nil_append, ET.OwnL]; omega
    | cons x r =>
      rw [ET.OwnL] at k
      obtain ⟨q, h1, h2, h3⟩ := k
      rw [List.nil_append, ET.OwnL]
      exact ⟨q, by omega, h2.wider h (Nat.le_refl _), h3⟩
  | x :: r, b, lo, m, hi, h, k => by
    rw [ET.OwnL] at h
    obtain ⟨q, h1, h2, h3⟩ := h
    rw [List.cons_append, ET.OwnL]
    exact ⟨q, h1, h2, h3.join k⟩
/-- The sizer does to a tree what it should, wherever the tree stands. -/
def SzOK (x : ET) : Prop := ∀ (tb : TypeId) (w0 : Int) (g b o lo hi : Nat) (pre post : List Value) (f : Int) (w : World), pre.length = o → hi ≤ w.heap.size → lo ≤ hi → ¬ (lo ≤ b ∧ b < hi) → ¬ (lo ≤ g ∧ g < hi) → g ≠ b → RowT tb w b (pre ++ (x.cells ++ post)) → x.Own w lo hi → SzAt g f w → Calls Tryd.prog 31 #[.pointer (some ⟨g, 0, none⟩), .pointer (some ⟨b, o, none⟩), .int .i64 w0] w (SzP tb g b lo hi pre post (szE x w0 f) w)
/-- The call tells how wide a tree is of its own. -/
def OwOK (x : ET) : Prop := ∀ (n0 : Nat) (w : World), n0 ≤ w.heap.size → x.In n0 w → Calls Tryd.prog 55 #[x.val] w fun e w' => e = .returned (.int .i64 (ow x)) ∧ Below w.heap.size w w'
set_option maxHeartbeats 8000000 in
set_option maxRecDepth 100000 in
theorem bit_of {tb : TypeId} (x : ET) (hsz : SzOK x) (how : OwOK x) (g b o lo hi : Nat) (pre post : List Value) (f : Int) (w : World) (hpl : pre.length = o) (hhi : hi ≤ w.heap.size) (hlh : lo ≤ hi) (hb : ¬ (lo ≤ b ∧ b < hi)) (hg : ¬ (lo ≤ g ∧ g < hi)) (hgb : g ≠ b) (hr : RowT tb w b (pre ++ (x.cells ++ post))) (ho : x.Own w lo hi) (hs : SzAt g f w) :
    Calls Tryd.prog 84 #[.pointer (some ⟨g, 0, none⟩), .pointer (some ⟨b, o, none⟩)] w (SzP tb g b lo hi pre post (szI x (true, 1) f) w) := by
  have c0 := how hi w hhi (ho.inn _ _ _)
  have hrc := rowT_cells hr o hpl
  have HC := Lib.hid (fun (w' : World) (f' : Int) (h1 : KeptP (Chg b g lo hi) w w') h2 h3 h4 => hsz tb 1 g b o lo hi pre post f' w' hpl (Nat.le_trans hhi h1.size) hlh hb hg hgb h2 h3 h4)
  have HX := Lib.hid (And.intro hr (And.intro ho (And.intro hs (And.intro hhi (And.intro hb (And.intro hg hgb))))))
  have HI : Hid (szI x (true, 1) f = szE x 1 (wantF f (ow x == 0 || ow x == 1) 91)) := Lib.hid rfl
  rw [HI.out]
  generalize ow x = p at *
  have HW := Lib.hid (fun (so : Bool) (w' : World) h => want_any g f so 91 w' h)
  clear hsz how hr ho hs hhi hb hg hgb hlh hpl
  obtain ⟨X, hX⟩ : ∃ X, X = x := ⟨x, rfl⟩
  rw [← hX] at HC HX HI ⊢
  obtain ⟨op, wd, v, sg, uh, ul, xn, xa, xc, xl⟩ := x
  simp only [ET.val, ET.cells] at c0
  have z0 : w.cell? ⟨b, o, none⟩ = some (.int .i64 op) := hrc 0 _ rfl
  have z1 : w.cell? ⟨b, o + 1, none⟩ = some (.int .i64 wd) := hrc 1 _ rfl
  have z2 : w.cell? ⟨b, o + 2, none⟩ = some (.int .u64 (v : Int)) := hrc 2 _ rfl
  have z3 : w.cell? ⟨b, o + 3, none⟩ = some (.int .i64 sg) := hrc 3 _ rfl
  have z4 : w.cell? ⟨b, o + 4, none⟩ = some (.int .i64 uh) := hrc 4 _ rfl
  have z5 : w.cell? ⟨b, o + 5, none⟩ = some (.int .i64 ul) := hrc 5 _ rfl
  have z6 : w.cell? ⟨b, o + 6, none⟩ = some (.int .i64 xn) := hrc 6 _ rfl
  have z7 : w.cell? ⟨b, o + 7, none⟩ = some (.slice xa xl.length xc) := hrc 7 _ rfl
  clear hrc
  by_cases t0 : p = 0
  · have e0 : (p == 0) = true := by rw [beq_iff_eq]; exact t0
    have HQ : Hid ((p == 0 || p == 1) = true) := Lib.hid (by rw [e0]; rfl)
    rw [HQ.out]
    clear t0
    go_enter Tryd.func84, Tryd.ntmps84
    go_wp2_with fail
    refine c0.mono ?_
    clear c0 z0 z1 z2 z3 z4 z5 z6 z7
    rintro e W1 ⟨rfl, hb1⟩
    have k1 : KeptP (Chg b g lo hi) w W1 := KeptP.of_below hb1
    have s1 : SzAt g f W1 := block_kept HX.out.2.2.1 hb1
    have c1 := HW.out true W1 s1
    have HK1 := Lib.hid (And.intro k1 hb1)
    clear k1 s1 hb1
    go_wp2_with fail
    refine c1.mono ?_
    clear c1
    rintro e W2 ⟨rfl, hk2, hs2⟩
    have k2 : KeptP (Chg b g lo hi) w W2 := HK1.out.1.trans (KeptP.of_kb1 hk2 (Or.inr (Or.inl rfl)))
    have hbl : b < w.heap.size := (Array.getElem?_eq_some_iff.1 HX.out.1).1
    have hrr : RowT tb W2 b (pre ++ (X.cells ++ post)) := HX.out.1.keep (by
      obtain ⟨_, _, _, _, _, _, hgb⟩ := HX.out
      rw [hk2.block b (by have := HK1.out.2.size; omega) (fun h => hgb h.symm), HK1.out.2.block b hbl])
    have hoo : X.Own W2 lo hi := ET.Own.keep X lo hi (fun q h1 h2 => by
      obtain ⟨_, _, _, hhi, _, hg, _⟩ := HX.out
      rw [hk2.block q (by have := HK1.out.2.size; omega) (fun h => hg (by omega)), HK1.out.2.block q (by omega)]) HX.out.2.1
    have c2 := HC.out W2 _ k2 hrr hoo hs2
    have HK2 := Lib.hid k2
    clear hk2 hs2 k2 hrr hoo hbl HK1
    go_wp2_with fail
    refine c2.mono ?_
    clear c2
    rintro e W3 ⟨rfl, hk3, hr3, ho3, hs3⟩
    have HP := Lib.hid (And.intro (HK2.out.trans hk3) (And.intro hr3 (And.intro ho3 hs3)))
    clear hk3 hr3 ho3 hs3
    go_wp2
    exact bodyPost_end (v := .tuple #[]) (by simp [results, Tryd.results84, go_sem]) rfl ⟨rfl, HP.out⟩
  · by_cases t1 : p = 1
    · have e0 : (p == 0) = false := by rw [beq_eq_false_iff_ne]; exact t0
      have e1 : (p == 1) = true := by rw [beq_iff_eq]; exact t1
      have HQ : Hid ((p == 0 || p == 1) = true) := Lib.hid (by rw [e0, e1]; rfl)
      rw [HQ.out]
      clear t0 t1
      go_enter Tryd.func84, Tryd.ntmps84
      go_wp2_with fail
      refine c0.mono ?_
      clear c0 z0 z1 z2 z3 z4 z5 z6 z7
      rintro e W1 ⟨rfl, hb1⟩
      have k1 : KeptP (Chg b g lo hi) w W1 := KeptP.of_below hb1
      have s1 : SzAt g f W1 := block_kept HX.out.2.2.1 hb1
      have c1 := HW.out true W1 s1
      have HK1 := Lib.hid (And.intro k1 hb1)
      clear k1 s1 hb1
      go_wp2_with fail
      refine c1.mono ?_
      clear c1
      rintro e W2 ⟨rfl, hk2, hs2⟩
      have k2 : KeptP (Chg b g lo hi) w W2 := HK1.out.1.trans (KeptP.of_kb1 hk2 (Or.inr (Or.inl rfl)))
      have hbl : b < w.heap.size := (Array.getElem?_eq_some_iff.1 HX.out.1).1
      have hrr : RowT tb W2 b (pre ++ (X.cells ++ post)) := HX.out.1.keep (by
        obtain ⟨_, _, _, _, _, _, hgb⟩ := HX.out
        rw [hk2.block b (by have := HK1.out.2.size; omega) (fun h => hgb h.symm), HK1.out.2.block b hbl])
      have hoo : X.Own W2 lo hi := ET.Own.keep X lo hi (fun q h1 h2 => by
        obtain ⟨_, _, _, hhi, _, hg, _⟩ := HX.out
        rw [hk2.block q (by have := HK1.out.2.size; omega) (fun h => hg (by omega)), HK1.out.2.block q (by omega)]) HX.out.2.1
      have c2 := HC.out W2 _ k2 hrr hoo hs2
      have HK2 := Lib.hid k2
      clear hk2 hs2 k2 hrr hoo hbl HK1
      go_wp2_with fail
      refine c2.mono ?_
      clear c2
      rintro e W3 ⟨rfl, hk3, hr3, ho3, hs3⟩
      have HP := Lib.hid (And.intro (HK2.out.trans hk3) (And.intro hr3 (And.intro ho3 hs3)))
      clear hk3 hr3 ho3 hs3
      go_wp2
      exact bodyPost_end (v := .tuple #[]) (by simp [results, Tryd.results84, go_sem]) rfl ⟨rfl, HP.out⟩
    · have e0 : (p == 0) = false := by rw [beq_eq_false_iff_ne]; exact t0
      have e1 : (p == 1) = false := by rw [beq_eq_false_iff_ne]; exact t1
      have HQ : Hid ((p == 0 || p == 1) = false) := Lib.hid (by rw [e0, e1]; rfl)
      rw [HQ.out]
      clear t0 t1
      go_enter Tryd.func84, Tryd.ntmps84
      go_wp2_with fail
      refine c0.mono ?_
      clear c0 z0 z1 z2 z3 z4 z5 z6 z7
      rintro e W1 ⟨rfl, hb1⟩
      have k1 : KeptP (Chg b g lo hi) w W1 := KeptP.of_below hb1
      have s1 : SzAt g f W1 := block_kept HX.out.2.2.1 hb1
      have c1 := HW.out false W1 s1
      have HK1 := Lib.hid (And.intro k1 hb1)
      clear k1 s1 hb1
      go_wp2_with fail
      refine c1.mono ?_
      clear c1
      rintro e W2 ⟨rfl, hk2, hs2⟩
      have k2 : KeptP (Chg b g lo hi) w W2 := HK1.out.1.trans (KeptP.of_kb1 hk2 (Or.inr (Or.inl rfl)))
      have hbl : b < w.heap.size := (Array.getElem?_eq_some_iff.1 HX.out.1).1
      have hrr : RowT tb W2 b (pre ++ (X.cells ++ post)) := HX.out.1.keep (by
        obtain ⟨_, _, _, _, _, _, hgb⟩ := HX.out
        rw [hk2.block b (by have := HK1.out.2.size; omega) (fun h => hgb h.symm), HK1.out.2.block b hbl])
      have hoo : X.Own W2 lo hi := ET.Own.keep X lo hi (fun q h1 h2 => by
        obtain ⟨_, _, _, hhi, _, hg, _⟩ := HX.out
        rw [hk2.block q (by have := HK1.out.2.size; omega) (fun h => hg (by omega)), HK1.out.2.block q (by omega)]) HX.out.2.1
      have c2 := HC.out W2 _ k2 hrr hoo hs2
      have HK2 := Lib.hid k2
      clear hk2 hs2 k2 hrr hoo hbl HK1
      go_wp2_with fail
      refine c2.mono ?_
      clear c2
      rintro e W3 ⟨rfl, hk3, hr3, ho3, hs3⟩
      have HP := Lib.hid (And.intro (HK2.out.trans hk3) (And.intro hr3 (And.intro ho3 hs3)))
      clear hk3 hr3 ho3 hs3
      go_wp2
      exact bodyPost_end (v := .tuple #[]) (by simp [results, Tryd.results84, go_sem]) rfl ⟨rfl, HP.out⟩
/-- What may change while the parts of a tree are sized: the sizer, the tree's own rows. -/
def Chp (g lo hi : Nat) (k : Nat) : Prop := k = g ∨ (lo ≤ k ∧ k < hi)
/-- What sizing a stretch of a tree's row leaves. -/
def PaP (g lo hi : Nat) (xa : Option Addr) (xc : Nat) (s1 : List ET) (r : List ET × Int) (s3 : List ET) (w : World) : Ending → World → Prop := fun e w' => e = .returned (.tuple #[]) ∧ KeptP (Chp g lo hi) w w' ∧ OwnRow w' lo hi xa xc (s1 ++ (r.1 ++ s3)) ∧ SzAt g r.2 w'
theorem sizeSome_any (w0 : Int) (g lo hi B : Nat) (s1 s2 s3 : List ET) (hll : s2.length ≤ 12000000) (hc : ∀ x ∈ s2, SzOK x) (c xc : Nat) (f : Int) (w : World) (hhi : hi ≤ w.heap.size) (hg : ¬ (lo ≤ g ∧ g < hi)) (ho : OwnRow w lo hi (some ⟨B, 0, none⟩) xc (s1 ++ (s2 ++ s3))) (hs : SzAt g f w) (o : Nat) (hpo : s1.length * 8 = o) :
    Calls Tryd.prog 61 #[.pointer (some ⟨g, 0, none⟩), .slice (some ⟨B, o, none⟩) s2.length c, .int .i64 w0] w (PaP g lo hi (some ⟨B, 0, none⟩) xc s1 (szL s2 0 (fun _ => (false, w0)) f) s3 w) := by
  rcases ho with ⟨_, h, _⟩ | ⟨B2, hB, h2, h3, h4, h5, h6, h7⟩
  · cases h
  simp only [Option.some.injEq, Addr.mk.injEq, and_true] at hB
  obtain rfl := hB
  obtain ⟨m1, o1, h8⟩ := h7.split
  obtain ⟨m2, o2, o3⟩ := h8.split
  have l1 := o1.le
  have l2 := o2.le
  have l3 := o3.le
  have hgB : g ≠ B := by omega
  rw [flatE_app, flatE_app] at h6
  refine (sizeAll_any (tb := 30) g B w0 hgB s2 hll (fun x hx o lo hi pre post f w h1 h2 h3 h4 h5 h6 h7 h8 => hc x hx _ w0 g B o lo hi pre post f w h1 h2 h3 h4 h5 hgB h6 h7 h8) o c m1 m2 (flatE s1) (flatE s3) f w (by rw [flatE_len, hpo]) (by omega) (by omega) (by omega) h6 o2 hs).mono ?_
  rintro e W1 ⟨rfl, k1, r1, p1, q1⟩
  refine ⟨rfl, k1.mono (fun k hk => by unfold Chg at hk; unfold Chp; omega), Or.inr ⟨B, rfl, h2, h3, ?_, ?_, ?_, ?_⟩, q1⟩
  · rw [h4]; simp [szL_len]
  · intro h; apply h5
    have h9 := congrArg List.length h
    simp [szL_len] at h9
    simp [h9]
  · rw [flatE_app, flatE_app]; exact r1
  · exact (o1.keep (k1.sameOn (by omega) (fun k ha hb => by unfold Chg; omega))).join (p1.join (o3.keep (k1.sameOn (by omega) (fun k ha hb => by unfold Chg; omega))))
theorem bitsSome_any  (g lo hi B : Nat) (s1 s2 s3 : List ET) (hll : s2.length ≤ 12000000) (hc : ∀ x ∈ s2, SzOK x ∧ OwOK x) (c xc : Nat) (f : Int) (w : World) (hhi : hi ≤ w.heap.size) (hg : ¬ (lo ≤ g ∧ g < hi)) (ho : OwnRow w lo hi (some ⟨B, 0, none⟩) xc (s1 ++ (s2 ++ s3))) (hs : SzAt g f w) (o : Nat) (hpo : s1.length * 8 = o) :
    Calls Tryd.prog 60 #[.pointer (some ⟨g, 0, none⟩), .slice (some ⟨B, o, none⟩) s2.length c] w (PaP g lo hi (some ⟨B, 0, none⟩) xc s1 (szL s2 0 (fun _ => (true, 1)) f) s3 w) := by
  rcases ho with ⟨_, h, _⟩ | ⟨B2, hB, h2, h3, h4, h5, h6, h7⟩
  · cases h
  simp only [Option.some.injEq, Addr.mk.injEq, and_true] at hB
  obtain rfl := hB
  obtain ⟨m1, o1, h8⟩ := h7.split
  obtain ⟨m2, o2, o3⟩ := h8.split
  have l1 := o1.le
  have l2 := o2.le
  have l3 := o3.le
  have hgB : g ≠ B := by omega
  rw [flatE_app, flatE_app] at h6
  refine (bits_any (tb := 30) g B hgB s2 hll (fun x hx o lo hi pre post f w h1 h2 h3 h4 h5 h6 h7 h8 => bit_of x (hc x hx).1 (hc x hx).2 g B o lo hi pre post f w h1 h2 h3 h4 h5 hgB h6 h7 h8) o c m1 m2 (flatE s1) (flatE s3) f w (by rw [flatE_len, hpo]) (by omega) (by omega) (by omega) h6 o2 hs).mono ?_
  rintro e W1 ⟨rfl, k1, r1, p1, q1⟩
  refine ⟨rfl, k1.mono (fun k hk => by unfold Chg at hk; unfold Chp; omega), Or.inr ⟨B, rfl, h2, h3, ?_, ?_, ?_, ?_⟩, q1⟩
  · rw [h4]; simp [szL_len]
  · intro h; apply h5
    have h9 := congrArg List.length h
    simp [szL_len] at h9
    simp [h9]
  · rw [flatE_app, flatE_app]; exact r1
  · exact (o1.keep (k1.sameOn (by omega) (fun k ha hb => by unfold Chg; omega))).join (p1.join (o3.keep (k1.sameOn (by omega) (fun k ha hb => by unfold Chg; omega))))
set_option maxHeartbeats 8000000 in
set_option maxRecDepth 100000 in
theorem sizeNil_any (g : Nat) (v : Value) (w0 : Int) (w : World) : Calls Tryd.prog 61 #[v, .slice none 0 0, .int .i64 w0] w fun e w' => e = .returned (.tuple #[]) ∧ w = w' := by
  go_enter Tryd.func61, Tryd.ntmps61
  go_wp2
  go_loopw [9] (fun u wr => u = .int .i64 0 ∧ wr = w) (fun u _ => 0)
  case atStart => exact ⟨rfl, rfl⟩
  case round =>
    obtain ⟨rfl, rfl⟩ := hrel
    go_wp2
    exact bodyPost_end (v := .tuple #[]) (by simp [results, Tryd.results61, go_sem]) rfl ⟨rfl, rfl⟩
/-- A whole row, empty or not. -/
theorem sizeRow_any (w0 : Int) (g lo hi : Nat) (xa : Option Addr) (xc : Nat) (xl : List ET) (hll : xl.length ≤ 12000000) (hc : ∀ x ∈ xl, SzOK x) (f : Int) (w : World) (hhi : hi ≤ w.heap.size) (hg : ¬ (lo ≤ g ∧ g < hi)) (ho : OwnRow w lo hi xa xc xl) (hs : SzAt g f w) :
    Calls Tryd.prog 61 #[.pointer (some ⟨g, 0, none⟩), .slice xa xl.length xc, .int .i64 w0] w (PaP g lo hi xa xc [] (szL xl 0 (fun _ => (false, w0)) f) [] w) := by
  by_cases hx : xl = []
  · subst hx
    have ho2 := ho
    rcases ho with ⟨_, rfl, rfl⟩ | ⟨B, h1, h2, h3, h4, h5, h6, h7⟩
    · refine (sizeNil_any g _ w0 w).mono ?_
      rintro e W1 ⟨rfl, rfl⟩
      refine ⟨rfl, KeptP.refl _ _, by simpa [szL] using ho2, by simpa [szL] using hs⟩
    · exact absurd rfl h5
  · have ho2 := ho
    rcases ho with ⟨h, _, _⟩ | ⟨B, rfl, h2, h3, h4, h5, h6, h7⟩
    · exact absurd h hx
    · exact sizeSome_any w0 g lo hi B [] xl [] hll hc xc xc f w hhi hg (by simpa using ho2) hs 0 (by simp)
end Go.Proofs.YtbcgeglkmpcnpaaDoor
