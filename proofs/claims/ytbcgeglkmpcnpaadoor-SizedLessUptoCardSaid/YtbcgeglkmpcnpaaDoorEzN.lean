/-
  sized: the parts of an operation sized.
-/
import Derived.Test.YtbcgeglkmpcnpaaDoorEzM
import Derived.StillTailTactics
import Derived.Lib.QuietBelow
import Derived.BigQuiet
namespace Go.Proofs.YtbcgeglkmpcnpaaDoor
open Go Go.RowKit
set_option linter.unusedVariables false
set_option linter.unusedSimpArgs false
open Go.Sort

/-- What sizing a tree's parts leaves. -/
def OpP (g lo hi : Nat) (xa : Option Addr) (xc : Nat) (r : List ET × Int) (w : World) : Ending → World → Prop := fun e w' => e = .returned (.tuple #[]) ∧ KeptP (Chp g lo hi) w w' ∧ OwnRow w' lo hi xa xc r.1 ∧ SzAt g r.2 w'
theorem KeptP.drew (p : Nat → Prop) (w : World) : KeptP p w w.drew := ⟨rfl, rfl, rfl, Nat.le_refl _, fun _ _ _ => rfl⟩
theorem OwnRow.keepP {W W' : World} {lo hi : Nat} {xa : Option Addr} {xc : Nat} {xl : List ET} (h : OwnRow W lo hi xa xc xl) (hs : ∀ k, lo ≤ k → k < hi → W'.heap[k]? = W.heap[k]?) : OwnRow W' lo hi xa xc xl := h.keep (fun k h1 h2 => hs k h1 h2)
theorem bitsRow_any (g lo hi : Nat) (xa : Option Addr) (xc : Nat) (xl : List ET) (hll : xl.length ≤ 12000000) (hx : 1 ≤ xl.length) (hc : ∀ x ∈ xl, SzOK x ∧ OwOK x) (f : Int) (w : World) (hhi : hi ≤ w.heap.size) (hg : ¬ (lo ≤ g ∧ g < hi)) (ho : OwnRow w lo hi xa xc xl) (hs : SzAt g f w) :
    Calls Tryd.prog 60 #[.pointer (some ⟨g, 0, none⟩), .slice xa xl.length xc] w (PaP g lo hi xa xc [] (szL xl 0 (fun _ => (true, 1)) f) [] w) := by
  have ho2 := ho
  rcases ho with ⟨h, _, _⟩ | ⟨B, rfl, h2, h3, h4, h5, h6, h7⟩
  · rw [h] at hx; simp at hx
  · exact bitsSome_any g lo hi B [] xl [] hll hc xc xc f w hhi hg (by simpa using ho2) hs 0 (by simp)
set_option maxHeartbeats 8000000 in
set_option maxRecDepth 100000 in
theorem operation_any {tb : TypeId} (g b o lo hi : Nat) (pre post : List Value) (wd : Int) (v : Nat) (op sg uh ul xn : Int) (xa : Option Addr) (xc : Nat) (xl : List ET) (hll : xl.length ≤ 12000000) (hsh : (xl.length = 1 ∧ 1 ≤ xn ∧ xn ≤ 6) ∨ (xl.length = 2 ∧ 11 ≤ xn ∧ xn ≤ 26)) (hc : ∀ x ∈ xl, SzOK x ∧ OwOK x) (f : Int) (w : World) (hpl : pre.length = o) (hhi : hi ≤ w.heap.size) (hlh : lo ≤ hi) (hb : ¬ (lo ≤ b ∧ b < hi)) (hg : ¬ (lo ≤ g ∧ g < hi)) (hgb : g ≠ b) (hr : RowT tb w b (pre ++ ((ET.mk op wd v sg uh ul xn xa xc xl).cells ++ post))) (ho : OwnRow w lo hi xa xc xl) (hs : SzAt g f w) :
    Calls Tryd.prog 59 #[.pointer (some ⟨g, 0, none⟩), .pointer (some ⟨b, o, none⟩)] w (OpP g lo hi xa xc (szL xl 0 (insF 4 xn wd (owL xl)) (preF 4 xn 0 wd 0 f)) w) := by
  obtain ⟨R, hR⟩ : ∃ R, szL xl 0 (insF 4 xn wd (owL xl)) (preF 4 xn 0 wd 0 f) = R := ⟨_, rfl⟩
  rw [hR]
  have hrc := rowT_cells hr o hpl
  have z0 : w.cell? ⟨b, o, none⟩ = some (.int .i64 op) := hrc 0 _ rfl
  have z1 : w.cell? ⟨b, o + 1, none⟩ = some (.int .i64 wd) := hrc 1 _ rfl
  have z2 : w.cell? ⟨b, o + 2, none⟩ = some (.int .u64 (v : Int)) := hrc 2 _ rfl
  have z3 : w.cell? ⟨b, o + 3, none⟩ = some (.int .i64 sg) := hrc 3 _ rfl
  have z4 : w.cell? ⟨b, o + 4, none⟩ = some (.int .i64 uh) := hrc 4 _ rfl
  have z5 : w.cell? ⟨b, o + 5, none⟩ = some (.int .i64 ul) := hrc 5 _ rfl
  have z6 : w.cell? ⟨b, o + 6, none⟩ = some (.int .i64 xn) := hrc 6 _ rfl
  have z7 : w.cell? ⟨b, o + 7, none⟩ = some (.slice xa xl.length xc) := hrc 7 _ rfl
  have HX := Lib.hid (And.intro hr (And.intro ho (And.intro hs (And.intro hhi (And.intro hb (And.intro hg hgb))))))
  have HL := Lib.hid (And.intro hll hlh)
  have HC := Lib.hid hc
  have HPL := Lib.hid hpl
  have HN : Hid (1 ≤ xl.length) := Lib.hid (by omega)
  clear hrc hr ho hs hhi hb hg hgb hll hlh hc hpl
  by_cases t1 : xn = 1
  · subst t1
    have HE : Hid (R = szL xl 0 (fun _ => (false, wd)) f) := Lib.hid (by rw [← hR, show preF 4 1 0 wd 0 f = f by simp [preF]]; exact szL_congr xl 0 0 _ _ f (fun j _ => by simp [insF]))
    clear hR hsh
    have c0 := sizeRow_any wd g lo hi xa xc xl HL.out.1 (fun x hx => (HC.out x hx).1) f w.drew HX.out.2.2.2.1 HX.out.2.2.2.2.2.1 (HX.out.2.1.keepP (fun _ _ _ => rfl)) (HX.out.2.2.1.keep rfl)
    have HD := Lib.hid (KeptP.drew (Chp g lo hi) w)
    go_enter Tryd.func59, Tryd.ntmps59
    go_upto_region 24 with (fail)
    go_still_tail 9, (by kernel_rfl)
    change wpList _ _ _ _ _ w.drew
    generalize w.drew = w2 at *
    go_wp2_with fail
    refine c0.mono ?_
    clear c0 z0 z1 z2 z3 z4 z5 z6 z7
    rintro e W1 ⟨rfl, k1, r1, s1⟩
    have HP : Hid (OpP g lo hi xa xc R w (.returned (.tuple #[])) W1) := Lib.hid (by
      rw [HE.out]
      exact ⟨rfl, HD.out.trans k1, by simpa using r1, s1⟩)
    clear k1 r1 s1
    go_wp2
    exact bodyPost_end (v := .tuple #[]) (by simp [results, Tryd.results59, go_sem]) rfl HP.out
  have e1 : (xn == 1) = false := by rw [beq_eq_false_iff_ne]; exact t1
  by_cases t2 : xn = 2
  · subst t2
    have HE : Hid (R = szL xl 0 (fun _ => (false, wd)) f) := Lib.hid (by rw [← hR, show preF 4 2 0 wd 0 f = f by simp [preF]]; exact szL_congr xl 0 0 _ _ f (fun j _ => by simp [insF]))
    clear hR hsh t1 e1
    have c0 := sizeRow_any wd g lo hi xa xc xl HL.out.1 (fun x hx => (HC.out x hx).1) f w.drew HX.out.2.2.2.1 HX.out.2.2.2.2.2.1 (HX.out.2.1.keepP (fun _ _ _ => rfl)) (HX.out.2.2.1.keep rfl)
    have HD := Lib.hid (KeptP.drew (Chp g lo hi) w)
    go_enter Tryd.func59, Tryd.ntmps59
    go_upto_region 24 with (fail)
    go_still_tail 9, (by kernel_rfl)
    change wpList _ _ _ _ _ w.drew
    generalize w.drew = w2 at *
    go_wp2_with fail
    refine c0.mono ?_
    clear c0 z0 z1 z2 z3 z4 z5 z6 z7
    rintro e W1 ⟨rfl, k1, r1, s1⟩
    have HP : Hid (OpP g lo hi xa xc R w (.returned (.tuple #[])) W1) := Lib.hid (by
      rw [HE.out]
      exact ⟨rfl, HD.out.trans k1, by simpa using r1, s1⟩)
    clear k1 r1 s1
    go_wp2
    exact bodyPost_end (v := .tuple #[]) (by simp [results, Tryd.results59, go_sem]) rfl HP.out
  have e2 : (xn == 2) = false := by rw [beq_eq_false_iff_ne]; exact t2
  by_cases t11 : xn = 11
  · subst t11
    have HE : Hid (R = szL xl 0 (fun _ => (false, wd)) f) := Lib.hid (by rw [← hR, show preF 4 11 0 wd 0 f = f by simp [preF]]; exact szL_congr xl 0 0 _ _ f (fun j _ => by simp [insF]))
    clear hR hsh t1 e1 t2 e2
    have c0 := sizeRow_any wd g lo hi xa xc xl HL.out.1 (fun x hx => (HC.out x hx).1) f w.drew HX.out.2.2.2.1 HX.out.2.2.2.2.2.1 (HX.out.2.1.keepP (fun _ _ _ => rfl)) (HX.out.2.2.1.keep rfl)
    have HD := Lib.hid (KeptP.drew (Chp g lo hi) w)
    go_enter Tryd.func59, Tryd.ntmps59
    go_upto_region 24 with (fail)
    go_still_tail 9, (by kernel_rfl)
    change wpList _ _ _ _ _ w.drew
    generalize w.drew = w2 at *
    go_wp2_with fail
    refine c0.mono ?_
    clear c0 z0 z1 z2 z3 z4 z5 z6 z7
    rintro e W1 ⟨rfl, k1, r1, s1⟩
    have HP : Hid (OpP g lo hi xa xc R w (.returned (.tuple #[])) W1) := Lib.hid (by
      rw [HE.out]
      exact ⟨rfl, HD.out.trans k1, by simpa using r1, s1⟩)
    clear k1 r1 s1
    go_wp2
    exact bodyPost_end (v := .tuple #[]) (by simp [results, Tryd.results59, go_sem]) rfl HP.out
  have e11 : (xn == 11) = false := by rw [beq_eq_false_iff_ne]; exact t11
  by_cases t12 : xn = 12
  · subst t12
    have HE : Hid (R = szL xl 0 (fun _ => (false, wd)) f) := Lib.hid (by rw [← hR, show preF 4 12 0 wd 0 f = f by simp [preF]]; exact szL_congr xl 0 0 _ _ f (fun j _ => by simp [insF]))
    clear hR hsh t1 e1 t2 e2 t11 e11
    have c0 := sizeRow_any wd g lo hi xa xc xl HL.out.1 (fun x hx => (HC.out x hx).1) f w.drew HX.out.2.2.2.1 HX.out.2.2.2.2.2.1 (HX.out.2.1.keepP (fun _ _ _ => rfl)) (HX.out.2.2.1.keep rfl)
    have HD := Lib.hid (KeptP.drew (Chp g lo hi) w)
    go_enter Tryd.func59, Tryd.ntmps59
    go_upto_region 24 with (fail)
    go_still_tail 9, (by kernel_rfl)
    change wpList _ _ _ _ _ w.drew
    generalize w.drew = w2 at *
    go_wp2_with fail
    refine c0.mono ?_
    clear c0 z0 z1 z2 z3 z4 z5 z6 z7
    rintro e W1 ⟨rfl, k1, r1, s1⟩
    have HP : Hid (OpP g lo hi xa xc R w (.returned (.tuple #[])) W1) := Lib.hid (by
      rw [HE.out]
      exact ⟨rfl, HD.out.trans k1, by simpa using r1, s1⟩)
    clear k1 r1 s1
    go_wp2
    exact bodyPost_end (v := .tuple #[]) (by simp [results, Tryd.results59, go_sem]) rfl HP.out
  have e12 : (xn == 12) = false := by rw [beq_eq_false_iff_ne]; exact t12
  by_cases t13 : xn = 13
  · subst t13
    have HE : Hid (R = szL xl 0 (fun _ => (false, wd)) f) := Lib.hid (by rw [← hR, show preF 4 13 0 wd 0 f = f by simp [preF]]; exact szL_congr xl 0 0 _ _ f (fun j _ => by simp [insF]))
    clear hR hsh t1 e1 t2 e2 t11 e11 t12 e12
    have c0 := sizeRow_any wd g lo hi xa xc xl HL.out.1 (fun x hx => (HC.out x hx).1) f w.drew HX.out.2.2.2.1 HX.out.2.2.2.2.2.1 (HX.out.2.1.keepP (fun _ _ _ => rfl)) (HX.out.2.2.1.keep rfl)
    have HD := Lib.hid (KeptP.drew (Chp g lo hi) w)
    go_enter Tryd.func59, Tryd.ntmps59
    go_upto_region 24 with (fail)
    go_still_tail 9, (by kernel_rfl)
    change wpList _ _ _ _ _ w.drew
    generalize w.drew = w2 at *
    go_wp2_with fail
    refine c0.mono ?_
    clear c0 z0 z1 z2 z3 z4 z5 z6 z7
    rintro e W1 ⟨rfl, k1, r1, s1⟩
    have HP : Hid (OpP g lo hi xa xc R w (.returned (.tuple #[])) W1) := Lib.hid (by
      rw [HE.out]
      exact ⟨rfl, HD.out.trans k1, by simpa using r1, s1⟩)
    clear k1 r1 s1
    go_wp2
    exact bodyPost_end (v := .tuple #[]) (by simp [results, Tryd.results59, go_sem]) rfl HP.out
  have e13 : (xn == 13) = false := by rw [beq_eq_false_iff_ne]; exact t13
  by_cases t14 : xn = 14
  · subst t14
    have HE : Hid (R = szL xl 0 (fun _ => (false, wd)) f) := Lib.hid (by rw [← hR, show preF 4 14 0 wd 0 f = f by simp [preF]]; exact szL_congr xl 0 0 _ _ f (fun j _ => by simp [insF]))
    clear hR hsh t1 e1 t2 e2 t11 e11 t12 e12 t13 e13
    have c0 := sizeRow_any wd g lo hi xa xc xl HL.out.1 (fun x hx => (HC.out x hx).1) f w.drew HX.out.2.2.2.1 HX.out.2.2.2.2.2.1 (HX.out.2.1.keepP (fun _ _ _ => rfl)) (HX.out.2.2.1.keep rfl)
    have HD := Lib.hid (KeptP.drew (Chp g lo hi) w)
    go_enter Tryd.func59, Tryd.ntmps59
    go_upto_region 24 with (fail)
    go_still_tail 9, (by kernel_rfl)
    change wpList _ _ _ _ _ w.drew
    generalize w.drew = w2 at *
    go_wp2_with fail
    refine c0.mono ?_
    clear c0 z0 z1 z2 z3 z4 z5 z6 z7
    rintro e W1 ⟨rfl, k1, r1, s1⟩
    have HP : Hid (OpP g lo hi xa xc R w (.returned (.tuple #[])) W1) := Lib.hid (by
      rw [HE.out]
      exact ⟨rfl, HD.out.trans k1, by simpa using r1, s1⟩)
    clear k1 r1 s1
    go_wp2
    exact bodyPost_end (v := .tuple #[]) (by simp [results, Tryd.results59, go_sem]) rfl HP.out
  have e14 : (xn == 14) = false := by rw [beq_eq_false_iff_ne]; exact t14
  by_cases t15 : xn = 15
  · subst t15
    have HE : Hid (R = szL xl 0 (fun _ => (false, wd)) f) := Lib.hid (by rw [← hR, show preF 4 15 0 wd 0 f = f by simp [preF]]; exact szL_congr xl 0 0 _ _ f (fun j _ => by simp [insF]))
    clear hR hsh t1 e1 t2 e2 t11 e11 t12 e12 t13 e13 t14 e14
    have c0 := sizeRow_any wd g lo hi xa xc xl HL.out.1 (fun x hx => (HC.out x hx).1) f w.drew HX.out.2.2.2.1 HX.out.2.2.2.2.2.1 (HX.out.2.1.keepP (fun _ _ _ => rfl)) (HX.out.2.2.1.keep rfl)
    have HD := Lib.hid (KeptP.drew (Chp g lo hi) w)
    go_enter Tryd.func59, Tryd.ntmps59
    go_upto_region 24 with (fail)
    go_still_tail 9, (by kernel_rfl)
    change wpList _ _ _ _ _ w.drew
    generalize w.drew = w2 at *
    go_wp2_with fail
    refine c0.mono ?_
    clear c0 z0 z1 z2 z3 z4 z5 z6 z7
    rintro e W1 ⟨rfl, k1, r1, s1⟩
    have HP : Hid (OpP g lo hi xa xc R w (.returned (.tuple #[])) W1) := Lib.hid (by
      rw [HE.out]
      exact ⟨rfl, HD.out.trans k1, by simpa using r1, s1⟩)
    clear k1 r1 s1
    go_wp2
    exact bodyPost_end (v := .tuple #[]) (by simp [results, Tryd.results59, go_sem]) rfl HP.out
  have e15 : (xn == 15) = false := by rw [beq_eq_false_iff_ne]; exact t15
  by_cases t16 : xn = 16
  · subst t16
    have HE : Hid (R = szL xl 0 (fun _ => (false, wd)) f) := Lib.hid (by rw [← hR, show preF 4 16 0 wd 0 f = f by simp [preF]]; exact szL_congr xl 0 0 _ _ f (fun j _ => by simp [insF]))
    clear hR hsh t1 e1 t2 e2 t11 e11 t12 e12 t13 e13 t14 e14 t15 e15
    have c0 := sizeRow_any wd g lo hi xa xc xl HL.out.1 (fun x hx => (HC.out x hx).1) f w.drew HX.out.2.2.2.1 HX.out.2.2.2.2.2.1 (HX.out.2.1.keepP (fun _ _ _ => rfl)) (HX.out.2.2.1.keep rfl)
    have HD := Lib.hid (KeptP.drew (Chp g lo hi) w)
    go_enter Tryd.func59, Tryd.ntmps59
    go_upto_region 24 with (fail)
    go_still_tail 9, (by kernel_rfl)
    change wpList _ _ _ _ _ w.drew
    generalize w.drew = w2 at *
    go_wp2_with fail
    refine c0.mono ?_
    clear c0 z0 z1 z2 z3 z4 z5 z6 z7
    rintro e W1 ⟨rfl, k1, r1, s1⟩
    have HP : Hid (OpP g lo hi xa xc R w (.returned (.tuple #[])) W1) := Lib.hid (by
      rw [HE.out]
      exact ⟨rfl, HD.out.trans k1, by simpa using r1, s1⟩)
    clear k1 r1 s1
    go_wp2
    exact bodyPost_end (v := .tuple #[]) (by simp [results, Tryd.results59, go_sem]) rfl HP.out
  have e16 : (xn == 16) = false := by rw [beq_eq_false_iff_ne]; exact t16
  by_cases t17 : xn = 17
  · subst t17
    have h2 : xl.length = 2 := by omega
    obtain ⟨p, q, rfl⟩ : ∃ p q, xl = [p, q] := by
      match xl, h2 with
      | [p, q], _ => exact ⟨p, q, rfl⟩
    clear h2
    have ho9 := HX.out.2.1
    rcases ho9 with ⟨h, _, _⟩ | ⟨B, rfl, h2, h3, hxc, h5, h6, h7⟩
    · cases h
    simp only [List.length_cons, List.length_nil] at hxc
    subst hxc
    clear h2 h3 h5 h6 h7
    have HE : Hid (R = ((szL [p] 0 (fun _ => (false, wd)) f).1 ++ (szL [q] 0 (fun _ => (false, 0)) (szL [p] 0 (fun _ => (false, wd)) f).2).1, (szL [q] 0 (fun _ => (false, 0)) (szL [p] 0 (fun _ => (false, wd)) f).2).2)) := Lib.hid (by rw [← hR, show preF 4 17 0 wd 0 f = f by simp [preF]]; simp [szL_cons, szL, insF])
    clear hR hsh t1 e1 t2 e2 t11 e11 t12 e12 t13 e13 t14 e14 t15 e15 t16 e16
    have c0 := sizeSome_any wd g lo hi B [] [p] [q] (by simp) (fun x hx => (HC.out x (by simp at hx; simp [hx])).1) 2 2 f w.drew HX.out.2.2.2.1 HX.out.2.2.2.2.2.1 (by simpa using HX.out.2.1.keepP (W' := w.drew) (fun _ _ _ => rfl)) (HX.out.2.2.1.keep rfl) 0 (by simp)
    simp only [List.length_cons, List.length_nil, Nat.zero_add] at c0
    have HD := Lib.hid (KeptP.drew (Chp g lo hi) w)
    simp only [List.length_cons, List.length_nil, Nat.zero_add] at z7
    go_enter Tryd.func59, Tryd.ntmps59
    go_upto_region 25 with (fail)
    go_still_tail 10, (by kernel_rfl)
    change wpList _ _ _ _ _ w.drew
    generalize w.drew = w2 at *
    go_wp2_with fail
    refine c0.mono ?_
    clear c0 z0 z1 z2 z3 z4 z5 z6 z7
    rintro e W1 ⟨rfl, k1, r1, s1⟩
    have k0 := HD.out.trans k1
    have hbl : b < w.heap.size := (Array.getElem?_eq_some_iff.1 HX.out.1).1
    have hr1 : RowT tb W1 b (pre ++ ((ET.mk op wd v sg uh ul 17 (some ⟨B, 0, none⟩) 2 [p, q]).cells ++ post)) := HX.out.1.keep (k0.block b hbl (fun h => by unfold Chp at h; have h8 := HX.out.2.2.2.2.2.2; have h9 := HX.out.2.2.2.2.1; omega))
    have hrc := rowT_cells hr1 o HPL.out
    have z7 : W1.cell? ⟨b, o + 7, none⟩ = some (.slice (some ⟨B, 0, none⟩) 2 2) := hrc 7 _ rfl
    have HK := Lib.hid k0
    have hln := szL_len [p] 0 (fun _ => (false, wd)) f
    have c1 := fun ys (hys : ys = (szL [p] 0 (fun _ => (false, wd)) f).1) => sizeSome_any 0 g lo hi B ys [q] [] (by simp) (fun x hx => (HC.out x (by simp at hx; simp [hx])).1) 1 2 (szL [p] 0 (fun _ => (false, wd)) f).2 W1 (Nat.le_trans HX.out.2.2.2.1 k0.size) HX.out.2.2.2.2.2.1 (by rw [hys]; simpa using r1) s1 8 (by rw [hys, hln]; rfl)
    have c2 := c1 _ rfl
    simp only [List.length_cons, List.length_nil, Nat.zero_add] at c2
    clear hbl hr1 hrc k0 k1 r1 s1 hln c1
    go_wp2_with fail
    refine c2.mono ?_
    clear c2 z7
    rintro e W2 ⟨rfl, k2, r2, s2⟩
    have HP : Hid (OpP g lo hi (some ⟨B, 0, none⟩) 2 R w (.returned (.tuple #[])) W2) := Lib.hid (by
      rw [HE.out]
      exact ⟨rfl, HK.out.trans k2, by simpa using r2, s2⟩)
    clear k2 r2 s2
    go_wp2
    exact bodyPost_end (v := .tuple #[]) (by simp [results, Tryd.results59, go_sem]) rfl HP.out
  have e17 : (xn == 17) = false := by rw [beq_eq_false_iff_ne]; exact t17
  by_cases t18 : xn = 18
  · subst t18
    have h2 : xl.length = 2 := by omega
    obtain ⟨p, q, rfl⟩ : ∃ p q, xl = [p, q] := by
      match xl, h2 with
      | [p, q], _ => exact ⟨p, q, rfl⟩
    clear h2
    have ho9 := HX.out.2.1
    rcases ho9 with ⟨h, _, _⟩ | ⟨B, rfl, h2, h3, hxc, h5, h6, h7⟩
    · cases h
    simp only [List.length_cons, List.length_nil] at hxc
    subst hxc
    clear h2 h3 h5 h6 h7
    have HE : Hid (R = ((szL [p] 0 (fun _ => (false, wd)) f).1 ++ (szL [q] 0 (fun _ => (false, 0)) (szL [p] 0 (fun _ => (false, wd)) f).2).1, (szL [q] 0 (fun _ => (false, 0)) (szL [p] 0 (fun _ => (false, wd)) f).2).2)) := Lib.hid (by rw [← hR, show preF 4 18 0 wd 0 f = f by simp [preF]]; simp [szL_cons, szL, insF])
    clear hR hsh t1 e1 t2 e2 t11 e11 t12 e12 t13 e13 t14 e14 t15 e15 t16 e16 t17 e17
    have c0 := sizeSome_any wd g lo hi B [] [p] [q] (by simp) (fun x hx => (HC.out x (by simp at hx; simp [hx])).1) 2 2 f w.drew HX.out.2.2.2.1 HX.out.2.2.2.2.2.1 (by simpa using HX.out.2.1.keepP (W' := w.drew) (fun _ _ _ => rfl)) (HX.out.2.2.1.keep rfl) 0 (by simp)
    simp only [List.length_cons, List.length_nil, Nat.zero_add] at c0
    have HD := Lib.hid (KeptP.drew (Chp g lo hi) w)
    simp only [List.length_cons, List.length_nil, Nat.zero_add] at z7
    go_enter Tryd.func59, Tryd.ntmps59
    go_upto_region 25 with (fail)
    go_still_tail 10, (by kernel_rfl)
    change wpList _ _ _ _ _ w.drew
    generalize w.drew = w2 at *
    go_wp2_with fail
    refine c0.mono ?_
    clear c0 z0 z1 z2 z3 z4 z5 z6 z7
    rintro e W1 ⟨rfl, k1, r1, s1⟩
    have k0 := HD.out.trans k1
    have hbl : b < w.heap.size := (Array.getElem?_eq_some_iff.1 HX.out.1).1
    have hr1 : RowT tb W1 b (pre ++ ((ET.mk op wd v sg uh ul 18 (some ⟨B, 0, none⟩) 2 [p, q]).cells ++ post)) := HX.out.1.keep (k0.block b hbl (fun h => by unfold Chp at h; have h8 := HX.out.2.2.2.2.2.2; have h9 := HX.out.2.2.2.2.1; omega))
    have hrc := rowT_cells hr1 o HPL.out
    have z7 : W1.cell? ⟨b, o + 7, none⟩ = some (.slice (some ⟨B, 0, none⟩) 2 2) := hrc 7 _ rfl
    have HK := Lib.hid k0
    have hln := szL_len [p] 0 (fun _ => (false, wd)) f
    have c1 := fun ys (hys : ys = (szL [p] 0 (fun _ => (false, wd)) f).1) => sizeSome_any 0 g lo hi B ys [q] [] (by simp) (fun x hx => (HC.out x (by simp at hx; simp [hx])).1) 1 2 (szL [p] 0 (fun _ => (false, wd)) f).2 W1 (Nat.le_trans HX.out.2.2.2.1 k0.size) HX.out.2.2.2.2.2.1 (by rw [hys]; simpa using r1) s1 8 (by rw [hys, hln]; rfl)
    have c2 := c1 _ rfl
    simp only [List.length_cons, List.length_nil, Nat.zero_add] at c2
    clear hbl hr1 hrc k0 k1 r1 s1 hln c1
    go_wp2_with fail
    refine c2.mono ?_
    clear c2 z7
    rintro e W2 ⟨rfl, k2, r2, s2⟩
    have HP : Hid (OpP g lo hi (some ⟨B, 0, none⟩) 2 R w (.returned (.tuple #[])) W2) := Lib.hid (by
      rw [HE.out]
      exact ⟨rfl, HK.out.trans k2, by simpa using r2, s2⟩)
    clear k2 r2 s2
    go_wp2
    exact bodyPost_end (v := .tuple #[]) (by simp [results, Tryd.results59, go_sem]) rfl HP.out
  have e18 : (xn == 18) = false := by rw [beq_eq_false_iff_ne]; exact t18
  by_cases t6 : xn = 6
  · subst t6
    have HE : Hid (R = szL xl 0 (fun _ => (true, 1)) (wantF f (wd == 1) 90)) := Lib.hid (by rw [← hR, show preF 4 6 0 wd 0 f = wantF f (wd == 1) 90 by simp [preF]]; exact szL_congr xl 0 0 _ _ _ (fun j _ => by simp [insF]))
    clear hR hsh t1 e1 t2 e2 t11 e11 t12 e12 t13 e13 t14 e14 t15 e15 t16 e16 t17 e17 t18 e18
    have HW := Lib.hid (fun (so : Bool) => want_any g f so 90 w HX.out.2.2.1)
    by_cases t0 : wd = 1
    · have e0 : (wd == 1) = true := by rw [beq_iff_eq]; exact t0
      rw [e0] at HE
      have HT := Lib.hid t0
      clear t0
      have c0 := HW.out true
      go_enter Tryd.func59, Tryd.ntmps59
      go_wp2_with fail
      refine c0.mono ?_
      clear c0 z0 z1 z2 z3 z4 z5 z6 z7
      rintro e W1 ⟨rfl, k1, s1⟩
      have hbl : b < w.heap.size := (Array.getElem?_eq_some_iff.1 HX.out.1).1
      have hr1 : RowT tb W1 b (pre ++ ((ET.mk op wd v sg uh ul 6 xa xc xl).cells ++ post)) := HX.out.1.keep (k1.block b hbl (fun h => HX.out.2.2.2.2.2.2 h.symm))
      have hrc := rowT_cells hr1 o HPL.out
      have z0 : W1.cell? ⟨b, o, none⟩ = some (.int .i64 op) := hrc 0 _ rfl
      have z1 : W1.cell? ⟨b, o + 1, none⟩ = some (.int .i64 wd) := hrc 1 _ rfl
      have z2 : W1.cell? ⟨b, o + 2, none⟩ = some (.int .u64 (v : Int)) := hrc 2 _ rfl
      have z3 : W1.cell? ⟨b, o + 3, none⟩ = some (.int .i64 sg) := hrc 3 _ rfl
      have z4 : W1.cell? ⟨b, o + 4, none⟩ = some (.int .i64 uh) := hrc 4 _ rfl
      have z5 : W1.cell? ⟨b, o + 5, none⟩ = some (.int .i64 ul) := hrc 5 _ rfl
      have z6 : W1.cell? ⟨b, o + 6, none⟩ = some (.int .i64 6) := hrc 6 _ rfl
      have z7 : W1.cell? ⟨b, o + 7, none⟩ = some (.slice xa xl.length xc) := hrc 7 _ rfl
      have c1 := bitsRow_any g lo hi xa xc xl HL.out.1 (by have := HN.out; omega) HC.out (wantF f true 90) W1 (Nat.le_trans HX.out.2.2.2.1 k1.size) HX.out.2.2.2.2.2.1 (HX.out.2.1.keepP (fun k h1 h2 => k1.block k (by have := HX.out.2.2.2.1; omega) (by have := HX.out.2.2.2.2.2.1; omega))) s1
      have HK := Lib.hid (KeptP.of_kb1 (p := Chp g lo hi) k1 (Or.inl rfl))
      clear hbl hr1 hrc k1 s1
      go_wp2_with fail
      refine c1.mono ?_
      clear c1 z0 z1 z2 z3 z4 z5 z6 z7
      rintro e W2 ⟨rfl, k2, r2, s2⟩
      have HP : Hid (OpP g lo hi xa xc R w (.returned (.tuple #[])) W2) := Lib.hid (by
        rw [HE.out]
        exact ⟨rfl, HK.out.trans k2, by simpa using r2, s2⟩)
      clear k2 r2 s2
      go_wp2
      exact bodyPost_end (v := .tuple #[]) (by simp [results, Tryd.results59, go_sem]) rfl HP.out
    · have e0 : (wd == 1) = false := by rw [beq_eq_false_iff_ne]; exact t0
      rw [e0] at HE
      clear t0
      have c0 := HW.out false
      go_enter Tryd.func59, Tryd.ntmps59
      go_wp2_with fail
      refine c0.mono ?_
      clear c0 z0 z1 z2 z3 z4 z5 z6 z7
      rintro e W1 ⟨rfl, k1, s1⟩
      have hbl : b < w.heap.size := (Array.getElem?_eq_some_iff.1 HX.out.1).1
      have hr1 : RowT tb W1 b (pre ++ ((ET.mk op wd v sg uh ul 6 xa xc xl).cells ++ post)) := HX.out.1.keep (k1.block b hbl (fun h => HX.out.2.2.2.2.2.2 h.symm))
      have hrc := rowT_cells hr1 o HPL.out
      have z0 : W1.cell? ⟨b, o, none⟩ = some (.int .i64 op) := hrc 0 _ rfl
      have z1 : W1.cell? ⟨b, o + 1, none⟩ = some (.int .i64 wd) := hrc 1 _ rfl
      have z2 : W1.cell? ⟨b, o + 2, none⟩ = some (.int .u64 (v : Int)) := hrc 2 _ rfl
      have z3 : W1.cell? ⟨b, o + 3, none⟩ = some (.int .i64 sg) := hrc 3 _ rfl
      have z4 : W1.cell? ⟨b, o + 4, none⟩ = some (.int .i64 uh) := hrc 4 _ rfl
      have z5 : W1.cell? ⟨b, o + 5, none⟩ = some (.int .i64 ul) := hrc 5 _ rfl
      have z6 : W1.cell? ⟨b, o + 6, none⟩ = some (.int .i64 6) := hrc 6 _ rfl
      have z7 : W1.cell? ⟨b, o + 7, none⟩ = some (.slice xa xl.length xc) := hrc 7 _ rfl
      have c1 := bitsRow_any g lo hi xa xc xl HL.out.1 (by have := HN.out; omega) HC.out (wantF f false 90) W1 (Nat.le_trans HX.out.2.2.2.1 k1.size) HX.out.2.2.2.2.2.1 (HX.out.2.1.keepP (fun k h1 h2 => k1.block k (by have := HX.out.2.2.2.1; omega) (by have := HX.out.2.2.2.2.2.1; omega))) s1
      have HK := Lib.hid (KeptP.of_kb1 (p := Chp g lo hi) k1 (Or.inl rfl))
      clear hbl hr1 hrc k1 s1
      go_wp2_with fail
      refine c1.mono ?_
      clear c1 z0 z1 z2 z3 z4 z5 z6 z7
      rintro e W2 ⟨rfl, k2, r2, s2⟩
      have HP : Hid (OpP g lo hi xa xc R w (.returned (.tuple #[])) W2) := Lib.hid (by
        rw [HE.out]
        exact ⟨rfl, HK.out.trans k2, by simpa using r2, s2⟩)
      clear k2 r2 s2
      go_wp2
      exact bodyPost_end (v := .tuple #[]) (by simp [results, Tryd.results59, go_sem]) rfl HP.out
  have e6 : (xn == 6) = false := by rw [beq_eq_false_iff_ne]; exact t6
  by_cases t25 : xn = 25
  · subst t25
    have HE : Hid (R = szL xl 0 (fun _ => (true, 1)) (wantF f (wd == 1) 90)) := Lib.hid (by rw [← hR, show preF 4 25 0 wd 0 f = wantF f (wd == 1) 90 by simp [preF]]; exact szL_congr xl 0 0 _ _ _ (fun j _ => by simp [insF]))
    clear hR hsh t1 e1 t2 e2 t11 e11 t12 e12 t13 e13 t14 e14 t15 e15 t16 e16 t17 e17 t18 e18 t6 e6
    have HW := Lib.hid (fun (so : Bool) => want_any g f so 90 w HX.out.2.2.1)
    by_cases t0 : wd = 1
    · have e0 : (wd == 1) = true := by rw [beq_iff_eq]; exact t0
      rw [e0] at HE
      have HT := Lib.hid t0
      clear t0
      have c0 := HW.out true
      go_enter Tryd.func59, Tryd.ntmps59
      go_wp2_with fail
      refine c0.mono ?_
      clear c0 z0 z1 z2 z3 z4 z5 z6 z7
      rintro e W1 ⟨rfl, k1, s1⟩
      have hbl : b < w.heap.size := (Array.getElem?_eq_some_iff.1 HX.out.1).1
      have hr1 : RowT tb W1 b (pre ++ ((ET.mk op wd v sg uh ul 25 xa xc xl).cells ++ post)) := HX.out.1.keep (k1.block b hbl (fun h => HX.out.2.2.2.2.2.2 h.symm))
      have hrc := rowT_cells hr1 o HPL.out
      have z0 : W1.cell? ⟨b, o, none⟩ = some (.int .i64 op) := hrc 0 _ rfl
      have z1 : W1.cell? ⟨b, o + 1, none⟩ = some (.int .i64 wd) := hrc 1 _ rfl
      have z2 : W1.cell? ⟨b, o + 2, none⟩ = some (.int .u64 (v : Int)) := hrc 2 _ rfl
      have z3 : W1.cell? ⟨b, o + 3, none⟩ = some (.int .i64 sg) := hrc 3 _ rfl
      have z4 : W1.cell? ⟨b, o + 4, none⟩ = some (.int .i64 uh) := hrc 4 _ rfl
      have z5 : W1.cell? ⟨b, o + 5, none⟩ = some (.int .i64 ul) := hrc 5 _ rfl
      have z6 : W1.cell? ⟨b, o + 6, none⟩ = some (.int .i64 25) := hrc 6 _ rfl
      have z7 : W1.cell? ⟨b, o + 7, none⟩ = some (.slice xa xl.length xc) := hrc 7 _ rfl
      have c1 := bitsRow_any g lo hi xa xc xl HL.out.1 (by have := HN.out; omega) HC.out (wantF f true 90) W1 (Nat.le_trans HX.out.2.2.2.1 k1.size) HX.out.2.2.2.2.2.1 (HX.out.2.1.keepP (fun k h1 h2 => k1.block k (by have := HX.out.2.2.2.1; omega) (by have := HX.out.2.2.2.2.2.1; omega))) s1
      have HK := Lib.hid (KeptP.of_kb1 (p := Chp g lo hi) k1 (Or.inl rfl))
      clear hbl hr1 hrc k1 s1
      go_wp2_with fail
      refine c1.mono ?_
      clear c1 z0 z1 z2 z3 z4 z5 z6 z7
      rintro e W2 ⟨rfl, k2, r2, s2⟩
      have HP : Hid (OpP g lo hi xa xc R w (.returned (.tuple #[])) W2) := Lib.hid (by
        rw [HE.out]
        exact ⟨rfl, HK.out.trans k2, by simpa using r2, s2⟩)
      clear k2 r2 s2
      go_wp2
      exact bodyPost_end (v := .tuple #[]) (by simp [results, Tryd.results59, go_sem]) rfl HP.out
    · have e0 : (wd == 1) = false := by rw [beq_eq_false_iff_ne]; exact t0
      rw [e0] at HE
      clear t0
      have c0 := HW.out false
      go_enter Tryd.func59, Tryd.ntmps59
      go_wp2_with fail
      refine c0.mono ?_
      clear c0 z0 z1 z2 z3 z4 z5 z6 z7
      rintro e W1 ⟨rfl, k1, s1⟩
      have hbl : b < w.heap.size := (Array.getElem?_eq_some_iff.1 HX.out.1).1
      have hr1 : RowT tb W1 b (pre ++ ((ET.mk op wd v sg uh ul 25 xa xc xl).cells ++ post)) := HX.out.1.keep (k1.block b hbl (fun h => HX.out.2.2.2.2.2.2 h.symm))
      have hrc := rowT_cells hr1 o HPL.out
      have z0 : W1.cell? ⟨b, o, none⟩ = some (.int .i64 op) := hrc 0 _ rfl
      have z1 : W1.cell? ⟨b, o + 1, none⟩ = some (.int .i64 wd) := hrc 1 _ rfl
      have z2 : W1.cell? ⟨b, o + 2, none⟩ = some (.int .u64 (v : Int)) := hrc 2 _ rfl
      have z3 : W1.cell? ⟨b, o + 3, none⟩ = some (.int .i64 sg) := hrc 3 _ rfl
      have z4 : W1.cell? ⟨b, o + 4, none⟩ = some (.int .i64 uh) := hrc 4 _ rfl
      have z5 : W1.cell? ⟨b, o + 5, none⟩ = some (.int .i64 ul) := hrc 5 _ rfl
      have z6 : W1.cell? ⟨b, o + 6, none⟩ = some (.int .i64 25) := hrc 6 _ rfl
      have z7 : W1.cell? ⟨b, o + 7, none⟩ = some (.slice xa xl.length xc) := hrc 7 _ rfl
      have c1 := bitsRow_any g lo hi xa xc xl HL.out.1 (by have := HN.out; omega) HC.out (wantF f false 90) W1 (Nat.le_trans HX.out.2.2.2.1 k1.size) HX.out.2.2.2.2.2.1 (HX.out.2.1.keepP (fun k h1 h2 => k1.block k (by have := HX.out.2.2.2.1; omega) (by have := HX.out.2.2.2.2.2.1; omega))) s1
      have HK := Lib.hid (KeptP.of_kb1 (p := Chp g lo hi) k1 (Or.inl rfl))
      clear hbl hr1 hrc k1 s1
      go_wp2_with fail
      refine c1.mono ?_
      clear c1 z0 z1 z2 z3 z4 z5 z6 z7
      rintro e W2 ⟨rfl, k2, r2, s2⟩
      have HP : Hid (OpP g lo hi xa xc R w (.returned (.tuple #[])) W2) := Lib.hid (by
        rw [HE.out]
        exact ⟨rfl, HK.out.trans k2, by simpa using r2, s2⟩)
      clear k2 r2 s2
      go_wp2
      exact bodyPost_end (v := .tuple #[]) (by simp [results, Tryd.results59, go_sem]) rfl HP.out
  have e25 : (xn == 25) = false := by rw [beq_eq_false_iff_ne]; exact t25
  by_cases t26 : xn = 26
  · subst t26
    have HE : Hid (R = szL xl 0 (fun _ => (true, 1)) (wantF f (wd == 1) 90)) := Lib.hid (by rw [← hR, show preF 4 26 0 wd 0 f = wantF f (wd == 1) 90 by simp [preF]]; exact szL_congr xl 0 0 _ _ _ (fun j _ => by simp [insF]))
    clear hR hsh t1 e1 t2 e2 t11 e11 t12 e12 t13 e13 t14 e14 t15 e15 t16 e16 t17 e17 t18 e18 t6 e6 t25 e25
    have HW := Lib.hid (fun (so : Bool) => want_any g f so 90 w HX.out.2.2.1)
    by_cases t0 : wd = 1
    · have e0 : (wd == 1) = true := by rw [beq_iff_eq]; exact t0
      rw [e0] at HE
      have HT := Lib.hid t0
      clear t0
      have c0 := HW.out true
      go_enter Tryd.func59, Tryd.ntmps59
      go_wp2_with fail
      refine c0.mono ?_
      clear c0 z0 z1 z2 z3 z4 z5 z6 z7
      rintro e W1 ⟨rfl, k1, s1⟩
      have hbl : b < w.heap.size := (Array.getElem?_eq_some_iff.1 HX.out.1).1
      have hr1 : RowT tb W1 b (pre ++ ((ET.mk op wd v sg uh ul 26 xa xc xl).cells ++ post)) := HX.out.1.keep (k1.block b hbl (fun h => HX.out.2.2.2.2.2.2 h.symm))
      have hrc := rowT_cells hr1 o HPL.out
      have z0 : W1.cell? ⟨b, o, none⟩ = some (.int .i64 op) := hrc 0 _ rfl
      have z1 : W1.cell? ⟨b, o + 1, none⟩ = some (.int .i64 wd) := hrc 1 _ rfl
      have z2 : W1.cell? ⟨b, o + 2, none⟩ = some (.int .u64 (v : Int)) := hrc 2 _ rfl
      have z3 : W1.cell? ⟨b, o + 3, none⟩ = some (.int .i64 sg) := hrc 3 _ rfl
      have z4 : W1.cell? ⟨b, o + 4, none⟩ = some (.int .i64 uh) := hrc 4 _ rfl
      have z5 : W1.cell? ⟨b, o + 5, none⟩ = some (.int .i64 ul) := hrc 5 _ rfl
      have z6 : W1.cell? ⟨b, o + 6, none⟩ = some (.int .i64 26) := hrc 6 _ rfl
      have z7 : W1.cell? ⟨b, o + 7, none⟩ = some (.slice xa xl.length xc) := hrc 7 _ rfl
      have c1 := bitsRow_any g lo hi xa xc xl HL.out.1 (by have := HN.out; omega) HC.out (wantF f true 90) W1 (Nat.le_trans HX.out.2.2.2.1 k1.size) HX.out.2.2.2.2.2.1 (HX.out.2.1.keepP (fun k h1 h2 => k1.block k (by have := HX.out.2.2.2.1; omega) (by have := HX.out.2.2.2.2.2.1; omega))) s1
      have HK := Lib.hid (KeptP.of_kb1 (p := Chp g lo hi) k1 (Or.inl rfl))
      clear hbl hr1 hrc k1 s1
      go_wp2_with fail
      refine c1.mono ?_
      clear c1 z0 z1 z2 z3 z4 z5 z6 z7
      rintro e W2 ⟨rfl, k2, r2, s2⟩
      have HP : Hid (OpP g lo hi xa xc R w (.returned (.tuple #[])) W2) := Lib.hid (by
        rw [HE.out]
        exact ⟨rfl, HK.out.trans k2, by simpa using r2, s2⟩)
      clear k2 r2 s2
      go_wp2
      exact bodyPost_end (v := .tuple #[]) (by simp [results, Tryd.results59, go_sem]) rfl HP.out
    · have e0 : (wd == 1) = false := by rw [beq_eq_false_iff_ne]; exact t0
      rw [e0] at HE
      clear t0
      have c0 := HW.out false
      go_enter Tryd.func59, Tryd.ntmps59
      go_wp2_with fail
      refine c0.mono ?_
      clear c0 z0 z1 z2 z3 z4 z5 z6 z7
      rintro e W1 ⟨rfl, k1, s1⟩
      have hbl : b < w.heap.size := (Array.getElem?_eq_some_iff.1 HX.out.1).1
      have hr1 : RowT tb W1 b (pre ++ ((ET.mk op wd v sg uh ul 26 xa xc xl).cells ++ post)) := HX.out.1.keep (k1.block b hbl (fun h => HX.out.2.2.2.2.2.2 h.symm))
      have hrc := rowT_cells hr1 o HPL.out
      have z0 : W1.cell? ⟨b, o, none⟩ = some (.int .i64 op) := hrc 0 _ rfl
      have z1 : W1.cell? ⟨b, o + 1, none⟩ = some (.int .i64 wd) := hrc 1 _ rfl
      have z2 : W1.cell? ⟨b, o + 2, none⟩ = some (.int .u64 (v : Int)) := hrc 2 _ rfl
      have z3 : W1.cell? ⟨b, o + 3, none⟩ = some (.int .i64 sg) := hrc 3 _ rfl
      have z4 : W1.cell? ⟨b, o + 4, none⟩ = some (.int .i64 uh) := hrc 4 _ rfl
      have z5 : W1.cell? ⟨b, o + 5, none⟩ = some (.int .i64 ul) := hrc 5 _ rfl
      have z6 : W1.cell? ⟨b, o + 6, none⟩ = some (.int .i64 26) := hrc 6 _ rfl
      have z7 : W1.cell? ⟨b, o + 7, none⟩ = some (.slice xa xl.length xc) := hrc 7 _ rfl
      have c1 := bitsRow_any g lo hi xa xc xl HL.out.1 (by have := HN.out; omega) HC.out (wantF f false 90) W1 (Nat.le_trans HX.out.2.2.2.1 k1.size) HX.out.2.2.2.2.2.1 (HX.out.2.1.keepP (fun k h1 h2 => k1.block k (by have := HX.out.2.2.2.1; omega) (by have := HX.out.2.2.2.2.2.1; omega))) s1
      have HK := Lib.hid (KeptP.of_kb1 (p := Chp g lo hi) k1 (Or.inl rfl))
      clear hbl hr1 hrc k1 s1
      go_wp2_with fail
      refine c1.mono ?_
      clear c1 z0 z1 z2 z3 z4 z5 z6 z7
      rintro e W2 ⟨rfl, k2, r2, s2⟩
      have HP : Hid (OpP g lo hi xa xc R w (.returned (.tuple #[])) W2) := Lib.hid (by
        rw [HE.out]
        exact ⟨rfl, HK.out.trans k2, by simpa using r2, s2⟩)
      clear k2 r2 s2
      go_wp2
      exact bodyPost_end (v := .tuple #[]) (by simp [results, Tryd.results59, go_sem]) rfl HP.out
  have e26 : (xn == 26) = false := by rw [beq_eq_false_iff_ne]; exact t26
  by_cases t19 : xn = 19
  · subst t19
    have h2 : xl.length = 2 := by omega
    obtain ⟨p, q, rfl⟩ : ∃ p q, xl = [p, q] := by
      match xl, h2 with
      | [p, q], _ => exact ⟨p, q, rfl⟩
    clear h2
    have ho9 := HX.out.2.1
    rcases ho9 with ⟨h, _, _⟩ | ⟨B, rfl, h2, h3, hxc, h5, h6, h7⟩
    · cases h
    simp only [List.length_cons, List.length_nil] at hxc
    subst hxc
    have hrp := rowM_cells (pre := []) (cs := p.cells) (post := q.cells ++ []) (by simpa [flatE] using h6) 0 rfl
    have hrq := rowM_cells (pre := p.cells) (cs := q.cells) (post := []) (by simpa [flatE] using h6) 8 (ET.cells_len p)
    obtain ⟨XL, hXL⟩ : ∃ l, l = [p, q] := ⟨_, rfl⟩
    obtain ⟨Q, hQ⟩ : ∃ Q, orU (eith (ow p) (ow q)) = Q := ⟨_, rfl⟩
    have HE : Hid (R = szL XL 0 (fun _ => (false, Q)) (wantF f (wd == 1) 90)) := Lib.hid (by rw [← hR, hXL, show preF 4 19 0 wd 0 f = wantF f (wd == 1) 90 by simp [preF]]; exact szL_congr _ 0 0 _ _ _ (fun j _ => by simp [insF, owL, hQ]))
    have hip := OwnRow.inn HX.out.2.1
    have hiq : (ET.In hi w p) ∧ (ET.In hi w q) := ⟨by have h9 := InRow.at hip (i := 0) (by simp); obtain ⟨_, _, _, _, _, h9⟩ := h9; exact h9, by have h9 := InRow.at hip (i := 1) (by simp); obtain ⟨_, _, _, _, _, h9⟩ := h9; exact h9⟩
    have hqp := HC.out p (by simp)
    have hqq := HC.out q (by simp)
    have hhi := HX.out.2.2.2.1
    obtain ⟨E, hE⟩ : ∃ E, eith (ow p) (ow q) = E := ⟨_, rfl⟩
    have c9 := fun (dq : Nat) (os : Array Obj) => either_any p q hi (hqp.2 hi) (hqq.2 hi) (grow (redrawn w dq) os) (Nat.le_trans hhi (below_regrown w dq os).size) (ET.In.keep (Below.keptTo (below_regrown w dq os) hhi) _ hiq.1) (ET.In.keep (Below.keptTo (below_regrown w dq os) hhi) _ hiq.2)
    simp only [hE] at c9
    rw [hE] at hQ
    have cu : ∀ (dq : Nat) (os : Array Obj), Calls Tryd.prog 56 #[.int .i64 E] (grow (redrawn w dq) os) fun e w' => e = .returned (.int .i64 Q) ∧ Below (grow (redrawn w dq) os).heap.size (grow (redrawn w dq) os) w' := fun dq os => (orUsual_any E _).mono (by rintro e W' ⟨rfl, rfl⟩; exact ⟨by rw [hQ], Below.refl _ _⟩)
    rw [← hXL] at HX HC HL HN
    have HXL : Hid (XL.length = 2) := Lib.hid (by rw [hXL]; rfl)
    simp only [List.length_cons, List.length_nil, Nat.zero_add] at z7
    clear hR hsh hip hiq hqp hqq hQ hE hXL h2 h3 h5 h6 h7 t1 e1 t2 e2 t11 e11 t12 e12 t13 e13 t14 e14 t15 e15 t16 e16 t17 e17 t18 e18 t6 e6 t25 e25 t26 e26
    obtain ⟨op5, wd5, v5, sg5, uh5, ul5, xn5, xa5, xc5, xl5⟩ := p
    obtain ⟨op6, wd6, v6, sg6, uh6, ul6, xn6, xa6, xc6, xl6⟩ := q
    have r0 : w.cell? ⟨B, 0, none⟩ = some (.int .i64 op5) := by have h9 := hrp 0 _ rfl; simpa using h9
    have r1 : w.cell? ⟨B, 1, none⟩ = some (.int .i64 wd5) := by have h9 := hrp 1 _ rfl; simpa using h9
    have r2 : w.cell? ⟨B, 2, none⟩ = some (.int .u64 (v5 : Int)) := by have h9 := hrp 2 _ rfl; simpa using h9
    have r3 : w.cell? ⟨B, 3, none⟩ = some (.int .i64 sg5) := by have h9 := hrp 3 _ rfl; simpa using h9
    have r4 : w.cell? ⟨B, 4, none⟩ = some (.int .i64 uh5) := by have h9 := hrp 4 _ rfl; simpa using h9
    have r5 : w.cell? ⟨B, 5, none⟩ = some (.int .i64 ul5) := by have h9 := hrp 5 _ rfl; simpa using h9
    have r6 : w.cell? ⟨B, 6, none⟩ = some (.int .i64 xn5) := by have h9 := hrp 6 _ rfl; simpa using h9
    have r7 : w.cell? ⟨B, 7, none⟩ = some (.slice xa5 xl5.length xc5) := by have h9 := hrp 7 _ rfl; simpa using h9
    have s0 : w.cell? ⟨B, 8, none⟩ = some (.int .i64 op6) := by have h9 := hrq 0 _ rfl; simpa using h9
    have s1 : w.cell? ⟨B, 9, none⟩ = some (.int .i64 wd6) := by have h9 := hrq 1 _ rfl; simpa using h9
    have s2 : w.cell? ⟨B, 10, none⟩ = some (.int .u64 (v6 : Int)) := by have h9 := hrq 2 _ rfl; simpa using h9
    have s3 : w.cell? ⟨B, 11, none⟩ = some (.int .i64 sg6) := by have h9 := hrq 3 _ rfl; simpa using h9
    have s4 : w.cell? ⟨B, 12, none⟩ = some (.int .i64 uh6) := by have h9 := hrq 4 _ rfl; simpa using h9
    have s5 : w.cell? ⟨B, 13, none⟩ = some (.int .i64 ul6) := by have h9 := hrq 5 _ rfl; simpa using h9
    have s6 : w.cell? ⟨B, 14, none⟩ = some (.int .i64 xn6) := by have h9 := hrq 6 _ rfl; simpa using h9
    have s7 : w.cell? ⟨B, 15, none⟩ = some (.slice xa6 xl6.length xc6) := by have h9 := hrq 7 _ rfl; simpa using h9
    simp only [ET.val, ET.cells] at c9
    have HCX := Lib.hid c9
    have HCU := Lib.hid cu
    have r0R := cell_regrown r0
    have r1R := cell_regrown r1
    have r2R := cell_regrown r2
    have r3R := cell_regrown r3
    have r4R := cell_regrown r4
    have r5R := cell_regrown r5
    have r6R := cell_regrown r6
    have r7R := cell_regrown r7
    have s0R := cell_regrown s0
    have s1R := cell_regrown s1
    have s2R := cell_regrown s2
    have s3R := cell_regrown s3
    have s4R := cell_regrown s4
    have s5R := cell_regrown s5
    have s6R := cell_regrown s6
    have s7R := cell_regrown s7
    have z7R := cell_regrown z7
    clear hrp hrq hhi c9 cu
    go_enter Tryd.func59, Tryd.ntmps59
    go_upto_region 29 with (fail)
    refine wp_region_quiet_below (by kernel_rfl) (by kernel_rfl) ?_
    repeat (go_big_quiet_step (first | (go_at_call 92; exact Calls.regrown_of (HCX.out _ _)) | (go_at_call 56; exact Calls.regrown_of (HCU.out _ _))))
    refine wpQuiet_nil ?_
    intro _ hw'
    obtain ⟨⟨dq, osq⟩, hw''⟩ := hw'
    subst hw''
    have hbq := below_regrown w dq osq
    have HB3 := Lib.hid hbq
    have sz3 : SzAt g f (grow (redrawn w dq) osq) := block_kept HX.out.2.2.1 hbq
    have hr3 : RowT tb (grow (redrawn w dq) osq) b (pre ++ ((ET.mk op wd v sg uh ul 19 (some ⟨B, 0, none⟩) 2 XL).cells ++ post)) := HX.out.1.keep (hbq.block b (Array.getElem?_eq_some_iff.1 HX.out.1).1)
    have hrc := rowT_cells hr3 o HPL.out
    clear r0R r0 r1R r1 r2R r2 r3R r3 r4R r4 r5R r5 r6R r6 r7R r7 s0R s0 s1R s1 s2R s2 s3R s3 s4R s4 s5R s5 s6R s6 s7R s7 z0 z1 z2 z3 z4 z5 z6 z7 z7R hbq
    generalize grow (redrawn w dq) osq = w3 at *
    have z0 : w3.cell? ⟨b, o, none⟩ = some (.int .i64 op) := hrc 0 _ rfl
    have z1 : w3.cell? ⟨b, o + 1, none⟩ = some (.int .i64 wd) := hrc 1 _ rfl
    have z7 : w3.cell? ⟨b, o + 7, none⟩ = some (.slice (some ⟨B, 0, none⟩) XL.length 2) := hrc 7 _ rfl
    have z2 := z0
    have z3 := z0
    have z4 := z0
    have z5 := z0
    have z6 := z0
    simp only [HXL.out] at z7
    clear hrc hr3
    by_cases t0 : wd = 1
    · have e0 : (wd == 1) = true := by rw [beq_iff_eq]; exact t0
      rw [e0] at HE
      clear t0
      have c0 := want_any g f true 90 w3 sz3
      have HW := Lib.hid c0
      clear c0
      go_wp2_with fail
      refine HW.out.mono ?_
      clear HW z0 z1 z2 z3 z4 z5 z6 z7
      rintro e W1 ⟨rfl, k1, s1⟩
      have k3 := HB3.out
      have hbl : b < w.heap.size := (Array.getElem?_eq_some_iff.1 HX.out.1).1
      have hr1 : RowT tb W1 b (pre ++ ((ET.mk op wd v sg uh ul 19 (some ⟨B, 0, none⟩) 2 XL).cells ++ post)) := HX.out.1.keep ((k1.block b (Nat.lt_of_lt_of_le hbl k3.size) (fun h => HX.out.2.2.2.2.2.2 h.symm)).trans (k3.block b hbl))
      have hrc := rowT_cells hr1 o HPL.out
      have z7 : W1.cell? ⟨b, o + 7, none⟩ = some (.slice (some ⟨B, 0, none⟩) XL.length 2) := hrc 7 _ rfl
      have kk : KeptP (Chp g lo hi) w W1 := (KeptP.of_below k3).trans (KeptP.of_kb1 k1 (Or.inl rfl))
      have c1 := sizeRow_any Q g lo hi (some ⟨B, 0, none⟩) 2 XL HL.out.1 (fun x hx => (HC.out x hx).1) (wantF f true 90) W1 (Nat.le_trans HX.out.2.2.2.1 kk.size) HX.out.2.2.2.2.2.1 (HX.out.2.1.keepP (fun k h1 h2 => (k1.block k (by have := HX.out.2.2.2.1; have := k3.size; omega) (by have := HX.out.2.2.2.2.2.1; omega)).trans (k3.block k (by have := HX.out.2.2.2.1; omega)))) s1
      simp only [HXL.out] at c1 z7
      have HK := Lib.hid kk
      clear hbl hr1 hrc k1 s1 kk k3
      go_wp2_with fail
      refine c1.mono ?_
      clear c1 z7
      rintro e W2 ⟨rfl, k2, r2, s2⟩
      have HP : Hid (OpP g lo hi (some ⟨B, 0, none⟩) 2 R w (.returned (.tuple #[])) W2) := Lib.hid (by
        rw [HE.out]
        exact ⟨rfl, HK.out.trans k2, by simpa using r2, s2⟩)
      clear k2 r2 s2
      go_wp2
      exact bodyPost_end (v := .tuple #[]) (by simp [results, Tryd.results59, go_sem]) rfl HP.out
    · have e0 : (wd == 1) = false := by rw [beq_eq_false_iff_ne]; exact t0
      rw [e0] at HE
      clear t0
      have c0 := want_any g f false 90 w3 sz3
      have HW := Lib.hid c0
      clear c0
      go_wp2_with fail
      refine HW.out.mono ?_
      clear HW z0 z1 z2 z3 z4 z5 z6 z7
      rintro e W1 ⟨rfl, k1, s1⟩
      have k3 := HB3.out
      have hbl : b < w.heap.size := (Array.getElem?_eq_some_iff.1 HX.out.1).1
      have hr1 : RowT tb W1 b (pre ++ ((ET.mk op wd v sg uh ul 19 (some ⟨B, 0, none⟩) 2 XL).cells ++ post)) := HX.out.1.keep ((k1.block b (Nat.lt_of_lt_of_le hbl k3.size) (fun h => HX.out.2.2.2.2.2.2 h.symm)).trans (k3.block b hbl))
      have hrc := rowT_cells hr1 o HPL.out
      have z7 : W1.cell? ⟨b, o + 7, none⟩ = some (.slice (some ⟨B, 0, none⟩) XL.length 2) := hrc 7 _ rfl
      have kk : KeptP (Chp g lo hi) w W1 := (KeptP.of_below k3).trans (KeptP.of_kb1 k1 (Or.inl rfl))
      have c1 := sizeRow_any Q g lo hi (some ⟨B, 0, none⟩) 2 XL HL.out.1 (fun x hx => (HC.out x hx).1) (wantF f false 90) W1 (Nat.le_trans HX.out.2.2.2.1 kk.size) HX.out.2.2.2.2.2.1 (HX.out.2.1.keepP (fun k h1 h2 => (k1.block k (by have := HX.out.2.2.2.1; have := k3.size; omega) (by have := HX.out.2.2.2.2.2.1; omega)).trans (k3.block k (by have := HX.out.2.2.2.1; omega)))) s1
      simp only [HXL.out] at c1 z7
      have HK := Lib.hid kk
      clear hbl hr1 hrc k1 s1 kk k3
      go_wp2_with fail
      refine c1.mono ?_
      clear c1 z7
      rintro e W2 ⟨rfl, k2, r2, s2⟩
      have HP : Hid (OpP g lo hi (some ⟨B, 0, none⟩) 2 R w (.returned (.tuple #[])) W2) := Lib.hid (by
        rw [HE.out]
        exact ⟨rfl, HK.out.trans k2, by simpa using r2, s2⟩)
      clear k2 r2 s2
      go_wp2
      exact bodyPost_end (v := .tuple #[]) (by simp [results, Tryd.results59, go_sem]) rfl HP.out
  have e19 : (xn == 19) = false := by rw [beq_eq_false_iff_ne]; exact t19
  by_cases t20 : xn = 20
  · subst t20
    have h2 : xl.length = 2 := by omega
    obtain ⟨p, q, rfl⟩ : ∃ p q, xl = [p, q] := by
      match xl, h2 with
      | [p, q], _ => exact ⟨p, q, rfl⟩
    clear h2
    have ho9 := HX.out.2.1
    rcases ho9 with ⟨h, _, _⟩ | ⟨B, rfl, h2, h3, hxc, h5, h6, h7⟩
    · cases h
    simp only [List.length_cons, List.length_nil] at hxc
    subst hxc
    have hrp := rowM_cells (pre := []) (cs := p.cells) (post := q.cells ++ []) (by simpa [flatE] using h6) 0 rfl
    have hrq := rowM_cells (pre := p.cells) (cs := q.cells) (post := []) (by simpa [flatE] using h6) 8 (ET.cells_len p)
    obtain ⟨XL, hXL⟩ : ∃ l, l = [p, q] := ⟨_, rfl⟩
    obtain ⟨Q, hQ⟩ : ∃ Q, orU (eith (ow p) (ow q)) = Q := ⟨_, rfl⟩
    have HE : Hid (R = szL XL 0 (fun _ => (false, Q)) (wantF f (wd == 1) 90)) := Lib.hid (by rw [← hR, hXL, show preF 4 20 0 wd 0 f = wantF f (wd == 1) 90 by simp [preF]]; exact szL_congr _ 0 0 _ _ _ (fun j _ => by simp [insF, owL, hQ]))
    have hip := OwnRow.inn HX.out.2.1
    have hiq : (ET.In hi w p) ∧ (ET.In hi w q) := ⟨by have h9 := InRow.at hip (i := 0) (by simp); obtain ⟨_, _, _, _, _, h9⟩ := h9; exact h9, by have h9 := InRow.at hip (i := 1) (by simp); obtain ⟨_, _, _, _, _, h9⟩ := h9; exact h9⟩
    have hqp := HC.out p (by simp)
    have hqq := HC.out q (by simp)
    have hhi := HX.out.2.2.2.1
    obtain ⟨E, hE⟩ : ∃ E, eith (ow p) (ow q) = E := ⟨_, rfl⟩
    have c9 := fun (dq : Nat) (os : Array Obj) => either_any p q hi (hqp.2 hi) (hqq.2 hi) (grow (redrawn w dq) os) (Nat.le_trans hhi (below_regrown w dq os).size) (ET.In.keep (Below.keptTo (below_regrown w dq os) hhi) _ hiq.1) (ET.In.keep (Below.keptTo (below_regrown w dq os) hhi) _ hiq.2)
    simp only [hE] at c9
    rw [hE] at hQ
    have cu : ∀ (dq : Nat) (os : Array Obj), Calls Tryd.prog 56 #[.int .i64 E] (grow (redrawn w dq) os) fun e w' => e = .returned (.int .i64 Q) ∧ Below (grow (redrawn w dq) os).heap.size (grow (redrawn w dq) os) w' := fun dq os => (orUsual_any E _).mono (by rintro e W' ⟨rfl, rfl⟩; exact ⟨by rw [hQ], Below.refl _ _⟩)
    rw [← hXL] at HX HC HL HN
    have HXL : Hid (XL.length = 2) := Lib.hid (by rw [hXL]; rfl)
    simp only [List.length_cons, List.length_nil, Nat.zero_add] at z7
    clear hR hsh hip hiq hqp hqq hQ hE hXL h2 h3 h5 h6 h7 t1 e1 t2 e2 t11 e11 t12 e12 t13 e13 t14 e14 t15 e15 t16 e16 t17 e17 t18 e18 t6 e6 t25 e25 t26 e26 t19 e19
    obtain ⟨op5, wd5, v5, sg5, uh5, ul5, xn5, xa5, xc5, xl5⟩ := p
    obtain ⟨op6, wd6, v6, sg6, uh6, ul6, xn6, xa6, xc6, xl6⟩ := q
    have r0 : w.cell? ⟨B, 0, none⟩ = some (.int .i64 op5) := by have h9 := hrp 0 _ rfl; simpa using h9
    have r1 : w.cell? ⟨B, 1, none⟩ = some (.int .i64 wd5) := by have h9 := hrp 1 _ rfl; simpa using h9
    have r2 : w.cell? ⟨B, 2, none⟩ = some (.int .u64 (v5 : Int)) := by have h9 := hrp 2 _ rfl; simpa using h9
    have r3 : w.cell? ⟨B, 3, none⟩ = some (.int .i64 sg5) := by have h9 := hrp 3 _ rfl; simpa using h9
    have r4 : w.cell? ⟨B, 4, none⟩ = some (.int .i64 uh5) := by have h9 := hrp 4 _ rfl; simpa using h9
    have r5 : w.cell? ⟨B, 5, none⟩ = some (.int .i64 ul5) := by have h9 := hrp 5 _ rfl; simpa using h9
    have r6 : w.cell? ⟨B, 6, none⟩ = some (.int .i64 xn5) := by have h9 := hrp 6 _ rfl; simpa using h9
    have r7 : w.cell? ⟨B, 7, none⟩ = some (.slice xa5 xl5.length xc5) := by have h9 := hrp 7 _ rfl; simpa using h9
    have s0 : w.cell? ⟨B, 8, none⟩ = some (.int .i64 op6) := by have h9 := hrq 0 _ rfl; simpa using h9
    have s1 : w.cell? ⟨B, 9, none⟩ = some (.int .i64 wd6) := by have h9 := hrq 1 _ rfl; simpa using h9
    have s2 : w.cell? ⟨B, 10, none⟩ = some (.int .u64 (v6 : Int)) := by have h9 := hrq 2 _ rfl; simpa using h9
    have s3 : w.cell? ⟨B, 11, none⟩ = some (.int .i64 sg6) := by have h9 := hrq 3 _ rfl; simpa using h9
    have s4 : w.cell? ⟨B, 12, none⟩ = some (.int .i64 uh6) := by have h9 := hrq 4 _ rfl; simpa using h9
    have s5 : w.cell? ⟨B, 13, none⟩ = some (.int .i64 ul6) := by have h9 := hrq 5 _ rfl; simpa using h9
    have s6 : w.cell? ⟨B, 14, none⟩ = some (.int .i64 xn6) := by have h9 := hrq 6 _ rfl; simpa using h9
    have s7 : w.cell? ⟨B, 15, none⟩ = some (.slice xa6 xl6.length xc6) := by have h9 := hrq 7 _ rfl; simpa using h9
    simp only [ET.val, ET.cells] at c9
    have HCX := Lib.hid c9
    have HCU := Lib.hid cu
    have r0R := cell_regrown r0
    have r1R := cell_regrown r1
    have r2R := cell_regrown r2
    have r3R := cell_regrown r3
    have r4R := cell_regrown r4
    have r5R := cell_regrown r5
    have r6R := cell_regrown r6
    have r7R := cell_regrown r7
    have s0R := cell_regrown s0
    have s1R := cell_regrown s1
    have s2R := cell_regrown s2
    have s3R := cell_regrown s3
    have s4R := cell_regrown s4
    have s5R := cell_regrown s5
    have s6R := cell_regrown s6
    have s7R := cell_regrown s7
    have z7R := cell_regrown z7
    clear hrp hrq hhi c9 cu
    go_enter Tryd.func59, Tryd.ntmps59
    go_upto_region 29 with (fail)
    refine wp_region_quiet_below (by kernel_rfl) (by kernel_rfl) ?_
    repeat (go_big_quiet_step (first | (go_at_call 92; exact Calls.regrown_of (HCX.out _ _)) | (go_at_call 56; exact Calls.regrown_of (HCU.out _ _))))
    refine wpQuiet_nil ?_
    intro _ hw'
    obtain ⟨⟨dq, osq⟩, hw''⟩ := hw'
    subst hw''
    have hbq := below_regrown w dq osq
    have HB3 := Lib.hid hbq
    have sz3 : SzAt g f (grow (redrawn w dq) osq) := block_kept HX.out.2.2.1 hbq
    have hr3 : RowT tb (grow (redrawn w dq) osq) b (pre ++ ((ET.mk op wd v sg uh ul 20 (some ⟨B, 0, none⟩) 2 XL).cells ++ post)) := HX.out.1.keep (hbq.block b (Array.getElem?_eq_some_iff.1 HX.out.1).1)
    have hrc := rowT_cells hr3 o HPL.out
    clear r0R r0 r1R r1 r2R r2 r3R r3 r4R r4 r5R r5 r6R r6 r7R r7 s0R s0 s1R s1 s2R s2 s3R s3 s4R s4 s5R s5 s6R s6 s7R s7 z0 z1 z2 z3 z4 z5 z6 z7 z7R hbq
    generalize grow (redrawn w dq) osq = w3 at *
    have z0 : w3.cell? ⟨b, o, none⟩ = some (.int .i64 op) := hrc 0 _ rfl
    have z1 : w3.cell? ⟨b, o + 1, none⟩ = some (.int .i64 wd) := hrc 1 _ rfl
    have z7 : w3.cell? ⟨b, o + 7, none⟩ = some (.slice (some ⟨B, 0, none⟩) XL.length 2) := hrc 7 _ rfl
    have z2 := z0
    have z3 := z0
    have z4 := z0
    have z5 := z0
    have z6 := z0
    simp only [HXL.out] at z7
    clear hrc hr3
    by_cases t0 : wd = 1
    · have e0 : (wd == 1) = true := by rw [beq_iff_eq]; exact t0
      rw [e0] at HE
      clear t0
      have c0 := want_any g f true 90 w3 sz3
      have HW := Lib.hid c0
      clear c0
      go_wp2_with fail
      refine HW.out.mono ?_
      clear HW z0 z1 z2 z3 z4 z5 z6 z7
      rintro e W1 ⟨rfl, k1, s1⟩
      have k3 := HB3.out
      have hbl : b < w.heap.size := (Array.getElem?_eq_some_iff.1 HX.out.1).1
      have hr1 : RowT tb W1 b (pre ++ ((ET.mk op wd v sg uh ul 20 (some ⟨B, 0, none⟩) 2 XL).cells ++ post)) := HX.out.1.keep ((k1.block b (Nat.lt_of_lt_of_le hbl k3.size) (fun h => HX.out.2.2.2.2.2.2 h.symm)).trans (k3.block b hbl))
      have hrc := rowT_cells hr1 o HPL.out
      have z7 : W1.cell? ⟨b, o + 7, none⟩ = some (.slice (some ⟨B, 0, none⟩) XL.length 2) := hrc 7 _ rfl
      have kk : KeptP (Chp g lo hi) w W1 := (KeptP.of_below k3).trans (KeptP.of_kb1 k1 (Or.inl rfl))
      have c1 := sizeRow_any Q g lo hi (some ⟨B, 0, none⟩) 2 XL HL.out.1 (fun x hx => (HC.out x hx).1) (wantF f true 90) W1 (Nat.le_trans HX.out.2.2.2.1 kk.size) HX.out.2.2.2.2.2.1 (HX.out.2.1.keepP (fun k h1 h2 => (k1.block k (by have := HX.out.2.2.2.1; have := k3.size; omega) (by have := HX.out.2.2.2.2.2.1; omega)).trans (k3.block k (by have := HX.out.2.2.2.1; omega)))) s1
      simp only [HXL.out] at c1 z7
      have HK := Lib.hid kk
      clear hbl hr1 hrc k1 s1 kk k3
      go_wp2_with fail
      refine c1.mono ?_
      clear c1 z7
      rintro e W2 ⟨rfl, k2, r2, s2⟩
      have HP : Hid (OpP g lo hi (some ⟨B, 0, none⟩) 2 R w (.returned (.tuple #[])) W2) := Lib.hid (by
        rw [HE.out]
        exact ⟨rfl, HK.out.trans k2, by simpa using r2, s2⟩)
      clear k2 r2 s2
      go_wp2
      exact bodyPost_end (v := .tuple #[]) (by simp [results, Tryd.results59, go_sem]) rfl HP.out
    · have e0 : (wd == 1) = false := by rw [beq_eq_false_iff_ne]; exact t0
      rw [e0] at HE
      clear t0
      have c0 := want_any g f false 90 w3 sz3
      have HW := Lib.hid c0
      clear c0
      go_wp2_with fail
      refine HW.out.mono ?_
      clear HW z0 z1 z2 z3 z4 z5 z6 z7
      rintro e W1 ⟨rfl, k1, s1⟩
      have k3 := HB3.out
      have hbl : b < w.heap.size := (Array.getElem?_eq_some_iff.1 HX.out.1).1
      have hr1 : RowT tb W1 b (pre ++ ((ET.mk op wd v sg uh ul 20 (some ⟨B, 0, none⟩) 2 XL).cells ++ post)) := HX.out.1.keep ((k1.block b (Nat.lt_of_lt_of_le hbl k3.size) (fun h => HX.out.2.2.2.2.2.2 h.symm)).trans (k3.block b hbl))
      have hrc := rowT_cells hr1 o HPL.out
      have z7 : W1.cell? ⟨b, o + 7, none⟩ = some (.slice (some ⟨B, 0, none⟩) XL.length 2) := hrc 7 _ rfl
      have kk : KeptP (Chp g lo hi) w W1 := (KeptP.of_below k3).trans (KeptP.of_kb1 k1 (Or.inl rfl))
      have c1 := sizeRow_any Q g lo hi (some ⟨B, 0, none⟩) 2 XL HL.out.1 (fun x hx => (HC.out x hx).1) (wantF f false 90) W1 (Nat.le_trans HX.out.2.2.2.1 kk.size) HX.out.2.2.2.2.2.1 (HX.out.2.1.keepP (fun k h1 h2 => (k1.block k (by have := HX.out.2.2.2.1; have := k3.size; omega) (by have := HX.out.2.2.2.2.2.1; omega)).trans (k3.block k (by have := HX.out.2.2.2.1; omega)))) s1
      simp only [HXL.out] at c1 z7
      have HK := Lib.hid kk
      clear hbl hr1 hrc k1 s1 kk k3
      go_wp2_with fail
      refine c1.mono ?_
      clear c1 z7
      rintro e W2 ⟨rfl, k2, r2, s2⟩
      have HP : Hid (OpP g lo hi (some ⟨B, 0, none⟩) 2 R w (.returned (.tuple #[])) W2) := Lib.hid (by
        rw [HE.out]
        exact ⟨rfl, HK.out.trans k2, by simpa using r2, s2⟩)
      clear k2 r2 s2
      go_wp2
      exact bodyPost_end (v := .tuple #[]) (by simp [results, Tryd.results59, go_sem]) rfl HP.out
  have e20 : (xn == 20) = false := by rw [beq_eq_false_iff_ne]; exact t20
  by_cases t21 : xn = 21
  · subst t21
    have h2 : xl.length = 2 := by omega
    obtain ⟨p, q, rfl⟩ : ∃ p q, xl = [p, q] := by
      match xl, h2 with
      | [p, q], _ => exact ⟨p, q, rfl⟩
    clear h2
    have ho9 := HX.out.2.1
    rcases ho9 with ⟨h, _, _⟩ | ⟨B, rfl, h2, h3, hxc, h5, h6, h7⟩
    · cases h
    simp only [List.length_cons, List.length_nil] at hxc
    subst hxc
    have hrp := rowM_cells (pre := []) (cs := p.cells) (post := q.cells ++ []) (by simpa [flatE] using h6) 0 rfl
    have hrq := rowM_cells (pre := p.cells) (cs := q.cells) (post := []) (by simpa [flatE] using h6) 8 (ET.cells_len p)
    obtain ⟨XL, hXL⟩ : ∃ l, l = [p, q] := ⟨_, rfl⟩
    obtain ⟨Q, hQ⟩ : ∃ Q, orU (eith (ow p) (ow q)) = Q := ⟨_, rfl⟩
    have HE : Hid (R = szL XL 0 (fun _ => (false, Q)) (wantF f (wd == 1) 90)) := Lib.hid (by rw [← hR, hXL, show preF 4 21 0 wd 0 f = wantF f (wd == 1) 90 by simp [preF]]; exact szL_congr _ 0 0 _ _ _ (fun j _ => by simp [insF, owL, hQ]))
    have hip := OwnRow.inn HX.out.2.1
    have hiq : (ET.In hi w p) ∧ (ET.In hi w q) := ⟨by have h9 := InRow.at hip (i := 0) (by simp); obtain ⟨_, _, _, _, _, h9⟩ := h9; exact h9, by have h9 := InRow.at hip (i := 1) (by simp); obtain ⟨_, _, _, _, _, h9⟩ := h9; exact h9⟩
    have hqp := HC.out p (by simp)
    have hqq := HC.out q (by simp)
    have hhi := HX.out.2.2.2.1
    obtain ⟨E, hE⟩ : ∃ E, eith (ow p) (ow q) = E := ⟨_, rfl⟩
    have c9 := fun (dq : Nat) (os : Array Obj) => either_any p q hi (hqp.2 hi) (hqq.2 hi) (grow (redrawn w dq) os) (Nat.le_trans hhi (below_regrown w dq os).size) (ET.In.keep (Below.keptTo (below_regrown w dq os) hhi) _ hiq.1) (ET.In.keep (Below.keptTo (below_regrown w dq os) hhi) _ hiq.2)
    simp only [hE] at c9
    rw [hE] at hQ
    have cu : ∀ (dq : Nat) (os : Array Obj), Calls Tryd.prog 56 #[.int .i64 E] (grow (redrawn w dq) os) fun e w' => e = .returned (.int .i64 Q) ∧ Below (grow (redrawn w dq) os).heap.size (grow (redrawn w dq) os) w' := fun dq os => (orUsual_any E _).mono (by rintro e W' ⟨rfl, rfl⟩; exact ⟨by rw [hQ], Below.refl _ _⟩)
    rw [← hXL] at HX HC HL HN
    have HXL : Hid (XL.length = 2) := Lib.hid (by rw [hXL]; rfl)
    simp only [List.length_cons, List.length_nil, Nat.zero_add] at z7
    clear hR hsh hip hiq hqp hqq hQ hE hXL h2 h3 h5 h6 h7 t1 e1 t2 e2 t11 e11 t12 e12 t13 e13 t14 e14 t15 e15 t16 e16 t17 e17 t18 e18 t6 e6 t25 e25 t26 e26 t19 e19 t20 e20
    obtain ⟨op5, wd5, v5, sg5, uh5, ul5, xn5, xa5, xc5, xl5⟩ := p
    obtain ⟨op6, wd6, v6, sg6, uh6, ul6, xn6, xa6, xc6, xl6⟩ := q
    have r0 : w.cell? ⟨B, 0, none⟩ = some (.int .i64 op5) := by have h9 := hrp 0 _ rfl; simpa using h9
    have r1 : w.cell? ⟨B, 1, none⟩ = some (.int .i64 wd5) := by have h9 := hrp 1 _ rfl; simpa using h9
    have r2 : w.cell? ⟨B, 2, none⟩ = some (.int .u64 (v5 : Int)) := by have h9 := hrp 2 _ rfl; simpa using h9
    have r3 : w.cell? ⟨B, 3, none⟩ = some (.int .i64 sg5) := by have h9 := hrp 3 _ rfl; simpa using h9
    have r4 : w.cell? ⟨B, 4, none⟩ = some (.int .i64 uh5) := by have h9 := hrp 4 _ rfl; simpa using h9
    have r5 : w.cell? ⟨B, 5, none⟩ = some (.int .i64 ul5) := by have h9 := hrp 5 _ rfl; simpa using h9
    have r6 : w.cell? ⟨B, 6, none⟩ = some (.int .i64 xn5) := by have h9 := hrp 6 _ rfl; simpa using h9
    have r7 : w.cell? ⟨B, 7, none⟩ = some (.slice xa5 xl5.length xc5) := by have h9 := hrp 7 _ rfl; simpa using h9
    have s0 : w.cell? ⟨B, 8, none⟩ = some (.int .i64 op6) := by have h9 := hrq 0 _ rfl; simpa using h9
    have s1 : w.cell? ⟨B, 9, none⟩ = some (.int .i64 wd6) := by have h9 := hrq 1 _ rfl; simpa using h9
    have s2 : w.cell? ⟨B, 10, none⟩ = some (.int .u64 (v6 : Int)) := by have h9 := hrq 2 _ rfl; simpa using h9
    have s3 : w.cell? ⟨B, 11, none⟩ = some (.int .i64 sg6) := by have h9 := hrq 3 _ rfl; simpa using h9
    have s4 : w.cell? ⟨B, 12, none⟩ = some (.int .i64 uh6) := by have h9 := hrq 4 _ rfl; simpa using h9
    have s5 : w.cell? ⟨B, 13, none⟩ = some (.int .i64 ul6) := by have h9 := hrq 5 _ rfl; simpa using h9
    have s6 : w.cell? ⟨B, 14, none⟩ = some (.int .i64 xn6) := by have h9 := hrq 6 _ rfl; simpa using h9
    have s7 : w.cell? ⟨B, 15, none⟩ = some (.slice xa6 xl6.length xc6) := by have h9 := hrq 7 _ rfl; simpa using h9
    simp only [ET.val, ET.cells] at c9
    have HCX := Lib.hid c9
    have HCU := Lib.hid cu
    have r0R := cell_regrown r0
    have r1R := cell_regrown r1
    have r2R := cell_regrown r2
    have r3R := cell_regrown r3
    have r4R := cell_regrown r4
    have r5R := cell_regrown r5
    have r6R := cell_regrown r6
    have r7R := cell_regrown r7
    have s0R := cell_regrown s0
    have s1R := cell_regrown s1
    have s2R := cell_regrown s2
    have s3R := cell_regrown s3
    have s4R := cell_regrown s4
    have s5R := cell_regrown s5
    have s6R := cell_regrown s6
    have s7R := cell_regrown s7
    have z7R := cell_regrown z7
    clear hrp hrq hhi c9 cu
    go_enter Tryd.func59, Tryd.ntmps59
    go_upto_region 29 with (fail)
    refine wp_region_quiet_below (by kernel_rfl) (by kernel_rfl) ?_
    repeat (go_big_quiet_step (first | (go_at_call 92; exact Calls.regrown_of (HCX.out _ _)) | (go_at_call 56; exact Calls.regrown_of (HCU.out _ _))))
    refine wpQuiet_nil ?_
    intro _ hw'
    obtain ⟨⟨dq, osq⟩, hw''⟩ := hw'
    subst hw''
    have hbq := below_regrown w dq osq
    have HB3 := Lib.hid hbq
    have sz3 : SzAt g f (grow (redrawn w dq) osq) := block_kept HX.out.2.2.1 hbq
    have hr3 : RowT tb (grow (redrawn w dq) osq) b (pre ++ ((ET.mk op wd v sg uh ul 21 (some ⟨B, 0, none⟩) 2 XL).cells ++ post)) := HX.out.1.keep (hbq.block b (Array.getElem?_eq_some_iff.1 HX.out.1).1)
    have hrc := rowT_cells hr3 o HPL.out
    clear r0R r0 r1R r1 r2R r2 r3R r3 r4R r4 r5R r5 r6R r6 r7R r7 s0R s0 s1R s1 s2R s2 s3R s3 s4R s4 s5R s5 s6R s6 s7R s7 z0 z1 z2 z3 z4 z5 z6 z7 z7R hbq
    generalize grow (redrawn w dq) osq = w3 at *
    have z0 : w3.cell? ⟨b, o, none⟩ = some (.int .i64 op) := hrc 0 _ rfl
    have z1 : w3.cell? ⟨b, o + 1, none⟩ = some (.int .i64 wd) := hrc 1 _ rfl
    have z7 : w3.cell? ⟨b, o + 7, none⟩ = some (.slice (some ⟨B, 0, none⟩) XL.length 2) := hrc 7 _ rfl
    have z2 := z0
    have z3 := z0
    have z4 := z0
    have z5 := z0
    have z6 := z0
    simp only [HXL.out] at z7
    clear hrc hr3
    by_cases t0 : wd = 1
    · have e0 : (wd == 1) = true := by rw [beq_iff_eq]; exact t0
      rw [e0] at HE
      clear t0
      have c0 := want_any g f true 90 w3 sz3
      have HW := Lib.hid c0
      clear c0
      go_wp2_with fail
      refine HW.out.mono ?_
      clear HW z0 z1 z2 z3 z4 z5 z6 z7
      rintro e W1 ⟨rfl, k1, s1⟩
      have k3 := HB3.out
      have hbl : b < w.heap.size := (Array.getElem?_eq_some_iff.1 HX.out.1).1
      have hr1 : RowT tb W1 b (pre ++ ((ET.mk op wd v sg uh ul 21 (some ⟨B, 0, none⟩) 2 XL).cells ++ post)) := HX.out.1.keep ((k1.block b (Nat.lt_of_lt_of_le hbl k3.size) (fun h => HX.out.2.2.2.2.2.2 h.symm)).trans (k3.block b hbl))
      have hrc := rowT_cells hr1 o HPL.out
      have z7 : W1.cell? ⟨b, o + 7, none⟩ = some (.slice (some ⟨B, 0, none⟩) XL.length 2) := hrc 7 _ rfl
      have kk : KeptP (Chp g lo hi) w W1 := (KeptP.of_below k3).trans (KeptP.of_kb1 k1 (Or.inl rfl))
      have c1 := sizeRow_any Q g lo hi (some ⟨B, 0, none⟩) 2 XL HL.out.1 (fun x hx => (HC.out x hx).1) (wantF f true 90) W1 (Nat.le_trans HX.out.2.2.2.1 kk.size) HX.out.2.2.2.2.2.1 (HX.out.2.1.keepP (fun k h1 h2 => (k1.block k (by have := HX.out.2.2.2.1; have := k3.size; omega) (by have := HX.out.2.2.2.2.2.1; omega)).trans (k3.block k (by have := HX.out.2.2.2.1; omega)))) s1
      simp only [HXL.out] at c1 z7
      have HK := Lib.hid kk
      clear hbl hr1 hrc k1 s1 kk k3
      go_wp2_with fail
      refine c1.mono ?_
      clear c1 z7
      rintro e W2 ⟨rfl, k2, r2, s2⟩
      have HP : Hid (OpP g lo hi (some ⟨B, 0, none⟩) 2 R w (.returned (.tuple #[])) W2) := Lib.hid (by
        rw [HE.out]
        exact ⟨rfl, HK.out.trans k2, by simpa using r2, s2⟩)
      clear k2 r2 s2
      go_wp2
      exact bodyPost_end (v := .tuple #[]) (by simp [results, Tryd.results59, go_sem]) rfl HP.out
    · have e0 : (wd == 1) = false := by rw [beq_eq_false_iff_ne]; exact t0
      rw [e0] at HE
      clear t0
      have c0 := want_any g f false 90 w3 sz3
      have HW := Lib.hid c0
      clear c0
      go_wp2_with fail
      refine HW.out.mono ?_
      clear HW z0 z1 z2 z3 z4 z5 z6 z7
      rintro e W1 ⟨rfl, k1, s1⟩
      have k3 := HB3.out
      have hbl : b < w.heap.size := (Array.getElem?_eq_some_iff.1 HX.out.1).1
      have hr1 : RowT tb W1 b (pre ++ ((ET.mk op wd v sg uh ul 21 (some ⟨B, 0, none⟩) 2 XL).cells ++ post)) := HX.out.1.keep ((k1.block b (Nat.lt_of_lt_of_le hbl k3.size) (fun h => HX.out.2.2.2.2.2.2 h.symm)).trans (k3.block b hbl))
      have hrc := rowT_cells hr1 o HPL.out
      have z7 : W1.cell? ⟨b, o + 7, none⟩ = some (.slice (some ⟨B, 0, none⟩) XL.length 2) := hrc 7 _ rfl
      have kk : KeptP (Chp g lo hi) w W1 := (KeptP.of_below k3).trans (KeptP.of_kb1 k1 (Or.inl rfl))
      have c1 := sizeRow_any Q g lo hi (some ⟨B, 0, none⟩) 2 XL HL.out.1 (fun x hx => (HC.out x hx).1) (wantF f false 90) W1 (Nat.le_trans HX.out.2.2.2.1 kk.size) HX.out.2.2.2.2.2.1 (HX.out.2.1.keepP (fun k h1 h2 => (k1.block k (by have := HX.out.2.2.2.1; have := k3.size; omega) (by have := HX.out.2.2.2.2.2.1; omega)).trans (k3.block k (by have := HX.out.2.2.2.1; omega)))) s1
      simp only [HXL.out] at c1 z7
      have HK := Lib.hid kk
      clear hbl hr1 hrc k1 s1 kk k3
      go_wp2_with fail
      refine c1.mono ?_
      clear c1 z7
      rintro e W2 ⟨rfl, k2, r2, s2⟩
      have HP : Hid (OpP g lo hi (some ⟨B, 0, none⟩) 2 R w (.returned (.tuple #[])) W2) := Lib.hid (by
        rw [HE.out]
        exact ⟨rfl, HK.out.trans k2, by simpa using r2, s2⟩)
      clear k2 r2 s2
      go_wp2
      exact bodyPost_end (v := .tuple #[]) (by simp [results, Tryd.results59, go_sem]) rfl HP.out
  have e21 : (xn == 21) = false := by rw [beq_eq_false_iff_ne]; exact t21
  by_cases t22 : xn = 22
  · subst t22
    have h2 : xl.length = 2 := by omega
    obtain ⟨p, q, rfl⟩ : ∃ p q, xl = [p, q] := by
      match xl, h2 with
      | [p, q], _ => exact ⟨p, q, rfl⟩
    clear h2
    have ho9 := HX.out.2.1
    rcases ho9 with ⟨h, _, _⟩ | ⟨B, rfl, h2, h3, hxc, h5, h6, h7⟩
    · cases h
    simp only [List.length_cons, List.length_nil] at hxc
    subst hxc
    have hrp := rowM_cells (pre := []) (cs := p.cells) (post := q.cells ++ []) (by simpa [flatE] using h6) 0 rfl
    have hrq := rowM_cells (pre := p.cells) (cs := q.cells) (post := []) (by simpa [flatE] using h6) 8 (ET.cells_len p)
    obtain ⟨XL, hXL⟩ : ∃ l, l = [p, q] := ⟨_, rfl⟩
    obtain ⟨Q, hQ⟩ : ∃ Q, orU (eith (ow p) (ow q)) = Q := ⟨_, rfl⟩
    have HE : Hid (R = szL XL 0 (fun _ => (false, Q)) (wantF f (wd == 1) 90)) := Lib.hid (by rw [← hR, hXL, show preF 4 22 0 wd 0 f = wantF f (wd == 1) 90 by simp [preF]]; exact szL_congr _ 0 0 _ _ _ (fun j _ => by simp [insF, owL, hQ]))
    have hip := OwnRow.inn HX.out.2.1
    have hiq : (ET.In hi w p) ∧ (ET.In hi w q) := ⟨by have h9 := InRow.at hip (i := 0) (by simp); obtain ⟨_, _, _, _, _, h9⟩ := h9; exact h9, by have h9 := InRow.at hip (i := 1) (by simp); obtain ⟨_, _, _, _, _, h9⟩ := h9; exact h9⟩
    have hqp := HC.out p (by simp)
    have hqq := HC.out q (by simp)
    have hhi := HX.out.2.2.2.1
    obtain ⟨E, hE⟩ : ∃ E, eith (ow p) (ow q) = E := ⟨_, rfl⟩
    have c9 := fun (dq : Nat) (os : Array Obj) => either_any p q hi (hqp.2 hi) (hqq.2 hi) (grow (redrawn w dq) os) (Nat.le_trans hhi (below_regrown w dq os).size) (ET.In.keep (Below.keptTo (below_regrown w dq os) hhi) _ hiq.1) (ET.In.keep (Below.keptTo (below_regrown w dq os) hhi) _ hiq.2)
    simp only [hE] at c9
    rw [hE] at hQ
    have cu : ∀ (dq : Nat) (os : Array Obj), Calls Tryd.prog 56 #[.int .i64 E] (grow (redrawn w dq) os) fun e w' => e = .returned (.int .i64 Q) ∧ Below (grow (redrawn w dq) os).heap.size (grow (redrawn w dq) os) w' := fun dq os => (orUsual_any E _).mono (by rintro e W' ⟨rfl, rfl⟩; exact ⟨by rw [hQ], Below.refl _ _⟩)
    rw [← hXL] at HX HC HL HN
    have HXL : Hid (XL.length = 2) := Lib.hid (by rw [hXL]; rfl)
    simp only [List.length_cons, List.length_nil, Nat.zero_add] at z7
    clear hR hsh hip hiq hqp hqq hQ hE hXL h2 h3 h5 h6 h7 t1 e1 t2 e2 t11 e11 t12 e12 t13 e13 t14 e14 t15 e15 t16 e16 t17 e17 t18 e18 t6 e6 t25 e25 t26 e26 t19 e19 t20 e20 t21 e21
    obtain ⟨op5, wd5, v5, sg5, uh5, ul5, xn5, xa5, xc5, xl5⟩ := p
    obtain ⟨op6, wd6, v6, sg6, uh6, ul6, xn6, xa6, xc6, xl6⟩ := q
    have r0 : w.cell? ⟨B, 0, none⟩ = some (.int .i64 op5) := by have h9 := hrp 0 _ rfl; simpa using h9
    have r1 : w.cell? ⟨B, 1, none⟩ = some (.int .i64 wd5) := by have h9 := hrp 1 _ rfl; simpa using h9
    have r2 : w.cell? ⟨B, 2, none⟩ = some (.int .u64 (v5 : Int)) := by have h9 := hrp 2 _ rfl; simpa using h9
    have r3 : w.cell? ⟨B, 3, none⟩ = some (.int .i64 sg5) := by have h9 := hrp 3 _ rfl; simpa using h9
    have r4 : w.cell? ⟨B, 4, none⟩ = some (.int .i64 uh5) := by have h9 := hrp 4 _ rfl; simpa using h9
    have r5 : w.cell? ⟨B, 5, none⟩ = some (.int .i64 ul5) := by have h9 := hrp 5 _ rfl; simpa using h9
    have r6 : w.cell? ⟨B, 6, none⟩ = some (.int .i64 xn5) := by have h9 := hrp 6 _ rfl; simpa using h9
    have r7 : w.cell? ⟨B, 7, none⟩ = some (.slice xa5 xl5.length xc5) := by have h9 := hrp 7 _ rfl; simpa using h9
    have s0 : w.cell? ⟨B, 8, none⟩ = some (.int .i64 op6) := by have h9 := hrq 0 _ rfl; simpa using h9
    have s1 : w.cell? ⟨B, 9, none⟩ = some (.int .i64 wd6) := by have h9 := hrq 1 _ rfl; simpa using h9
    have s2 : w.cell? ⟨B, 10, none⟩ = some (.int .u64 (v6 : Int)) := by have h9 := hrq 2 _ rfl; simpa using h9
    have s3 : w.cell? ⟨B, 11, none⟩ = some (.int .i64 sg6) := by have h9 := hrq 3 _ rfl; simpa using h9
    have s4 : w.cell? ⟨B, 12, none⟩ = some (.int .i64 uh6) := by have h9 := hrq 4 _ rfl; simpa using h9
    have s5 : w.cell? ⟨B, 13, none⟩ = some (.int .i64 ul6) := by have h9 := hrq 5 _ rfl; simpa using h9
    have s6 : w.cell? ⟨B, 14, none⟩ = some (.int .i64 xn6) := by have h9 := hrq 6 _ rfl; simpa using h9
    have s7 : w.cell? ⟨B, 15, none⟩ = some (.slice xa6 xl6.length xc6) := by have h9 := hrq 7 _ rfl; simpa using h9
    simp only [ET.val, ET.cells] at c9
    have HCX := Lib.hid c9
    have HCU := Lib.hid cu
    have r0R := cell_regrown r0
    have r1R := cell_regrown r1
    have r2R := cell_regrown r2
    have r3R := cell_regrown r3
    have r4R := cell_regrown r4
    have r5R := cell_regrown r5
    have r6R := cell_regrown r6
    have r7R := cell_regrown r7
    have s0R := cell_regrown s0
    have s1R := cell_regrown s1
    have s2R := cell_regrown s2
    have s3R := cell_regrown s3
    have s4R := cell_regrown s4
    have s5R := cell_regrown s5
    have s6R := cell_regrown s6
    have s7R := cell_regrown s7
    have z7R := cell_regrown z7
    clear hrp hrq hhi c9 cu
    go_enter Tryd.func59, Tryd.ntmps59
    go_upto_region 29 with (fail)
    refine wp_region_quiet_below (by kernel_rfl) (by kernel_rfl) ?_
    repeat (go_big_quiet_step (first | (go_at_call 92; exact Calls.regrown_of (HCX.out _ _)) | (go_at_call 56; exact Calls.regrown_of (HCU.out _ _))))
    refine wpQuiet_nil ?_
    intro _ hw'
    obtain ⟨⟨dq, osq⟩, hw''⟩ := hw'
    subst hw''
    have hbq := below_regrown w dq osq
    have HB3 := Lib.hid hbq
    have sz3 : SzAt g f (grow (redrawn w dq) osq) := block_kept HX.out.2.2.1 hbq
    have hr3 : RowT tb (grow (redrawn w dq) osq) b (pre ++ ((ET.mk op wd v sg uh ul 22 (some ⟨B, 0, none⟩) 2 XL).cells ++ post)) := HX.out.1.keep (hbq.block b (Array.getElem?_eq_some_iff.1 HX.out.1).1)
    have hrc := rowT_cells hr3 o HPL.out
    clear r0R r0 r1R r1 r2R r2 r3R r3 r4R r4 r5R r5 r6R r6 r7R r7 s0R s0 s1R s1 s2R s2 s3R s3 s4R s4 s5R s5 s6R s6 s7R s7 z0 z1 z2 z3 z4 z5 z6 z7 z7R hbq
    generalize grow (redrawn w dq) osq = w3 at *
    have z0 : w3.cell? ⟨b, o, none⟩ = some (.int .i64 op) := hrc 0 _ rfl
    have z1 : w3.cell? ⟨b, o + 1, none⟩ = some (.int .i64 wd) := hrc 1 _ rfl
    have z7 : w3.cell? ⟨b, o + 7, none⟩ = some (.slice (some ⟨B, 0, none⟩) XL.length 2) := hrc 7 _ rfl
    have z2 := z0
    have z3 := z0
    have z4 := z0
    have z5 := z0
    have z6 := z0
    simp only [HXL.out] at z7
    clear hrc hr3
    by_cases t0 : wd = 1
    · have e0 : (wd == 1) = true := by rw [beq_iff_eq]; exact t0
      rw [e0] at HE
      clear t0
      have c0 := want_any g f true 90 w3 sz3
      have HW := Lib.hid c0
      clear c0
      go_wp2_with fail
      refine HW.out.mono ?_
      clear HW z0 z1 z2 z3 z4 z5 z6 z7
      rintro e W1 ⟨rfl, k1, s1⟩
      have k3 := HB3.out
      have hbl : b < w.heap.size := (Array.getElem?_eq_some_iff.1 HX.out.1).1
      have hr1 : RowT tb W1 b (pre ++ ((ET.mk op wd v sg uh ul 22 (some ⟨B, 0, none⟩) 2 XL).cells ++ post)) := HX.out.1.keep ((k1.block b (Nat.lt_of_lt_of_le hbl k3.size) (fun h => HX.out.2.2.2.2.2.2 h.symm)).trans (k3.block b hbl))
      have hrc := rowT_cells hr1 o HPL.out
      have z7 : W1.cell? ⟨b, o + 7, none⟩ = some (.slice (some ⟨B, 0, none⟩) XL.length 2) := hrc 7 _ rfl
      have kk : KeptP (Chp g lo hi) w W1 := (KeptP.of_below k3).trans (KeptP.of_kb1 k1 (Or.inl rfl))
      have c1 := sizeRow_any Q g lo hi (some ⟨B, 0, none⟩) 2 XL HL.out.1 (fun x hx => (HC.out x hx).1) (wantF f true 90) W1 (Nat.le_trans HX.out.2.2.2.1 kk.size) HX.out.2.2.2.2.2.1 (HX.out.2.1.keepP (fun k h1 h2 => (k1.block k (by have := HX.out.2.2.2.1; have := k3.size; omega) (by have := HX.out.2.2.2.2.2.1; omega)).trans (k3.block k (by have := HX.out.2.2.2.1; omega)))) s1
      simp only [HXL.out] at c1 z7
      have HK := Lib.hid kk
      clear hbl hr1 hrc k1 s1 kk k3
      go_wp2_with fail
      refine c1.mono ?_
      clear c1 z7
      rintro e W2 ⟨rfl, k2, r2, s2⟩
      have HP : Hid (OpP g lo hi (some ⟨B, 0, none⟩) 2 R w (.returned (.tuple #[])) W2) := Lib.hid (by
        rw [HE.out]
        exact ⟨rfl, HK.out.trans k2, by simpa using r2, s2⟩)
      clear k2 r2 s2
      go_wp2
      exact bodyPost_end (v := .tuple #[]) (by simp [results, Tryd.results59, go_sem]) rfl HP.out
    · have e0 : (wd == 1) = false := by rw [beq_eq_false_iff_ne]; exact t0
      rw [e0] at HE
      clear t0
      have c0 := want_any g f false 90 w3 sz3
      have HW := Lib.hid c0
      clear c0
      go_wp2_with fail
      refine HW.out.mono ?_
      clear HW z0 z1 z2 z3 z4 z5 z6 z7
      rintro e W1 ⟨rfl, k1, s1⟩
      have k3 := HB3.out
      have hbl : b < w.heap.size := (Array.getElem?_eq_some_iff.1 HX.out.1).1
      have hr1 : RowT tb W1 b (pre ++ ((ET.mk op wd v sg uh ul 22 (some ⟨B, 0, none⟩) 2 XL).cells ++ post)) := HX.out.1.keep ((k1.block b (Nat.lt_of_lt_of_le hbl k3.size) (fun h => HX.out.2.2.2.2.2.2 h.symm)).trans (k3.block b hbl))
      have hrc := rowT_cells hr1 o HPL.out
      have z7 : W1.cell? ⟨b, o + 7, none⟩ = some (.slice (some ⟨B, 0, none⟩) XL.length 2) := hrc 7 _ rfl
      have kk : KeptP (Chp g lo hi) w W1 := (KeptP.of_below k3).trans (KeptP.of_kb1 k1 (Or.inl rfl))
      have c1 := sizeRow_any Q g lo hi (some ⟨B, 0, none⟩) 2 XL HL.out.1 (fun x hx => (HC.out x hx).1) (wantF f false 90) W1 (Nat.le_trans HX.out.2.2.2.1 kk.size) HX.out.2.2.2.2.2.1 (HX.out.2.1.keepP (fun k h1 h2 => (k1.block k (by have := HX.out.2.2.2.1; have := k3.size; omega) (by have := HX.out.2.2.2.2.2.1; omega)).trans (k3.block k (by have := HX.out.2.2.2.1; omega)))) s1
      simp only [HXL.out] at c1 z7
      have HK := Lib.hid kk
      clear hbl hr1 hrc k1 s1 kk k3
      go_wp2_with fail
      refine c1.mono ?_
      clear c1 z7
      rintro e W2 ⟨rfl, k2, r2, s2⟩
      have HP : Hid (OpP g lo hi (some ⟨B, 0, none⟩) 2 R w (.returned (.tuple #[])) W2) := Lib.hid (by
        rw [HE.out]
        exact ⟨rfl, HK.out.trans k2, by simpa using r2, s2⟩)
      clear k2 r2 s2
      go_wp2
      exact bodyPost_end (v := .tuple #[]) (by simp [results, Tryd.results59, go_sem]) rfl HP.out
  have e22 : (xn == 22) = false := by rw [beq_eq_false_iff_ne]; exact t22
  by_cases t23 : xn = 23
  · subst t23
    have h2 : xl.length = 2 := by omega
    obtain ⟨p, q, rfl⟩ : ∃ p q, xl = [p, q] := by
      match xl, h2 with
      | [p, q], _ => exact ⟨p, q, rfl⟩
    clear h2
    have ho9 := HX.out.2.1
    rcases ho9 with ⟨h, _, _⟩ | ⟨B, rfl, h2, h3, hxc, h5, h6, h7⟩
    · cases h
    simp only [List.length_cons, List.length_nil] at hxc
    subst hxc
    have hrp := rowM_cells (pre := []) (cs := p.cells) (post := q.cells ++ []) (by simpa [flatE] using h6) 0 rfl
    have hrq := rowM_cells (pre := p.cells) (cs := q.cells) (post := []) (by simpa [flatE] using h6) 8 (ET.cells_len p)
    obtain ⟨XL, hXL⟩ : ∃ l, l = [p, q] := ⟨_, rfl⟩
    obtain ⟨Q, hQ⟩ : ∃ Q, orU (eith (ow p) (ow q)) = Q := ⟨_, rfl⟩
    have HE : Hid (R = szL XL 0 (fun _ => (false, Q)) (wantF f (wd == 1) 90)) := Lib.hid (by rw [← hR, hXL, show preF 4 23 0 wd 0 f = wantF f (wd == 1) 90 by simp [preF]]; exact szL_congr _ 0 0 _ _ _ (fun j _ => by simp [insF, owL, hQ]))
    have hip := OwnRow.inn HX.out.2.1
    have hiq : (ET.In hi w p) ∧ (ET.In hi w q) := ⟨by have h9 := InRow.at hip (i := 0) (by simp); obtain ⟨_, _, _, _, _, h9⟩ := h9; exact h9, by have h9 := InRow.at hip (i := 1) (by simp); obtain ⟨_, _, _, _, _, h9⟩ := h9; exact h9⟩
    have hqp := HC.out p (by simp)
    have hqq := HC.out q (by simp)
    have hhi := HX.out.2.2.2.1
    obtain ⟨E, hE⟩ : ∃ E, eith (ow p) (ow q) = E := ⟨_, rfl⟩
    have c9 := fun (dq : Nat) (os : Array Obj) => either_any p q hi (hqp.2 hi) (hqq.2 hi) (grow (redrawn w dq) os) (Nat.le_trans hhi (below_regrown w dq os).size) (ET.In.keep (Below.keptTo (below_regrown w dq os) hhi) _ hiq.1) (ET.In.keep (Below.keptTo (below_regrown w dq os) hhi) _ hiq.2)
    simp only [hE] at c9
    rw [hE] at hQ
    have cu : ∀ (dq : Nat) (os : Array Obj), Calls Tryd.prog 56 #[.int .i64 E] (grow (redrawn w dq) os) fun e w' => e = .returned (.int .i64 Q) ∧ Below (grow (redrawn w dq) os).heap.size (grow (redrawn w dq) os) w' := fun dq os => (orUsual_any E _).mono (by rintro e W' ⟨rfl, rfl⟩; exact ⟨by rw [hQ], Below.refl _ _⟩)
    rw [← hXL] at HX HC HL HN
    have HXL : Hid (XL.length = 2) := Lib.hid (by rw [hXL]; rfl)
    simp only [List.length_cons, List.length_nil, Nat.zero_add] at z7
    clear hR hsh hip hiq hqp hqq hQ hE hXL h2 h3 h5 h6 h7 t1 e1 t2 e2 t11 e11 t12 e12 t13 e13 t14 e14 t15 e15 t16 e16 t17 e17 t18 e18 t6 e6 t25 e25 t26 e26 t19 e19 t20 e20 t21 e21 t22 e22
    obtain ⟨op5, wd5, v5, sg5, uh5, ul5, xn5, xa5, xc5, xl5⟩ := p
    obtain ⟨op6, wd6, v6, sg6, uh6, ul6, xn6, xa6, xc6, xl6⟩ := q
    have r0 : w.cell? ⟨B, 0, none⟩ = some (.int .i64 op5) := by have h9 := hrp 0 _ rfl; simpa using h9
    have r1 : w.cell? ⟨B, 1, none⟩ = some (.int .i64 wd5) := by have h9 := hrp 1 _ rfl; simpa using h9
    have r2 : w.cell? ⟨B, 2, none⟩ = some (.int .u64 (v5 : Int)) := by have h9 := hrp 2 _ rfl; simpa using h9
    have r3 : w.cell? ⟨B, 3, none⟩ = some (.int .i64 sg5) := by have h9 := hrp 3 _ rfl; simpa using h9
    have r4 : w.cell? ⟨B, 4, none⟩ = some (.int .i64 uh5) := by have h9 := hrp 4 _ rfl; simpa using h9
    have r5 : w.cell? ⟨B, 5, none⟩ = some (.int .i64 ul5) := by have h9 := hrp 5 _ rfl; simpa using h9
    have r6 : w.cell? ⟨B, 6, none⟩ = some (.int .i64 xn5) := by have h9 := hrp 6 _ rfl; simpa using h9
    have r7 : w.cell? ⟨B, 7, none⟩ = some (.slice xa5 xl5.length xc5) := by have h9 := hrp 7 _ rfl; simpa using h9
    have s0 : w.cell? ⟨B, 8, none⟩ = some (.int .i64 op6) := by have h9 := hrq 0 _ rfl; simpa using h9
    have s1 : w.cell? ⟨B, 9, none⟩ = some (.int .i64 wd6) := by have h9 := hrq 1 _ rfl; simpa using h9
    have s2 : w.cell? ⟨B, 10, none⟩ = some (.int .u64 (v6 : Int)) := by have h9 := hrq 2 _ rfl; simpa using h9
    have s3 : w.cell? ⟨B, 11, none⟩ = some (.int .i64 sg6) := by have h9 := hrq 3 _ rfl; simpa using h9
    have s4 : w.cell? ⟨B, 12, none⟩ = some (.int .i64 uh6) := by have h9 := hrq 4 _ rfl; simpa using h9
    have s5 : w.cell? ⟨B, 13, none⟩ = some (.int .i64 ul6) := by have h9 := hrq 5 _ rfl; simpa using h9
    have s6 : w.cell? ⟨B, 14, none⟩ = some (.int .i64 xn6) := by have h9 := hrq 6 _ rfl; simpa using h9
    have s7 : w.cell? ⟨B, 15, none⟩ = some (.slice xa6 xl6.length xc6) := by have h9 := hrq 7 _ rfl; simpa using h9
    simp only [ET.val, ET.cells] at c9
    have HCX := Lib.hid c9
    have HCU := Lib.hid cu
    have r0R := cell_regrown r0
    have r1R := cell_regrown r1
    have r2R := cell_regrown r2
    have r3R := cell_regrown r3
    have r4R := cell_regrown r4
    have r5R := cell_regrown r5
    have r6R := cell_regrown r6
    have r7R := cell_regrown r7
    have s0R := cell_regrown s0
    have s1R := cell_regrown s1
    have s2R := cell_regrown s2
    have s3R := cell_regrown s3
    have s4R := cell_regrown s4
    have s5R := cell_regrown s5
    have s6R := cell_regrown s6
    have s7R := cell_regrown s7
    have z7R := cell_regrown z7
    clear hrp hrq hhi c9 cu
    go_enter Tryd.func59, Tryd.ntmps59
    go_upto_region 29 with (fail)
    refine wp_region_quiet_below (by kernel_rfl) (by kernel_rfl) ?_
    repeat (go_big_quiet_step (first | (go_at_call 92; exact Calls.regrown_of (HCX.out _ _)) | (go_at_call 56; exact Calls.regrown_of (HCU.out _ _))))
    refine wpQuiet_nil ?_
    intro _ hw'
    obtain ⟨⟨dq, osq⟩, hw''⟩ := hw'
    subst hw''
    have hbq := below_regrown w dq osq
    have HB3 := Lib.hid hbq
    have sz3 : SzAt g f (grow (redrawn w dq) osq) := block_kept HX.out.2.2.1 hbq
    have hr3 : RowT tb (grow (redrawn w dq) osq) b (pre ++ ((ET.mk op wd v sg uh ul 23 (some ⟨B, 0, none⟩) 2 XL).cells ++ post)) := HX.out.1.keep (hbq.block b (Array.getElem?_eq_some_iff.1 HX.out.1).1)
    have hrc := rowT_cells hr3 o HPL.out
    clear r0R r0 r1R r1 r2R r2 r3R r3 r4R r4 r5R r5 r6R r6 r7R r7 s0R s0 s1R s1 s2R s2 s3R s3 s4R s4 s5R s5 s6R s6 s7R s7 z0 z1 z2 z3 z4 z5 z6 z7 z7R hbq
    generalize grow (redrawn w dq) osq = w3 at *
    have z0 : w3.cell? ⟨b, o, none⟩ = some (.int .i64 op) := hrc 0 _ rfl
    have z1 : w3.cell? ⟨b, o + 1, none⟩ = some (.int .i64 wd) := hrc 1 _ rfl
    have z7 : w3.cell? ⟨b, o + 7, none⟩ = some (.slice (some ⟨B, 0, none⟩) XL.length 2) := hrc 7 _ rfl
    have z2 := z0
    have z3 := z0
    have z4 := z0
    have z5 := z0
    have z6 := z0
    simp only [HXL.out] at z7
    clear hrc hr3
    by_cases t0 : wd = 1
    · have e0 : (wd == 1) = true := by rw [beq_iff_eq]; exact t0
      rw [e0] at HE
      clear t0
      have c0 := want_any g f true 90 w3 sz3
      have HW := Lib.hid c0
      clear c0
      go_wp2_with fail
      refine HW.out.mono ?_
      clear HW z0 z1 z2 z3 z4 z5 z6 z7
      rintro e W1 ⟨rfl, k1, s1⟩
      have k3 := HB3.out
      have hbl : b < w.heap.size := (Array.getElem?_eq_some_iff.1 HX.out.1).1
      have hr1 : RowT tb W1 b (pre ++ ((ET.mk op wd v sg uh ul 23 (some ⟨B, 0, none⟩) 2 XL).cells ++ post)) := HX.out.1.keep ((k1.block b (Nat.lt_of_lt_of_le hbl k3.size) (fun h => HX.out.2.2.2.2.2.2 h.symm)).trans (k3.block b hbl))
      have hrc := rowT_cells hr1 o HPL.out
      have z7 : W1.cell? ⟨b, o + 7, none⟩ = some (.slice (some ⟨B, 0, none⟩) XL.length 2) := hrc 7 _ rfl
      have kk : KeptP (Chp g lo hi) w W1 := (KeptP.of_below k3).trans (KeptP.of_kb1 k1 (Or.inl rfl))
      have c1 := sizeRow_any Q g lo hi (some ⟨B, 0, none⟩) 2 XL HL.out.1 (fun x hx => (HC.out x hx).1) (wantF f true 90) W1 (Nat.le_trans HX.out.2.2.2.1 kk.size) HX.out.2.2.2.2.2.1 (HX.out.2.1.keepP (fun k h1 h2 => (k1.block k (by have := HX.out.2.2.2.1; have := k3.size; omega) (by have := HX.out.2.2.2.2.2.1; omega)).trans (k3.block k (by have := HX.out.2.2.2.1; omega)))) s1
      simp only [HXL.out] at c1 z7
      have HK := Lib.hid kk
      clear hbl hr1 hrc k1 s1 kk k3
      go_wp2_with fail
      refine c1.mono ?_
      clear c1 z7
      rintro e W2 ⟨rfl, k2, r2, s2⟩
      have HP : Hid (OpP g lo hi (some ⟨B, 0, none⟩) 2 R w (.returned (.tuple #[])) W2) := Lib.hid (by
        rw [HE.out]
        exact ⟨rfl, HK.out.trans k2, by simpa using r2, s2⟩)
      clear k2 r2 s2
      go_wp2
      exact bodyPost_end (v := .tuple #[]) (by simp [results, Tryd.results59, go_sem]) rfl HP.out
    · have e0 : (wd == 1) = false := by rw [beq_eq_false_iff_ne]; exact t0
      rw [e0] at HE
      clear t0
      have c0 := want_any g f false 90 w3 sz3
      have HW := Lib.hid c0
      clear c0
      go_wp2_with fail
      refine HW.out.mono ?_
      clear HW z0 z1 z2 z3 z4 z5 z6 z7
      rintro e W1 ⟨rfl, k1, s1⟩
      have k3 := HB3.out
      have hbl : b < w.heap.size := (Array.getElem?_eq_some_iff.1 HX.out.1).1
      have hr1 : RowT tb W1 b (pre ++ ((ET.mk op wd v sg uh ul 23 (some ⟨B, 0, none⟩) 2 XL).cells ++ post)) := HX.out.1.keep ((k1.block b (Nat.lt_of_lt_of_le hbl k3.size) (fun h => HX.out.2.2.2.2.2.2 h.symm)).trans (k3.block b hbl))
      have hrc := rowT_cells hr1 o HPL.out
      have z7 : W1.cell? ⟨b, o + 7, none⟩ = some (.slice (some ⟨B, 0, none⟩) XL.length 2) := hrc 7 _ rfl
      have kk : KeptP (Chp g lo hi) w W1 := (KeptP.of_below k3).trans (KeptP.of_kb1 k1 (Or.inl rfl))
      have c1 := sizeRow_any Q g lo hi (some ⟨B, 0, none⟩) 2 XL HL.out.1 (fun x hx => (HC.out x hx).1) (wantF f false 90) W1 (Nat.le_trans HX.out.2.2.2.1 kk.size) HX.out.2.2.2.2.2.1 (HX.out.2.1.keepP (fun k h1 h2 => (k1.block k (by have := HX.out.2.2.2.1; have := k3.size; omega) (by have := HX.out.2.2.2.2.2.1; omega)).trans (k3.block k (by have := HX.out.2.2.2.1; omega)))) s1
      simp only [HXL.out] at c1 z7
      have HK := Lib.hid kk
      clear hbl hr1 hrc k1 s1 kk k3
      go_wp2_with fail
      refine c1.mono ?_
      clear c1 z7
      rintro e W2 ⟨rfl, k2, r2, s2⟩
      have HP : Hid (OpP g lo hi (some ⟨B, 0, none⟩) 2 R w (.returned (.tuple #[])) W2) := Lib.hid (by
        rw [HE.out]
        exact ⟨rfl, HK.out.trans k2, by simpa using r2, s2⟩)
      clear k2 r2 s2
      go_wp2
      exact bodyPost_end (v := .tuple #[]) (by simp [results, Tryd.results59, go_sem]) rfl HP.out
  have e23 : (xn == 23) = false := by rw [beq_eq_false_iff_ne]; exact t23
  by_cases t24 : xn = 24
  · subst t24
    have h2 : xl.length = 2 := by omega
    obtain ⟨p, q, rfl⟩ : ∃ p q, xl = [p, q] := by
      match xl, h2 with
      | [p, q], _ => exact ⟨p, q, rfl⟩
    clear h2
    have ho9 := HX.out.2.1
    rcases ho9 with ⟨h, _, _⟩ | ⟨B, rfl, h2, h3, hxc, h5, h6, h7⟩
    · cases h
    simp only [List.length_cons, List.length_nil] at hxc
    subst hxc
    have hrp := rowM_cells (pre := []) (cs := p.cells) (post := q.cells ++ []) (by simpa [flatE] using h6) 0 rfl
    have hrq := rowM_cells (pre := p.cells) (cs := q.cells) (post := []) (by simpa [flatE] using h6) 8 (ET.cells_len p)
    obtain ⟨XL, hXL⟩ : ∃ l, l = [p, q] := ⟨_, rfl⟩
    obtain ⟨Q, hQ⟩ : ∃ Q, orU (eith (ow p) (ow q)) = Q := ⟨_, rfl⟩
    have HE : Hid (R = szL XL 0 (fun _ => (false, Q)) (wantF f (wd == 1) 90)) := Lib.hid (by rw [← hR, hXL, show preF 4 24 0 wd 0 f = wantF f (wd == 1) 90 by simp [preF]]; exact szL_congr _ 0 0 _ _ _ (fun j _ => by simp [insF, owL, hQ]))
    have hip := OwnRow.inn HX.out.2.1
    have hiq : (ET.In hi w p) ∧ (ET.In hi w q) := ⟨by have h9 := InRow.at hip (i := 0) (by simp); obtain ⟨_, _, _, _, _, h9⟩ := h9; exact h9, by have h9 := InRow.at hip (i := 1) (by simp); obtain ⟨_, _, _, _, _, h9⟩ := h9; exact h9⟩
    have hqp := HC.out p (by simp)
    have hqq := HC.out q (by simp)
    have hhi := HX.out.2.2.2.1
    obtain ⟨E, hE⟩ : ∃ E, eith (ow p) (ow q) = E := ⟨_, rfl⟩
    have c9 := fun (dq : Nat) (os : Array Obj) => either_any p q hi (hqp.2 hi) (hqq.2 hi) (grow (redrawn w dq) os) (Nat.le_trans hhi (below_regrown w dq os).size) (ET.In.keep (Below.keptTo (below_regrown w dq os) hhi) _ hiq.1) (ET.In.keep (Below.keptTo (below_regrown w dq os) hhi) _ hiq.2)
    simp only [hE] at c9
    rw [hE] at hQ
    have cu : ∀ (dq : Nat) (os : Array Obj), Calls Tryd.prog 56 #[.int .i64 E] (grow (redrawn w dq) os) fun e w' => e = .returned (.int .i64 Q) ∧ Below (grow (redrawn w dq) os).heap.size (grow (redrawn w dq) os) w' := fun dq os => (orUsual_any E _).mono (by rintro e W' ⟨rfl, rfl⟩; exact ⟨by rw [hQ], Below.refl _ _⟩)
    rw [← hXL] at HX HC HL HN
    have HXL : Hid (XL.length = 2) := Lib.hid (by rw [hXL]; rfl)
    simp only [List.length_cons, List.length_nil, Nat.zero_add] at z7
    clear hR hsh hip hiq hqp hqq hQ hE hXL h2 h3 h5 h6 h7 t1 e1 t2 e2 t11 e11 t12 e12 t13 e13 t14 e14 t15 e15 t16 e16 t17 e17 t18 e18 t6 e6 t25 e25 t26 e26 t19 e19 t20 e20 t21 e21 t22 e22 t23 e23
    obtain ⟨op5, wd5, v5, sg5, uh5, ul5, xn5, xa5, xc5, xl5⟩ := p
    obtain ⟨op6, wd6, v6, sg6, uh6, ul6, xn6, xa6, xc6, xl6⟩ := q
    have r0 : w.cell? ⟨B, 0, none⟩ = some (.int .i64 op5) := by have h9 := hrp 0 _ rfl; simpa using h9
    have r1 : w.cell? ⟨B, 1, none⟩ = some (.int .i64 wd5) := by have h9 := hrp 1 _ rfl; simpa using h9
    have r2 : w.cell? ⟨B, 2, none⟩ = some (.int .u64 (v5 : Int)) := by have h9 := hrp 2 _ rfl; simpa using h9
    have r3 : w.cell? ⟨B, 3, none⟩ = some (.int .i64 sg5) := by have h9 := hrp 3 _ rfl; simpa using h9
    have r4 : w.cell? ⟨B, 4, none⟩ = some (.int .i64 uh5) := by have h9 := hrp 4 _ rfl; simpa using h9
    have r5 : w.cell? ⟨B, 5, none⟩ = some (.int .i64 ul5) := by have h9 := hrp 5 _ rfl; simpa using h9
    have r6 : w.cell? ⟨B, 6, none⟩ = some (.int .i64 xn5) := by have h9 := hrp 6 _ rfl; simpa using h9
    have r7 : w.cell? ⟨B, 7, none⟩ = some (.slice xa5 xl5.length xc5) := by have h9 := hrp 7 _ rfl; simpa using h9
    have s0 : w.cell? ⟨B, 8, none⟩ = some (.int .i64 op6) := by have h9 := hrq 0 _ rfl; simpa using h9
    have s1 : w.cell? ⟨B, 9, none⟩ = some (.int .i64 wd6) := by have h9 := hrq 1 _ rfl; simpa using h9
    have s2 : w.cell? ⟨B, 10, none⟩ = some (.int .u64 (v6 : Int)) := by have h9 := hrq 2 _ rfl; simpa using h9
    have s3 : w.cell? ⟨B, 11, none⟩ = some (.int .i64 sg6) := by have h9 := hrq 3 _ rfl; simpa using h9
    have s4 : w.cell? ⟨B, 12, none⟩ = some (.int .i64 uh6) := by have h9 := hrq 4 _ rfl; simpa using h9
    have s5 : w.cell? ⟨B, 13, none⟩ = some (.int .i64 ul6) := by have h9 := hrq 5 _ rfl; simpa using h9
    have s6 : w.cell? ⟨B, 14, none⟩ = some (.int .i64 xn6) := by have h9 := hrq 6 _ rfl; simpa using h9
    have s7 : w.cell? ⟨B, 15, none⟩ = some (.slice xa6 xl6.length xc6) := by have h9 := hrq 7 _ rfl; simpa using h9
    simp only [ET.val, ET.cells] at c9
    have HCX := Lib.hid c9
    have HCU := Lib.hid cu
    have r0R := cell_regrown r0
    have r1R := cell_regrown r1
    have r2R := cell_regrown r2
    have r3R := cell_regrown r3
    have r4R := cell_regrown r4
    have r5R := cell_regrown r5
    have r6R := cell_regrown r6
    have r7R := cell_regrown r7
    have s0R := cell_regrown s0
    have s1R := cell_regrown s1
    have s2R := cell_regrown s2
    have s3R := cell_regrown s3
    have s4R := cell_regrown s4
    have s5R := cell_regrown s5
    have s6R := cell_regrown s6
    have s7R := cell_regrown s7
    have z7R := cell_regrown z7
    clear hrp hrq hhi c9 cu
    go_enter Tryd.func59, Tryd.ntmps59
    go_upto_region 29 with (fail)
    refine wp_region_quiet_below (by kernel_rfl) (by kernel_rfl) ?_
    repeat (go_big_quiet_step (first | (go_at_call 92; exact Calls.regrown_of (HCX.out _ _)) | (go_at_call 56; exact Calls.regrown_of (HCU.out _ _))))
    refine wpQuiet_nil ?_
    intro _ hw'
    obtain ⟨⟨dq, osq⟩, hw''⟩ := hw'
    subst hw''
    have hbq := below_regrown w dq osq
    have HB3 := Lib.hid hbq
    have sz3 : SzAt g f (grow (redrawn w dq) osq) := block_kept HX.out.2.2.1 hbq
    have hr3 : RowT tb (grow (redrawn w dq) osq) b (pre ++ ((ET.mk op wd v sg uh ul 24 (some ⟨B, 0, none⟩) 2 XL).cells ++ post)) := HX.out.1.keep (hbq.block b (Array.getElem?_eq_some_iff.1 HX.out.1).1)
    have hrc := rowT_cells hr3 o HPL.out
    clear r0R r0 r1R r1 r2R r2 r3R r3 r4R r4 r5R r5 r6R r6 r7R r7 s0R s0 s1R s1 s2R s2 s3R s3 s4R s4 s5R s5 s6R s6 s7R s7 z0 z1 z2 z3 z4 z5 z6 z7 z7R hbq
    generalize grow (redrawn w dq) osq = w3 at *
    have z0 : w3.cell? ⟨b, o, none⟩ = some (.int .i64 op) := hrc 0 _ rfl
    have z1 : w3.cell? ⟨b, o + 1, none⟩ = some (.int .i64 wd) := hrc 1 _ rfl
    have z7 : w3.cell? ⟨b, o + 7, none⟩ = some (.slice (some ⟨B, 0, none⟩) XL.length 2) := hrc 7 _ rfl
    have z2 := z0
    have z3 := z0
    have z4 := z0
    have z5 := z0
    have z6 := z0
    simp only [HXL.out] at z7
    clear hrc hr3
    by_cases t0 : wd = 1
    · have e0 : (wd == 1) = true := by rw [beq_iff_eq]; exact t0
      rw [e0] at HE
      clear t0
      have c0 := want_any g f true 90 w3 sz3
      have HW := Lib.hid c0
      clear c0
      go_wp2_with fail
      refine HW.out.mono ?_
      clear HW z0 z1 z2 z3 z4 z5 z6 z7
      rintro e W1 ⟨rfl, k1, s1⟩
      have k3 := HB3.out
      have hbl : b < w.heap.size := (Array.getElem?_eq_some_iff.1 HX.out.1).1
      have hr1 : RowT tb W1 b (pre ++ ((ET.mk op wd v sg uh ul 24 (some ⟨B, 0, none⟩) 2 XL).cells ++ post)) := HX.out.1.keep ((k1.block b (Nat.lt_of_lt_of_le hbl k3.size) (fun h => HX.out.2.2.2.2.2.2 h.symm)).trans (k3.block b hbl))
      have hrc := rowT_cells hr1 o HPL.out
      have z7 : W1.cell? ⟨b, o + 7, none⟩ = some (.slice (some ⟨B, 0, none⟩) XL.length 2) := hrc 7 _ rfl
      have kk : KeptP (Chp g lo hi) w W1 := (KeptP.of_below k3).trans (KeptP.of_kb1 k1 (Or.inl rfl))
      have c1 := sizeRow_any Q g lo hi (some ⟨B, 0, none⟩) 2 XL HL.out.1 (fun x hx => (HC.out x hx).1) (wantF f true 90) W1 (Nat.le_trans HX.out.2.2.2.1 kk.size) HX.out.2.2.2.2.2.1 (HX.out.2.1.keepP (fun k h1 h2 => (k1.block k (by have := HX.out.2.2.2.1; have := k3.size; omega) (by have := HX.out.2.2.2.2.2.1; omega)).trans (k3.block k (by have := HX.out.2.2.2.1; omega)))) s1
      simp only [HXL.out] at c1 z7
      have HK := Lib.hid kk
      clear hbl hr1 hrc k1 s1 kk k3
      go_wp2_with fail
      refine c1.mono ?_
      clear c1 z7
      rintro e W2 ⟨rfl, k2, r2, s2⟩
      have HP : Hid (OpP g lo hi (some ⟨B, 0, none⟩) 2 R w (.returned (.tuple #[])) W2) := Lib.hid (by
        rw [HE.out]
        exact ⟨rfl, HK.out.trans k2, by simpa using r2, s2⟩)
      clear k2 r2 s2
      go_wp2
      exact bodyPost_end (v := .tuple #[]) (by simp [results, Tryd.results59, go_sem]) rfl HP.out
    · have e0 : (wd == 1) = false := by rw [beq_eq_false_iff_ne]; exact t0
      rw [e0] at HE
      clear t0
      have c0 := want_any g f false 90 w3 sz3
      have HW := Lib.hid c0
      clear c0
      go_wp2_with fail
      refine HW.out.mono ?_
      clear HW z0 z1 z2 z3 z4 z5 z6 z7
      rintro e W1 ⟨rfl, k1, s1⟩
      have k3 := HB3.out
      have hbl : b < w.heap.size := (Array.getElem?_eq_some_iff.1 HX.out.1).1
      have hr1 : RowT tb W1 b (pre ++ ((ET.mk op wd v sg uh ul 24 (some ⟨B, 0, none⟩) 2 XL).cells ++ post)) := HX.out.1.keep ((k1.block b (Nat.lt_of_lt_of_le hbl k3.size) (fun h => HX.out.2.2.2.2.2.2 h.symm)).trans (k3.block b hbl))
      have hrc := rowT_cells hr1 o HPL.out
      have z7 : W1.cell? ⟨b, o + 7, none⟩ = some (.slice (some ⟨B, 0, none⟩) XL.length 2) := hrc 7 _ rfl
      have kk : KeptP (Chp g lo hi) w W1 := (KeptP.of_below k3).trans (KeptP.of_kb1 k1 (Or.inl rfl))
      have c1 := sizeRow_any Q g lo hi (some ⟨B, 0, none⟩) 2 XL HL.out.1 (fun x hx => (HC.out x hx).1) (wantF f false 90) W1 (Nat.le_trans HX.out.2.2.2.1 kk.size) HX.out.2.2.2.2.2.1 (HX.out.2.1.keepP (fun k h1 h2 => (k1.block k (by have := HX.out.2.2.2.1; have := k3.size; omega) (by have := HX.out.2.2.2.2.2.1; omega)).trans (k3.block k (by have := HX.out.2.2.2.1; omega)))) s1
      simp only [HXL.out] at c1 z7
      have HK := Lib.hid kk
      clear hbl hr1 hrc k1 s1 kk k3
      go_wp2_with fail
      refine c1.mono ?_
      clear c1 z7
      rintro e W2 ⟨rfl, k2, r2, s2⟩
      have HP : Hid (OpP g lo hi (some ⟨B, 0, none⟩) 2 R w (.returned (.tuple #[])) W2) := Lib.hid (by
        rw [HE.out]
        exact ⟨rfl, HK.out.trans k2, by simpa using r2, s2⟩)
      clear k2 r2 s2
      go_wp2
      exact bodyPost_end (v := .tuple #[]) (by simp [results, Tryd.results59, go_sem]) rfl HP.out
  have e24 : (xn == 24) = false := by rw [beq_eq_false_iff_ne]; exact t24
  by_cases t3 : xn = 3
  · subst t3
    have HE : Hid (R = szL xl 0 (fun _ => (false, 0)) (wantF f (wd == 1) 90)) := Lib.hid (by rw [← hR, show preF 4 3 0 wd 0 f = wantF f (wd == 1) 90 by simp [preF]]; exact szL_congr xl 0 0 _ _ _ (fun j _ => by simp [insF]))
    clear hR hsh t1 e1 t2 e2 t11 e11 t12 e12 t13 e13 t14 e14 t15 e15 t16 e16 t17 e17 t18 e18 t6 e6 t25 e25 t26 e26 t19 e19 t20 e20 t21 e21 t22 e22 t23 e23 t24 e24
    have HW := Lib.hid (fun (so : Bool) => want_any g f so 90 w HX.out.2.2.1)
    by_cases t0 : wd = 1
    · have e0 : (wd == 1) = true := by rw [beq_iff_eq]; exact t0
      rw [e0] at HE
      have HT := Lib.hid t0
      clear t0
      have c0 := HW.out true
      go_enter Tryd.func59, Tryd.ntmps59
      go_wp2_with fail
      refine c0.mono ?_
      clear c0 z0 z1 z2 z3 z4 z5 z6 z7
      rintro e W1 ⟨rfl, k1, s1⟩
      have hbl : b < w.heap.size := (Array.getElem?_eq_some_iff.1 HX.out.1).1
      have hr1 : RowT tb W1 b (pre ++ ((ET.mk op wd v sg uh ul 3 xa xc xl).cells ++ post)) := HX.out.1.keep (k1.block b hbl (fun h => HX.out.2.2.2.2.2.2 h.symm))
      have hrc := rowT_cells hr1 o HPL.out
      have z0 : W1.cell? ⟨b, o, none⟩ = some (.int .i64 op) := hrc 0 _ rfl
      have z1 : W1.cell? ⟨b, o + 1, none⟩ = some (.int .i64 wd) := hrc 1 _ rfl
      have z2 : W1.cell? ⟨b, o + 2, none⟩ = some (.int .u64 (v : Int)) := hrc 2 _ rfl
      have z3 : W1.cell? ⟨b, o + 3, none⟩ = some (.int .i64 sg) := hrc 3 _ rfl
      have z4 : W1.cell? ⟨b, o + 4, none⟩ = some (.int .i64 uh) := hrc 4 _ rfl
      have z5 : W1.cell? ⟨b, o + 5, none⟩ = some (.int .i64 ul) := hrc 5 _ rfl
      have z6 : W1.cell? ⟨b, o + 6, none⟩ = some (.int .i64 3) := hrc 6 _ rfl
      have z7 : W1.cell? ⟨b, o + 7, none⟩ = some (.slice xa xl.length xc) := hrc 7 _ rfl
      have c1 := sizeRow_any 0 g lo hi xa xc xl HL.out.1 (fun x hx => (HC.out x hx).1) (wantF f true 90) W1 (Nat.le_trans HX.out.2.2.2.1 k1.size) HX.out.2.2.2.2.2.1 (HX.out.2.1.keepP (fun k h1 h2 => k1.block k (by have := HX.out.2.2.2.1; omega) (by have := HX.out.2.2.2.2.2.1; omega))) s1
      have HK := Lib.hid (KeptP.of_kb1 (p := Chp g lo hi) k1 (Or.inl rfl))
      clear hbl hr1 hrc k1 s1
      go_wp2_with fail
      refine c1.mono ?_
      clear c1 z0 z1 z2 z3 z4 z5 z6 z7
      rintro e W2 ⟨rfl, k2, r2, s2⟩
      have HP : Hid (OpP g lo hi xa xc R w (.returned (.tuple #[])) W2) := Lib.hid (by
        rw [HE.out]
        exact ⟨rfl, HK.out.trans k2, by simpa using r2, s2⟩)
      clear k2 r2 s2
      go_wp2
      exact bodyPost_end (v := .tuple #[]) (by simp [results, Tryd.results59, go_sem]) rfl HP.out
    · have e0 : (wd == 1) = false := by rw [beq_eq_false_iff_ne]; exact t0
      rw [e0] at HE
      clear t0
      have c0 := HW.out false
      go_enter Tryd.func59, Tryd.ntmps59
      go_wp2_with fail
      refine c0.mono ?_
      clear c0 z0 z1 z2 z3 z4 z5 z6 z7
      rintro e W1 ⟨rfl, k1, s1⟩
      have hbl : b < w.heap.size := (Array.getElem?_eq_some_iff.1 HX.out.1).1
      have hr1 : RowT tb W1 b (pre ++ ((ET.mk op wd v sg uh ul 3 xa xc xl).cells ++ post)) := HX.out.1.keep (k1.block b hbl (fun h => HX.out.2.2.2.2.2.2 h.symm))
      have hrc := rowT_cells hr1 o HPL.out
      have z0 : W1.cell? ⟨b, o, none⟩ = some (.int .i64 op) := hrc 0 _ rfl
      have z1 : W1.cell? ⟨b, o + 1, none⟩ = some (.int .i64 wd) := hrc 1 _ rfl
      have z2 : W1.cell? ⟨b, o + 2, none⟩ = some (.int .u64 (v : Int)) := hrc 2 _ rfl
      have z3 : W1.cell? ⟨b, o + 3, none⟩ = some (.int .i64 sg) := hrc 3 _ rfl
      have z4 : W1.cell? ⟨b, o + 4, none⟩ = some (.int .i64 uh) := hrc 4 _ rfl
      have z5 : W1.cell? ⟨b, o + 5, none⟩ = some (.int .i64 ul) := hrc 5 _ rfl
      have z6 : W1.cell? ⟨b, o + 6, none⟩ = some (.int .i64 3) := hrc 6 _ rfl
      have z7 : W1.cell? ⟨b, o + 7, none⟩ = some (.slice xa xl.length xc) := hrc 7 _ rfl
      have c1 := sizeRow_any 0 g lo hi xa xc xl HL.out.1 (fun x hx => (HC.out x hx).1) (wantF f false 90) W1 (Nat.le_trans HX.out.2.2.2.1 k1.size) HX.out.2.2.2.2.2.1 (HX.out.2.1.keepP (fun k h1 h2 => k1.block k (by have := HX.out.2.2.2.1; omega) (by have := HX.out.2.2.2.2.2.1; omega))) s1
      have HK := Lib.hid (KeptP.of_kb1 (p := Chp g lo hi) k1 (Or.inl rfl))
      clear hbl hr1 hrc k1 s1
      go_wp2_with fail
      refine c1.mono ?_
      clear c1 z0 z1 z2 z3 z4 z5 z6 z7
      rintro e W2 ⟨rfl, k2, r2, s2⟩
      have HP : Hid (OpP g lo hi xa xc R w (.returned (.tuple #[])) W2) := Lib.hid (by
        rw [HE.out]
        exact ⟨rfl, HK.out.trans k2, by simpa using r2, s2⟩)
      clear k2 r2 s2
      go_wp2
      exact bodyPost_end (v := .tuple #[]) (by simp [results, Tryd.results59, go_sem]) rfl HP.out
  have e3 : (xn == 3) = false := by rw [beq_eq_false_iff_ne]; exact t3
  by_cases t4 : xn = 4
  · subst t4
    have HE : Hid (R = szL xl 0 (fun _ => (false, 0)) (wantF f (wd == 1) 90)) := Lib.hid (by rw [← hR, show preF 4 4 0 wd 0 f = wantF f (wd == 1) 90 by simp [preF]]; exact szL_congr xl 0 0 _ _ _ (fun j _ => by simp [insF]))
    clear hR hsh t1 e1 t2 e2 t11 e11 t12 e12 t13 e13 t14 e14 t15 e15 t16 e16 t17 e17 t18 e18 t6 e6 t25 e25 t26 e26 t19 e19 t20 e20 t21 e21 t22 e22 t23 e23 t24 e24 t3 e3
    have HW := Lib.hid (fun (so : Bool) => want_any g f so 90 w HX.out.2.2.1)
    by_cases t0 : wd = 1
    · have e0 : (wd == 1) = true := by rw [beq_iff_eq]; exact t0
      rw [e0] at HE
      have HT := Lib.hid t0
      clear t0
      have c0 := HW.out true
      go_enter Tryd.func59, Tryd.ntmps59
      go_wp2_with fail
      refine c0.mono ?_
      clear c0 z0 z1 z2 z3 z4 z5 z6 z7
      rintro e W1 ⟨rfl, k1, s1⟩
      have hbl : b < w.heap.size := (Array.getElem?_eq_some_iff.1 HX.out.1).1
      have hr1 : RowT tb W1 b (pre ++ ((ET.mk op wd v sg uh ul 4 xa xc xl).cells ++ post)) := HX.out.1.keep (k1.block b hbl (fun h => HX.out.2.2.2.2.2.2 h.symm))
      have hrc := rowT_cells hr1 o HPL.out
      have z0 : W1.cell? ⟨b, o, none⟩ = some (.int .i64 op) := hrc 0 _ rfl
      have z1 : W1.cell? ⟨b, o + 1, none⟩ = some (.int .i64 wd) := hrc 1 _ rfl
      have z2 : W1.cell? ⟨b, o + 2, none⟩ = some (.int .u64 (v : Int)) := hrc 2 _ rfl
      have z3 : W1.cell? ⟨b, o + 3, none⟩ = some (.int .i64 sg) := hrc 3 _ rfl
      have z4 : W1.cell? ⟨b, o + 4, none⟩ = some (.int .i64 uh) := hrc 4 _ rfl
      have z5 : W1.cell? ⟨b, o + 5, none⟩ = some (.int .i64 ul) := hrc 5 _ rfl
      have z6 : W1.cell? ⟨b, o + 6, none⟩ = some (.int .i64 4) := hrc 6 _ rfl
      have z7 : W1.cell? ⟨b, o + 7, none⟩ = some (.slice xa xl.length xc) := hrc 7 _ rfl
      have c1 := sizeRow_any 0 g lo hi xa xc xl HL.out.1 (fun x hx => (HC.out x hx).1) (wantF f true 90) W1 (Nat.le_trans HX.out.2.2.2.1 k1.size) HX.out.2.2.2.2.2.1 (HX.out.2.1.keepP (fun k h1 h2 => k1.block k (by have := HX.out.2.2.2.1; omega) (by have := HX.out.2.2.2.2.2.1; omega))) s1
      have HK := Lib.hid (KeptP.of_kb1 (p := Chp g lo hi) k1 (Or.inl rfl))
      clear hbl hr1 hrc k1 s1
      go_wp2_with fail
      refine c1.mono ?_
      clear c1 z0 z1 z2 z3 z4 z5 z6 z7
      rintro e W2 ⟨rfl, k2, r2, s2⟩
      have HP : Hid (OpP g lo hi xa xc R w (.returned (.tuple #[])) W2) := Lib.hid (by
        rw [HE.out]
        exact ⟨rfl, HK.out.trans k2, by simpa using r2, s2⟩)
      clear k2 r2 s2
      go_wp2
      exact bodyPost_end (v := .tuple #[]) (by simp [results, Tryd.results59, go_sem]) rfl HP.out
    · have e0 : (wd == 1) = false := by rw [beq_eq_false_iff_ne]; exact t0
      rw [e0] at HE
      clear t0
      have c0 := HW.out false
      go_enter Tryd.func59, Tryd.ntmps59
      go_wp2_with fail
      refine c0.mono ?_
      clear c0 z0 z1 z2 z3 z4 z5 z6 z7
      rintro e W1 ⟨rfl, k1, s1⟩
      have hbl : b < w.heap.size := (Array.getElem?_eq_some_iff.1 HX.out.1).1
      have hr1 : RowT tb W1 b (pre ++ ((ET.mk op wd v sg uh ul 4 xa xc xl).cells ++ post)) := HX.out.1.keep (k1.block b hbl (fun h => HX.out.2.2.2.2.2.2 h.symm))
      have hrc := rowT_cells hr1 o HPL.out
      have z0 : W1.cell? ⟨b, o, none⟩ = some (.int .i64 op) := hrc 0 _ rfl
      have z1 : W1.cell? ⟨b, o + 1, none⟩ = some (.int .i64 wd) := hrc 1 _ rfl
      have z2 : W1.cell? ⟨b, o + 2, none⟩ = some (.int .u64 (v : Int)) := hrc 2 _ rfl
      have z3 : W1.cell? ⟨b, o + 3, none⟩ = some (.int .i64 sg) := hrc 3 _ rfl
      have z4 : W1.cell? ⟨b, o + 4, none⟩ = some (.int .i64 uh) := hrc 4 _ rfl
      have z5 : W1.cell? ⟨b, o + 5, none⟩ = some (.int .i64 ul) := hrc 5 _ rfl
      have z6 : W1.cell? ⟨b, o + 6, none⟩ = some (.int .i64 4) := hrc 6 _ rfl
      have z7 : W1.cell? ⟨b, o + 7, none⟩ = some (.slice xa xl.length xc) := hrc 7 _ rfl
      have c1 := sizeRow_any 0 g lo hi xa xc xl HL.out.1 (fun x hx => (HC.out x hx).1) (wantF f false 90) W1 (Nat.le_trans HX.out.2.2.2.1 k1.size) HX.out.2.2.2.2.2.1 (HX.out.2.1.keepP (fun k h1 h2 => k1.block k (by have := HX.out.2.2.2.1; omega) (by have := HX.out.2.2.2.2.2.1; omega))) s1
      have HK := Lib.hid (KeptP.of_kb1 (p := Chp g lo hi) k1 (Or.inl rfl))
      clear hbl hr1 hrc k1 s1
      go_wp2_with fail
      refine c1.mono ?_
      clear c1 z0 z1 z2 z3 z4 z5 z6 z7
      rintro e W2 ⟨rfl, k2, r2, s2⟩
      have HP : Hid (OpP g lo hi xa xc R w (.returned (.tuple #[])) W2) := Lib.hid (by
        rw [HE.out]
        exact ⟨rfl, HK.out.trans k2, by simpa using r2, s2⟩)
      clear k2 r2 s2
      go_wp2
      exact bodyPost_end (v := .tuple #[]) (by simp [results, Tryd.results59, go_sem]) rfl HP.out
  have e4 : (xn == 4) = false := by rw [beq_eq_false_iff_ne]; exact t4
  by_cases t5 : xn = 5
  · subst t5
    have HE : Hid (R = szL xl 0 (fun _ => (false, 0)) (wantF f (wd == 1) 90)) := Lib.hid (by rw [← hR, show preF 4 5 0 wd 0 f = wantF f (wd == 1) 90 by simp [preF]]; exact szL_congr xl 0 0 _ _ _ (fun j _ => by simp [insF]))
    clear hR hsh t1 e1 t2 e2 t11 e11 t12 e12 t13 e13 t14 e14 t15 e15 t16 e16 t17 e17 t18 e18 t6 e6 t25 e25 t26 e26 t19 e19 t20 e20 t21 e21 t22 e22 t23 e23 t24 e24 t3 e3 t4 e4
    have HW := Lib.hid (fun (so : Bool) => want_any g f so 90 w HX.out.2.2.1)
    by_cases t0 : wd = 1
    · have e0 : (wd == 1) = true := by rw [beq_iff_eq]; exact t0
      rw [e0] at HE
      have HT := Lib.hid t0
      clear t0
      have c0 := HW.out true
      go_enter Tryd.func59, Tryd.ntmps59
      go_wp2_with fail
      refine c0.mono ?_
      clear c0 z0 z1 z2 z3 z4 z5 z6 z7
      rintro e W1 ⟨rfl, k1, s1⟩
      have hbl : b < w.heap.size := (Array.getElem?_eq_some_iff.1 HX.out.1).1
      have hr1 : RowT tb W1 b (pre ++ ((ET.mk op wd v sg uh ul 5 xa xc xl).cells ++ post)) := HX.out.1.keep (k1.block b hbl (fun h => HX.out.2.2.2.2.2.2 h.symm))
      have hrc := rowT_cells hr1 o HPL.out
      have z0 : W1.cell? ⟨b, o, none⟩ = some (.int .i64 op) := hrc 0 _ rfl
      have z1 : W1.cell? ⟨b, o + 1, none⟩ = some (.int .i64 wd) := hrc 1 _ rfl
      have z2 : W1.cell? ⟨b, o + 2, none⟩ = some (.int .u64 (v : Int)) := hrc 2 _ rfl
      have z3 : W1.cell? ⟨b, o + 3, none⟩ = some (.int .i64 sg) := hrc 3 _ rfl
      have z4 : W1.cell? ⟨b, o + 4, none⟩ = some (.int .i64 uh) := hrc 4 _ rfl
      have z5 : W1.cell? ⟨b, o + 5, none⟩ = some (.int .i64 ul) := hrc 5 _ rfl
      have z6 : W1.cell? ⟨b, o + 6, none⟩ = some (.int .i64 5) := hrc 6 _ rfl
      have z7 : W1.cell? ⟨b, o + 7, none⟩ = some (.slice xa xl.length xc) := hrc 7 _ rfl
      have c1 := sizeRow_any 0 g lo hi xa xc xl HL.out.1 (fun x hx => (HC.out x hx).1) (wantF f true 90) W1 (Nat.le_trans HX.out.2.2.2.1 k1.size) HX.out.2.2.2.2.2.1 (HX.out.2.1.keepP (fun k h1 h2 => k1.block k (by have := HX.out.2.2.2.1; omega) (by have := HX.out.2.2.2.2.2.1; omega))) s1
      have HK := Lib.hid (KeptP.of_kb1 (p := Chp g lo hi) k1 (Or.inl rfl))
      clear hbl hr1 hrc k1 s1
      go_wp2_with fail
      refine c1.mono ?_
      clear c1 z0 z1 z2 z3 z4 z5 z6 z7
      rintro e W2 ⟨rfl, k2, r2, s2⟩
      have HP : Hid (OpP g lo hi xa xc R w (.returned (.tuple #[])) W2) := Lib.hid (by
        rw [HE.out]
        exact ⟨rfl, HK.out.trans k2, by simpa using r2, s2⟩)
      clear k2 r2 s2
      go_wp2
      exact bodyPost_end (v := .tuple #[]) (by simp [results, Tryd.results59, go_sem]) rfl HP.out
    · have e0 : (wd == 1) = false := by rw [beq_eq_false_iff_ne]; exact t0
      rw [e0] at HE
      clear t0
      have c0 := HW.out false
      go_enter Tryd.func59, Tryd.ntmps59
      go_wp2_with fail
      refine c0.mono ?_
      clear c0 z0 z1 z2 z3 z4 z5 z6 z7
      rintro e W1 ⟨rfl, k1, s1⟩
      have hbl : b < w.heap.size := (Array.getElem?_eq_some_iff.1 HX.out.1).1
      have hr1 : RowT tb W1 b (pre ++ ((ET.mk op wd v sg uh ul 5 xa xc xl).cells ++ post)) := HX.out.1.keep (k1.block b hbl (fun h => HX.out.2.2.2.2.2.2 h.symm))
      have hrc := rowT_cells hr1 o HPL.out
      have z0 : W1.cell? ⟨b, o, none⟩ = some (.int .i64 op) := hrc 0 _ rfl
      have z1 : W1.cell? ⟨b, o + 1, none⟩ = some (.int .i64 wd) := hrc 1 _ rfl
      have z2 : W1.cell? ⟨b, o + 2, none⟩ = some (.int .u64 (v : Int)) := hrc 2 _ rfl
      have z3 : W1.cell? ⟨b, o + 3, none⟩ = some (.int .i64 sg) := hrc 3 _ rfl
      have z4 : W1.cell? ⟨b, o + 4, none⟩ = some (.int .i64 uh) := hrc 4 _ rfl
      have z5 : W1.cell? ⟨b, o + 5, none⟩ = some (.int .i64 ul) := hrc 5 _ rfl
      have z6 : W1.cell? ⟨b, o + 6, none⟩ = some (.int .i64 5) := hrc 6 _ rfl
      have z7 : W1.cell? ⟨b, o + 7, none⟩ = some (.slice xa xl.length xc) := hrc 7 _ rfl
      have c1 := sizeRow_any 0 g lo hi xa xc xl HL.out.1 (fun x hx => (HC.out x hx).1) (wantF f false 90) W1 (Nat.le_trans HX.out.2.2.2.1 k1.size) HX.out.2.2.2.2.2.1 (HX.out.2.1.keepP (fun k h1 h2 => k1.block k (by have := HX.out.2.2.2.1; omega) (by have := HX.out.2.2.2.2.2.1; omega))) s1
      have HK := Lib.hid (KeptP.of_kb1 (p := Chp g lo hi) k1 (Or.inl rfl))
      clear hbl hr1 hrc k1 s1
      go_wp2_with fail
      refine c1.mono ?_
      clear c1 z0 z1 z2 z3 z4 z5 z6 z7
      rintro e W2 ⟨rfl, k2, r2, s2⟩
      have HP : Hid (OpP g lo hi xa xc R w (.returned (.tuple #[])) W2) := Lib.hid (by
        rw [HE.out]
        exact ⟨rfl, HK.out.trans k2, by simpa using r2, s2⟩)
      clear k2 r2 s2
      go_wp2
      exact bodyPost_end (v := .tuple #[]) (by simp [results, Tryd.results59, go_sem]) rfl HP.out
  have e5 : (xn == 5) = false := by rw [beq_eq_false_iff_ne]; exact t5
  exfalso; omega
end Go.Proofs.YtbcgeglkmpcnpaaDoor
