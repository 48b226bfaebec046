/-
  sized: what the sizer writes into a tree, and which fault it tells.
-/
import Derived.Test.YtbcgeglkmpcnpaaDoorEzK
namespace Go.Proofs.YtbcgeglkmpcnpaaDoor
open Go Go.RowKit
set_option linter.unusedVariables false
set_option linter.unusedSimpArgs false
open Go.Sort

/-- The first fault is kept. -/
def wantF (f : Int) (so : Bool) (e : Int) : Int := if so = false ∧ f = 0 then e else f
/-- How a part is sized: as one bit, or to a width. -/
def insF (op xn w : Int) (l : List Int) (k : Nat) : Bool × Int :=
  if op = 6 then (if k = 0 then (true, 1) else (false, w))
  else if op = 4 ∨ op = 5 then
    (if xn = 1 ∨ xn = 2 ∨ (11 ≤ xn ∧ xn ≤ 16) then (false, w)
     else if xn = 17 ∨ xn = 18 then (if k = 0 then (false, w) else (false, 0))
     else if xn = 6 ∨ xn = 25 ∨ xn = 26 then (true, 1)
     else if 19 ≤ xn ∧ xn ≤ 24 then (false, orU (eith (l.getD 0 0) (l.getD 1 0)))
     else (false, 0))
  else (false, 0)
/-- What is asked ahead of the parts. -/
def preF (op xn own w : Int) (v : Nat) (f : Int) : Int :=
  if op = 1 then wantF (wantF f (own == 0 || own == w) 90) (holdsE w v) 92
  else if op = 4 ∨ op = 5 then (if xn = 1 ∨ xn = 2 ∨ (11 ≤ xn ∧ xn ≤ 18) then f else wantF f (w == 1) 90)
  else if op = 7 then wantF (wantF f (decide (own ≤ 64)) 90) (own == w) 90
  else if op = 2 ∨ op = 3 ∨ op = 8 then wantF f (own == w) 90
  else f
def ET.wd : ET → Int | .mk _ wd _ _ _ _ _ _ _ _ => wd
/-- What is asked behind the parts. -/
def postF (op xn w : Int) (l : List ET) (f : Int) : Int :=
  if op = 8 then wantF f (extB xn ((l.map ET.wd).getD 0 0) w) 90 else f
mutual
/-- A tree sized to a width (0: its own), and the fault, from a fault. -/
def szE : ET → Int → Int → ET × Int
  | .mk op wd v sg uh ul xn xa xc xl, w0, f =>
    let own := owF op wd uh ul xn (owL xl)
    let w := if w0 = 0 then orU own else w0
    let q := szL xl 0 (insF op xn w (owL xl)) (preF op xn own w v f)
    (.mk op w v sg uh ul xn xa xc q.1, postF op xn w q.1 q.2)
def szL : List ET → Nat → (Nat → Bool × Int) → Int → List ET × Int
  | [], _, _, f => ([], f)
  | x :: r, k, I, f =>
    let p := szE x (if (I k).1 = true then 1 else (I k).2) (if (I k).1 = true then wantF f (ow x == 0 || ow x == 1) 91 else f)
    let q := szL r (k + 1) I p.2
    (p.1 :: q.1, q.2)
end
/-- One part sized. -/
def szI (x : ET) (i : Bool × Int) (f : Int) : ET × Int := szE x (if i.1 = true then 1 else i.2) (if i.1 = true then wantF f (ow x == 0 || ow x == 1) 91 else f)
theorem szL_cons (x : ET) (r : List ET) (k : Nat) (I : Nat → Bool × Int) (f : Int) : szL (x :: r) k I f = ((szI x (I k) f).1 :: (szL r (k + 1) I (szI x (I k) f).2).1, (szL r (k + 1) I (szI x (I k) f).2).2) := by
  rw [szL]; rfl
theorem szL_app : ∀ (a b : List ET) (k : Nat) (I : Nat → Bool × Int) (f : Int), szL (a ++ b) k I f = ((szL a k I f).1 ++ (szL b (k + a.length) I (szL a k I f).2).1, (szL b (k + a.length) I (szL a k I f).2).2)
  | [], b, k, I, f => by simp [szL]
  | x :: r, b, k, I, f => by
    rw [List.cons_append, szL_cons, szL_cons, szL_app r b]
    simp only [List.length_cons, List.cons_append, show k + (r.length + 1) = k + 1 + r.length by omega]
theorem szL_len : ∀ (a : List ET) (k : Nat) (I : Nat → Bool × Int) (f : Int), (szL a k I f).1.length = a.length
  | [], k, I, f => by simp [szL]
  | x :: r, k, I, f => by rw [szL_cons]; simp [szL_len r]
theorem szL_congr : ∀ (a : List ET) (k k' : Nat) (I J : Nat → Bool × Int) (f : Int), (∀ j, j < a.length → I (k + j) = J (k' + j)) → szL a k I f = szL a k' J f
  | [], k, k', I, J, f, h => by simp [szL]
  | x :: r, k, k', I, J, f, h => by
    have h0 := h 0 (by simp)
    simp only [Nat.add_zero] at h0
    rw [szL_cons, szL_cons, h0, szL_congr r (k + 1) (k' + 1) I J _ (fun j hj => by
      have := h (j + 1) (by simp; omega)
      rwa [show k + (j + 1) = k + 1 + j by omega, show k' + (j + 1) = k' + 1 + j by omega] at this)]
theorem szL_snoc (l : List ET) (k : Nat) (h : k < l.length) (I : Nat → Bool × Int) (f : Int) : szL (l.take (k + 1)) 0 I f = ((szL (l.take k) 0 I f).1 ++ [(szI l[k] (I k) (szL (l.take k) 0 I f).2).1], (szI l[k] (I k) (szL (l.take k) 0 I f).2).2) := by
  rw [List.take_succ_eq_append_getElem h, szL_app, szL_cons]
  have : 0 + (l.take k).length = k := by simp; omega
  rw [this]
  simp [szL]
/-- All blocks but some lie as they lay. -/
structure KeptP (p : Nat → Prop) (W W' : World) : Prop where
  os : W'.os = W.os
  tape : W'.tape = W.tape
  output : W'.output = W.output
  size : W.heap.size ≤ W'.heap.size
  block : ∀ k, k < W.heap.size → ¬ p k → W'.heap[k]? = W.heap[k]?
theorem KeptP.refl (p : Nat → Prop) (W : World) : KeptP p W W := ⟨rfl, rfl, rfl, Nat.le_refl _, fun _ _ _ => rfl⟩
theorem KeptP.trans {p : Nat → Prop} {a b c : World} (h : KeptP p a b) (k : KeptP p b c) : KeptP p a c :=
  ⟨k.os.trans h.os, k.tape.trans h.tape, k.output.trans h.output, Nat.le_trans h.size k.size, fun i hi hn => (k.block i (Nat.lt_of_lt_of_le hi h.size) hn).trans (h.block i hi hn)⟩
theorem KeptP.mono {p q : Nat → Prop} {a b : World} (h : KeptP p a b) (hq : ∀ k, p k → q k) : KeptP q a b := ⟨h.os, h.tape, h.output, h.size, fun k hk hn => h.block k hk (fun hp => hn (hq k hp))⟩
theorem KeptP.of_below {p : Nat → Prop} {a b : World} (h : Below a.heap.size a b) : KeptP p a b := ⟨h.os, h.tape, h.output, h.size, fun k hk _ => h.block k hk⟩
theorem KeptP.of_kb1 {p : Nat → Prop} {B : Nat} {a b : World} (h : Kb1 B a b) (hp : p B) : KeptP p a b := ⟨h.os, h.tape, h.output, h.size, fun k hk hn => h.block k hk (fun e => hn (e ▸ hp))⟩
theorem KeptP.setCell {p : Nat → Prop} (W : World) (a : Addr) (v : Value) (h : p a.block) : KeptP p W (W.setCell a v) := ⟨rfl, rfl, rfl, by simp, fun k _ hn => Below.heap_setCell W a v k (fun e => hn (e ▸ h))⟩
theorem KeptP.sameOn {p : Nat → Prop} {lo hi : Nat} {a b : World} (h : KeptP p a b) (hs : hi ≤ a.heap.size) (hn : ∀ k, lo ≤ k → k < hi → ¬ p k) : SameOn lo hi a b := fun k h1 h2 => h.block k (by omega) (hn k h1 h2)
/-- The sizer's fault. -/
def SzAt (g : Nat) (f : Int) (w : World) : Prop := w.heap[g]? = some (.cells #[.int .i64 f] 61 (0, 0))
theorem SzAt.cell {g : Nat} {f : Int} {w : World} (h : SzAt g f w) : w.cell? ⟨g, 0, none⟩ = some (.int .i64 f) := by
  unfold SzAt at h; simp [World.cell?, h]
theorem SzAt.frozen {g : Nat} {f : Int} {w : World} (h : SzAt g f w) : w.frozen? ⟨g, 0, none⟩ = false := by
  unfold SzAt at h; simp [World.frozen?, h]
theorem SzAt.set {g : Nat} {f : Int} {w : World} (h : SzAt g f w) (e : Int) : SzAt g e (w.setCell ⟨g, 0, none⟩ (.int .i64 e)) := by
  unfold SzAt at *; simp [World.setCell, Array.getElem?_modify, h]
theorem SzAt.keep {g : Nat} {f : Int} {w w' : World} (h : SzAt g f w) (e : w'.heap[g]? = w.heap[g]?) : SzAt g f w' := by unfold SzAt at *; rw [e]; exact h
set_option maxHeartbeats 8000000 in
set_option maxRecDepth 100000 in
theorem want_any (g : Nat) (f : Int) (so : Bool) (e0 : Int) (w : World) (h : SzAt g f w) : Calls Tryd.prog 57 #[.pointer (some ⟨g, 0, none⟩), .bool so, .int .i64 e0] w fun e w' => e = .returned (.tuple #[]) ∧ Kb1 g w w' ∧ SzAt g (wantF f so e0) w' := by
  have z0 := h.cell
  have f0 := h.frozen
  have HS := Lib.hid h
  clear h
  cases so with
  | true =>
    go_enter Tryd.func57, Tryd.ntmps57
    go_wp2
    refine bodyPost_end (v := .tuple #[]) (by simp [results, Tryd.results57, go_sem]) rfl ⟨rfl, Kb1.refl _ _, ?_⟩
    simpa [wantF] using HS.out
  | false =>
    by_cases t0 : f = 0
    · have e1 : (f == 0) = true := by rw [beq_iff_eq]; exact t0
      have HE : Hid (wantF f false e0 = e0) := Lib.hid (by simp [wantF, t0])
      clear t0
      go_enter Tryd.func57, Tryd.ntmps57
      go_wp2
      refine bodyPost_end (v := .tuple #[]) (by simp [results, Tryd.results57, go_sem]) rfl ⟨rfl, Kb1.setCell _ _ _, ?_⟩
      rw [HE.out]; exact HS.out.set e0
    · have e1 : (f == 0) = false := by rw [beq_eq_false_iff_ne]; exact t0
      have HE : Hid (wantF f false e0 = f) := Lib.hid (by simp [wantF, t0])
      clear t0
      go_enter Tryd.func57, Tryd.ntmps57
      go_wp2
      refine bodyPost_end (v := .tuple #[]) (by simp [results, Tryd.results57, go_sem]) rfl ⟨rfl, Kb1.refl _ _, ?_⟩
      rw [HE.out]; exact HS.out
/-- What may change while a tree is sized: the block that it stands in, the sizer, its own rows. -/
def Chg (b g lo hi : Nat) (k : Nat) : Prop := k = b ∨ k = g ∨ (lo ≤ k ∧ k < hi)
/-- What sizing a tree leaves. -/
def SzP (tb : TypeId) (g b lo hi : Nat) (pre post : List Value) (r : ET × Int) (w : World) : Ending → World → Prop := fun e w' => e = .returned (.tuple #[]) ∧ KeptP (Chg b g lo hi) w w' ∧ RowT tb w' b (pre ++ (r.1.cells ++ post)) ∧ r.1.Own w' lo hi ∧ SzAt g r.2 w'
/-- What sizing a row leaves. -/
def SzQ (tb : TypeId) (g b lo hi : Nat) (pre post : List Value) (r : List ET × Int) (w : World) : Ending → World → Prop := fun e w' => e = .returned (.tuple #[]) ∧ KeptP (Chg b g lo hi) w w' ∧ RowT tb w' b (pre ++ (flatE r.1 ++ post)) ∧ ET.OwnL w' lo hi r.1 ∧ SzAt g r.2 w'
theorem flatE_cons (x : ET) (l : List ET) : flatE (x :: l) = x.cells ++ flatE l := by unfold flatE; rw [List.flatMap_cons]
set_option maxHeartbeats 8000000 in
set_option maxRecDepth 100000 in
theorem sizeAll_any {tb : TypeId} (g b : Nat) (w0 : Int) (hgb : g ≠ b) (l : List ET) (hll : l.length ≤ 12000000) (hc : ∀ x ∈ l, ∀ (o lo hi : Nat) (pre post : List Value) (f : Int) (w : World), pre.length = o → hi ≤ w.heap.size → lo ≤ hi → ¬ (lo ≤ b ∧ b < hi) → ¬ (lo ≤ g ∧ g < hi) → RowT tb w b (pre ++ (x.cells ++ post)) → x.Own w lo hi → SzAt g f w → Calls Tryd.prog 31 #[.pointer (some ⟨g, 0, none⟩), .pointer (some ⟨b, o, none⟩), .int .i64 w0] w (SzP tb g b lo hi pre post (szI x (false, w0) f) w))
    (o c lo hi : Nat) (pre post : List Value) (f : Int) (w : World) (hpl : pre.length = o) (hhi : hi ≤ w.heap.size) (hb : ¬ (lo ≤ b ∧ b < hi)) (hg : ¬ (lo ≤ g ∧ g < hi)) (hr : RowT tb w b (pre ++ (flatE l ++ post))) (ho : ET.OwnL w lo hi l) (hs : SzAt g f w) :
    Calls Tryd.prog 61 #[.pointer (some ⟨g, 0, none⟩), .slice (some ⟨b, o, none⟩) l.length c, .int .i64 w0] w (SzQ tb g b lo hi pre post (szL l 0 (fun _ => (false, w0)) f) w) := by
  have HX := Lib.hid (And.intro hpl (And.intro hhi (And.intro hb (And.intro hg hgb))))
  have HS0 := Lib.hid (And.intro hr (And.intro ho hs))
  clear hpl hhi hb hg hgb hr ho hs
  go_enter Tryd.func61, Tryd.ntmps61
  go_wp2
  go_loopw [9] (fun u wr => ∃ (k : Nat) (m : Nat), u = .int .i64 k ∧ k ≤ l.length ∧ KeptP (Chg b g lo hi) w wr ∧ RowT tb wr b (pre ++ (flatE (szL (l.take k) 0 (fun _ => (false, w0)) f).1 ++ (flatE (l.drop k) ++ post))) ∧ ET.OwnL wr lo m (szL (l.take k) 0 (fun _ => (false, w0)) f).1 ∧ ET.OwnL wr m hi (l.drop k) ∧ SzAt g (szL (l.take k) 0 (fun _ => (false, w0)) f).2 wr) (fun u _ => l.length - (intOf u).toNat)
  case atStart => exact ⟨0, lo, rfl, Nat.zero_le _, KeptP.refl _ _, by simpa [szL, flatE] using HS0.out.1, by simp [szL, ET.OwnL], by simpa using HS0.out.2.1, by simpa [szL] using HS0.out.2.2⟩
  case round =>
    obtain ⟨k, m, rfl, hk, hkp, hrm, ho1, ho2, hsz⟩ := hrel
    by_cases hlt : k < l.length
    · have d1 : decide (k < l.length) = true := by simpa using hlt
      have d2 : decide ((k : Int) < (l.length : Int)) = true := by rw [decide_eq_true_eq]; omega
      have x1 : (k : Int) < (l.length : Int) := by omega
      have hdr : l.drop k = l[k] :: l.drop (k + 1) := (List.getElem_cons_drop hlt).symm
      rw [hdr] at hrm ho2
      rw [ET.OwnL] at ho2
      obtain ⟨m2, hm1, hox, ho3⟩ := ho2
      rw [flatE_cons, List.append_assoc, ← List.append_assoc pre] at hrm
      have hle1 := ho1.le
      have hle3 := ho3.le
      obtain ⟨hpl, hhi, hb, hg, hgb⟩ := HX.out
      have hlen : (pre ++ flatE (szL (l.take k) 0 (fun _ => (false, w0)) f).1).length = o + k * 8 := by
        rw [List.length_append, flatE_len, szL_len, hpl, List.length_take]; congr 2; omega
      have c0 := hc l[k] (List.getElem_mem hlt) (o + k * 8) m m2 (pre ++ flatE (szL (l.take k) 0 (fun _ => (false, w0)) f).1) (flatE (l.drop (k + 1)) ++ post) (szL (l.take k) 0 (fun _ => (false, w0)) f).2 wr hlen (by have := hkp.size; omega) hm1 (by omega) (by omega) hrm hox hsz
      have HN := Lib.hid (szL_snoc l k hlt (fun _ => (false, w0)) f)
      have HK := Lib.hid (And.intro hkp (And.intro ho1 (And.intro ho3 (And.intro hm1 (And.intro hle1 hle3)))))
      generalize hys : (szL (l.take k) 0 (fun _ => (false, w0)) f).1 = ys at *
      generalize hfk : (szL (l.take k) 0 (fun _ => (false, w0)) f).2 = fk at *
      generalize hrx : szI l[k] (false, w0) fk = rx at *
      clear hc hkp hrm ho1 hox ho3 hsz hdr hlen hys hfk hrx hm1 hle1 hle3 hpl hhi hb hg hgb
      go_wp2_with fail
      refine c0.mono ?_
      clear c0
      rintro e W1 ⟨rfl, hk1, hr1, hown1, hs1⟩
      have HP : Hid (KeptP (Chg b g lo hi) w W1 ∧ RowT tb W1 b (pre ++ (flatE (szL (l.take (k + 1)) 0 (fun _ => (false, w0)) f).1 ++ (flatE (l.drop (k + 1)) ++ post))) ∧ ET.OwnL W1 lo m2 (szL (l.take (k + 1)) 0 (fun _ => (false, w0)) f).1 ∧ ET.OwnL W1 m2 hi (l.drop (k + 1)) ∧ SzAt g (szL (l.take (k + 1)) 0 (fun _ => (false, w0)) f).2 W1) := Lib.hid (by
        obtain ⟨hkp, ho1, ho3, hm1, hle1, hle3⟩ := HK.out
        obtain ⟨hpl, hhi, hb, hg, hgb⟩ := HX.out
        have hsz := hkp.size
        rw [HN.out]
        refine ⟨hkp.trans (hk1.mono (fun q hq => by unfold Chg at *; omega)), ?_, ?_, ?_, hs1⟩
        · rw [flatE_app, List.append_assoc, ← List.append_assoc pre]
          have e9 : flatE [rx.1] = rx.1.cells := by simp [flatE]
          rw [e9]; exact hr1
        · exact (ho1.keep (hk1.sameOn (by omega) (fun q h1 h2 => by unfold Chg; omega))).snoc hown1 hm1
        · exact ho3.keep (hk1.sameOn (by omega) (fun q h1 h2 => by unfold Chg; omega)))
      clear hk1 hr1 hown1 hs1 HK HN
      go_wp2
      go_roundw
      case rel => exact ⟨k + 1, m2, by simp; first | done | rfl | omega, by omega, HP.out⟩
      case measure => simp [intOf]; omega
    · have d1 : decide (k < l.length) = false := by simpa using hlt
      have d2 : decide ((k : Int) < (l.length : Int)) = false := by rw [decide_eq_false_iff_not]; omega
      have hkl : k = l.length := by omega
      have HP : Hid (SzQ tb g b lo hi pre post (szL l 0 (fun _ => (false, w0)) f) w (.returned (.tuple #[])) wr) := Lib.hid (by
        subst hkl
        rw [List.take_length, List.drop_length] at *
        rw [ET.OwnL] at ho2
        exact ⟨rfl, hkp, by simpa [flatE] using hrm, ho1.widen ho2, hsz⟩)
      clear hkl hkp hrm ho1 ho2 hsz hc
      go_wp2
      exact bodyPost_end (v := .tuple #[]) (by simp [results, Tryd.results61, go_sem]) rfl HP.out
set_option maxHeartbeats 8000000 in
set_option maxRecDepth 100000 in
theorem bits_any {tb : TypeId} (g b : Nat)  (hgb : g ≠ b) (l : List ET) (hll : l.length ≤ 12000000) (hc : ∀ x ∈ l, ∀ (o lo hi : Nat) (pre post : List Value) (f : Int) (w : World), pre.length = o → hi ≤ w.heap.size → lo ≤ hi → ¬ (lo ≤ b ∧ b < hi) → ¬ (lo ≤ g ∧ g < hi) → RowT tb w b (pre ++ (x.cells ++ post)) → x.Own w lo hi → SzAt g f w → Calls Tryd.prog 84 #[.pointer (some ⟨g, 0, none⟩), .pointer (some ⟨b, o, none⟩)] w (SzP tb g b lo hi pre post (szI x (true, 1) f) w))
    (o c lo hi : Nat) (pre post : List Value) (f : Int) (w : World) (hpl : pre.length = o) (hhi : hi ≤ w.heap.size) (hb : ¬ (lo ≤ b ∧ b < hi)) (hg : ¬ (lo ≤ g ∧ g < hi)) (hr : RowT tb w b (pre ++ (flatE l ++ post))) (ho : ET.OwnL w lo hi l) (hs : SzAt g f w) :
    Calls Tryd.prog 60 #[.pointer (some ⟨g, 0, none⟩), .slice (some ⟨b, o, none⟩) l.length c] w (SzQ tb g b lo hi pre post (szL l 0 (fun _ => (true, 1)) f) w) := by
  have HX := Lib.hid (And.intro hpl (And.intro hhi (And.intro hb (And.intro hg hgb))))
  have HS0 := Lib.hid (And.intro hr (And.intro ho hs))
  clear hpl hhi hb hg hgb hr ho hs
  go_enter Tryd.func60, Tryd.ntmps60
  go_wp2
  go_loopw [7] (fun u wr => ∃ (k : Nat) (m : Nat), u = .int .i64 k ∧ k ≤ l.length ∧ KeptP (Chg b g lo hi) w wr ∧ RowT tb wr b (pre ++ (flatE (szL (l.take k) 0 (fun _ => (true, 1)) f).1 ++ (flatE (l.drop k) ++ post))) ∧ ET.OwnL wr lo m (szL (l.take k) 0 (fun _ => (true, 1)) f).1 ∧ ET.OwnL wr m hi (l.drop k) ∧ SzAt g (szL (l.take k) 0 (fun _ => (true, 1)) f).2 wr) (fun u _ => l.length - (intOf u).toNat)
  case atStart => exact ⟨0, lo, rfl, Nat.zero_le _, KeptP.refl _ _, by simpa [szL, flatE] using HS0.out.1, by simp [szL, ET.OwnL], by simpa using HS0.out.2.1, by simpa [szL] using HS0.out.2.2⟩
  case round =>
    obtain ⟨k, m, rfl, hk, hkp, hrm, ho1, ho2, hsz⟩ := hrel
    by_cases hlt : k < l.length
    · have d1 : decide (k < l.length) = true := by simpa using hlt
      have d2 : decide ((k : Int) < (l.length : Int)) = true := by rw [decide_eq_true_eq]; omega
      have x1 : (k : Int) < (l.length : Int) := by omega
      have hdr : l.drop k = l[k] :: l.drop (k + 1) := (List.getElem_cons_drop hlt).symm
      rw [hdr] at hrm ho2
      rw [ET.OwnL] at ho2
      obtain ⟨m2, hm1, hox, ho3⟩ := ho2
      rw [flatE_cons, List.append_assoc, ← List.append_assoc pre] at hrm
      have hle1 := ho1.le
      have hle3 := ho3.le
      obtain ⟨hpl, hhi, hb, hg, hgb⟩ := HX.out
      have hlen : (pre ++ flatE (szL (l.take k) 0 (fun _ => (true, 1)) f).1).length = o + k * 8 := by
        rw [List.length_append, flatE_len, szL_len, hpl, List.length_take]; congr 2; omega
      have c0 := hc l[k] (List.getElem_mem hlt) (o + k * 8) m m2 (pre ++ flatE (szL (l.take k) 0 (fun _ => (true, 1)) f).1) (flatE (l.drop (k + 1)) ++ post) (szL (l.take k) 0 (fun _ => (true, 1)) f).2 wr hlen (by have := hkp.size; omega) hm1 (by omega) (by omega) hrm hox hsz
      have HN := Lib.hid (szL_snoc l k hlt (fun _ => (true, 1)) f)
      have HK := Lib.hid (And.intro hkp (And.intro ho1 (And.intro ho3 (And.intro hm1 (And.intro hle1 hle3)))))
      generalize hys : (szL (l.take k) 0 (fun _ => (true, 1)) f).1 = ys at *
      generalize hfk : (szL (l.take k) 0 (fun _ => (true, 1)) f).2 = fk at *
      generalize hrx : szI l[k] (true, 1) fk = rx at *
      clear hc hkp hrm ho1 hox ho3 hsz hdr hlen hys hfk hrx hm1 hle1 hle3 hpl hhi hb hg hgb
      go_wp2_with fail
      refine c0.mono ?_
      clear c0
      rintro e W1 ⟨rfl, hk1, hr1, hown1, hs1⟩
      have HP : Hid (KeptP (Chg b g lo hi) w W1 ∧ RowT tb W1 b (pre ++ (flatE (szL (l.take (k + 1)) 0 (fun _ => (true, 1)) f).1 ++ (flatE (l.drop (k + 1)) ++ post))) ∧ ET.OwnL W1 lo m2 (szL (l.take (k + 1)) 0 (fun _ => (true, 1)) f).1 ∧ ET.OwnL W1 m2 hi (l.drop (k + 1)) ∧ SzAt g (szL (l.take (k + 1)) 0 (fun _ => (true, 1)) f).2 W1) := Lib.hid (by
        obtain ⟨hkp, ho1, ho3, hm1, hle1, hle3⟩ := HK.out
        obtain ⟨hpl, hhi, hb, hg, hgb⟩ := HX.out
        have hsz := hkp.size
        rw [HN.out]
        refine ⟨hkp.trans (hk1.mono (fun q hq => by unfold Chg at *; omega)), ?_, ?_, ?_, hs1⟩
        · rw [flatE_app, List.append_assoc, ← List.append_assoc pre]
          have e9 : flatE [rx.1] = rx.1.cells := by simp [flatE]
          rw [e9]; exact hr1
        · exact (ho1.keep (hk1.sameOn (by omega) (fun q h1 h2 => by unfold Chg; omega))).snoc hown1 hm1
        · exact ho3.keep (hk1.sameOn (by omega) (fun q h1 h2 => by unfold Chg; omega)))
      clear hk1 hr1 hown1 hs1 HK HN
      go_wp2
      go_roundw
      case rel => exact ⟨k + 1, m2, by simp; first | done | rfl | omega, by omega, HP.out⟩
      case measure => simp [intOf]; omega
    · have d1 : decide (k < l.length) = false := by simpa using hlt
      have d2 : decide ((k : Int) < (l.length : Int)) = false := by rw [decide_eq_false_iff_not]; omega
      have hkl : k = l.length := by omega
      have HP : Hid (SzQ tb g b lo hi pre post (szL l 0 (fun _ => (true, 1)) f) w (.returned (.tuple #[])) wr) := Lib.hid (by
        subst hkl
        rw [List.take_length, List.drop_length] at *
        rw [ET.OwnL] at ho2
        exact ⟨rfl, hkp, by simpa [flatE] using hrm, ho1.widen ho2, hsz⟩)
      clear hkl hkp hrm ho1 ho2 hsz hc
      go_wp2
      exact bodyPost_end (v := .tuple #[]) (by simp [results, Tryd.results60, go_sem]) rfl HP.out
end Go.Proofs.YtbcgeglkmpcnpaaDoor
