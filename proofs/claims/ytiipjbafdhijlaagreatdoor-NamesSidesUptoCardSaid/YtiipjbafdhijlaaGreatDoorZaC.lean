/-
  NaC, in one text.
-/
import Derived.Test.YtiipjbafdhijlaaGreatDoorZaB
import Derived.Test.YtiipjbafdhijlaaGreatDoorZmP
import Derived.Shelf.Lay
import Derived.Shelf.SlMaps.Copy
import Derived.Ground.SlmpProg
import Derived.StillTailTactics
import Derived.BigQuiet
import Derived.BigRegion
import Derived.RegionTactic
import Derived.Deep.QuietTactic
import Derived.Test.YtiipjbafdhijlaaGreatDoorZaA
import Derived.Test.YtiipjbafdhijlaaGreatDoorZAZ
namespace Go.Proofs
open Go.Shelf
shelf_lay_g SlLaysX.n5 Slmp 5 at Tryz 176 as Tryz.copyM
end Go.Proofs
namespace Go.Proofs.YtiipjbafdhijlaaGreatDoor
open Go Go.RowKit
set_option linter.unusedVariables false
set_option linter.unusedSimpArgs false
open Go.Sort
/-- All blocks but these lie as they lay. -/
structure KeptBut (p : Nat → Prop) (W W' : World) : Prop where
 size : W.heap.size ≤ W'.heap.size
 block : ∀ i, i < W.heap.size → ¬ p i → W'.heap[i]? = W.heap[i]?
 io : Io W W'
theorem KeptBut.refl (p : Nat → Prop) (W : World) : KeptBut p W W := ⟨Nat.le_refl _, fun _ _ _ => rfl, Io.refl _⟩
theorem KeptBut.trans {p q : Nat → Prop} {A B C : World} (h : KeptBut p A B) (k : KeptBut q B C) (hq : ∀ i, i < A.heap.size → q i → p i) : KeptBut p A C :=
 ⟨Nat.le_trans h.size k.size, fun i hi hn => (k.block i (Nat.lt_of_lt_of_le hi h.size) (fun e => hn (hq i hi e))).trans (h.block i hi hn), h.io.trans k.io⟩
theorem KeptBut.less {p q : Nat → Prop} {A B : World} (h : KeptBut q A B) (hq : ∀ i, i < A.heap.size → q i → p i) : KeptBut p A B := (KeptBut.refl p A).trans h hq
theorem KeptBut.of_below {p : Nat → Prop} {W W' : World} (h : Below W.heap.size W W') : KeptBut p W W' := ⟨h.size, fun i hi _ => h.block i hi, Io.below h⟩
theorem KeptBut.below {p : Nat → Prop} {W W' : World} {n : Nat} (h : KeptBut p W W') (hn : n ≤ W.heap.size) (hp : ∀ i, i < n → ¬ p i) : Below n W W' := ⟨h.io.1, h.io.2.1, h.io.2.2, h.size, fun i hi => h.block i (Nat.lt_of_lt_of_le hi hn) (hp i hi)⟩
theorem KeptBut.of1 {m : Nat} {W W' : World} (h : KeptBut1 m W W') : KeptBut (fun i => i = m) W W' := ⟨h.size, fun i hi hn => h.block i hi hn, h.io⟩
theorem KeptBut.drew (p : Nat → Prop) (W : World) (n : Nat) : KeptBut p W (W.drewN n) := ⟨Nat.le_of_eq (by rw [drew_heap]), fun i _ _ => by rw [drew_heap], Io.drew _ _⟩
theorem KeptBut.to {p : Nat → Prop} {W W' : World} {n : Nat} (h : KeptBut p W W') (hn : n ≤ W.heap.size) (hp : ∀ i, i < n → ¬ p i) : KeptTo n W W' := by
 intro b o x hb hx
 rw [World.cell?_of_block (w := W) (h.block b (by omega) (hp b hb))]
 exact hx
theorem KeptBut.grown {p : Nat → Prop} {W W' : World} {row : Option Nat} (h : W.grownBy W' row) (hp : ∀ i, row = some i → p i) : KeptBut p W W' := ⟨h.size, fun i hi hn => h.block i hi (fun e => hn (hp i e.symm)), Io.grown h⟩
theorem KeptBut.setCell {p : Nat → Prop} (W : World) (a : Addr) (v : Value) (hp : p a.block) : KeptBut p W (W.setCell a v) := ⟨by simp, fun i hi hn => Below.heap_setCell W a v i (fun e => hn (by rw [e]; exact hp)), rfl, rfl, rfl⟩
theorem Chain.lt {W : World} : ∀ {l : List Sc}, Chain W l → ∀ s ∈ l, s.b < W.heap.size ∧ s.m < W.heap.size
 | s :: r, h, x, hx => by
  rcases List.mem_cons.1 hx with e | e
  ·subst e
   exact ⟨(Array.getElem?_eq_some_iff.1 h.1).1, h.2.1.lt⟩
  ·exact Chain.lt h.2.2 x e
theorem Chain.but {W W' : World} {p : Nat → Prop} (hk : KeptBut p W W') : ∀ {l : List Sc}, Chain W l → (∀ s ∈ l, ¬ p s.b ∧ ¬ p s.m) → Chain W' l
 | [], _, _ => trivial
 | s :: r, h, hn => ⟨(hk.block _ (Array.getElem?_eq_some_iff.1 h.1).1 (hn s (by simp)).1).trans h.1, h.2.1.block (hk.block _ h.2.1.lt (hn s (by simp)).2), Chain.but hk h.2.2 (fun x hx => hn x (by simp [hx]))⟩
/-- A scope's block is no set's. -/
theorem SetAt.ne_cells {W : World} {m n : Nat} {ns : List Bytes} (h : SetAt W m n ns) {b : Nat} {cs : Array Value} {t : TypeId} {k : Nat × Nat} (hb : W.heap[b]? = some (.cells cs t k)) : b ≠ m := by
 intro e
 obtain ⟨D', ⟨es, cc, h1, _⟩, _⟩ := h
 rw [e, h1] at hb
 cases hb
theorem Chain.ne {W : World} {m n : Nat} {ns : List Bytes} (hm : SetAt W m n ns) : ∀ {l : List Sc}, Chain W l → ∀ s ∈ l, s.b ≠ m
 | s :: r, h, x, hx => by
  rcases List.mem_cons.1 hx with e | e
  ·subst e; exact hm.ne_cells h.1
  ·exact Chain.ne hm h.2.2 x e
theorem Chain.ne_m {W : World} {b : Nat} {cs : Array Value} {t : TypeId} {k : Nat × Nat} (hb : W.heap[b]? = some (.cells cs t k)) : ∀ {l : List Sc}, Chain W l → ∀ s ∈ l, s.m ≠ b
 | s :: r, h, x, hx => by
  rcases List.mem_cons.1 hx with e | e
  ·subst e; exact fun e => h.2.1.ne_cells hb e.symm
  ·exact Chain.ne_m hb h.2.2 x e
theorem still_at {P : Program} {id : Nat} {Q : Exit → Act → World → Prop} {a : Act} {w : World} {l : List Oper} (n : Nat) (hm : P.follows .mixedOrders = true) (hB : Region.lexTailB .any l.toArray n = true)
  (h : ∀ W2 : World, W2 = w.drew → wpStill P l.toArray W2 (fun a' => wpList P l.toArray Q (l.drop n) a' W2) (l.take n) a) : (Code.region id l.toArray true).wp P Q a w := wp_region_still_tail n hm hB (h _ rfl)
theorem law_str : Maps.Keyed Tryz.prog 9 := Maps.string_keyed Tryz.underlying9
/-- maps.Copy of two sets. -/
theorem copy_sets (W : World) (a b na nb : Nat) (la lb : List Bytes) (ha : SetAt W a na la) (hb : SetAt W b nb lb) (hne : a ≠ b) (hn : na + nb ≤ 12000000) :
  Calls Tryz.prog 176 #[.map (some a), .map (some b)] W fun e W' => e = .returned (.tuple #[]) ∧ SetAt W' a (na + nb) (la ++ lb) ∧ W.grownBy W' (some a) := by
 obtain ⟨Da, ha, hDa⟩ := ha
 obtain ⟨Db, hb, hDb⟩ := hb
 have hs := hb.size_le
 have hcon := AnyX.maps_Copy Tryz.copyM law_str (plainElem Tryz.prog 4) a b na nb Da Db W ha hb hne (by unfold maxLen; omega)
 refine hcon.mono ?_
 rintro e W' ⟨rfl, h1, h2, h3⟩
 refine ⟨rfl, ⟨_, h1.mono (by omega), fun s => ?_⟩, h3⟩
 obtain ⟨es, he, hp, hk⟩ := hb.entries law_str
 have hm := merge_look ha.isMap he hp hk (.string s) (.lit (.bool false))
 rw [hm.1, hm.2, (hDa s).1, (hDa s).2, (hDb s).1, (hDb s).2]
 have hc : (la ++ lb).contains s = (la.contains s || lb.contains s) := by
  rw [Bool.eq_iff_iff, Bool.or_eq_true, List.contains_iff_mem, List.contains_iff_mem, List.contains_iff_mem, List.mem_append]
 rw [hc]
 refine ⟨?_, rfl⟩
 cases h : lb.contains s <;> simp
set_option maxHeartbeats 4000000 in
set_option maxRecDepth 100000 in
theorem takeIn_any (W : World) (c d : Sc) (r : List Sc) (hc : Chain W (c :: r)) (hd : W.heap[d.b]? = some (.cells #[scP (c :: r), .map (some d.m)] 151 (0, 0))) (hdm : SetAt W d.m d.n d.ns)
  (hne : d.b ≠ c.b) (hnm : d.m ≠ c.m) (hnr : ∀ s ∈ r, (s.b ≠ c.b ∧ s.b ≠ d.b) ∧ s.m ≠ c.m ∧ s.m ≠ d.m) (hn : c.n + d.n ≤ 12000000) :
  Calls Tryz.prog 169 #[.pointer (some ⟨c.b, 0, none⟩), .pointer (some ⟨d.b, 0, none⟩)] W fun e W' => e = .returned (.tuple #[]) ∧ KeptBut (fun i => i = c.b ∨ i = c.m ∨ i = d.b ∨ i = d.m) W W' ∧
   ∃ m, (m = c.m ∨ m = d.m) ∧ Chain W' (⟨c.b, m, c.n + d.n, c.ns ++ d.ns⟩ :: r) := by
 obtain ⟨hcb, hcm, hcr⟩ := hc
 obtain ⟨Dc, hoc, _⟩ := id hcm
 obtain ⟨Dd, hod, _⟩ := id hdm
 have l1 := fun (n : Nat) ty => World.ownsMap.len (w := W.drewN n) hoc (t := 81) Tryz.underlying81 ty
 have l2 := fun (n : Nat) ty => World.ownsMap.len (w := W.drewN n) hod (t := 81) Tryz.underlying81 ty
 have y1 : W.cell? ⟨c.b, 1, none⟩ = some (.map (some c.m)) := by simp [World.cell?, hcb]
 have y2 : W.cell? ⟨d.b, 1, none⟩ = some (.map (some d.m)) := by simp [World.cell?, hd]
 have y1n : ∀ n, (W.drewN n).cell? ⟨c.b, 1, none⟩ = some (.map (some c.m)) := fun n => y1
 have y2n : ∀ n, (W.drewN n).cell? ⟨d.b, 1, none⟩ = some (.map (some d.m)) := fun n => y2
 have f1 : W.frozen? ⟨c.b, 1, none⟩ = false := by simp [World.frozen?, hcb]
 have f2 : W.frozen? ⟨d.b, 1, none⟩ = false := by simp [World.frozen?, hd]
 have nbm : c.b ≠ c.m := hcm.ne_cells hcb
 have nbm2 : c.b ≠ d.m := hdm.ne_cells hcb
 have nbm3 : d.b ≠ c.m := hcm.ne_cells hd
 have nbm4 : d.b ≠ d.m := hdm.ne_cells hd
 have H0 := Lib.hid (And.intro hcb (And.intro hd (And.intro hcm (And.intro hdm (And.intro hcr (And.intro hnr (And.intro hne (And.intro hnm (And.intro nbm (And.intro nbm2 (And.intro nbm3 nbm4)))))))))))
 obtain ⟨A, hA⟩ : ∃ A, Maps.size Dc = A := ⟨_, rfl⟩
 obtain ⟨B, hB⟩ : ∃ B, Maps.size Dd = B := ⟨_, rfl⟩
 rw [hA] at l1
 rw [hB] at l2
 clear hA hB hoc hod
 by_cases hlt : (A : Int) < (B : Int)
 ·have d1 : decide ((A : Int) < (B : Int)) = true := by simpa using hlt
  have hcd : c.b ≠ d.b := fun e => hne e.symm
  have hW2 : ∀ n, ∃ V, V = ((W.drewN n).setCell ⟨c.b, 1, none⟩ (.map (some d.m))).setCell ⟨d.b, 1, none⟩ (.map (some c.m)) ∧ V.heap[c.b]? = some (.cells #[scP r, .map (some d.m)] 151 (0, 0)) ∧ KeptBut (fun i => i = c.b ∨ i = d.b) W V ∧ V.cell? ⟨d.b, 1, none⟩ = some (.map (some c.m)) := by
   intro n
   refine ⟨_, rfl, ?_, ?_, ?_⟩
   ·rw [Below.heap_setCell _ _ _ _ (show c.b ≠ d.b from hcd)]
    have : (W.drewN n).heap[c.b]? = some (.cells #[scP r, .map (some c.m)] 151 (0, 0)) := hcb
    simp [World.setCell, Array.getElem?_modify]
    exact ⟨_, hcb, rfl⟩
   ·exact ((KeptBut.drew _ W n).trans (KeptBut.setCell (W.drewN n) ⟨c.b, 1, none⟩ _ (.inl rfl)) (fun _ _ e => e)).trans (KeptBut.setCell _ ⟨d.b, 1, none⟩ _ (.inr rfl)) (fun _ _ e => e)
   ·exact World.cell?_setCell_same _ _ _ (u := .map (some d.m)) (by rw [World.cell?_setCell_other _ _ _ _ (by intro e; injection e with e1; exact hcd e1)]; exact y2)
  have H2 := Lib.hid hW2
  clear hcb hd hcm hdm hcr hnr hnm nbm nbm2 nbm3 nbm4 hW2
  go_enter Tryz.func169, Tryz.ntmps169
  go_wp2_with fail
  go_quiet (fail)
  go_wp2_with fail
  go_region
  obtain ⟨V, hV, hB2, hk0, hz2⟩ := H2.out (nq + 1)
  rw [← hV]
  obtain ⟨hcb, hd, hcm, hdm, hcr, hnr, hne, hnm, nbm, nbm2, nbm3, nbm4⟩ := H0.out
  have hc2 : SetAt V c.m c.n c.ns := hcm.block (hk0.block _ hcm.lt (fun e => e.elim (fun e => nbm e.symm) (fun e => nbm3 e.symm)))
  have hd2 : SetAt V d.m d.n d.ns := hdm.block (hk0.block _ hdm.lt (fun e => e.elim (fun e => nbm2 e.symm) (fun e => nbm4 e.symm)))
  have hcp := copy_sets V.drew d.m c.m d.n c.n d.ns c.ns (hd2.block rfl) (hc2.block rfl) hnm (by omega)
  have z1 : V.cell? ⟨c.b, 1, none⟩ = some (.map (some d.m)) := by simp [World.cell?, hB2]
  have H3 := Lib.hid (And.intro hB2 hk0)
  clear hcb hd hcm hdm hcr hnr hnm nbm nbm2 nbm3 nbm4 hB2 hk0 hc2 hd2 hV H2 y1 y2 y1n y2n f1 f2 l1 l2
  go_wp2_with fail
  refine still_at 8 (by kernel_rfl) (by kernel_rfl) ?_
  intro W2 hW2
  rw [← hW2] at hcp
  have z1' : W2.cell? ⟨c.b, 1, none⟩ = some (.map (some d.m)) := by rw [hW2]; exact z1
  have z2' : W2.cell? ⟨d.b, 1, none⟩ = some (.map (some c.m)) := by rw [hW2]; exact hz2
  have HW := Lib.hid hW2
  clear hW2 z1 hz2
  simp only [List.take_succ_cons, List.take_zero, List.drop_succ_cons, List.drop_zero]
  repeat still_step
  refine wpStill_nil ?_
  go_wp2_with fail
  refine hcp.mono ?_
  rintro e W' ⟨rfl, hS, hg⟩
  rw [HW.out] at hg
  obtain ⟨hcb, hd, hcm, hdm, hcr, hnr, hne, hnm, nbm, nbm2, nbm3, nbm4⟩ := H0.out
  obtain ⟨hB2, hk0⟩ := H3.out
  have hk : KeptBut (fun i => i = d.m) V W' := (show KeptBut (fun i => i = d.m) V V.drew from ⟨Nat.le_refl _, fun _ _ _ => rfl, rfl, rfl, rfl⟩).trans (KeptBut.grown (p := fun i => i = d.m) hg (fun i e => (Option.some.inj e).symm)) (fun _ _ e => e)
  have HF := Lib.hid (show KeptBut (fun i => i = c.b ∨ i = c.m ∨ i = d.b ∨ i = d.m) W W' ∧ ∃ m, (m = c.m ∨ m = d.m) ∧ Chain W' (⟨c.b, m, c.n + d.n, c.ns ++ d.ns⟩ :: r) from by
   have hkk : KeptBut (fun i => i = c.b ∨ i = c.m ∨ i = d.b ∨ i = d.m) W W' := (hk0.less (p := fun i => i = c.b ∨ i = c.m ∨ i = d.b ∨ i = d.m) (fun i _ e => e.elim .inl (fun e => .inr (.inr (.inl e))))).trans hk (fun i _ e => .inr (.inr (.inr e)))
   refine ⟨hkk, d.m, .inr rfl, (hk.block _ (Array.getElem?_eq_some_iff.1 hB2).1 nbm2).trans hB2, (hS.more (by show d.n + c.n ≤ c.n + d.n; omega)).same (fun s => by rw [List.mem_append, List.mem_append]; exact or_comm), ?_⟩
   exact Chain.but ((hk0.less (p := fun i => i = c.b ∨ i = d.b ∨ i = d.m) (fun i _ e => e.elim .inl (fun e => .inr (.inl e)))).trans hk (fun i _ e => .inr (.inr e))) hcr (fun s hs => ⟨fun e => (e.elim (hnr s hs).1.1 (fun e => e.elim (hnr s hs).1.2 (Chain.ne hdm hcr s hs))), fun e => (e.elim (Chain.ne_m hcb hcr s hs) (fun e => e.elim (Chain.ne_m hd hcr s hs) (hnr s hs).2.2))⟩))
  clear hcb hd hcm hdm hcr hnr hne hnm nbm nbm2 nbm3 nbm4 hk hg hS hB2 hk0
  go_wp2_with fail
  exact bodyPost_end (results_none rfl _ _ _) rfl ⟨rfl, HF.out⟩
 ·have d1 : decide ((A : Int) < (B : Int)) = false := by simpa using hlt
  have hcp := fun n => copy_sets (W.drewN n).drew c.m d.m c.n d.n c.ns d.ns (hcm.block rfl) (hdm.block rfl) (fun e => hnm e.symm) hn
  clear hcb hd hcm hdm hcr hnr hne hnm nbm nbm2 nbm3 nbm4
  go_enter Tryz.func169, Tryz.ntmps169
  go_wp2_with fail
  go_quiet (fail)
  go_wp2_with fail
  have hcp2 := hcp nq
  refine still_at 8 (by kernel_rfl) (by kernel_rfl) ?_
  intro W2 hW2
  rw [← hW2] at hcp2
  have z1 : W2.cell? ⟨c.b, 1, none⟩ = some (.map (some c.m)) := by rw [hW2]; exact y1
  have z2 : W2.cell? ⟨d.b, 1, none⟩ = some (.map (some d.m)) := by rw [hW2]; exact y2
  have HW := Lib.hid hW2
  clear hW2 hcp y1n y2n y1 y2
  simp only [List.take_succ_cons, List.take_zero, List.drop_succ_cons, List.drop_zero]
  repeat still_step
  refine wpStill_nil ?_
  go_wp2_with fail
  refine hcp2.mono ?_
  rintro e W' ⟨rfl, hS, hg⟩
  rw [HW.out] at hg
  obtain ⟨hcb, hd, hcm, hdm, hcr, hnr, hne, hnm, nbm, nbm2, nbm3, nbm4⟩ := H0.out
  have hk : KeptBut (fun i => i = c.m) W W' := (show KeptBut (fun i => i = c.m) W (W.drewN nq).drew from ⟨Nat.le_refl _, fun _ _ _ => rfl, rfl, rfl, rfl⟩).trans (KeptBut.grown (p := fun i => i = c.m) hg (fun i e => (Option.some.inj e).symm)) (fun _ _ e => e)
  have HF := Lib.hid (show KeptBut (fun i => i = c.b ∨ i = c.m ∨ i = d.b ∨ i = d.m) W W' ∧ ∃ m, (m = c.m ∨ m = d.m) ∧ Chain W' (⟨c.b, m, c.n + d.n, c.ns ++ d.ns⟩ :: r) from
   ⟨hk.less (fun i _ e => .inr (.inl e)), c.m, .inl rfl, (hk.block _ (Array.getElem?_eq_some_iff.1 hcb).1 nbm).trans hcb, hS, Chain.but hk hcr (fun s hs => ⟨Chain.ne hcm hcr s hs, (hnr s hs).2.1⟩)⟩)
  clear hcb hd hcm hdm hcr hnr hne hnm nbm nbm2 nbm3 nbm4 hk hg hS
  go_wp2_with fail
  exact bodyPost_end (results_none rfl _ _ _) rfl ⟨rfl, HF.out⟩
end Go.Proofs.YtiipjbafdhijlaaGreatDoor
namespace Go.Proofs.YtiipjbafdhijlaaGreatDoor
open Go Go.RowKit
set_option linter.unusedVariables false
set_option linter.unusedSimpArgs false
open Go.Sort
def arOf (r : List Sc) : List Bytes := r.flatMap Sc.ns
theorem toldIn_ar (c : Sc) (r : List Sc) (s : Bytes) : toldIn (c :: r) s = (c.ns ++ arOf r).contains s := by
 have h : ∀ l : List Sc, toldIn l s = (arOf l).contains s := by
  intro l
  induction l with
  | nil => rfl
  | cons x t ih =>
   have e1 : toldIn (x :: t) s = (x.ns.contains s || toldIn t s) := rfl
   have e2 : arOf (x :: t) = x.ns ++ arOf t := by simp [arOf]
   rw [e1, e2, ih, Bool.eq_iff_iff, Bool.or_eq_true, List.contains_iff_mem, List.contains_iff_mem, List.contains_iff_mem, List.mem_append]
 rw [h]
 have e2 : arOf (c :: r) = c.ns ++ arOf r := by simp [arOf]
 rw [e2]
def IT.op : IT → Int | .mk op _ _ _ _ _ _ _ _ _ _ _ _ _ _ _ _ _ _ _ _ => op
def IT.nm : IT → Bytes | .mk _ nm _ _ _ _ _ _ _ _ _ _ _ _ _ _ _ _ _ _ _ => nm
/-- How telling ends: what is thrown, or the scope with the names. -/
def TelEnd (z : Nat) (c : Sc) (r : List Sc) (n : Nat) (o : Option (List Bytes)) (e : Ending) (W' : World) : Prop := match o with
 | none => e = .panicked thrown
 | some S => e = .returned (.tuple #[]) ∧ ∃ m n', (m = c.m ∨ z ≤ m) ∧ n' ≤ n ∧ Chain W' (⟨c.b, m, n', S⟩ :: r)
/-- What telling into a scope leaves. -/
def TelPost (W : World) (c : Sc) (r : List Sc) (k : Nat) (o : Option (List Bytes)) (e : Ending) (W' : World) : Prop :=
 KeptBut (fun i => i = c.b ∨ i = c.m) W W' ∧ TelEnd W.heap.size c r (c.n + k) o e W'
def TellL (l : List IT) : Prop := ∀ (W : World) (n0 : Nat) (a : Option Addr) (cap : Nat) (c : Sc) (r : List Sc), n0 ≤ W.heap.size → n0 ≤ c.b → n0 ≤ c.m → InRow 9 IT.cells (IT.In n0 W) n0 W l a → Chain W (c :: r) → (∀ s ∈ r, s.b ≠ c.b ∧ s.m ≠ c.m) →
 IT.bkL l ≤ 4500000 → c.n + IT.bkL l ≤ 9000000 → Calls Tryz.prog 144 #[.pointer (some ⟨c.b, 0, none⟩), .slice a l.length cap] W fun e W' => TelPost W c r (IT.bkL l) (telL (arOf r) c.ns l) e W'
theorem inside_at (W : World) (h : Nat) (c : Sc) (r : List Sc) (hh : W.heap.size = h) (hc : Chain W (c :: r)) :
  Calls Tryz.prog 85 #[.pointer (some ⟨c.b, 0, none⟩)] W fun e W' => e = .returned (.pointer (some ⟨h + 1, 0, none⟩)) ∧ Chain W' (⟨h + 1, h, 0, []⟩ :: c :: r) ∧ Below h W W' ∧ W'.heap.size = h + 2 := by
 subst hh
 exact inside_any W (c :: r) hc
theorem telI_choice {nm nf : Bytes} {xa : Option Addr} {xc : Nat} {xl : List XT} {sa : Option Addr} {sc : Nat} {sl : List ST} {la : Option Addr} {lc : Nat} {ll : List IT} {ea : Option Addr} {ec : Nat} {el : List IT} {pa : Option Addr} {pc : Nat} {pl : List BT} {ba : Option Addr} {bc : Nat} {bl : List BT} (ar S : List Bytes) :
  telI ar S (.mk 8 nm nf xa xc xl sa sc sl la lc ll ea ec el pa pc pl ba bc bl) = (match telL (S ++ ar) [] ll with | none => none | some a => match telL (S ++ ar) [] el with | none => none | some b => some (S ++ (a ++ b))) := by rw [telI, if_pos rfl]; rfl
set_option maxHeartbeats 8000000 in
set_option maxRecDepth 100000 in
theorem tellChoice_of (W : World) (n0 b o : Nat) (c : Sc) (r : List Sc) (la ea : Option Addr) (lc ec : Nat) (ll el : List IT) (hl : TellL ll) (he : TellL el)
  (r5 : W.cell? ⟨b, o + 5, none⟩ = some (.slice la ll.length lc)) (r6 : W.cell? ⟨b, o + 6, none⟩ = some (.slice ea el.length ec)) (hb : b < n0)
  (hn0 : n0 ≤ W.heap.size) (hcb : n0 ≤ c.b) (hcm : n0 ≤ c.m) (i2 : InRow 9 IT.cells (IT.In n0 W) n0 W ll la) (i3 : InRow 9 IT.cells (IT.In n0 W) n0 W el ea) (hC : Chain W (c :: r)) (hap : ∀ s ∈ r, s.b ≠ c.b ∧ s.m ≠ c.m)
  (hbk : IT.bkL ll + IT.bkL el ≤ 4500000) (hcn : c.n + IT.bkL ll + IT.bkL el ≤ 9000000) :
  Calls Tryz.prog 159 #[.pointer (some ⟨c.b, 0, none⟩), .pointer (some ⟨b, o, none⟩)] W fun e W' =>
   TelPost W c r (IT.bkL ll + IT.bkL el) (match telL (c.ns ++ arOf r) [] ll with | none => none | some a => match telL (c.ns ++ arOf r) [] el with | none => none | some b => some (c.ns ++ (a ++ b))) e W' := by
 have har : arOf (c :: r) = c.ns ++ arOf r := by simp [arOf]
 have hlt := Chain.lt hC
 have hltc := hlt c (by simp)
 obtain ⟨O, hO⟩ : ∃ O, (match telL (c.ns ++ arOf r) [] ll with | none => none | some a => match telL (c.ns ++ arOf r) [] el with | none => none | some b => some (c.ns ++ (a ++ b))) = O := ⟨_, rfl⟩
 rw [hO]
 rw [← har] at hO
 obtain ⟨h, hh⟩ : ∃ h, W.heap.size = h := ⟨_, rfl⟩
 rw [hh] at hn0 hlt hltc
 have q1 := inside_at W h c r hh hC
 have HO := Lib.hid hO
 have HI := Lib.hid (And.intro i2 i3)
 have HC := Lib.hid hC
 have HA := Lib.hid (And.intro hap hlt)
 have HL := Lib.hid (And.intro hl he)
 clear hO har i2 i3 hC hap hl he hlt
 go_enter Tryz.func159, Tryz.ntmps159
 go_wp2_with fail
 refine q1.mono ?_
 clear q1
 rintro e W1 ⟨rfl, hC1, hB1, hz1⟩
 have hCc1 : Chain W1 (c :: r) := hC1.2.2
 have q2 := inside_at W1 (h + 2) c r hz1 hCc1
 have H1 := Lib.hid (And.intro hC1 hB1)
 clear hC1 hB1 hCc1
 go_wp2_with fail
 refine q2.mono ?_
 clear q2
 rintro e W2 ⟨rfl, hC2, hB2, hz2⟩
 obtain ⟨hC1, hB1⟩ := H1.out
 obtain ⟨hl, he⟩ := HL.out
 obtain ⟨hap, hlt⟩ := HA.out
 have hBW2 : Below h W W2 := hB1.trans (hB2.mono (by omega))
 have k2 : KeptTo n0 W W2 := Below.keptTo hBW2 hn0
 have r5a := k2 _ _ _ hb r5
 have r6a := k2 _ _ _ hb r6
 have hCs2 : Chain W2 (⟨h + 1, h, 0, []⟩ :: c :: r) := hC1.keep (by rw [hz1]; exact hB2)
 have q3 := hl W2 n0 la lc ⟨h + 1, h, 0, []⟩ (c :: r) (by omega) (by show n0 ≤ h + 1; omega) hn0 (HI.out.1.keep k2 (fun x _ => IT.In.keep k2 x)) hCs2 (fun s hs => by have := hlt s hs; exact ⟨by show s.b ≠ h + 1; omega, by show s.m ≠ h; omega⟩) (by omega) (by show 0 + _ ≤ 9000000; omega)
 have H2 := Lib.hid (And.intro hC2 (And.intro hBW2 hCs2))
 clear hC1 hB1 hl he hap hlt hBW2 k2 hCs2 H1 hC2 hB2
 go_wp2_with fail
 refine q3.mono ?_
 clear q3
 rintro e W3 ⟨hk3, hp3⟩
 obtain ⟨hC2, hBW2, hCs2⟩ := H2.out
 have hkW3 : KeptBut (fun i => i = c.b ∨ i = c.m) W W3 := (KeptBut.of_below (by rw [hh]; exact hBW2)).trans hk3 (fun i hi e => by exfalso; rcases e with e | e <;> simp only at e <;> omega)
 cases hT : telL (arOf (c :: r)) [] ll with
 | none =>
  rw [hT] at hp3
  replace hp3 : e = .panicked thrown := hp3
  subst hp3
  have hOO := HO.out
  rw [hT] at hOO
  refine ⟨rfl, ?_⟩
  show TelPost W c r _ O _ _
  rw [← hOO]
  exact ⟨hkW3, rfl⟩
 | some A =>
  rw [hT] at hp3
  obtain ⟨rfl, m1, n1, hm1, hn1, hC3⟩ := hp3
  simp only [Nat.zero_add] at hn1
  have hz3 := hk3.size
  obtain ⟨hap, hlt⟩ := HA.out
  have hltm1 := (Chain.lt hC3 _ (List.mem_cons_self ..)).2
  simp only at hm1 hltm1
  have hCn3 : Chain W3 (⟨h + 2 + 1, h + 2, 0, []⟩ :: c :: r) := Chain.but hk3 hC2 (fun s hs => by
   rcases List.mem_cons.1 hs with e | e
   ·subst e; exact ⟨by (try simp only); omega, by (try simp only); omega⟩
   ·have := hlt s e; exact ⟨by (try simp only); omega, by (try simp only); omega⟩)
  have k3 : KeptTo n0 W W3 := hkW3.to (by omega) (fun i hi => by (try simp only); omega)
  have r5b := k3 _ _ _ hb r5
  have r6b := k3 _ _ _ hb r6
  have q4 := HL.out.2 W3 n0 ea ec ⟨h + 2 + 1, h + 2, 0, []⟩ (c :: r) (by omega) (by show n0 ≤ h + 2 + 1; omega) (by show n0 ≤ h + 2; omega) (HI.out.2.keep k3 (fun x _ => IT.In.keep k3 x)) hCn3 (fun s hs => by have := hlt s hs; exact ⟨by show s.b ≠ h + 2 + 1; omega, by show s.m ≠ h + 2; omega⟩) (by omega) (by show 0 + _ ≤ 9000000; omega)
  have H3 := Lib.hid (And.intro hkW3 (And.intro hC3 (And.intro hm1 (And.intro hltm1 hT))))
  clear hkW3 hC3 hCn3 k3 hap hlt hk3 hm1 hC2 hBW2 hCs2 H2 r5a r6a hltm1 hT
  go_wp2_with fail
  refine q4.mono ?_
  clear q4
  rintro e W4 ⟨hk4, hp4⟩
  obtain ⟨hkW3, hC3, hm1, hltm1, hT⟩ := H3.out
  have hkW4 : KeptBut (fun i => i = c.b ∨ i = c.m) W W4 := hkW3.trans hk4 (fun i hi e => by exfalso; rcases e with e | e <;> simp only at e <;> omega)
  cases hT2 : telL (arOf (c :: r)) [] el with
  | none =>
   rw [hT2] at hp4
   replace hp4 : e = .panicked thrown := hp4
   subst hp4
   have hOO := HO.out
   rw [hT, hT2] at hOO
   refine ⟨rfl, ?_⟩
   show TelPost W c r _ O _ _
   rw [← hOO]
   exact ⟨hkW4, rfl⟩
  | some B =>
   rw [hT2] at hp4
   obtain ⟨rfl, m2, n2, hm2, hn2, hC4⟩ := hp4
   simp only [Nat.zero_add] at hn2
   have hz4 := hk4.size
   have hltm2 := (Chain.lt hC4 _ (List.mem_cons_self ..)).2
   simp only at hm2 hltm2
   obtain ⟨hap, hlt⟩ := HA.out
   have hCs4 : Chain W4 (⟨h + 1, m1, n1, A⟩ :: c :: r) := Chain.but hk4 hC3 (fun s hs => by
    rcases List.mem_cons.1 hs with e | e
    ·subst e; exact ⟨by (try simp only); omega, by (try simp only); omega⟩
    ·have := hlt s e; exact ⟨by (try simp only); omega, by (try simp only); omega⟩)
   have q5 := takeIn_any W4 c ⟨h + 1, m1, n1, A⟩ r hC4.2.2 hCs4.1 hCs4.2.1 (by show h + 1 ≠ c.b; omega) (by show m1 ≠ c.m; omega) (fun s hs => by have := hlt s (by simp [hs]); have := hap s hs; exact ⟨⟨this.1, by show s.b ≠ h + 1; omega⟩, this.2, by show s.m ≠ m1; omega⟩) (by show c.n + n1 ≤ 12000000; omega)
   have H4 := Lib.hid (And.intro hkW4 (And.intro hC4 (And.intro hm2 (And.intro hltm2 (And.intro hT (And.intro hT2 hm1))))))
   clear hkW4 hC4 hCs4 hm2 hltm2 hT hT2 hkW3 hC3 hm1 hk4 hap hlt H3 r5b r6b
   dsimp only at q5
   go_wp2_with fail
   refine q5.mono ?_
   clear q5
   rintro e W5 ⟨rfl, hk5, m3, hm3, hC5⟩
   obtain ⟨hkW4, hC4, hm2, hltm2, hT, hT2, hm1⟩ := H4.out
   obtain ⟨hap, hlt⟩ := HA.out
   have hz5 := hk5.size
   have hnb : W5.heap[h + 2 + 1]? = some (.cells #[scP (c :: r), .map (some m2)] 151 (0, 0)) := (hk5.block _ (Array.getElem?_eq_some_iff.1 hC4.1).1 (by (try simp only); omega)).trans hC4.1
   have hnm : SetAt W5 m2 n2 B := hC4.2.1.block (hk5.block _ hltm2 (by simp only; omega))
   have q6 := takeIn_any W5 ⟨c.b, m3, c.n + n1, c.ns ++ A⟩ ⟨h + 2 + 1, m2, n2, B⟩ r hC5 hnb hnm (by show h + 2 + 1 ≠ c.b; omega) (by show m2 ≠ m3; omega) (fun s hs => by have := hlt s (by simp [hs]); have := hap s hs; exact ⟨⟨this.1, by show s.b ≠ h + 2 + 1; omega⟩, by show s.m ≠ m3; omega, by show s.m ≠ m2; omega⟩) (by show c.n + n1 + n2 ≤ 12000000; omega)
   have H5 := Lib.hid (And.intro hkW4 (And.intro hk5 (And.intro hm2 (And.intro hm3 (And.intro hT (And.intro hT2 hm1))))))
   clear hkW4 hk5 hm2 hm3 hT hT2 hC4 hC5 hnb hnm hltm2 H4 hap hlt
   dsimp only at q6
   go_wp2_with fail
   refine q6.mono ?_
   clear q6
   rintro e W6 ⟨rfl, hk6, m4, hm4, hC6⟩
   obtain ⟨hkW4, hk5, hm2, hm3, hT, hT2, hm1⟩ := H5.out
   have hOO := HO.out
   rw [hT, hT2] at hOO
   have HF := Lib.hid (show TelPost W c r (IT.bkL ll + IT.bkL el) O (.returned (.tuple #[])) W6 by
    rw [← hOO]
    refine ⟨?_, rfl, m4, c.n + n1 + n2, ?_, ?_, ?_⟩
    ·refine (hkW4.trans hk5 (fun i hi e => ?_)).trans hk6 (fun i hi e => ?_)
     ·(try simp only at e ⊢); omega
     ·(try simp only at e ⊢); omega
    ·(try simp only at hm4); omega
    ·omega
    ·have : c.ns ++ (A ++ B) = c.ns ++ A ++ B := (List.append_assoc ..).symm
     rw [this]; exact hC6)
   clear hkW4 hk5 hm2 hm3 hT hT2 hk6 hm4 hC6 hOO HO HI HC HA HL H5 hm1
   go_wp2_with fail
   exact bodyPost_end (results_none rfl _ _ _) rfl HF.out
/-- One item told, whatever it is. -/
theorem telI_own {x : IT} (ar S : List Bytes) (h : x.op ≠ 8) : telI ar S x = if ownOp x.op = true then (if (S ++ ar).contains x.nm = true then none else some (S ++ [x.nm])) else some S := by
 obtain ⟨op, nm, nf, xa, xc, xl, sa, sc, sl, la, lc, ll, ea, ec, el, pa, pc, pl, ba, bc, bl⟩ := x
 rw [telI, if_neg (show ¬ op = 8 from h)]
 have e : tellsI op = ownOp op := by
  simp only [tellsI, ownOp]
  rw [Bool.eq_iff_iff]; simp only [Bool.or_eq_true, beq_iff_eq]; omega
 rw [e]; rfl
theorem telL_app (ar : List Bytes) : ∀ (l m : List IT) (S : List Bytes), telL ar S (l ++ m) = (telL ar S l).bind fun T => telL ar T m
 | [], m, S => rfl
 | x :: r, m, S => by
  rw [List.cons_append, telL, telL]
  cases telI ar S x with
  | none => rfl
  | some T => exact telL_app ar r m T
theorem telL_one (ar S : List Bytes) (x : IT) : telL ar S [x] = telI ar S x := by
 rw [telL]
 cases telI ar S x <;> rfl
theorem telL_next {ar S0 S : List Bytes} {l : List IT} {k : Nat} (h : k < l.length) (ht : telL ar S0 (l.take k) = some S) : telL ar S0 (l.take (k + 1)) = telI ar S l[k] ∧ (telI ar S l[k] = none → telL ar S0 l = none) := by
 have h1 : telL ar S0 (l.take (k + 1)) = telI ar S l[k] := by
  rw [List.take_succ_eq_append_getElem h, telL_app, ht]
  exact telL_one ar S l[k]
 refine ⟨h1, fun hn => ?_⟩
 have h2 : telL ar S0 (l.take (k + 1) ++ l.drop (k + 1)) = none := by rw [telL_app, h1, hn]; rfl
 rwa [List.take_append_drop] at h2
theorem IT.bkL_app : ∀ l m : List IT, IT.bkL (l ++ m) = IT.bkL l + IT.bkL m
 | [], m => by simp [IT.bkL]
 | x :: r, m => by simp [IT.bkL, IT.bkL_app r m]; omega
theorem IT.bkL_next {l : List IT} {k : Nat} (h : k < l.length) : IT.bkL (l.take (k + 1)) = IT.bkL (l.take k) + l[k].bk ∧ IT.bkL (l.take (k + 1)) ≤ IT.bkL l := by
 refine ⟨by rw [List.take_succ_eq_append_getElem h, IT.bkL_app]; simp [IT.bkL], ?_⟩
 have := IT.bkL_app (l.take (k + 1)) (l.drop (k + 1))
 rw [List.take_append_drop] at this
 omega
/-- What telling leaves, told of the world ahead. -/
theorem TelPost.after {W W1 W' : World} {c : Sc} {r : List Sc} {m n k : Nat} {S : List Bytes} {o : Option (List Bytes)} {e : Ending} (hp : TelPost W1 ⟨c.b, m, n, S⟩ r k o e W') (hk : KeptBut (fun i => i = c.b ∨ i = c.m) W W1) (hm : m = c.m ∨ W.heap.size ≤ m) :
  KeptBut (fun i => i = c.b ∨ i = c.m) W W' ∧ TelEnd W.heap.size c r (n + k) o e W' := by
 obtain ⟨h1, h2⟩ := hp
 refine ⟨hk.trans h1 (fun i hi e => by simp only at e ⊢; omega), ?_⟩
 cases o with
 | none => exact h2
 | some S' =>
  obtain ⟨he, m', n', hm', hn', hc⟩ := h2
  refine ⟨he, m', n', ?_, hn', hc⟩
  have := hk.size
  simp only at hm'
  omega
set_option maxHeartbeats 8000000 in
set_option maxRecDepth 100000 in
theorem tellItems_of (l : List IT) (hx : ∀ x ∈ l, ∀ nm nf xa xc xl sa sc sl la lc ll ea ec el pa pc pl ba bc bl, x = .mk 8 nm nf xa xc xl sa sc sl la lc ll ea ec el pa pc pl ba bc bl → TellL ll ∧ TellL el) : TellL l := by
 intro W n0 a cap c r hn0 hcb hcm hin hC hap hbk hcn
 have hlt := Chain.lt hC
 have hltc := hlt c (by simp)
 have hll := IT.bkL_len l
 have HX := Lib.hid hx
 have HI := Lib.hid hin
 have HC := Lib.hid hC
 have HA := Lib.hid (And.intro hap hlt)
 clear hx hin hap hlt hC
 obtain ⟨Q, hQ⟩ : ∃ Q : Ending → World → Prop, (fun e W' => TelPost W c r (IT.bkL l) (telL (arOf r) c.ns l) e W') = Q := ⟨_, rfl⟩
 rw [hQ]
 have HQ := Lib.hid hQ
 clear hQ
 go_enter Tryz.func144, Tryz.ntmps144
 go_wp2_with fail
 go_loopg [8] l.length (fun g u wr => ∃ (k : Nat) (m n : Nat) (S : List Bytes), u = .int .i64 k ∧ k + g = l.length ∧ telL (arOf r) c.ns (l.take k) = some S ∧ (m = c.m ∨ W.heap.size ≤ m) ∧ n ≤ c.n + IT.bkL (l.take k) ∧ Chain wr (⟨c.b, m, n, S⟩ :: r) ∧ KeptBut (fun i => i = c.b ∨ i = c.m) W wr)
 case atStart => exact ⟨0, c.m, c.n, c.ns, rfl, by omega, rfl, .inl rfl, by simp [IT.bkL], HC.out, KeptBut.refl _ _⟩
 case round =>
  obtain ⟨k, m, n, S, rfl, hk, htk, hm, hn, hch, hkb⟩ := hrel
  by_cases hlt : k < l.length
  ·have d1 : decide (k < l.length) = true := by simpa using hlt
   have d2 : decide ((k : Int) < (l.length : Int)) = true := by rw [decide_eq_true_eq]; omega
   have x1 : (k : Int) < (l.length : Int) := by omega
   have hkt : KeptTo n0 W wr := hkb.to hn0 (fun i hi => by (try simp only); omega)
   have hkz := hkb.size
   obtain ⟨b, o, rfl, hb, hr, hxin⟩ := (HI.out).at hlt
   obtain ⟨ht1, ht2⟩ := telL_next hlt htk
   obtain ⟨hb1, hb2⟩ := IT.bkL_next hlt
   have hxx := HX.out _ (List.getElem_mem hlt)
   have HT := Lib.hid (And.intro ht1 ht2)
   obtain ⟨hap, hltr⟩ := HA.out
   clear ht1 ht2 htk
   generalize l[k] = x at *
   obtain ⟨op, nm, nf, xa, xc, xl, sa, sc, sl, la, lc, ll, ea, ec, el, pa, pc, pl, ba, bc, bl⟩ := x
   have hxin2 := hxin.keep hkt
   rw [IT.In_mk] at hxin2
   obtain ⟨-, -, i2, i3, -, -⟩ := hxin2
   have r0 : wr.cell? ⟨b, o + k * 9, none⟩ = some (.int .i64 op) := hkt _ _ _ hb (hr 0 _ rfl)
   have r1 : wr.cell? ⟨b, o + k * 9 + 1, none⟩ = some (.string (bs nm)) := hkt _ _ _ hb (hr 1 _ rfl)
   have r5 : wr.cell? ⟨b, o + k * 9 + 5, none⟩ = some (.slice la ll.length lc) := hkt _ _ _ hb (hr 5 _ rfl)
   have r6 : wr.cell? ⟨b, o + k * 9 + 6, none⟩ = some (.slice ea el.length ec) := hkt _ _ _ hb (hr 6 _ rfl)
   have hbx : IT.bkL ll + IT.bkL el + nm.length + 1 ≤ (IT.mk op nm nf xa xc xl sa sc sl la lc ll ea ec el pa pc pl ba bc bl).bk := by simp only [IT.bk]; omega
   have hic := isChoice_any ⟨b, o + k * 9, none⟩ op wr r0
   have hapm : ∀ s ∈ r, s.b ≠ c.b ∧ s.m ≠ m := fun s hs => ⟨(hap s hs).1, by have := hltr s (by simp [hs]); have := (hap s hs).2; omega⟩
   have hmr : m ∉ r.map Sc.m := fun h => by
    obtain ⟨s, hs, e⟩ := List.mem_map.1 h
    exact (hapm s hs).2 e
   have HP : Hid (∀ e W', TelPost wr ⟨c.b, m, n, S⟩ r (IT.mk op nm nf xa xc xl sa sc sl la lc ll ea ec el pa pc pl ba bc bl).bk (telI (arOf r) S (.mk op nm nf xa xc xl sa sc sl la lc ll ea ec el pa pc pl ba bc bl)) e W' →
     (e = .panicked thrown ∧ Q e W') ∨ (e = .returned (.tuple #[]) ∧ ∃ (m n : Nat) (S : List Bytes), telL (arOf r) c.ns (l.take (k + 1)) = some S ∧ (m = c.m ∨ W.heap.size ≤ m) ∧ n ≤ c.n + IT.bkL (l.take (k + 1)) ∧ Chain W' (⟨c.b, m, n, S⟩ :: r) ∧ KeptBut (fun i => i = c.b ∨ i = c.m) W W')) := Lib.hid (by
    intro e W' hp
    obtain ⟨h1, h2⟩ := hp.after hkb hm
    obtain ⟨ht1, ht2⟩ := HT.out
    cases hq : telI (arOf r) S (.mk op nm nf xa xc xl sa sc sl la lc ll ea ec el pa pc pl ba bc bl) with
    | none =>
     rw [hq] at h2
     replace h2 : e = .panicked thrown := h2
     refine .inl ⟨h2, ?_⟩
     rw [← HQ.out]
     show TelPost W c r _ _ _ _
     rw [ht2 hq]
     exact ⟨h1, h2⟩
    | some S' =>
     rw [hq] at h2 ht1
     obtain ⟨he, m', n', hm', hn', hc'⟩ := h2
     exact .inr ⟨he, m', n', S', ht1, hm', by omega, hc', h1⟩)
   by_cases h8 : op = 8
   ·subst h8
    have q := tellChoice_of wr n0 b (o + k * 9) ⟨c.b, m, n, S⟩ r la ea lc ec ll el (hxx _ _ _ _ _ _ _ _ _ _ _ _ _ _ _ _ _ _ _ _ rfl).1 (hxx _ _ _ _ _ _ _ _ _ _ _ _ _ _ _ _ _ _ _ _ rfl).2 r5 r6 hb (by omega) hcb (by show n0 ≤ m; omega) i2 i3 hch hapm (by omega) (by show n + _ + _ ≤ 9000000; omega)
    have q2 := q.mono (fun e W' (hp : TelPost _ _ _ _ _ _ _) => HP.out e W' (by
     rw [telI_choice]
     obtain ⟨p1, p2⟩ := hp
     refine ⟨p1, ?_⟩
     revert p2
     unfold TelEnd
     cases (match telL (S ++ arOf r) [] ll with | none => none | some a => match telL (S ++ arOf r) [] el with | none => none | some b => some (S ++ (a ++ b))) with
     | none => exact id
     | some S' =>
      rintro ⟨he, m', n', hm', hn', hc'⟩
      exact ⟨he, m', n', hm', by simp only at hn' ⊢; omega, hc'⟩))
    have HZ := Lib.hid (And.intro hch hkb)
    clear q HP hxx hxin i2 i3 hapm hmr hap hltr hr hkt hch hkb hbx hm HX HI HC HA
    go_wp2_with fail
    refine hic.mono ?_
    rintro e w' ⟨rfl, rfl⟩
    go_wp2_with fail
    refine q2.mono ?_
    clear q2
    rintro e W' (⟨rfl, hQ⟩ | ⟨rfl, m', n', S', h1, h2, h3, h4, h5⟩)
    ·exact ⟨rfl, hQ⟩
    ·have H5 := Lib.hid (And.intro h1 (And.intro h2 (And.intro h3 (And.intro h4 h5))))
     clear h1 h2 h3 h4 h5 HZ HT r0 r1 r5 r6
     go_wp2_with fail
     cases gk with
     | zero => omega
     | succ gg =>
      go_roundg gg
      case rel => exact ⟨k + 1, m', n', S', rfl, by omega, H5.out⟩
      case measure => omega
   ·have hb8 : (op == 8) = false := by simpa using h8
    have q := tellItem_any wr b (o + k * 9) op nm ⟨c.b, m, n, S⟩ r r0 r1 (by omega) (by show n < 12000000; omega) hch hmr
    have q2 := q.mono (fun e W' (hp : ToldPost _ _ _ _ _ _) => HP.out e W' (by
     rw [telI_own (x := .mk op nm nf xa xc xl sa sc sl la lc ll ea ec el pa pc pl ba bc bl) _ _ h8]
     show TelPost wr ⟨c.b, m, n, S⟩ r _ (if ownOp op = true then (if (S ++ arOf r).contains nm = true then none else some (S ++ [nm])) else some S) _ _
     obtain ⟨p1, p2⟩ := hp
     have p1' : KeptBut (fun i => i = c.b ∨ i = m) wr W' := (KeptBut.of1 p1).less (fun i _ e => .inr e)
     refine ⟨p1', ?_⟩
     by_cases ho : ownOp op = true
     ·rw [if_pos ho] at p2 ⊢
      unfold tellSc at p2
      rw [toldIn_ar] at p2
      by_cases hc : (S ++ arOf r).contains nm = true
      ·rw [if_pos hc] at p2 ⊢
       exact p2
      ·rw [if_neg hc] at p2 ⊢
       exact ⟨p2.1, m, n + 1, .inl rfl, by show n + 1 ≤ n + _; omega, p2.2.2.2⟩
     ·rw [if_neg ho] at p2 ⊢
      exact ⟨p2.1, m, n, .inl rfl, Nat.le_add_right _ _, p2.2.2.2⟩))
    have HZ := Lib.hid (And.intro hch hkb)
    clear q HP hxx hxin i2 i3 hapm hmr hap hltr hr hkt hch hkb hbx hm HX HI HC HA
    unfold tellF at q2
    go_wp2_with fail
    refine hic.mono ?_
    rintro e w' ⟨rfl, rfl⟩
    rw [hb8]
    go_wp2_with fail
    refine q2.mono ?_
    clear q2
    rintro e W' (⟨rfl, hQ⟩ | ⟨rfl, m', n', S', h1, h2, h3, h4, h5⟩)
    ·exact ⟨rfl, hQ⟩
    ·have H5 := Lib.hid (And.intro h1 (And.intro h2 (And.intro h3 (And.intro h4 h5))))
     clear h1 h2 h3 h4 h5 HZ HT r0 r1 r5 r6
     go_wp2_with fail
     cases gk with
     | zero => omega
     | succ gg =>
      go_roundg gg
      case rel => exact ⟨k + 1, m', n', S', rfl, by omega, H5.out⟩
      case measure => omega
  ·have d1 : decide (k < l.length) = false := by simpa using hlt
   have d2 : decide ((k : Int) < (l.length : Int)) = false := by rw [decide_eq_false_iff_not]; omega
   have HF : Hid (Q (.returned (.tuple #[])) wr) := Lib.hid (by
    rw [← HQ.out]
    rw [List.take_of_length_le (by omega)] at htk hn
    show TelPost W c r _ _ _ _
    rw [htk]
    exact ⟨hkb, rfl, m, n, hm, hn, hch⟩)
   clear htk hm hn hch hkb hlt HX HI HC HA
   go_wp2_with fail
   exact bodyPost_end (results_none rfl _ _ _) rfl HF.out
theorem tellI_all : ∀ x : IT, ∀ nm nf xa xc xl sa sc sl la lc ll ea ec el pa pc pl ba bc bl, x = .mk 8 nm nf xa xc xl sa sc sl la lc ll ea ec el pa pc pl ba bc bl → TellL ll ∧ TellL el := IT.ind fun op nm nf xa xc xl sa sc sl la lc ll ea ec el pa pc pl ba bc bl ih0 ih1 => by
 intro nm' nf' xa' xc' xl' sa' sc' sl' la' lc' ll' ea' ec' el' pa' pc' pl' ba' bc' bl' e
 have e1 : ll = ll' := by injection e
 have e2 : el = el' := by injection e
 subst e1; subst e2
 exact ⟨tellItems_of ll ih0, tellItems_of el ih1⟩
/-- **Items told in their scope.** -/
theorem tellItems_any (l : List IT) : TellL l := tellItems_of l (fun x _ => tellI_all x)
end Go.Proofs.YtiipjbafdhijlaaGreatDoor
namespace Go.Proofs.YtiipjbafdhijlaaGreatDoor
open Go Go.RowKit Go.Shelf
set_option linter.unusedVariables false
set_option linter.unusedSimpArgs false
attribute [local go_sem] Oper.semAt_some
def adB (a : Option Addr) : Nat := match a with | some ⟨b, _, _⟩ => b | none => 0
def adO (a : Option Addr) : Nat := match a with | some ⟨_, o, _⟩ => o | none => 0
/-- Items as they are handed out: where each lies, what it is. -/
abbrev Vis := Nat × Nat × IT
mutual
def visI (gn : Int → Bool) (b o : Nat) : IT → List Vis
 | .mk op nm nf xa xc xl sa sc sl la lc ll ea ec el pa pc pl ba bc bl => (b, o, .mk op nm nf xa xc xl sa sc sl la lc ll ea ec el pa pc pl ba bc bl) :: (if gn op = true then visL gn (adB la) (adO la) ll ++ visL gn (adB ea) (adO ea) el else [])
def visL (gn : Int → Bool) (b o : Nat) : List IT → List Vis
 | [] => []
 | x :: r => visI gn b o x ++ visL gn b (o + 9) r
end
theorem visL_take (gn : Int → Bool) (b : Nat) : ∀ (l : List IT) (o k : Nat) (h : k < l.length), visL gn b o (l.take (k + 1)) = visL gn b o (l.take k) ++ visI gn b (o + k * 9) l[k]
 | x :: r, o, 0, h => by simp [visL]
 | x :: r, o, k + 1, h => by
  rw [List.take_succ_cons, List.take_succ_cons, visL, visL, visL_take gn b r (o + 9) k (by simpa using h), List.append_assoc]
  simp only [List.getElem_cons_succ]
  rw [show o + 9 + k * 9 = o + (k + 1) * 9 by omega]
theorem visL_pre (gn : Int → Bool) (b o : Nat) (l : List IT) (k : Nat) : visL gn b o (l.take k) <+: visL gn b o l := by
 have h : ∀ (l : List IT) (o k : Nat), visL gn b o (l.take k) <+: visL gn b o l := by
  intro l
  induction l with
  | nil => intro o k; simp
  | cons x r ih =>
   intro o k
   cases k with
   | zero => simp [visL]
   | succ k =>
    rw [List.take_succ_cons, visL, visL]
    exact (List.prefix_append_right_inj _).2 (ih (o + 9) k)
 exact h l o k
theorem pre_trans {α : Type} {pre a b xs : List α} (h : pre ++ b <+: xs) (hab : a <+: b) : pre ++ a <+: xs := ((List.prefix_append_right_inj pre).2 hab).trans h
/-- What is handed out lies where it is said to. -/
def VisOk (n0 : Nat) (W : World) (x : Vis) : Prop := x.1 < n0 ∧ RowC W x.1 x.2.1 x.2.2.cells ∧ x.2.2.In n0 W
theorem visL_of (gn : Int → Bool) (n0 : Nat) (W : World) : ∀ (l : List IT) (a : Option Addr), (∀ x ∈ l, ∀ b o, b < n0 → RowC W b o x.cells → x.In n0 W → ∀ y ∈ visI gn b o x, VisOk n0 W y) → InRow 9 IT.cells (IT.In n0 W) n0 W l a → ∀ y ∈ visL gn (adB a) (adO a) l, VisOk n0 W y
 | [], _, _, _, y, hy => by simp [visL] at hy
 | x :: r, a, h, hin, y, hy => by
  obtain ⟨⟨b, o, rfl, hb, hr⟩, hx, ht⟩ := hin
  rw [visL, List.mem_append] at hy
  rcases hy with hy | hy
  ·exact h x (by simp) b o hb hr hx y hy
  ·have e : (Option.map (fun p : Addr => p.add 9) (some ⟨b, o, none⟩)) = some ⟨b, o + 9, none⟩ := by simp [Addr.add]
   rw [e] at ht
   exact visL_of gn n0 W r (some ⟨b, o + 9, none⟩) (fun x hx => h x (by simp [hx])) ht y hy
theorem visI_ok (gn : Int → Bool) (n0 : Nat) (W : World) : ∀ x : IT, ∀ b o, b < n0 → RowC W b o x.cells → x.In n0 W → ∀ y ∈ visI gn b o x, VisOk n0 W y := IT.ind fun op nm nf xa xc xl sa sc sl la lc ll ea ec el pa pc pl ba bc bl ih0 ih1 b o hb hr hx y hy => by
 rw [visI] at hy
 rcases List.mem_cons.1 hy with e | hy
 ·subst e; exact ⟨hb, hr, hx⟩
 ·rw [IT.In_mk] at hx
  by_cases hg : gn op = true
  ·rw [if_pos hg, List.mem_append] at hy
   rcases hy with hy | hy
   ·exact visL_of gn n0 W ll la ih0 hx.2.2.1 y hy
   ·exact visL_of gn n0 W el ea ih1 hx.2.2.2.1 y hy
  ·rw [if_neg hg] at hy; cases hy
theorem visL_ok (gn : Int → Bool) (n0 : Nat) (W : World) (l : List IT) (a : Option Addr) (h : InRow 9 IT.cells (IT.In n0 W) n0 W l a) : ∀ y ∈ visL gn (adB a) (adO a) l, VisOk n0 W y := visL_of gn n0 W l a (fun x _ => visI_ok gn n0 W x) h
def gnC (op : Int) : Bool := op == 8
set_option maxHeartbeats 1000000 in
theorem goneC_in (F : Fence) (hW : ∀ g, F.fn g) (hro : F.round = none) (n : Nat) (b o : Nat) (op : Int) (w : World) (h : w.cell? ⟨b, o, none⟩ = some (.int .i64 op)) : CallsIn F n Tryz.prog 158 #[.pointer (some ⟨b, o, none⟩)] w fun e w' => e = .returned (.bool (gnC op)) ∧ w' = w := by
 refine callsIn_of_wp Tryz.func158 rfl (hW _) ?_ hro
 simp only [Tryz.ntmps158, List.size_toArray, List.length_cons, List.length_nil, Nat.reduceAdd, Nat.reduceSub, Array.replicate_succ, Array.replicate_zero, List.push_toArray, List.append_toArray, List.nil_append, List.cons_append]
 gi_wp2
 go_ret
 exact ⟨rfl, rfl⟩
set_option maxHeartbeats 8000000 in
set_option maxRecDepth 100000 in
theorem intoC_of (F : Fence) (hd : F.depth = none) (hW : ∀ g, F.fn g) (hro : F.round = none) (L n0 : Nat) (w0 : World) (xs : List Vis) (J : List Vis → World → Prop) (Jp : List PanicEntry → World → Prop) (hJk : ∀ pre W, J pre W → KeptTo n0 w0 W)
  (hY : ∀ m pre x W, pre ++ [x] <+: xs → J pre W → YieldAt F m Tryz.prog L #[.pointer (some ⟨x.1, x.2.1, none⟩)] W fun e W' => (e = .returned (.bool true) ∧ J (pre ++ [x]) W') ∨ (∃ ch, e = .panicked ch ∧ Jp ch W'))
  (l : List IT) (hll : l.length ≤ 12000000)
  (hx : ∀ x ∈ l, ∀ op nm nf xa xc xl sa sc sl la lc ll ea ec el pa pc pl ba bc bl, x = .mk op nm nf xa xc xl sa sc sl la lc ll ea ec el pa pc pl ba bc bl → gnC op = true → ∀ (m : Nat) (pre : List Vis) (W : World), J pre W →
    (pre ++ visL gnC (adB la) (adO la) ll <+: xs → InRow 9 IT.cells (IT.In n0 w0) n0 w0 ll la → CallsIn F m Tryz.prog 72 #[.func (.yield L) #[] #[], .slice la ll.length lc, .func (.func 158) #[] #[]] W fun e W' => (e = .returned (.bool true) ∧ J (pre ++ visL gnC (adB la) (adO la) ll) W') ∨ (∃ ch, e = .panicked ch ∧ Jp ch W')) ∧
    (pre ++ visL gnC (adB ea) (adO ea) el <+: xs → InRow 9 IT.cells (IT.In n0 w0) n0 w0 el ea → CallsIn F m Tryz.prog 72 #[.func (.yield L) #[] #[], .slice ea el.length ec, .func (.func 158) #[] #[]] W fun e W' => (e = .returned (.bool true) ∧ J (pre ++ visL gnC (adB ea) (adO ea) el) W') ∨ (∃ ch, e = .panicked ch ∧ Jp ch W'))) :
  ∀ (n : Nat) (a : Option Addr) (c : Nat) (pre : List Vis) (W : World), pre ++ visL gnC (adB a) (adO a) l <+: xs → InRow 9 IT.cells (IT.In n0 w0) n0 w0 l a → J pre W →
   CallsIn F n Tryz.prog 72 #[.func (.yield L) #[] #[], .slice a l.length c, .func (.func 158) #[] #[]] W fun e W' => (e = .returned (.bool true) ∧ J (pre ++ visL gnC (adB a) (adO a) l) W') ∨ (∃ ch, e = .panicked ch ∧ Jp ch W') := by
 intro n a c pre W hpx hin hj
 have hdd : ∀ k : Nat, (F.depth.isSome = true → 1 ≤ k) := fun k h => by rw [hd] at h; cases h
 have HX := Lib.hid hx
 have HI := Lib.hid hin
 have HP := Lib.hid hpx
 clear hx hin hpx
 refine callsIn_of_wp Tryz.func72 rfl (hW _) ?_ hro
 simp only [Tryz.ntmps72, List.size_toArray, List.length_cons, List.length_nil, Nat.reduceAdd, Nat.reduceSub, Array.replicate_succ, Array.replicate_zero, List.push_toArray, List.append_toArray, List.nil_append, List.cons_append]
 gi_wp2
 gi_loopw [11] (fun u wr => ∃ k : Nat, u = .int .i64 k ∧ k ≤ l.length ∧ J (pre ++ visL gnC (adB a) (adO a) (l.take k)) wr) (fun u _ => l.length - (intOf u).toNat)
 case atStart => exact ⟨0, rfl, Nat.zero_le _, by simpa [visL] using hj⟩
 case round =>
  obtain ⟨k, rfl, hk, hjk⟩ := hrel
  clear hj
  by_cases hlt : k < l.length
  ·have d1 : decide (k < l.length) = true := by simpa using hlt
   have d2 : decide ((k : Int) < (l.length : Int)) = true := by rw [decide_eq_true_eq]; omega
   have x1 : (k : Int) < (l.length : Int) := by omega
   obtain ⟨b, o, rfl, hb, hr, hxin⟩ := (HI.out).at hlt
   have hkt := hJk _ _ hjk
   have hvt := visL_take gnC b l o k hlt
   have hvp := visL_pre gnC b o l (k + 1)
   have hxx := HX.out _ (List.getElem_mem hlt)
   have hpx := HP.out
   simp only [adB, adO] at hpx hjk hvt hvp
   have hp2 := pre_trans hpx hvp
   rw [hvt] at hp2
   have HV := Lib.hid hvt
   clear hvt hvp hpx
   generalize l[k] = x at *
   obtain ⟨op, nm, nf, xa, xc, xl, sa, sc, sl, la, lc, ll, ea, ec, el, pa, pc, pl, ba, bc, bl⟩ := x
   rw [IT.In_mk] at hxin
   obtain ⟨-, -, i2, i3, -, -⟩ := hxin
   obtain ⟨pr, hpr⟩ : ∃ pr, pre ++ visL gnC b o (l.take k) = pr := ⟨_, rfl⟩
   rw [hpr] at hjk
   rw [visI, ← List.append_assoc, hpr] at hp2
   obtain ⟨X, hX⟩ : ∃ X : Vis, (b, o + k * 9, IT.mk op nm nf xa xc xl sa sc sl la lc ll ea ec el pa pc pl ba bc bl) = X := ⟨_, rfl⟩
   rw [hX] at hp2
   have hp3 : pr ++ [X] <+: xs := pre_trans hp2 ⟨_, rfl⟩
   obtain ⟨fn, tmps, assign, body, hy, hR⟩ := hY (n - 1) pr X wr hp3 hjk
   have e1 : X.1 = b := by rw [← hX]
   have e2 : X.2.1 = o + k * 9 := by rw [← hX]
   rw [e1, e2] at hy
   have c0 := hr 0 _ rfl
   have c5 := hr 5 _ rfl
   have c6 := hr 6 _ rfl
   simp only [Nat.add_zero] at c0
   have hic := fun (m : Nat) (w1 : World) (h : J (pr ++ [X]) w1) => goneC_in F hW hro m b (o + k * 9) op w1 (hJk _ _ h _ _ _ hb c0)
   have HH := Lib.hid (And.intro hpr (And.intro hX (And.intro hp2 (And.intro hp3 hxx))))
   have HI2 := Lib.hid (And.intro i2 i3)
   have HE : Hid (∀ W', J (pr ++ X :: (if gnC op = true then visL gnC (adB la) (adO la) ll ++ visL gnC (adB ea) (adO ea) el else [])) W' → J (pre ++ visL gnC (adB (some ⟨b, o, none⟩)) (adO (some ⟨b, o, none⟩)) (l.take (k + 1))) W') := Lib.hid (by
    intro W' h
    simp only [adB, adO]
    rw [HV.out, visI, ← List.append_assoc, hpr, hX]
    exact h)
   clear e1 e2 hp2 hp3 hpr hX hxx hr i2 i3 hkt
   gi_wp2
   refine hR.mono ?_
   clear hR hy
   rintro e W1 (⟨rfl, hj1⟩ | ⟨ch, rfl, hp1⟩)
   ·have hg := hic (n - 1) W1 hj1
    cases hgn : gnC op with
    | false =>
     rw [hgn] at hg HE
     have HF : Hid (J (pre ++ visL gnC (adB (some ⟨b, o, none⟩)) (adO (some ⟨b, o, none⟩)) (l.take (k + 1))) W1) := Lib.hid (HE.out W1 hj1)
     clear HE HH HI2 HX HI HP c0 c5 c6 hic hgn hj1 HV
     gi_wp2_with fail
     (try refine ⟨hdd _, ?_⟩)
     refine hg.mono ?_
     rintro e w' ⟨rfl, rfl⟩
     gi_wp2
     all_goals first
      | exact ⟨⟨k + 1, by simp; first | done | rfl | omega, by omega, HF.out⟩, by simp [intOf]; omega⟩
      | (rename_i hq _; simp [undef] at hq)
    | true =>
     rw [hgn] at hg HE
     obtain ⟨hpr, hX, hp2, hp3, hxx⟩ := HH.out
     rw [if_pos hgn] at hp2
     have hxx2 := hxx _ _ _ _ _ _ _ _ _ _ _ _ _ _ _ _ _ _ _ _ _ rfl hgn
     have q1 := fun m => (hxx2 m (pr ++ [X]) W1 hj1).1 (by
      rw [List.append_assoc]
      exact pre_trans hp2 ⟨visL gnC (adB ea) (adO ea) el, by simp⟩) HI2.out.1
     have q2 := fun m W2 (h : J (pr ++ [X] ++ visL gnC (adB la) (adO la) ll) W2) => (hxx2 m _ W2 h).2 (by
      rw [List.append_assoc, List.append_assoc]
      exact pre_trans hp2 (by simp)) HI2.out.2
     have r5 := hJk _ _ hj1 _ _ _ hb c5
     have r6 : ∀ W2, J (pr ++ [X] ++ visL gnC (adB la) (adO la) ll) W2 → W2.cell? ⟨b, o + k * 9 + 6, none⟩ = some (.slice ea el.length ec) := fun W2 h => hJk _ _ h _ _ _ hb c6
     have H2 := Lib.hid (And.intro q2 r6)
     clear hpr hX hp2 hp3 hxx hxx2 HH HX HI HP c0 c5 c6 hic hgn hj1 q2 r6 HV HI2
     gi_wp2_with fail
     (try refine ⟨hdd _, ?_⟩)
     refine hg.mono ?_
     rintro e w' ⟨rfl, rfl⟩
     have q1' := q1 (n - 1)
     gi_wp2_with fail
     (try refine ⟨hdd _, ?_⟩)
     refine q1'.mono ?_
     clear q1 q1'
     rintro e W2 (⟨rfl, hj2⟩ | ⟨ch, rfl, hp2⟩)
     ·have q2' := H2.out.1 (n - 1) W2 hj2
      have r6' := H2.out.2 W2 hj2
      clear r5 hj2 H2
      gi_wp2_with fail
      (try refine ⟨hdd _, ?_⟩)
      refine q2'.mono ?_
      clear q2'
      rintro e W3 (⟨rfl, hj3⟩ | ⟨ch, rfl, hp3⟩)
      ·have HF : Hid (J (pre ++ visL gnC (adB (some ⟨b, o, none⟩)) (adO (some ⟨b, o, none⟩)) (l.take (k + 1))) W3) := Lib.hid (HE.out W3 (by simpa using hj3))
       clear HE hj3 r6'
       gi_wp2
       go_roundw
       case rel => exact ⟨k + 1, by simp; first | done | rfl | omega, by omega, HF.out⟩
       case measure => simp [intOf]; omega
      ·exact ⟨rfl, .inr ⟨ch, rfl, hp3⟩⟩
     ·exact ⟨rfl, .inr ⟨ch, rfl, hp2⟩⟩
   ·exact ⟨rfl, .inr ⟨ch, rfl, hp1⟩⟩
  ·have d1 : decide (k < l.length) = false := by simpa using hlt
   have d2 : decide ((k : Int) < (l.length : Int)) = false := by rw [decide_eq_false_iff_not]; omega
   have HE : Hid (J (pre ++ visL gnC (adB a) (adO a) l) wr) := Lib.hid (by rw [List.take_of_length_le (by omega)] at hjk; exact hjk)
   clear hjk
   gi_wp2
   go_ret
   exact .inl ⟨rfl, HE.out⟩
theorem intoC_in (F : Fence) (hd : F.depth = none) (hW : ∀ g, F.fn g) (hro : F.round = none) (L n0 : Nat) (w0 : World) (xs : List Vis) (J : List Vis → World → Prop) (Jp : List PanicEntry → World → Prop) (hJk : ∀ pre W, J pre W → KeptTo n0 w0 W)
  (hY : ∀ m pre x W, pre ++ [x] <+: xs → J pre W → YieldAt F m Tryz.prog L #[.pointer (some ⟨x.1, x.2.1, none⟩)] W fun e W' => (e = .returned (.bool true) ∧ J (pre ++ [x]) W') ∨ (∃ ch, e = .panicked ch ∧ Jp ch W'))
  (l : List IT) (hbk : IT.bkL l ≤ 4500000) (n : Nat) (a : Option Addr) (c : Nat) (pre : List Vis) (W : World) (h1 : pre ++ visL gnC (adB a) (adO a) l <+: xs) (h2 : InRow 9 IT.cells (IT.In n0 w0) n0 w0 l a) (h3 : J pre W) :
   CallsIn F n Tryz.prog 72 #[.func (.yield L) #[] #[], .slice a l.length c, .func (.func 158) #[] #[]] W fun e W' => (e = .returned (.bool true) ∧ J (pre ++ visL gnC (adB a) (adO a) l) W') ∨ (∃ ch, e = .panicked ch ∧ Jp ch W') := by
 have key : ∀ x : IT, x.bk ≤ 4500000 → ∀ op nm nf xa xc xl sa sc sl la lc ll ea ec el pa pc pl ba bc bl, x = .mk op nm nf xa xc xl sa sc sl la lc ll ea ec el pa pc pl ba bc bl → gnC op = true → ∀ (m : Nat) (pre : List Vis) (W : World), J pre W →
   (pre ++ visL gnC (adB la) (adO la) ll <+: xs → InRow 9 IT.cells (IT.In n0 w0) n0 w0 ll la → CallsIn F m Tryz.prog 72 #[.func (.yield L) #[] #[], .slice la ll.length lc, .func (.func 158) #[] #[]] W fun e W' => (e = .returned (.bool true) ∧ J (pre ++ visL gnC (adB la) (adO la) ll) W') ∨ (∃ ch, e = .panicked ch ∧ Jp ch W')) ∧
   (pre ++ visL gnC (adB ea) (adO ea) el <+: xs → InRow 9 IT.cells (IT.In n0 w0) n0 w0 el ea → CallsIn F m Tryz.prog 72 #[.func (.yield L) #[] #[], .slice ea el.length ec, .func (.func 158) #[] #[]] W fun e W' => (e = .returned (.bool true) ∧ J (pre ++ visL gnC (adB ea) (adO ea) el) W') ∨ (∃ ch, e = .panicked ch ∧ Jp ch W')) :=
  IT.ind fun op nm nf xa xc xl sa sc sl la lc ll ea ec el pa pc pl ba bc bl ih0 ih1 hb => by
   intro op' nm' nf' xa' xc' xl' sa' sc' sl' la' lc' ll' ea' ec' el' pa' pc' pl' ba' bc' bl' e hg m pre W hj
   injection e with e1 e2 e3 e4 e5 e6 e7 e8 e9 e10 e11 e12 e13 e14 e15 e16 e17 e18 e19 e20 e21
   subst e1 e10 e11 e12 e13 e14 e15
   simp only [IT.bk] at hb
   have b1 := IT.bkL_len ll
   have b2 := IT.bkL_len el
   exact ⟨fun h1 h2 => intoC_of F hd hW hro L n0 w0 xs J Jp hJk hY ll (by omega) (fun y hy => ih0 y hy (by have := IT.bkL_mem hy; omega)) m la lc pre W h1 h2 hj,
    fun h1 h2 => intoC_of F hd hW hro L n0 w0 xs J Jp hJk hY el (by omega) (fun y hy => ih1 y hy (by have := IT.bkL_mem hy; omega)) m ea ec pre W h1 h2 hj⟩
 exact intoC_of F hd hW hro L n0 w0 xs J Jp hJk hY l (by have := IT.bkL_len l; omega) (fun y hy => key y (by have := IT.bkL_mem hy; omega)) n a c pre W h1 h2 h3
set_option maxHeartbeats 1000000 in
/-- The iterator's function, made: its list lies in a new box. -/
theorem seqC_in (F : Fence) (hW : ∀ g, F.fn g) (hro : F.round = none) (n : Nat) (v : Value) (a : Option Addr) (len c : Nat) (hv : v = .slice a len c) (w : World) : CallsIn F n Tryz.prog 145 #[v] w fun e w' => e = .returned (.func (.func 161) #[] #[.pointer (some ⟨w.heap.size, 0, none⟩)]) ∧ w' = w.alloc (.cells #[v] 37) := by
 subst hv
 refine callsIn_of_wp Tryz.func145 rfl (hW _) ?_ hro
 simp only [Tryz.ntmps145, List.size_toArray, List.length_cons, List.length_nil, Nat.reduceAdd, Nat.reduceSub, Array.replicate_succ, Array.replicate_zero, List.push_toArray, List.append_toArray, List.nil_append, List.cons_append]
 gi_wp2
 go_ret
 exact ⟨rfl, rfl⟩
theorem seqC_enters (args : Array Value) (w : World) : (callFunc 161 args).run Tryz.prog w = .ok (.enter 161 args) w := enters_of Tryz.func161 (by kernel_rfl) rfl args w
set_option maxHeartbeats 4000000 in
set_option maxRecDepth 100000 in
theorem seqC_all (F : Fence) (hd : F.depth = none) (hW : ∀ g, F.fn g) (hro : F.round = none) (n n0 Bs : Nat) (w : World) (l : List IT) (hbk : IT.bkL l ≤ 4500000) (a : Option Addr) (c : Nat) (hn0 : n0 ≤ w.heap.size) (hin : InRow 9 IT.cells (IT.In n0 w) n0 w l a) (hB : w.heap[Bs]? = some (.cells #[.slice a l.length c] 37 (0, 0))) :
  SeqAll F n Tryz.prog 161 #[.pointer (some ⟨Bs, 0, none⟩)] (fun x : Vis => #[Value.pointer (some ⟨x.1, x.2.1, none⟩)]) (visL gnC (adB a) (adO a) l) (KeptTo n0 w) w := by
 intro L J Jp W1 hb1 hJd hJk hY h0
 have hdd : ∀ k : Nat, (F.depth.isSome = true → 1 ≤ k) := fun k h => by rw [hd] at h; cases h
 have hB1 := block_kept hB hb1
 have y0 := (cell_of_box_1 hB1).1
 have q := intoC_in F hd hW hro L n0 w _ J Jp hJk hY l hbk (n - 1) a c [] W1 (by rw [List.nil_append]; exact List.prefix_refl _) hin h0
 rw [List.nil_append] at q
 clear hB1 hB hY h0
 refine callsIn_of_wp Tryz.func161 rfl (hW _) ?_ hro
 simp only [Tryz.ntmps161, List.size_toArray, List.length_cons, List.length_nil, Nat.reduceAdd, Nat.reduceSub, Array.replicate_succ, Array.replicate_zero, List.push_toArray, List.append_toArray, List.nil_append, List.cons_append]
 gi_wp2_with fail
 (try refine ⟨hdd _, ?_⟩)
 refine q.mono ?_
 clear q
 rintro e W2 (⟨rfl, hj⟩ | ⟨ch, rfl, hp⟩)
 ·gi_wp2
  exact bodyPost_end (results_none rfl _ _ _) rfl (.inl ⟨⟨_, rfl⟩, hj⟩)
 ·exact ⟨rfl, .inr ⟨ch, rfl, hp⟩⟩
def gnA (op : Int) : Bool := true
set_option maxHeartbeats 1000000 in
theorem goneA_in (F : Fence) (hW : ∀ g, F.fn g) (hro : F.round = none) (n : Nat) (b o : Nat) (op : Int) (w : World) (h : w.cell? ⟨b, o, none⟩ = some (.int .i64 op)) : CallsIn F n Tryz.prog 73 #[.pointer (some ⟨b, o, none⟩)] w fun e w' => e = .returned (.bool (gnA op)) ∧ w' = w := by
 refine callsIn_of_wp Tryz.func73 rfl (hW _) ?_ hro
 simp only [Tryz.ntmps73, List.size_toArray, List.length_cons, List.length_nil, Nat.reduceAdd, Nat.reduceSub, Array.replicate_succ, Array.replicate_zero, List.push_toArray, List.append_toArray, List.nil_append, List.cons_append]
 gi_wp2
 go_ret
 exact ⟨rfl, rfl⟩
set_option maxHeartbeats 8000000 in
set_option maxRecDepth 100000 in
theorem intoA_of (F : Fence) (hd : F.depth = none) (hW : ∀ g, F.fn g) (hro : F.round = none) (L n0 : Nat) (w0 : World) (xs : List Vis) (J : List Vis → World → Prop) (Jp : List PanicEntry → World → Prop) (hJk : ∀ pre W, J pre W → KeptTo n0 w0 W)
  (hY : ∀ m pre x W, pre ++ [x] <+: xs → J pre W → YieldAt F m Tryz.prog L #[.pointer (some ⟨x.1, x.2.1, none⟩)] W fun e W' => (e = .returned (.bool true) ∧ J (pre ++ [x]) W') ∨ (∃ ch, e = .panicked ch ∧ Jp ch W'))
  (l : List IT) (hll : l.length ≤ 12000000)
  (hx : ∀ x ∈ l, ∀ op nm nf xa xc xl sa sc sl la lc ll ea ec el pa pc pl ba bc bl, x = .mk op nm nf xa xc xl sa sc sl la lc ll ea ec el pa pc pl ba bc bl → gnA op = true → ∀ (m : Nat) (pre : List Vis) (W : World), J pre W →
    (pre ++ visL gnA (adB la) (adO la) ll <+: xs → InRow 9 IT.cells (IT.In n0 w0) n0 w0 ll la → CallsIn F m Tryz.prog 72 #[.func (.yield L) #[] #[], .slice la ll.length lc, .func (.func 73) #[] #[]] W fun e W' => (e = .returned (.bool true) ∧ J (pre ++ visL gnA (adB la) (adO la) ll) W') ∨ (∃ ch, e = .panicked ch ∧ Jp ch W')) ∧
    (pre ++ visL gnA (adB ea) (adO ea) el <+: xs → InRow 9 IT.cells (IT.In n0 w0) n0 w0 el ea → CallsIn F m Tryz.prog 72 #[.func (.yield L) #[] #[], .slice ea el.length ec, .func (.func 73) #[] #[]] W fun e W' => (e = .returned (.bool true) ∧ J (pre ++ visL gnA (adB ea) (adO ea) el) W') ∨ (∃ ch, e = .panicked ch ∧ Jp ch W'))) :
  ∀ (n : Nat) (a : Option Addr) (c : Nat) (pre : List Vis) (W : World), pre ++ visL gnA (adB a) (adO a) l <+: xs → InRow 9 IT.cells (IT.In n0 w0) n0 w0 l a → J pre W →
   CallsIn F n Tryz.prog 72 #[.func (.yield L) #[] #[], .slice a l.length c, .func (.func 73) #[] #[]] W fun e W' => (e = .returned (.bool true) ∧ J (pre ++ visL gnA (adB a) (adO a) l) W') ∨ (∃ ch, e = .panicked ch ∧ Jp ch W') := by
 intro n a c pre W hpx hin hj
 have hdd : ∀ k : Nat, (F.depth.isSome = true → 1 ≤ k) := fun k h => by rw [hd] at h; cases h
 have HX := Lib.hid hx
 have HI := Lib.hid hin
 have HP := Lib.hid hpx
 clear hx hin hpx
 refine callsIn_of_wp Tryz.func72 rfl (hW _) ?_ hro
 simp only [Tryz.ntmps72, List.size_toArray, List.length_cons, List.length_nil, Nat.reduceAdd, Nat.reduceSub, Array.replicate_succ, Array.replicate_zero, List.push_toArray, List.append_toArray, List.nil_append, List.cons_append]
 gi_wp2
 gi_loopw [11] (fun u wr => ∃ k : Nat, u = .int .i64 k ∧ k ≤ l.length ∧ J (pre ++ visL gnA (adB a) (adO a) (l.take k)) wr) (fun u _ => l.length - (intOf u).toNat)
 case atStart => exact ⟨0, rfl, Nat.zero_le _, by simpa [visL] using hj⟩
 case round =>
  obtain ⟨k, rfl, hk, hjk⟩ := hrel
  clear hj
  by_cases hlt : k < l.length
  ·have d1 : decide (k < l.length) = true := by simpa using hlt
   have d2 : decide ((k : Int) < (l.length : Int)) = true := by rw [decide_eq_true_eq]; omega
   have x1 : (k : Int) < (l.length : Int) := by omega
   obtain ⟨b, o, rfl, hb, hr, hxin⟩ := (HI.out).at hlt
   have hkt := hJk _ _ hjk
   have hvt := visL_take gnA b l o k hlt
   have hvp := visL_pre gnA b o l (k + 1)
   have hxx := HX.out _ (List.getElem_mem hlt)
   have hpx := HP.out
   simp only [adB, adO] at hpx hjk hvt hvp
   have hp2 := pre_trans hpx hvp
   rw [hvt] at hp2
   have HV := Lib.hid hvt
   clear hvt hvp hpx
   generalize l[k] = x at *
   obtain ⟨op, nm, nf, xa, xc, xl, sa, sc, sl, la, lc, ll, ea, ec, el, pa, pc, pl, ba, bc, bl⟩ := x
   rw [IT.In_mk] at hxin
   obtain ⟨-, -, i2, i3, -, -⟩ := hxin
   obtain ⟨pr, hpr⟩ : ∃ pr, pre ++ visL gnA b o (l.take k) = pr := ⟨_, rfl⟩
   rw [hpr] at hjk
   rw [visI, ← List.append_assoc, hpr] at hp2
   obtain ⟨X, hX⟩ : ∃ X : Vis, (b, o + k * 9, IT.mk op nm nf xa xc xl sa sc sl la lc ll ea ec el pa pc pl ba bc bl) = X := ⟨_, rfl⟩
   rw [hX] at hp2
   have hp3 : pr ++ [X] <+: xs := pre_trans hp2 ⟨_, rfl⟩
   obtain ⟨fn, tmps, assign, body, hy, hR⟩ := hY (n - 1) pr X wr hp3 hjk
   have e1 : X.1 = b := by rw [← hX]
   have e2 : X.2.1 = o + k * 9 := by rw [← hX]
   rw [e1, e2] at hy
   have c0 := hr 0 _ rfl
   have c5 := hr 5 _ rfl
   have c6 := hr 6 _ rfl
   simp only [Nat.add_zero] at c0
   have hic := fun (m : Nat) (w1 : World) (h : J (pr ++ [X]) w1) => goneA_in F hW hro m b (o + k * 9) op w1 (hJk _ _ h _ _ _ hb c0)
   have HH := Lib.hid (And.intro hpr (And.intro hX (And.intro hp2 (And.intro hp3 hxx))))
   have HI2 := Lib.hid (And.intro i2 i3)
   have HE : Hid (∀ W', J (pr ++ X :: (if gnA op = true then visL gnA (adB la) (adO la) ll ++ visL gnA (adB ea) (adO ea) el else [])) W' → J (pre ++ visL gnA (adB (some ⟨b, o, none⟩)) (adO (some ⟨b, o, none⟩)) (l.take (k + 1))) W') := Lib.hid (by
    intro W' h
    simp only [adB, adO]
    rw [HV.out, visI, ← List.append_assoc, hpr, hX]
    exact h)
   clear e1 e2 hp2 hp3 hpr hX hxx hr i2 i3 hkt
   gi_wp2
   refine hR.mono ?_
   clear hR hy
   rintro e W1 (⟨rfl, hj1⟩ | ⟨ch, rfl, hp1⟩)
   ·have hg := hic (n - 1) W1 hj1
    cases hgn : gnA op with
    | false =>
     rw [hgn] at hg HE
     have HF : Hid (J (pre ++ visL gnA (adB (some ⟨b, o, none⟩)) (adO (some ⟨b, o, none⟩)) (l.take (k + 1))) W1) := Lib.hid (HE.out W1 hj1)
     clear HE HH HI2 HX HI HP c0 c5 c6 hic hgn hj1 HV
     gi_wp2_with fail
     (try refine ⟨hdd _, ?_⟩)
     refine hg.mono ?_
     rintro e w' ⟨rfl, rfl⟩
     gi_wp2
     all_goals first
      | exact ⟨⟨k + 1, by simp; first | done | rfl | omega, by omega, HF.out⟩, by simp [intOf]; omega⟩
      | (rename_i hq _; simp [undef] at hq)
    | true =>
     rw [hgn] at hg HE
     obtain ⟨hpr, hX, hp2, hp3, hxx⟩ := HH.out
     rw [if_pos hgn] at hp2
     have hxx2 := hxx _ _ _ _ _ _ _ _ _ _ _ _ _ _ _ _ _ _ _ _ _ rfl hgn
     have q1 := fun m => (hxx2 m (pr ++ [X]) W1 hj1).1 (by
      rw [List.append_assoc]
      exact pre_trans hp2 ⟨visL gnA (adB ea) (adO ea) el, by simp⟩) HI2.out.1
     have q2 := fun m W2 (h : J (pr ++ [X] ++ visL gnA (adB la) (adO la) ll) W2) => (hxx2 m _ W2 h).2 (by
      rw [List.append_assoc, List.append_assoc]
      exact pre_trans hp2 (by simp)) HI2.out.2
     have r5 := hJk _ _ hj1 _ _ _ hb c5
     have r6 : ∀ W2, J (pr ++ [X] ++ visL gnA (adB la) (adO la) ll) W2 → W2.cell? ⟨b, o + k * 9 + 6, none⟩ = some (.slice ea el.length ec) := fun W2 h => hJk _ _ h _ _ _ hb c6
     have H2 := Lib.hid (And.intro q2 r6)
     clear hpr hX hp2 hp3 hxx hxx2 HH HX HI HP c0 c5 c6 hic hgn hj1 q2 r6 HV HI2
     gi_wp2_with fail
     (try refine ⟨hdd _, ?_⟩)
     refine hg.mono ?_
     rintro e w' ⟨rfl, rfl⟩
     have q1' := q1 (n - 1)
     gi_wp2_with fail
     (try refine ⟨hdd _, ?_⟩)
     refine q1'.mono ?_
     clear q1 q1'
     rintro e W2 (⟨rfl, hj2⟩ | ⟨ch, rfl, hp2⟩)
     ·have q2' := H2.out.1 (n - 1) W2 hj2
      have r6' := H2.out.2 W2 hj2
      clear r5 hj2 H2
      gi_wp2_with fail
      (try refine ⟨hdd _, ?_⟩)
      refine q2'.mono ?_
      clear q2'
      rintro e W3 (⟨rfl, hj3⟩ | ⟨ch, rfl, hp3⟩)
      ·have HF : Hid (J (pre ++ visL gnA (adB (some ⟨b, o, none⟩)) (adO (some ⟨b, o, none⟩)) (l.take (k + 1))) W3) := Lib.hid (HE.out W3 (by simpa using hj3))
       clear HE hj3 r6'
       gi_wp2
       go_roundw
       case rel => exact ⟨k + 1, by simp; first | done | rfl | omega, by omega, HF.out⟩
       case measure => simp [intOf]; omega
      ·exact ⟨rfl, .inr ⟨ch, rfl, hp3⟩⟩
     ·exact ⟨rfl, .inr ⟨ch, rfl, hp2⟩⟩
   ·exact ⟨rfl, .inr ⟨ch, rfl, hp1⟩⟩
  ·have d1 : decide (k < l.length) = false := by simpa using hlt
   have d2 : decide ((k : Int) < (l.length : Int)) = false := by rw [decide_eq_false_iff_not]; omega
   have HE : Hid (J (pre ++ visL gnA (adB a) (adO a) l) wr) := Lib.hid (by rw [List.take_of_length_le (by omega)] at hjk; exact hjk)
   clear hjk
   gi_wp2
   go_ret
   exact .inl ⟨rfl, HE.out⟩
theorem intoA_in (F : Fence) (hd : F.depth = none) (hW : ∀ g, F.fn g) (hro : F.round = none) (L n0 : Nat) (w0 : World) (xs : List Vis) (J : List Vis → World → Prop) (Jp : List PanicEntry → World → Prop) (hJk : ∀ pre W, J pre W → KeptTo n0 w0 W)
  (hY : ∀ m pre x W, pre ++ [x] <+: xs → J pre W → YieldAt F m Tryz.prog L #[.pointer (some ⟨x.1, x.2.1, none⟩)] W fun e W' => (e = .returned (.bool true) ∧ J (pre ++ [x]) W') ∨ (∃ ch, e = .panicked ch ∧ Jp ch W'))
  (l : List IT) (hbk : IT.bkL l ≤ 4500000) (n : Nat) (a : Option Addr) (c : Nat) (pre : List Vis) (W : World) (h1 : pre ++ visL gnA (adB a) (adO a) l <+: xs) (h2 : InRow 9 IT.cells (IT.In n0 w0) n0 w0 l a) (h3 : J pre W) :
   CallsIn F n Tryz.prog 72 #[.func (.yield L) #[] #[], .slice a l.length c, .func (.func 73) #[] #[]] W fun e W' => (e = .returned (.bool true) ∧ J (pre ++ visL gnA (adB a) (adO a) l) W') ∨ (∃ ch, e = .panicked ch ∧ Jp ch W') := by
 have key : ∀ x : IT, x.bk ≤ 4500000 → ∀ op nm nf xa xc xl sa sc sl la lc ll ea ec el pa pc pl ba bc bl, x = .mk op nm nf xa xc xl sa sc sl la lc ll ea ec el pa pc pl ba bc bl → gnA op = true → ∀ (m : Nat) (pre : List Vis) (W : World), J pre W →
   (pre ++ visL gnA (adB la) (adO la) ll <+: xs → InRow 9 IT.cells (IT.In n0 w0) n0 w0 ll la → CallsIn F m Tryz.prog 72 #[.func (.yield L) #[] #[], .slice la ll.length lc, .func (.func 73) #[] #[]] W fun e W' => (e = .returned (.bool true) ∧ J (pre ++ visL gnA (adB la) (adO la) ll) W') ∨ (∃ ch, e = .panicked ch ∧ Jp ch W')) ∧
   (pre ++ visL gnA (adB ea) (adO ea) el <+: xs → InRow 9 IT.cells (IT.In n0 w0) n0 w0 el ea → CallsIn F m Tryz.prog 72 #[.func (.yield L) #[] #[], .slice ea el.length ec, .func (.func 73) #[] #[]] W fun e W' => (e = .returned (.bool true) ∧ J (pre ++ visL gnA (adB ea) (adO ea) el) W') ∨ (∃ ch, e = .panicked ch ∧ Jp ch W')) :=
  IT.ind fun op nm nf xa xc xl sa sc sl la lc ll ea ec el pa pc pl ba bc bl ih0 ih1 hb => by
   intro op' nm' nf' xa' xc' xl' sa' sc' sl' la' lc' ll' ea' ec' el' pa' pc' pl' ba' bc' bl' e hg m pre W hj
   injection e with e1 e2 e3 e4 e5 e6 e7 e8 e9 e10 e11 e12 e13 e14 e15 e16 e17 e18 e19 e20 e21
   subst e1 e10 e11 e12 e13 e14 e15
   simp only [IT.bk] at hb
   have b1 := IT.bkL_len ll
   have b2 := IT.bkL_len el
   exact ⟨fun h1 h2 => intoA_of F hd hW hro L n0 w0 xs J Jp hJk hY ll (by omega) (fun y hy => ih0 y hy (by have := IT.bkL_mem hy; omega)) m la lc pre W h1 h2 hj,
    fun h1 h2 => intoA_of F hd hW hro L n0 w0 xs J Jp hJk hY el (by omega) (fun y hy => ih1 y hy (by have := IT.bkL_mem hy; omega)) m ea ec pre W h1 h2 hj⟩
 exact intoA_of F hd hW hro L n0 w0 xs J Jp hJk hY l (by have := IT.bkL_len l; omega) (fun y hy => key y (by have := IT.bkL_mem hy; omega)) n a c pre W h1 h2 h3
set_option maxHeartbeats 1000000 in
/-- The iterator's function, made: its list lies in a new box. -/
theorem seqA_in (F : Fence) (hW : ∀ g, F.fn g) (hro : F.round = none) (n : Nat) (v : Value) (a : Option Addr) (len c : Nat) (hv : v = .slice a len c) (w : World) : CallsIn F n Tryz.prog 45 #[v] w fun e w' => e = .returned (.func (.func 71) #[] #[.pointer (some ⟨w.heap.size, 0, none⟩)]) ∧ w' = w.alloc (.cells #[v] 37) := by
 subst hv
 refine callsIn_of_wp Tryz.func45 rfl (hW _) ?_ hro
 simp only [Tryz.ntmps45, List.size_toArray, List.length_cons, List.length_nil, Nat.reduceAdd, Nat.reduceSub, Array.replicate_succ, Array.replicate_zero, List.push_toArray, List.append_toArray, List.nil_append, List.cons_append]
 gi_wp2
 go_ret
 exact ⟨rfl, rfl⟩
theorem seqA_enters (args : Array Value) (w : World) : (callFunc 71 args).run Tryz.prog w = .ok (.enter 71 args) w := enters_of Tryz.func71 (by kernel_rfl) rfl args w
set_option maxHeartbeats 4000000 in
set_option maxRecDepth 100000 in
theorem seqA_all (F : Fence) (hd : F.depth = none) (hW : ∀ g, F.fn g) (hro : F.round = none) (n n0 Bs : Nat) (w : World) (l : List IT) (hbk : IT.bkL l ≤ 4500000) (a : Option Addr) (c : Nat) (hn0 : n0 ≤ w.heap.size) (hin : InRow 9 IT.cells (IT.In n0 w) n0 w l a) (hB : w.heap[Bs]? = some (.cells #[.slice a l.length c] 37 (0, 0))) :
  SeqAll F n Tryz.prog 71 #[.pointer (some ⟨Bs, 0, none⟩)] (fun x : Vis => #[Value.pointer (some ⟨x.1, x.2.1, none⟩)]) (visL gnA (adB a) (adO a) l) (KeptTo n0 w) w := by
 intro L J Jp W1 hb1 hJd hJk hY h0
 have hdd : ∀ k : Nat, (F.depth.isSome = true → 1 ≤ k) := fun k h => by rw [hd] at h; cases h
 have hB1 := block_kept hB hb1
 have y0 := (cell_of_box_1 hB1).1
 have q := intoA_in F hd hW hro L n0 w _ J Jp hJk hY l hbk (n - 1) a c [] W1 (by rw [List.nil_append]; exact List.prefix_refl _) hin h0
 rw [List.nil_append] at q
 clear hB1 hB hY h0
 refine callsIn_of_wp Tryz.func71 rfl (hW _) ?_ hro
 simp only [Tryz.ntmps71, List.size_toArray, List.length_cons, List.length_nil, Nat.reduceAdd, Nat.reduceSub, Array.replicate_succ, Array.replicate_zero, List.push_toArray, List.append_toArray, List.nil_append, List.cons_append]
 gi_wp2_with fail
 (try refine ⟨hdd _, ?_⟩)
 refine q.mono ?_
 clear q
 rintro e W2 (⟨rfl, hj⟩ | ⟨ch, rfl, hp⟩)
 ·gi_wp2
  exact bodyPost_end (results_none rfl _ _ _) rfl (.inl ⟨⟨_, rfl⟩, hj⟩)
 ·exact ⟨rfl, .inr ⟨ch, rfl, hp⟩⟩
end Go.Proofs.YtiipjbafdhijlaaGreatDoor
namespace Go.Proofs.YtiipjbafdhijlaaGreatDoor
open Go Go.RowKit
set_option linter.unusedVariables false
set_option linter.unusedSimpArgs false
open Go.Sort
def endB (ok : Bool) : Ending := if ok = true then .returned (.tuple #[]) else .panicked thrown
def StmL (l : List ST) : Prop := ∀ (W : World) (n0 : Nat) (a : Option Addr) (cap : Nat) (c : Sc) (r : List Sc), n0 ≤ W.heap.size → InRow 4 ST.cells (ST.In n0 W) n0 W l a → Chain W (c :: r) →
 ST.bkL l ≤ 4500000 → Calls Tryz.prog 147 #[.pointer (some ⟨c.b, 0, none⟩), .slice a l.length cap] W fun e W' => Below W.heap.size W W' ∧ e = endB (stBL (arOf (c :: r)) l)
theorem stBL_snoc (ch : List Bytes) (l : List ST) (k : Nat) (h : k < l.length) : stBL ch (l.take (k + 1)) = (stBL ch (l.take k) && stB ch l[k]) := by
 rw [stBL_all, stBL_all, List.take_succ_eq_append_getElem h, List.all_append]
 simp
theorem stBL_false {ch : List Bytes} {l : List ST} {x : ST} (hx : x ∈ l) (h : stB ch x = false) : stBL ch l = false := by
 rw [stBL_all]
 exact List.all_eq_false.2 ⟨x, hx, by rw [h]; simp⟩
theorem arOf_cons (c : Sc) (r : List Sc) : arOf (c :: r) = c.ns ++ arOf r := by simp [arOf]
set_option maxHeartbeats 8000000 in
set_option maxRecDepth 100000 in
theorem statements_of (l : List ST) (hx : ∀ x ∈ l, StmL x.sl) : StmL l := by
 intro W n0 a cap c r hn0 hin hC hbk
 have hll := ST.bkL_len l
 obtain ⟨ch, hch⟩ : ∃ ch, arOf (c :: r) = ch := ⟨_, rfl⟩
 rw [hch]
 have HX := Lib.hid (And.intro hx hch)
 have HI := Lib.hid hin
 have HC := Lib.hid hC
 obtain ⟨Q, hQ⟩ : ∃ Q : Ending → World → Prop, (fun e W' => Below W.heap.size W W' ∧ e = endB (stBL ch l)) = Q := ⟨_, rfl⟩
 rw [hQ]
 have HQ := Lib.hid hQ
 clear hx hin hC hQ hch
 go_enter Tryz.func147, Tryz.ntmps147
 go_wp2_with fail
 go_loopg [9] l.length (fun g u wr => ∃ k : Nat, u = .int .i64 k ∧ k + g = l.length ∧ stBL ch (l.take k) = true ∧ Below W.heap.size W wr)
 case atStart => exact ⟨0, rfl, by omega, rfl, Below.refl _ _⟩
 case round =>
  obtain ⟨k, rfl, hk, hst, hb0⟩ := hrel
  by_cases hlt : k < l.length
  ·have d1 : decide (k < l.length) = true := by simpa using hlt
   have d2 : decide ((k : Int) < (l.length : Int)) = true := by rw [decide_eq_true_eq]; omega
   have x1 : (k : Int) < (l.length : Int) := by omega
   have hkt : KeptTo n0 W wr := Below.keptTo hb0 hn0
   obtain ⟨b, o, rfl, hb, hr, hxin⟩ := (HI.out).at hlt
   have hsn := stBL_snoc ch l k hlt
   rw [hst, Bool.true_and] at hsn
   have hsf := fun h => stBL_false (ch := ch) (List.getElem_mem hlt) h
   have hbx := ST.bkL_mem (List.getElem_mem hlt)
   have hxx := HX.out.1 _ (List.getElem_mem hlt)
   have HS := Lib.hid (And.intro hsn hsf)
   clear hsn hsf hst
   generalize l[k] = x at *
   obtain ⟨op, nm, xa, xc, xl, sa, sc, sl⟩ := x
   have hxin2 := hxin.keep hkt
   rw [ST.In_mk] at hxin2
   obtain ⟨-, i1⟩ := hxin2
   have r0 : wr.cell? ⟨b, o + k * 4, none⟩ = some (.int .i64 op) := hkt _ _ _ hb (hr 0 _ rfl)
   have r1 : wr.cell? ⟨b, o + k * 4 + 1, none⟩ = some (.string (bs nm)) := hkt _ _ _ hb (hr 1 _ rfl)
   have r2 : wr.cell? ⟨b, o + k * 4 + 2, none⟩ = some (.slice xa xl.length xc) := hkt _ _ _ hb (hr 2 _ rfl)
   have r3 : wr.cell? ⟨b, o + k * 4 + 3, none⟩ = some (.slice sa sl.length sc) := hkt _ _ _ hb (hr 3 _ rfl)
   simp only [ST.bk] at hbx
   have hz := hb0.size
   have hal : Below wr.heap.size wr (wr.alloc (.cells #[.int .i64 op, .string (bs nm), .slice xa xl.length xc, .slice sa sl.length sc] 134)) := (Below.refl _ _).alloc (Nat.le_refl _) _
   have BX := World.alloc_heap_new wr (.cells #[.int .i64 op, .string (bs nm), .slice xa xl.length xc, .slice sa sl.length sc] 134)
   have hC1 : Chain (wr.alloc (.cells #[.int .i64 op, .string (bs nm), .slice xa xl.length xc, .slice sa sl.length sc] 134)) (c :: r) := HC.out.keep (hb0.trans (hal.mono hz))
   have hk1 : KeptTo n0 W (wr.alloc (.cells #[.int .i64 op, .string (bs nm), .slice xa xl.length xc, .slice sa sl.length sc] 134)) := hkt.trans (Below.keptTo hal (by omega))
   have hzl : (wr.alloc (.cells #[.int .i64 op, .string (bs nm), .slice xa xl.length xc, .slice sa sl.length sc] 134)).heap.size = wr.heap.size + 1 := by simp
   have hi1 := (i1.keep (Below.keptTo hal (show n0 ≤ wr.heap.size by omega)) (fun x _ => ST.In.keep (Below.keptTo hal (show n0 ≤ wr.heap.size by omega)) x))
   have hxx2 := hxx
   simp only [ST.sl] at hxx2
   have HP : Hid (∀ (W' : World) (ok : Bool), Below W.heap.size W W' → stB ch (.mk op nm xa xc xl sa sc sl) = ok → (ok = false → Q (.panicked thrown) W') ∧ (ok = true → stBL ch (l.take (k + 1)) = true ∧ Below W.heap.size W W')) := Lib.hid (by
    intro W' ok hB he
    refine ⟨fun h => ?_, fun h => ⟨by rw [HS.out.1, he, h], hB⟩⟩
    rw [← HQ.out]
    refine ⟨hB, ?_⟩
    rw [HS.out.2 (by rw [he, h])]; rfl)
   have hbW := hb0.trans (hal.mono hz)
   have hsz : nm.length ≤ 12000000 := by omega
   have hln := Chain.lt HC.out
   have hltc := hln c (by simp)
   clear hxin i1 hr hkt hxx HS hb
   by_cases h6 : op = 6
   ·subst h6
    have hst : stB ch (.mk 6 nm xa xc xl sa sc sl) = (!ch.contains nm && stBL (ch ++ [nm]) sl) := by rw [stB, if_pos rfl]
    rw [hst] at HP
    obtain ⟨g, hg⟩ : ∃ g, wr.heap.size = g := ⟨_, rfl⟩
    rw [hg] at hzl BX
    have q1 := inside_at _ (g + 1) c r hzl hC1
    have HH := Lib.hid (And.intro hbW (And.intro hi1 (And.intro hk1 (And.intro BX (And.intro hzl (And.intro hg hln))))))
    clear hbW hi1 hk1 hC1 hst hal BX hzl hln
    go_wp2_with fail
    obtain ⟨hbW, hi1, hk1, BX, hzl, hg, hln⟩ := HH.out
    clear HH r0 r1 r2 r3
    generalize wr.alloc (.cells #[.int .i64 6, .string (bs nm), .slice xa xl.length xc, .slice sa sl.length sc] 134) = Wa at *
    refine q1.mono ?_
    clear q1
    rintro e W1 ⟨rfl, hC2, hB1, hz1⟩
    rw [← hzl] at hB1
    have BX1 := block_kept BX hB1
    have z1 : W1.cell? ⟨g, 1, none⟩ = some (.string (bs nm)) := by simp [World.cell?, BX1]
    have hbW1 := hbW.trans (hB1.mono (by omega))
    have hlc := Chain.lt hC2.2.2
    have q2 := tell_any W1 ⟨g + 1 + 1, g + 1, 0, []⟩ (c :: r) nm hsz (by show 0 < 12000000; omega) hC2 (fun h => by
     obtain ⟨s, hs, e⟩ := List.mem_map.1 h
     have := (hln s hs).2
     have e2 : s.m = g + 1 := e
     omega)
    rw [show tellSc ⟨g + 1 + 1, g + 1, 0, []⟩ (c :: r) nm = (if ch.contains nm = true then none else some ⟨g + 1 + 1, g + 1, 1, [nm]⟩) by
     unfold tellSc
     rw [toldIn_ar, HX.out.2]
     rfl] at q2
    have HH := Lib.hid (And.intro hbW1 (And.intro (hi1.keep (Below.keptTo hB1 (by omega)) (fun x _ => ST.In.keep (Below.keptTo hB1 (by omega)) x)) (And.intro BX1 hC2)))
    clear hbW hi1 hk1 BX hB1 BX1 hbW1 hlc hC2 hln
    go_wp2_with fail
    refine q2.mono ?_
    clear q2
    rintro e W2 ⟨hk2, hp2⟩
    obtain ⟨hbW1, hi1, BX1, hC2⟩ := HH.out
    have hbW2 : Below W.heap.size W W2 := hbW1.trans ((KeptBut.of1 hk2).below (by have := hbW1.size; omega) (fun i hi e => by (try simp only at e); omega))
    cases hcc : ch.contains nm with
    | true =>
     rw [hcc] at hp2
     replace hp2 : e = .panicked thrown := hp2
     subst hp2
     exact ⟨rfl, (HP.out W2 false hbW2 (by rw [hcc]; rfl)).1 rfl⟩
    | false =>
     rw [hcc] at hp2
     obtain ⟨rfl, -, -, hC3⟩ := hp2
     have BX2 := (hk2.block g (Array.getElem?_eq_some_iff.1 BX1).1 (by show g ≠ g + 1; omega)).trans BX1
     have z3 : W2.cell? ⟨g, 3, none⟩ = some (.slice sa sl.length sc) := by simp [World.cell?, BX2]
     have hkn : KeptTo n0 W1 W2 := (KeptBut.of1 hk2).to (by omega) (fun i hi e => by (try simp only at e); omega)
     have q3 := hxx2 W2 n0 sa sc ⟨g + 1 + 1, g + 1, 1, [nm]⟩ (c :: r) (by have := hbW2.size; omega) (hi1.keep hkn (fun x _ => ST.In.keep hkn x)) hC3 (by omega)
     rw [arOf_cons, HX.out.2, stBL_same sl _ (ch ++ [nm]) (fun n => by simp [or_comm])] at q3
     have HH2 := Lib.hid (And.intro hbW2 hcc)
     clear hbW1 hi1 BX1 hC2 hbW2 hcc hC3 BX2 hkn hk2 z1 HH
     go_wp2_with fail
     refine q3.mono ?_
     clear q3
     rintro e W3 ⟨hB3, rfl⟩
     obtain ⟨hbW2, hcc⟩ := HH2.out
     have hbW3 := hbW2.trans (hB3.mono hbW2.size)
     cases hok : stBL (ch ++ [nm]) sl with
     | false => exact ⟨rfl, (HP.out W3 false hbW3 (by rw [hcc, hok]; rfl)).1 rfl⟩
     | true =>
      have HF := Lib.hid ((HP.out W3 true hbW3 (by rw [hcc, hok]; rfl)).2 rfl)
      clear hbW2 hcc hbW3 hok hB3 HP HH2 hxx2 HX HI HC z3
      rw [show endB true = .returned (.tuple #[]) from rfl]
      go_wp2_with fail
      cases gk with
      | zero => omega
      | succ gg =>
       go_roundg gg
       case rel => exact ⟨k + 1, rfl, by omega, HF.out⟩
       case measure => omega
   ·have hst : stB ch (.mk op nm xa xc xl sa sc sl) = stBL ch sl := by rw [stB, if_neg h6]
    rw [hst] at HP
    have hb6 : (op == 6) = false := by simpa using h6
    have q3 := hxx2 _ n0 sa sc c r (show n0 ≤ (wr.alloc (.cells #[.int .i64 op, .string (bs nm), .slice xa xl.length xc, .slice sa sl.length sc] 134)).heap.size by omega) hi1 hC1 (by omega)
    rw [HX.out.2] at q3
    have HH := Lib.hid (And.intro hbW (And.intro hzl hz))
    clear hbW hi1 hk1 hC1 hst hal BX hzl hln hxx2
    go_wp2_with fail
    refine q3.mono ?_
    clear q3
    rintro e W3 ⟨hB3, rfl⟩
    obtain ⟨hbW, hzl, hz⟩ := HH.out
    have hbW3 := hbW.trans (hB3.mono (by omega))
    cases hok : stBL ch sl with
    | false => exact ⟨rfl, (HP.out W3 false hbW3 hok).1 rfl⟩
    | true =>
     have HF := Lib.hid ((HP.out W3 true hbW3 hok).2 rfl)
     clear hbW hzl hbW3 hok hB3 HP HH HX HI HC r0 r1 r2 r3
     rw [show endB true = .returned (.tuple #[]) from rfl]
     go_wp2_with fail
     cases gk with
     | zero => omega
     | succ gg =>
      go_roundg gg
      case rel => exact ⟨k + 1, rfl, by omega, HF.out⟩
      case measure => omega
  ·have d1 : decide (k < l.length) = false := by simpa using hlt
   have d2 : decide ((k : Int) < (l.length : Int)) = false := by rw [decide_eq_false_iff_not]; omega
   have HF : Hid (Q (.returned (.tuple #[])) wr) := Lib.hid (by
    rw [← HQ.out]
    rw [List.take_of_length_le (by omega)] at hst
    exact ⟨hb0, by rw [hst]; rfl⟩)
   clear hst hb0 hlt HX HI HC
   go_wp2_with fail
   exact bodyPost_end (results_none rfl _ _ _) rfl HF.out
theorem stm_all : ∀ x : ST, StmL x.sl := ST.ind fun op nm xa xc xl sa sc sl ih => statements_of sl ih
/-- **The scopes of statements.** -/
theorem statements_any (l : List ST) : StmL l := statements_of l (fun x _ => stm_all x)
end Go.Proofs.YtiipjbafdhijlaaGreatDoor
namespace Go.Proofs.YtiipjbafdhijlaaGreatDoor
open Go Go.RowKit Go.Shelf
set_option linter.unusedVariables false
set_option linter.unusedSimpArgs false
attribute [local go_sem] Oper.semAt_some
open Go.Sort
def itemsB (ar S : List Bytes) (l : List IT) : Bool := match telL ar S l with | none => false | some T => inL (T ++ ar) l
/-- The scopes of one item that is handed out. -/
def itB (ch : List Bytes) : IT → Bool
 | .mk op nm nf _ _ _ _ _ sl _ _ ll _ _ el _ _ _ _ _ _ => if op = 9 then !ch.contains nf && itemsB ch [nf] ll else if op = 5 ∨ op = 6 then stBL ch sl else true
theorem inL_vis_of (ch : List Bytes) (b : Nat) : ∀ (l : List IT) (o : Nat), (∀ x ∈ l, ∀ b o, (visI gnC b o x).all (fun v => itB ch v.2.2) = inI ch x) → (visL gnC b o l).all (fun v => itB ch v.2.2) = inL ch l
 | [], o, _ => rfl
 | x :: r, o, h => by
  rw [visL, inL, List.all_append, h x (by simp) b o, inL_vis_of ch b r (o + 9) (fun y hy => h y (by simp [hy]))]
theorem inI_vis (ch : List Bytes) : ∀ x : IT, ∀ b o, (visI gnC b o x).all (fun v => itB ch v.2.2) = inI ch x := IT.ind fun op nm nf xa xc xl sa sc sl la lc ll ea ec el pa pc pl ba bc bl ih0 ih1 b o => by
 rw [visI, inI, List.all_cons]
 by_cases h8 : op = 8
 ·subst h8
  rw [if_pos (show gnC 8 = true from rfl), if_pos rfl, List.all_append, inL_vis_of ch _ ll _ ih0, inL_vis_of ch _ el _ ih1]
  have : itB ch (.mk 8 nm nf xa xc xl sa sc sl la lc ll ea ec el pa pc pl ba bc bl) = true := by rw [itB, if_neg (by decide), if_neg (by decide)]
  rw [this, Bool.true_and]
 ·have hg : ¬ gnC op = true := by simp [gnC, h8]
  rw [if_neg hg, if_neg h8, List.all_nil, Bool.and_true, itB]
  rfl
theorem inL_vis (ch : List Bytes) (b o : Nat) (l : List IT) : (visL gnC b o l).all (fun v => itB ch v.2.2) = inL ch l := inL_vis_of ch b l o (fun x _ => inI_vis ch x)
theorem visL_bk_of (gn : Int → Bool) (b : Nat) : ∀ (l : List IT) (o : Nat), (∀ x ∈ l, ∀ b o, ∀ y ∈ visI gn b o x, y.2.2.bk ≤ x.bk) → ∀ y ∈ visL gn b o l, y.2.2.bk ≤ IT.bkL l
 | [], o, _, y, hy => by simp [visL] at hy
 | x :: r, o, h, y, hy => by
  rw [visL, List.mem_append] at hy
  rw [IT.bkL]
  rcases hy with hy | hy
  ·have := h x (by simp) b o y hy; omega
  ·have := visL_bk_of gn b r (o + 9) (fun z hz => h z (by simp [hz])) y hy; omega
theorem visI_bk (gn : Int → Bool) : ∀ x : IT, ∀ b o, ∀ y ∈ visI gn b o x, y.2.2.bk ≤ x.bk := IT.ind fun op nm nf xa xc xl sa sc sl la lc ll ea ec el pa pc pl ba bc bl ih0 ih1 b o y hy => by
 rw [visI] at hy
 rcases List.mem_cons.1 hy with e | hy
 ·subst e; exact Nat.le_refl _
 ·have hm : y ∈ visL gn (adB la) (adO la) ll ++ visL gn (adB ea) (adO ea) el := by
   split at hy
   ·exact hy
   ·cases hy
  rw [IT.bk]
  rcases List.mem_append.1 hm with hm | hm
  ·have := visL_bk_of gn _ ll _ ih0 y hm; omega
  ·have := visL_bk_of gn _ el _ ih1 y hm; omega
theorem visL_bk (gn : Int → Bool) (b o : Nat) (l : List IT) : ∀ y ∈ visL gn b o l, y.2.2.bk ≤ IT.bkL l := visL_bk_of gn b l o (fun x _ => visI_bk gn x)
def ItemsL (l : List IT) : Prop := ∀ (W : World) (n0 : Nat) (a : Option Addr) (cap : Nat) (c : Sc) (r : List Sc), n0 ≤ W.heap.size → n0 ≤ c.b → n0 ≤ c.m → InRow 9 IT.cells (IT.In n0 W) n0 W l a → Chain W (c :: r) → (∀ s ∈ r, s.b ≠ c.b ∧ s.m ≠ c.m) →
 IT.bkL l ≤ 4500000 → c.n + IT.bkL l ≤ 9000000 → Calls Tryz.prog 119 #[.pointer (some ⟨c.b, 0, none⟩), .slice a l.length cap] W fun e W' => KeptBut (fun i => i = c.b ∨ i = c.m) W W' ∧ e = endB (itemsB (arOf r) c.ns l)
set_option maxHeartbeats 8000000 in
set_option maxRecDepth 100000 in
theorem loopP_of (W : World) (n0 b o : Nat) (c : Sc) (r : List Sc) (nf : Bytes) (la : Option Addr) (lc : Nat) (ll : List IT) (hl : ItemsL ll) (hn0 : n0 ≤ W.heap.size) (hb : b < n0)
  (r2 : W.cell? ⟨b, o + 2, none⟩ = some (.string (bs nf))) (r5 : W.cell? ⟨b, o + 5, none⟩ = some (.slice la ll.length lc)) (hnf : nf.length ≤ 12000000) (hin : InRow 9 IT.cells (IT.In n0 W) n0 W ll la) (hC : Chain W (c :: r)) (hbk : IT.bkL ll ≤ 4500000) :
  Calls Tryz.prog 146 #[.pointer (some ⟨c.b, 0, none⟩), .pointer (some ⟨b, o, none⟩)] W fun e W' => Below W.heap.size W W' ∧ e = endB (!(arOf (c :: r)).contains nf && itemsB (arOf (c :: r)) [nf] ll) := by
 obtain ⟨ch, hch⟩ : ∃ ch, arOf (c :: r) = ch := ⟨_, rfl⟩
 rw [hch]
 obtain ⟨h, hh⟩ : ∃ h, W.heap.size = h := ⟨_, rfl⟩
 rw [hh] at hn0 ⊢
 have hln := Chain.lt hC
 rw [hh] at hln
 have q1 := inside_at W h c r hh hC
 have HH := Lib.hid (And.intro hin (And.intro hC (And.intro hch (And.intro hl hln))))
 clear hin hC hch hl hln
 go_enter Tryz.func146, Tryz.ntmps146
 go_wp2_with fail
 refine q1.mono ?_
 clear q1
 rintro e W1 ⟨rfl, hC1, hB1, hz1⟩
 obtain ⟨hin, hC, hch, hl, hln⟩ := HH.out
 have k1 : KeptTo n0 W W1 := Below.keptTo hB1 hn0
 have r2a := k1 _ _ _ hb r2
 have r5a := k1 _ _ _ hb r5
 have q2 := tell_any W1 ⟨h + 1, h, 0, []⟩ (c :: r) nf hnf (by show 0 < 12000000; omega) hC1 (fun hm => by
  obtain ⟨s, hs, e⟩ := List.mem_map.1 hm
  have := (hln s hs).2
  have e2 : s.m = h := e
  omega)
 rw [show tellSc ⟨h + 1, h, 0, []⟩ (c :: r) nf = (if ch.contains nf = true then none else some ⟨h + 1, h, 1, [nf]⟩) by
  unfold tellSc
  rw [toldIn_ar, hch]
  rfl] at q2
 have H1 := Lib.hid (And.intro hC1 (And.intro hB1 k1))
 clear hin hC hch hl hln hC1 hB1 k1
 go_wp2_with fail
 refine q2.mono ?_
 clear q2
 rintro e W2 ⟨hk2, hp2⟩
 obtain ⟨hin, hC, hch, hl, hln⟩ := HH.out
 obtain ⟨hC1, hB1, k1⟩ := H1.out
 have hB2 : Below h W W2 := hB1.trans ((KeptBut.of1 hk2).below (by omega) (fun i hi e => by (try simp only at e); omega))
 cases hcc : ch.contains nf with
 | true =>
  rw [hcc] at hp2
  replace hp2 : e = .panicked thrown := hp2
  subst hp2
  exact ⟨rfl, hB2, by rw [hcc]; rfl⟩
 | false =>
  rw [hcc] at hp2
  obtain ⟨rfl, -, -, hC3⟩ := hp2
  have k2 : KeptTo n0 W W2 := Below.keptTo hB2 hn0
  have r5b := k2 _ _ _ hb r5
  have q3 := hl W2 n0 la lc ⟨h + 1, h, 1, [nf]⟩ (c :: r) (by have := hB2.size; omega) (by show n0 ≤ h + 1; omega) hn0 (hin.keep k2 (fun x _ => IT.In.keep k2 x)) hC3 (fun s hs => by have := hln s hs; exact ⟨by show s.b ≠ h + 1; omega, by show s.m ≠ h; omega⟩) hbk (by show 1 + _ ≤ 9000000; omega)
  rw [hch] at q3
  have H2 := Lib.hid (And.intro hB2 hcc)
  clear hin hC hch hl hln hC1 hB1 k1 hB2 hcc hC3 k2 hk2 r2a r5a H1 HH
  go_wp2_with fail
  refine q3.mono ?_
  clear q3
  rintro e W3 ⟨hk3, rfl⟩
  obtain ⟨hB2, hcc⟩ := H2.out
  have hB3 : Below h W W3 := hB2.trans (hk3.below (by have := hB2.size; omega) (fun i hi e => by (try simp only at e); omega))
  cases hok : itemsB ch [nf] ll with
  | false => exact ⟨rfl, hB3, by rw [hcc, hok]; rfl⟩
  | true =>
   have HF : Hid (Below h W W3 ∧ Ending.returned (.tuple #[]) = endB (!ch.contains nf && itemsB ch [nf] ll)) := Lib.hid ⟨hB3, by rw [hcc, hok]; rfl⟩
   clear hB2 hB3 hcc H2 hk3 hok
   rw [show endB true = .returned (.tuple #[]) from rfl]
   go_wp2_with fail
   exact bodyPost_end (results_none rfl _ _ _) rfl HF.out
theorem toF {F : Fence} (hF : Fence.wide = F) {n : Nat} {f : FuncId} {args : Array Value} {w : World} {R : Ending → World → Prop} (h : Calls Tryz.prog f args w R) : CallsIn F n Tryz.prog f args w R := by subst hF; exact callsIn_wide.2 h
set_option maxHeartbeats 8000000 in
set_option maxRecDepth 100000 in
theorem items_of (l : List IT) (hx : ∀ m : List IT, IT.bkL m < IT.bkL l → ItemsL m) : ItemsL l := by
 intro W n0 a cap c r hn0 hcb hcm hin hC hap hbk hcn
 have hlt := Chain.lt hC
 have hltc := hlt c (by simp)
 obtain ⟨W0, hW0⟩ : ∃ W0, W.alloc (.cells #[.pointer (some ⟨c.b, 0, none⟩)] 121) = W0 := ⟨_, rfl⟩
 have hz0 : W0.heap.size = W.heap.size + 1 := by rw [← hW0]; simp
 have hB0 : Below W.heap.size W W0 := by rw [← hW0]; exact (Below.refl _ _).alloc (Nat.le_refl _) _
 have BX0 : W0.heap[W.heap.size]? = some (.cells #[.pointer (some ⟨c.b, 0, none⟩)] 121 (0, 0)) := by rw [← hW0]; exact World.alloc_heap_new W _
 have k0 : KeptTo n0 W W0 := Below.keptTo hB0 hn0
 have q1 := tellItems_any l W0 n0 a cap c r (by omega) hcb hcm (hin.keep k0 (fun x _ => IT.In.keep k0 x)) (hC.keep hB0) hap hbk hcn
 have y0 : W0.cell? ⟨W.heap.size, 0, none⟩ = some (.pointer (some ⟨c.b, 0, none⟩)) := (cell_of_box_1 BX0).1
 have HH := Lib.hid (And.intro hin (And.intro hC (And.intro hap (And.intro hlt (And.intro hB0 (And.intro BX0 (And.intro hx hz0)))))))
 clear hin hC hap hlt hB0 BX0 k0 hx
 suffices hall : ∀ F : Fence, Fence.wide = F → CallsIn F 0 Tryz.prog 119 #[.pointer (some ⟨c.b, 0, none⟩), .slice a l.length cap] W (fun e W' => KeptBut (fun i => i = c.b ∨ i = c.m) W W' ∧ e = endB (itemsB (arOf r) c.ns l)) from (callsIn_wide (n := 0)).1 (hall _ rfl)
 intro F hF
 have hd : F.depth = none := by rw [← hF]; rfl
 have hW : ∀ g, F.fn g := fun g => by rw [← hF]; trivial
 have hro : F.round = none := by rw [← hF]; rfl
 have hdd : ∀ k : Nat, (F.depth.isSome = true → 1 ≤ k) := fun k h => by rw [hd] at h; cases h
 have HF := Lib.hid hF
 clear hF
 refine callsIn_of_wpF_marks Tryz.func119 rfl (hW _) ?_ hro
 simp only [Tryz.ntmps119, List.size_toArray, List.length_cons, List.length_nil, Nat.reduceAdd, Nat.reduceSub, Array.replicate_succ, Array.replicate_zero, List.push_toArray, List.append_toArray, List.nil_append, List.cons_append]
 refine wpF_seq_in ?_
 gi_wp2_with fail
 clear hW0
 refine wpF_seq_in ?_
 gi_wp2_with fail
 (try refine ⟨hdd _, ?_⟩)
 refine (toF HF.out q1).mono ?_
 clear q1
 rintro e W1 ⟨hk1, hp1⟩
 obtain ⟨hin, hC, hap, hlt, hB0, BX0, hx, hz0⟩ := HH.out
 have hkW1 : KeptBut (fun i => i = c.b ∨ i = c.m) W W1 := (KeptBut.of_below hB0).trans hk1 (fun i hi e => e)
 cases hT : telL (arOf r) c.ns l with
 | none =>
  rw [hT] at hp1
  replace hp1 : e = .panicked thrown := hp1
  subst hp1
  exact ⟨hkW1, by unfold itemsB; rw [hT]; rfl⟩
 | some T =>
  rw [hT] at hp1
  obtain ⟨rfl, m1, n1, hm1, hn1, hC1⟩ := hp1
  have hz1 := hk1.size
  obtain ⟨W2, hW2⟩ : ∃ W2, W1.alloc (.cells #[.slice a l.length cap] 37) = W2 := ⟨_, rfl⟩
  have hz2 : W2.heap.size = W1.heap.size + 1 := by rw [← hW2]; simp
  have hB2 : Below W1.heap.size W1 W2 := by rw [← hW2]; exact (Below.refl _ _).alloc (Nat.le_refl _) _
  have BX2 : W2.heap[W1.heap.size]? = some (.cells #[.slice a l.length cap] 37 (0, 0)) := by rw [← hW2]; exact World.alloc_heap_new W1 _
  have BX1 : W1.heap[W.heap.size]? = some (.cells #[.pointer (some ⟨c.b, 0, none⟩)] 121 (0, 0)) := (hk1.block _ (by omega) (by (try simp only); omega)).trans BX0
  have q2 := seqC_in F hW hro (0 - 1) (.slice a l.length cap) a l.length cap rfl W1
  rw [hW2] at q2
  have H1 := Lib.hid (And.intro hkW1 (And.intro hC1 (And.intro hm1 (And.intro hn1 (And.intro hT (And.intro hz1 (And.intro hB2 (And.intro BX2 (And.intro BX1 hz2)))))))))
  clear hkW1 hC1 hm1 hn1 hT hz1 hB2 BX2 BX1 hz2 hin hC hap hlt hB0 BX0 hx hz0 hk1 hW2 y0
  gi_wp2_with fail
  refine wpF_seq_in ?_
  gi_wp2_with fail
  (try refine ⟨hdd _, ?_⟩)
  refine q2.mono ?_
  clear q2
  rintro e w' ⟨rfl, rfl⟩
  obtain ⟨hkW1, hC1, hm1, hn1, hT, hz1, hB2, BX2, BX1, hz2⟩ := H1.out
  obtain ⟨hin, hC, hap, hlt, hB0, BX0, hx, hz0⟩ := HH.out
  gi_wp2_with fail
  refine wpF_block ?_
  obtain ⟨ch, hch⟩ : ∃ ch, T ++ arOf r = ch := ⟨_, rfl⟩
  have hBw : Below W.heap.size W0 W1 ∨ True := .inr trivial
  have k1 : KeptTo n0 W W1 := hkW1.to hn0 (fun i hi => by (try simp only); omega)
  have k2 : KeptTo n0 W w' := k1.trans (Below.keptTo hB2 (by omega))
  have hin2 := hin.keep k2 (fun x _ => IT.In.keep k2 x)
  have hok2 := visL_ok gnC n0 w' l a hin2
  have hlt1 : ∀ s ∈ (⟨c.b, m1, n1, T⟩ :: r : List Sc), s.b < W1.heap.size ∧ s.m < W1.heap.size := Chain.lt hC1
  have hres : itemsB (arOf r) c.ns l = inL ch l := by unfold itemsB; rw [hT]; simp only; rw [hch]
  have har : arOf (⟨c.b, m1, n1, T⟩ :: r) = ch := by rw [arOf_cons]; exact hch
  rw [hres]
  have KF : ∀ {A B : World}, Below A.heap.size A B → KeepsFrom w'.heap.size A B := fun {A B} h => ⟨h.size, fun k o _ hk _ => (h.block k (Array.getElem?_eq_some_iff.1 hk).1).trans hk⟩
  have hkEnd : ∀ (V : World) (D : Nat), Below w'.heap.size w' V → w'.heap.size ≤ D → KeptBut (fun i => i = c.b ∨ i = c.m) W (V.putObj D (.deferred none)) := fun V D hB hD =>
   (hkW1.trans (KeptBut.of_below (p := fun i => i = c.b ∨ i = c.m) (hB2.trans (hB.mono hB2.size))) (fun _ _ e => e)).trans (q := fun i => i = c.b ∨ i = c.m ∨ i = D) ⟨by simp, fun i hi hn => World.putObj_heap_other (fun e => hn (.inr (.inr e))), rfl, rfl, rfl⟩ (fun i hi e => by (try simp only at e ⊢); have := hB.size; have := hkW1.size; omega)
  have HZ := Lib.hid (And.intro hC1 (And.intro hx (And.intro hok2 (And.intro hlt1 (And.intro har (And.intro hin2 (And.intro hkEnd hB2)))))))
  clear hkW1 hC1 hx hlt1 hch hin hin2 hT hkEnd hBw k1 k2 hap hlt hC hB0 BX0 HH H1 hm1 hok2
  refine wpF_rangeFunc_own Tryz.func119 hro hd (gf := 161) (lb := #[.pointer (some ⟨W1.heap.size, 0, none⟩)]) rfl (hW _) seqC_enters (encs := fun x : Vis => #[Value.pointer (some ⟨x.1, x.2.1, none⟩)]) (fun _ => rfl) (xs := visL gnC (adB a) (adO a) l) (Kp := KeptTo n0 w')
   (seqC_all F hd hW hro _ n0 W1.heap.size w' l hbk a cap (by omega) HZ.out.2.2.2.2.2.1 BX2)
   (fun pre V => Below w'.heap.size w' V ∧ ∀ v ∈ pre, itB ch v.2.2 = true) (fun ps V => (ps = thrown ∧ inL ch l = false) ∧ Below w'.heap.size w' V)
   (OwnFrom.and (ownFrom_below (Nat.le_refl _) (Nat.le_refl _)) (ownFrom_pure _ _)) (OwnFrom.and (ownFrom_pure _ _) (ownFrom_below (Nat.le_refl _) (Nat.le_refl _)))
   (fun pre V k h => ⟨⟨h.1.os, h.1.tape, h.1.output, h.1.size, h.1.block⟩, h.2⟩) (fun pre V h => Below.keptTo h.1 (by omega)) ⟨Below.refl _ _, fun v hv => by cases hv⟩
   (fun x : Vis => { tmps := #[.pointer (some ⟨c.b, 0, none⟩), .slice a l.length cap, .pointer (some ⟨W.heap.size, 0, none⟩), undef, .pointer (some ⟨x.1, x.2.1, none⟩), .pointer (some ⟨c.b, 0, none⟩), .slice a l.length cap, .tuple #[], .slice a l.length cap, .func (.func 161) #[] #[.pointer (some ⟨W1.heap.size, 0, none⟩)], .pointer (some ⟨x.1, x.2.1, none⟩), undef, undef, undef, undef, undef, undef, undef, undef, undef, undef, undef, undef, undef, undef, undef, undef, undef, undef], defers := [] })
   ?assign ?body ?done ?pan
  case assign =>
   rintro l0 m x V K hK
   gi_wp2
   exact hK
  case done =>
   rintro D V hD ⟨hB, hall⟩ hK
   obtain ⟨hC1, hx, hok2, hlt1, har, hin2, hkEnd, hB2⟩ := HZ.out
   have hok : inL ch l = true := by rw [← inL_vis ch (adB a) (adO a) l]; exact List.all_eq_true.2 hall
   rw [hok]
   refine ⟨by simp, .inl ⟨_, _, rfl, run_takeDeferred hK, ?_⟩⟩
   exact ⟨.tuple #[], by simp [results, Tryz.results119, go_sem], hkEnd V D hB hD, rfl⟩
  case pan =>
   rintro D ps V hD ⟨⟨rfl, hno⟩, hB⟩ hK
   obtain ⟨hC1, hx, hok2, hlt1, har, hin2, hkEnd, hB2⟩ := HZ.out
   rw [hno]
   refine ⟨by simp, .inl ⟨_, _, rfl, run_takeDeferred hK, ?_⟩⟩
   exact ⟨hkEnd V D hB hD, rfl⟩
  case body =>
   rintro l0 m pre x V hpx hl1 hl2 ⟨hB, hpre⟩
   obtain ⟨hC1, hx, hok2, hlt1, har, hin2, hkEnd, hB2⟩ := HZ.out
   have hxm : x ∈ visL gnC (adB a) (adO a) l := hpx.subset (by simp)
   have hxbk := visL_bk gnC _ _ l x hxm
   have hinF : itB ch x.2.2 = false → inL ch l = false := fun h => by rw [← inL_vis ch (adB a) (adO a) l]; exact List.all_eq_false.2 ⟨x, hxm, by rw [h]; simp⟩
   obtain ⟨hb, hr, hxin⟩ := hok2 x hxm
   have kV : KeptTo n0 w' V := Below.keptTo hB (by omega)
   have hBV : Below W1.heap.size W1 V := hB2.trans (hB.mono hB2.size)
   have y0 : V.cell? ⟨W.heap.size, 0, none⟩ = some (.pointer (some ⟨c.b, 0, none⟩)) := (cell_of_box_1 ((hBV.block _ (by omega)).trans BX1)).1
   have hCV := hC1.keep hBV
   obtain ⟨b, o, X⟩ := x
   obtain ⟨op, nm, nf, xa, xc, xl, sa, sc, sl, la, lc, ll, ea, ec, el, pa, pc, pl, ba, bc, bl⟩ := X
   simp only at hb hr hxin hxbk hinF
   rw [IT.In_mk] at hxin
   obtain ⟨-, i1, i2, -, -, -⟩ := hxin
   have r0 : V.cell? ⟨b, o, none⟩ = some (.int .i64 op) := kV _ _ _ hb (hr 0 _ rfl)
   have r2 : V.cell? ⟨b, o + 2, none⟩ = some (.string (bs nf)) := kV _ _ _ hb (hr 2 _ rfl)
   have r4 : V.cell? ⟨b, o + 4, none⟩ = some (.slice sa sl.length sc) := kV _ _ _ hb (hr 4 _ rfl)
   have r5 : V.cell? ⟨b, o + 5, none⟩ = some (.slice la ll.length lc) := kV _ _ _ hb (hr 5 _ rfl)
   simp only [IT.bk] at hxbk
   have HP : Hid (∀ (V' : World) (ok : Bool), Below V.heap.size V V' → itB ch (.mk op nm nf xa xc xl sa sc sl la lc ll ea ec el pa pc pl ba bc bl) = ok → (ok = false → KeepsFrom w'.heap.size V V' ∧ (inL ch l = false ∧ Below w'.heap.size w' V')) ∧
     (ok = true → KeepsFrom w'.heap.size V V' ∧ (Below w'.heap.size w' V' ∧ ∀ v ∈ pre ++ [((b, o, IT.mk op nm nf xa xc xl sa sc sl la lc ll ea ec el pa pc pl ba bc bl) : Vis)], itB ch v.2.2 = true))) := Lib.hid (by
    intro V' ok hV he
    have hBB := hB.trans (hV.mono hB.size)
    refine ⟨fun h => ⟨KF hV, hinF (by rw [he, h]), hBB⟩, fun h => ⟨KF hV, hBB, fun v hv => ?_⟩⟩
    rcases List.mem_append.1 hv with e | e
    ·exact hpre v e
    ·rw [List.mem_singleton.1 e]; exact he.trans h)
   by_cases h9 : op = 9
   ·subst h9
    have q := loopP_of V n0 b o ⟨c.b, m1, n1, T⟩ r nf la lc ll (hx ll (by omega)) (by have := hB.size; omega) hb r2 r5 (by omega) (i2.keep kV (fun x _ => IT.In.keep kV x)) hCV (by omega)
    rw [har] at q
    have he : itB ch (.mk 9 nm nf xa xc xl sa sc sl la lc ll ea ec el pa pc pl ba bc bl) = (!ch.contains nf && itemsB ch [nf] ll) := by rw [itB, if_pos rfl]
    rw [he] at HP
    dsimp only at q
    clear hC1 hx hok2 hlt1 har hin2 hkEnd hB2 hxm hxbk hinF hb hr i1 i2 kV hBV hCV he hB hpre hpx r2 r4 r5
    gi_wp2_with fail
    (try refine ⟨hdd _, ?_⟩)
    refine (CallsIn.inRound l0 (toF HF.out q)).mono ?_
    clear q
    rintro e V' ⟨hV, rfl⟩
    cases hok : (!ch.contains nf && itemsB ch [nf] ll) with
    | false =>
     have hh := (HP.out V' false hV hok).1 rfl
     exact ⟨rfl, hh.1, ⟨rfl, hh.2.1⟩, hh.2.2⟩
    | true =>
     have HQ := Lib.hid ((HP.out V' true hV hok).2 rfl)
     clear hok HP hV
     rw [show endB true = .returned (.tuple #[]) from rfl]
     gi_wp2
     exact HQ.out
   ·have h9b : (op == 9) = false := by simpa using h9
    by_cases h56 : op = 5 ∨ op = 6
    ·have he : itB ch (.mk op nm nf xa xc xl sa sc sl la lc ll ea ec el pa pc pl ba bc bl) = stBL ch sl := by rw [itB, if_neg h9, if_pos h56]
     rw [he] at HP
     have q := statements_any sl V.drew n0 sa sc ⟨c.b, m1, n1, T⟩ r (by have := hB.size; show n0 ≤ V.heap.size; omega) (i1.keep (W' := V.drew) kV (fun x _ => ST.In.keep (W' := V.drew) kV x)) (hCV.keep (W' := V.drew) ((Below.refl _ _).drew)) (by omega)
     rw [har] at q
     dsimp only at q
     have hmix : Tryz.prog.follows .mixedOrders = true := by kernel_rfl
     clear hC1 hx hok2 hlt1 har hin2 hkEnd hB2 hxm hxbk hinF hb hr i1 i2 kV hBV hCV he hB hpre hpx r2 r5
     have HP2 : Hid (∀ (V' : World) (ok : Bool), Below V.drew.heap.size V.drew V' → stBL ch sl = ok → (ok = false → KeepsFrom w'.heap.size V V' ∧ (inL ch l = false ∧ Below w'.heap.size w' V')) ∧
      (ok = true → KeepsFrom w'.heap.size V V' ∧ (Below w'.heap.size w' V' ∧ ∀ v ∈ pre ++ [((b, o, IT.mk op nm nf xa xc xl sa sc sl la lc ll ea ec el pa pc pl ba bc bl) : Vis)], itB ch v.2.2 = true))) := Lib.hid (fun V' ok hV => HP.out V' ok ⟨hV.os, hV.tape, hV.output, hV.size, hV.block⟩)
     clear HP
     have y0d : V.drew.cell? ⟨W.heap.size, 0, none⟩ = some (.pointer (some ⟨c.b, 0, none⟩)) := y0
     have r4d : V.drew.cell? ⟨b, o + 4, none⟩ = some (.slice sa sl.length sc) := r4
     cases hok : stBL ch sl with
     | false =>
      rw [hok, show endB false = .panicked thrown from rfl] at q
      have HR : Hid (∀ V' : World, Below V.drew.heap.size V.drew V' → KeepsFrom w'.heap.size V V' ∧ (inL ch l = false ∧ Below w'.heap.size w' V')) := Lib.hid (fun V' hV => (HP2.out V' false hV hok).1 rfl)
      clear hok HP2
      rcases h56 with rfl | rfl
      all_goals
       gi_wp2_with fail
       refine wpIn_region_any hmix ?_
       change wpAnyIn _ _ _ _ _ _ _ _ _ (World.drew _)
       refine wpAnyIn_ready (rs := [0, 1]) (by kernel_rfl) (by simp) ?_
       refine AllReadyIn.cons rfl (fun K hK => ?_) (AllReadyIn.cons rfl (fun K hK => ?_) AllReadyIn.nil)
       ·go_simp
        refine hK _ _ ?_
        clear hK K
        refine wpAnyIn_ready (rs := [1]) (by kernel_rfl) (by simp) ?_
        refine AllReadyIn.cons rfl (fun K hK => ?_) AllReadyIn.nil
        ·go_simp
         refine hK _ _ ?_
         clear hK K
         refine wpAnyIn_ready (rs := [2]) (by kernel_rfl) (by simp) ?_
         refine AllReadyIn.cons rfl (fun K hK => ?_) AllReadyIn.nil
         ·go_simp
          refine hK _ _ ?_
          clear hK K
          refine wpAnyIn_ready (rs := [3]) (by kernel_rfl) (by simp) ?_
          refine AllReadyIn.cons rfl (fun K hK => ?_) AllReadyIn.nil
          ·go_simp
           refine hK _ _ ?_
           clear hK K
           refine wpAnyIn_ready (rs := [4]) (by kernel_rfl) (by simp) ?_
           refine AllReadyIn.cons rfl (fun K hK => ?_) AllReadyIn.nil
           ·go_simp
            refine hK _ _ ?_
            clear hK K
            refine wpAnyIn_ready (rs := [5]) (by kernel_rfl) (by simp) ?_
            refine AllReadyIn.cons rfl (fun K hK => ?_) AllReadyIn.nil
            ·go_simp
             (try gi_wp2_with fail)
             (try refine ⟨hdd _, ?_⟩)
             refine (CallsIn.inRound l0 (toF HF.out q)).mono ?_
             rintro e V' ⟨hV, rfl⟩
             exact ⟨rfl, (HR.out V' hV).1, ⟨rfl, (HR.out V' hV).2.1⟩, (HR.out V' hV).2.2⟩
       ·go_simp
        refine hK _ _ ?_
        clear hK K
        refine wpAnyIn_ready (rs := [0, 2]) (by kernel_rfl) (by simp) ?_
        refine AllReadyIn.cons rfl (fun K hK => ?_) (AllReadyIn.cons rfl (fun K hK => ?_) AllReadyIn.nil)
        ·go_simp
         refine hK _ _ ?_
         clear hK K
         refine wpAnyIn_ready (rs := [2]) (by kernel_rfl) (by simp) ?_
         refine AllReadyIn.cons rfl (fun K hK => ?_) AllReadyIn.nil
         ·go_simp
          refine hK _ _ ?_
          clear hK K
          refine wpAnyIn_ready (rs := [3]) (by kernel_rfl) (by simp) ?_
          refine AllReadyIn.cons rfl (fun K hK => ?_) AllReadyIn.nil
          ·go_simp
           refine hK _ _ ?_
           clear hK K
           refine wpAnyIn_ready (rs := [4]) (by kernel_rfl) (by simp) ?_
           refine AllReadyIn.cons rfl (fun K hK => ?_) AllReadyIn.nil
           ·go_simp
            refine hK _ _ ?_
            clear hK K
            refine wpAnyIn_ready (rs := [5]) (by kernel_rfl) (by simp) ?_
            refine AllReadyIn.cons rfl (fun K hK => ?_) AllReadyIn.nil
            ·go_simp
             (try gi_wp2_with fail)
             (try refine ⟨hdd _, ?_⟩)
             refine (CallsIn.inRound l0 (toF HF.out q)).mono ?_
             rintro e V' ⟨hV, rfl⟩
             exact ⟨rfl, (HR.out V' hV).1, ⟨rfl, (HR.out V' hV).2.1⟩, (HR.out V' hV).2.2⟩
        ·go_simp
         refine hK _ _ ?_
         clear hK K
         refine wpAnyIn_ready (rs := [0, 3]) (by kernel_rfl) (by simp) ?_
         refine AllReadyIn.cons rfl (fun K hK => ?_) (AllReadyIn.cons rfl (fun K hK => ?_) AllReadyIn.nil)
         ·go_simp
          refine hK _ _ ?_
          clear hK K
          refine wpAnyIn_ready (rs := [3]) (by kernel_rfl) (by simp) ?_
          refine AllReadyIn.cons rfl (fun K hK => ?_) AllReadyIn.nil
          ·go_simp
           refine hK _ _ ?_
           clear hK K
           refine wpAnyIn_ready (rs := [4]) (by kernel_rfl) (by simp) ?_
           refine AllReadyIn.cons rfl (fun K hK => ?_) AllReadyIn.nil
           ·go_simp
            refine hK _ _ ?_
            clear hK K
            refine wpAnyIn_ready (rs := [5]) (by kernel_rfl) (by simp) ?_
            refine AllReadyIn.cons rfl (fun K hK => ?_) AllReadyIn.nil
            ·go_simp
             (try gi_wp2_with fail)
             (try refine ⟨hdd _, ?_⟩)
             refine (CallsIn.inRound l0 (toF HF.out q)).mono ?_
             rintro e V' ⟨hV, rfl⟩
             exact ⟨rfl, (HR.out V' hV).1, ⟨rfl, (HR.out V' hV).2.1⟩, (HR.out V' hV).2.2⟩
         ·go_simp
          refine hK _ _ ?_
          clear hK K
          refine wpAnyIn_ready (rs := [0, 4]) (by kernel_rfl) (by simp) ?_
          refine AllReadyIn.cons rfl (fun K hK => ?_) (AllReadyIn.cons rfl (fun K hK => ?_) AllReadyIn.nil)
          ·go_simp
           refine hK _ _ ?_
           clear hK K
           refine wpAnyIn_ready (rs := [4]) (by kernel_rfl) (by simp) ?_
           refine AllReadyIn.cons rfl (fun K hK => ?_) AllReadyIn.nil
           ·go_simp
            refine hK _ _ ?_
            clear hK K
            refine wpAnyIn_ready (rs := [5]) (by kernel_rfl) (by simp) ?_
            refine AllReadyIn.cons rfl (fun K hK => ?_) AllReadyIn.nil
            ·go_simp
             (try gi_wp2_with fail)
             (try refine ⟨hdd _, ?_⟩)
             refine (CallsIn.inRound l0 (toF HF.out q)).mono ?_
             rintro e V' ⟨hV, rfl⟩
             exact ⟨rfl, (HR.out V' hV).1, ⟨rfl, (HR.out V' hV).2.1⟩, (HR.out V' hV).2.2⟩
          ·go_simp
           refine hK _ _ ?_
           clear hK K
           refine wpAnyIn_ready (rs := [0]) (by kernel_rfl) (by simp) ?_
           refine AllReadyIn.cons rfl (fun K hK => ?_) AllReadyIn.nil
           ·go_simp
            refine hK _ _ ?_
            clear hK K
            refine wpAnyIn_ready (rs := [5]) (by kernel_rfl) (by simp) ?_
            refine AllReadyIn.cons rfl (fun K hK => ?_) AllReadyIn.nil
            ·go_simp
             (try gi_wp2_with fail)
             (try refine ⟨hdd _, ?_⟩)
             refine (CallsIn.inRound l0 (toF HF.out q)).mono ?_
             rintro e V' ⟨hV, rfl⟩
             exact ⟨rfl, (HR.out V' hV).1, ⟨rfl, (HR.out V' hV).2.1⟩, (HR.out V' hV).2.2⟩
     | true =>
      rw [hok, show endB true = .returned (.tuple #[]) from rfl] at q
      have HR : Hid (∀ V' : World, Below V.drew.heap.size V.drew V' → KeepsFrom w'.heap.size V V' ∧ (Below w'.heap.size w' V' ∧ ∀ v ∈ pre ++ [((b, o, IT.mk op nm nf xa xc xl sa sc sl la lc ll ea ec el pa pc pl ba bc bl) : Vis)], itB ch v.2.2 = true)) := Lib.hid (fun V' hV => (HP2.out V' true hV hok).2 rfl)
      clear hok HP2
      rcases h56 with rfl | rfl
      all_goals
       gi_wp2_with fail
       gi_region_with_o ((try refine ⟨hdd _, ?_⟩); gi_at_call 147; refine (CallsIn.inRound l0 (toF HF.out q)).mono ?_; rintro e V' ⟨hV, rfl⟩)
       all_goals
        have HQ := Lib.hid (HR.out V' hV)
        clear hV
        gi_wp2
        exact HQ.out
    ·have he : itB ch (.mk op nm nf xa xc xl sa sc sl la lc ll ea ec el pa pc pl ba bc bl) = true := by rw [itB, if_neg h9, if_neg h56]
     have h5b : (op == 5) = false := by simp only [not_or] at h56; simpa using h56.1
     have h6b : (op == 6) = false := by simp only [not_or] at h56; simpa using h56.2
     have HQ := Lib.hid ((HP.out V true (Below.refl _ _) he).2 rfl)
     clear hC1 hx hok2 hlt1 har hin2 hkEnd hB2 hxm hxbk hinF hb hr i1 i2 kV hBV hCV he hB hpre hpx r2 r4 r5 HP
     gi_wp2
     exact HQ.out
theorem items_all : ∀ (n : Nat) (l : List IT), IT.bkL l < n → ItemsL l
 | 0, l, h => by omega
 | n + 1, l, h => items_of l (fun m hm => items_all n m (by omega))
/-- **Items in their scope.** -/
theorem items_any (l : List IT) : ItemsL l := items_all _ l (Nat.lt_succ_self _)
end Go.Proofs.YtiipjbafdhijlaaGreatDoor
namespace Go.Proofs.YtiipjbafdhijlaaGreatDoor
open Go Go.RowKit
set_option linter.unusedVariables false
set_option linter.unusedSimpArgs false
open Go.Sort
theorem tellAll_is : ∀ (l : List Bytes) (c : Sc), tellAll c [] l = (telN c.ns l).map fun S => ⟨c.b, c.m, c.n + l.length, S⟩
 | [], c => by simp [tellAll, telN]
 | s :: t, c => by
  rw [tellAll, telN, tellSc, toldIn_ar]
  rw [show arOf [] = [] from rfl, List.append_nil]
  by_cases hc : c.ns.contains s = true
  ·rw [if_pos hc, if_pos hc]; rfl
  ·rw [if_neg hc, if_neg hc, Option.bind_some, tellAll_is t (c.add s)]
   simp only [Sc.add, List.length_cons]
   congr 1
   funext S
   rw [Nat.add_assoc, Nat.add_comm 1]
theorem BT.bkL_nm : ∀ {l : List BT} {x : BT}, x ∈ l → x.nm.length ≤ BT.bkL l := fun {l x} h => by
 have h1 := BT.bkL_mem h
 have : x.nm.length ≤ x.bk := by simp [BT.bk]; omega
 omega
theorem PT.bkL_nm : ∀ {l : List PT} {x : PT}, x ∈ l → x.nm.length ≤ PT.bkL l := fun {l x} h => by
 have h1 := PT.bkL_mem h
 have : x.nm.length ≤ x.bk := by simp [PT.bk]; omega
 omega
set_option maxHeartbeats 8000000 in
set_option maxRecDepth 100000 in
theorem module_any (W : World) (n0 : Nat) (c : Sc) (x : MT) (hn0 : n0 ≤ W.heap.size) (hcb : n0 ≤ c.b) (hcm : n0 ≤ c.m) (hin : x.In n0 W) (hC : Chain W [c]) (hcn : c.n = 0) (hns : c.ns = []) (hbk : x.bk ≤ 4500000) :
  Calls Tryz.prog 87 #[.pointer (some ⟨c.b, 0, none⟩), x.val] W fun e W' => KeptBut (fun i => i = c.b ∨ i = c.m) W W' ∧ e = endB (modB x) := by
 obtain ⟨nm, pa, pc, pl, ta, tc, tl, ia, ic, il⟩ := x
 obtain ⟨i1, i2, i3⟩ := hin
 simp only [MT.bk] at hbk
 simp only [MT.val, MT.cells]
 simp only at i1 i2 i3
 have b1 := BT.bkL_len pl
 have b2 := PT.bkL_len tl
 have hlc := (Chain.lt hC) c (by simp)
 obtain ⟨W0, hW0⟩ : ∃ W0, W.alloc (.cells #[.string (bs nm), .slice pa pl.length pc, .slice ta tl.length tc, .slice ia il.length ic] 39) = W0 := ⟨_, rfl⟩
 have hz0 : W0.heap.size = W.heap.size + 1 := by rw [← hW0]; simp
 have hB0 : Below W.heap.size W W0 := by rw [← hW0]; exact (Below.refl _ _).alloc (Nat.le_refl _) _
 have BX0 : W0.heap[W.heap.size]? = some (.cells #[.string (bs nm), .slice pa pl.length pc, .slice ta tl.length tc, .slice ia il.length ic] 39 (0, 0)) := by rw [← hW0]; exact World.alloc_heap_new W _
 have k0 : KeptTo n0 W W0 := Below.keptTo hB0 hn0
 have q1 := tellHead_any W0 n0 nm pa ta ia pc tc ic il.length pl tl c [] (by omega) hcm (i1.keep k0 (fun x _ => XT.In.keep k0 _)) (i2.keep k0 (fun x _ => XT.In.keep k0 _)) (by omega) (by omega) (fun x hx => by have := BT.bkL_nm hx; omega) (fun x hx => by have := PT.bkL_nm hx; omega) (by omega) (hC.keep hB0) (by simp)
 rw [show pl.map BT.nm ++ tl.map PT.nm = headM ⟨nm, pa, pc, pl, ta, tc, tl, ia, ic, il⟩ from rfl, tellAll_is, hns] at q1
 have hhl : (headM ⟨nm, pa, pc, pl, ta, tc, tl, ia, ic, il⟩).length = pl.length + tl.length := by simp [headM]
 have x0 : W0.cell? ⟨W.heap.size, 0, none⟩ = some (.string (bs nm)) := by simp [World.cell?, BX0]
 have x1 : W0.cell? ⟨W.heap.size, 1, none⟩ = some (.slice pa pl.length pc) := by simp [World.cell?, BX0]
 have x2 : W0.cell? ⟨W.heap.size, 2, none⟩ = some (.slice ta tl.length tc) := by simp [World.cell?, BX0]
 have x3 : W0.cell? ⟨W.heap.size, 3, none⟩ = some (.slice ia il.length ic) := by simp [World.cell?, BX0]
 obtain ⟨R, hR⟩ : ∃ R, modB ⟨nm, pa, pc, pl, ta, tc, tl, ia, ic, il⟩ = R := ⟨_, rfl⟩
 rw [hR]
 have hmod : R = (match telN [] (headM ⟨nm, pa, pc, pl, ta, tc, tl, ia, ic, il⟩) with | none => false | some S => itemsB [] S il) := by
  rw [← hR, modB]
  cases telN [] (headM ⟨nm, pa, pc, pl, ta, tc, tl, ia, ic, il⟩) with
  | none => rfl
  | some S =>
   simp only [itemsB]
   cases telL [] S il with
   | none => rfl
   | some T => simp
 have HH := Lib.hid (And.intro i3 (And.intro hB0 (And.intro BX0 (And.intro hmod (And.intro hhl hC)))))
 unfold tellF at q1
 clear i1 i2 i3 hB0 BX0 hmod k0 hR hC hhl
 generalize headM ⟨nm, pa, pc, pl, ta, tc, tl, ia, ic, il⟩ = HM at *
 go_enter Tryz.func87, Tryz.ntmps87
 go_wp2_with fail
 clear hW0
 refine q1.mono ?_
 clear q1
 rintro e W1 ⟨hk1, hp1⟩
 obtain ⟨i3, hB0, BX0, hmod, hhl, hC⟩ := HH.out
 have hk1' : KeptBut (fun i => i = c.b ∨ i = c.m) W0 W1 := (KeptBut.of1 hk1).less (fun i _ e => .inr e)
 have hkW1 := (KeptBut.of_below (p := fun i => i = c.b ∨ i = c.m) hB0).trans hk1' (fun _ _ e => e)
 cases hT : telN [] HM with
 | none =>
  rw [hT] at hp1 hmod
  replace hp1 : e = .panicked thrown := hp1
  subst hp1
  exact ⟨rfl, hkW1, by rw [hmod]; rfl⟩
 | some S =>
  rw [hT] at hp1 hmod
  obtain ⟨rfl, -, -, hC1⟩ := hp1
  simp only at hmod
  have BX1 := (hk1.block _ (Array.getElem?_eq_some_iff.1 BX0).1 (by show W.heap.size ≠ c.m; omega)).trans BX0
  have x3' : W1.cell? ⟨W.heap.size, 3, none⟩ = some (.slice ia il.length ic) := by simp [World.cell?, BX1]
  have kn : KeptTo n0 W W1 := hkW1.to hn0 (fun i hi e => by (try simp only at e); omega)
  have q2 := items_any il W1 n0 ia ic ⟨c.b, c.m, c.n + HM.length, S⟩ [] (by have := hkW1.size; omega) hcb hcm (i3.keep kn (fun x _ => IT.In.keep kn x)) hC1 (fun s hs => by cases hs) (by omega) (by show c.n + HM.length + _ ≤ 9000000; omega)
  rw [show itemsB (arOf []) (⟨c.b, c.m, c.n + HM.length, S⟩ : Sc).ns il = R from hmod.symm] at q2
  dsimp only at q2
  have H2 := Lib.hid hkW1
  clear hmod hC1 BX1 kn hkW1 hk1' hk1 i3 hB0 BX0 hC HH x0 x1 x2 x3 hT
  go_wp2_with fail
  refine q2.mono ?_
  clear q2
  rintro e W2 ⟨hk2, rfl⟩
  have hkF := H2.out.trans hk2 (fun _ _ e => e)
  cases R with
  | false => exact ⟨rfl, hkF, rfl⟩
  | true =>
   have HF := Lib.hid hkF
   clear hkF hk2 H2
   rw [show endB true = .returned (.tuple #[]) from rfl]
   go_wp2_with fail
   exact bodyPost_end (results_none rfl _ _ _) rfl ⟨HF.out, rfl⟩
end Go.Proofs.YtiipjbafdhijlaaGreatDoor
namespace Go.Proofs.YtiipjbafdhijlaaGreatDoor
open Go Go.RowKit
set_option linter.unusedVariables false
set_option linter.unusedSimpArgs false
open Go.Sort
theorem twiceB_next {ml : List MT} {k : Nat} (h : k < ml.length) : twiceB ((ml.take k).map (·.nm)) (ml.drop k) = (((ml.take k).map (·.nm)).contains ml[k].nm || (!modB ml[k] || twiceB ((ml.take (k + 1)).map (·.nm)) (ml.drop (k + 1)))) := by
 rw [← List.getElem_cons_drop h, twiceB, List.take_succ_eq_append_getElem h, List.map_append]
 rfl
set_option maxHeartbeats 8000000 in
set_option maxRecDepth 100000 in
theorem twice_any (W : World) (n0 : Nat) (f : FT) (hn0 : n0 ≤ W.heap.size) (hin : f.In n0 W) (hbk : MT.bkL f.ml ≤ 4500000) :
  Calls Tryz.prog 53 #[f.val] W fun e W' => e = .returned (.bool (twiceB [] f.ml)) ∧ Below W.heap.size W W' := by
 obtain ⟨ma, mc, ml⟩ := f
 have hin : InRow 4 MT.cells (MT.In n0 W) n0 W ml ma := hin
 simp only [FT.val, FT.cells]
 simp only at hbk
 have hll := MT.bkL_len ml
 obtain ⟨TW, hTW⟩ : ∃ TW, twiceB [] ml = TW := ⟨_, rfl⟩
 rw [hTW]
 obtain ⟨g, hg⟩ : ∃ g, W.heap.size = g := ⟨_, rfl⟩
 rw [hg] at hn0 ⊢
 obtain ⟨W0, hW0⟩ : ∃ W0, (W.alloc (.cells #[.slice ma ml.length mc] 24)).alloc (.cells #[.bool false] 4) = W0 := ⟨_, rfl⟩
 have hz0 : W0.heap.size = g + 2 := by rw [← hW0]; simp [hg]
 have hB0 : Below g W W0 := by rw [← hW0]; exact ((Below.refl _ _).alloc (by omega) _).alloc (by simp; omega) _
 have BF : W0.heap[g]? = some (.cells #[.slice ma ml.length mc] 24 (0, 0)) := by
  rw [← hW0, ← hg]; exact block_alloc (World.alloc_heap_new W _) _
 have BS : W0.heap[g + 1]? = some (.cells #[.bool false] 4 (0, 0)) := by
  rw [← hW0, ← hg]; have := World.alloc_heap_new (W.alloc (.cells #[.slice ma ml.length mc] 24)) (.cells #[.bool false] 4); rwa [World.size_alloc] at this
 have q1 := inside_any W0 [] trivial
 rw [hz0] at q1
 have hmf : ∀ (fn : Fn) (first cap : Array Value) (w : World), (Instr.makeFunc fn first cap).run Tryz.prog w = .ok (.func fn first cap) w := fun _ _ _ _ => rfl
 have HH := Lib.hid (And.intro hin (And.intro hB0 (And.intro BF (And.intro BS hTW))))
 clear hin hB0 BF BS hTW
 go_enter_defers Tryz.func53, Tryz.ntmps53
 go_wp2_with fail
 (try rw [hg])
 refine q1.mono ?_
 clear q1 hW0
 rintro e W1 ⟨rfl, hC1, hB1, hz1⟩
 obtain ⟨hin, hB0, BF, BS, hTW⟩ := HH.out
 have BF1 := (hB1.block _ (by omega)).trans BF
 have BS1 := (hB1.block _ (by omega)).trans BS
 have hBW1 : Below g W W1 := hB0.trans (hB1.mono (by omega))
 have y0 : W1.cell? ⟨g, 0, none⟩ = some (.slice ma ml.length mc) := by simp [World.cell?, BF1]
 rw [show scP [⟨g + 2 + 1, g + 2, 0, []⟩] = .pointer (some ⟨g + 2 + 1, 0, none⟩) from rfl]
 have HH1 := Lib.hid (And.intro hC1 (And.intro BS1 hBW1))
 clear hin hB0 BF BS hTW hB1 BF1 BS1 hBW1 hC1
 go_wp2_with fail
 go_loopg [11] ml.length (fun gh u wr => ∃ (k : Nat) (c : Sc), u = .int .i64 k ∧ k + gh = ml.length ∧ (c.b = g + 2 + 1 ∧ c.m = g + 2 ∧ c.n = k ∧ c.ns = (ml.take k).map (·.nm)) ∧ TW = twiceB ((ml.take k).map (·.nm)) (ml.drop k) ∧ Chain wr [c] ∧ wr.heap[g + 1]? = some (.cells #[.bool false] 4 (0, 0)) ∧ Below g W wr ∧ g + 4 ≤ wr.heap.size)
 case atStart => exact ⟨0, ⟨g + 2 + 1, g + 2, 0, []⟩, rfl, by omega, ⟨rfl, rfl, rfl, by simp⟩, by rw [← HH.out.2.2.2.2]; simp, HH1.out.1, HH1.out.2.1, HH1.out.2.2, by omega⟩
 case round =>
  obtain ⟨k, c, rfl, hk, ⟨hc1, hc2, hc3, hc4⟩, htw, hch, hso, hbW, hz⟩ := hrel
  clear HH1 y0
  by_cases hlt : k < ml.length
  ·have d1 : decide (k < ml.length) = true := by simpa using hlt
   have d2 : decide ((k : Int) < (ml.length : Int)) = true := by rw [decide_eq_true_eq]; omega
   have x1 : (k : Int) < (ml.length : Int) := by omega
   have hkt : KeptTo n0 W wr := Below.keptTo hbW hn0
   obtain ⟨b, o, rfl, hb, hr, hxin⟩ := (HH.out.1).at hlt
   have htn := twiceB_next hlt
   rw [← htw] at htn
   have hnx : (ml.take (k + 1)).map (·.nm) = (ml.take k).map (·.nm) ++ [ml[k].nm] := by rw [List.take_succ_eq_append_getElem hlt, List.map_append]; rfl
   have hbx := MT.bkL_mem (List.getElem_mem hlt)
   obtain ⟨NS, hNS⟩ : ∃ NS, (ml.take k).map (·.nm) = NS := ⟨_, rfl⟩
   rw [hNS] at htn hnx hc4
   have HT := Lib.hid (And.intro htn (And.intro hnx hNS))
   clear htn hnx htw hNS
   generalize ml[k] = x at *
   have hxin2 : x.In n0 wr := by
    obtain ⟨j1, j2, j3⟩ := hxin
    exact ⟨j1.keep hkt (fun y _ => XT.In.keep hkt _), j2.keep hkt (fun y _ => XT.In.keep hkt _), j3.keep hkt (fun y _ => IT.In.keep hkt y)⟩
   obtain ⟨nm, pa, pc, pl, ta, tc, tl, ia, ic, il⟩ := x
   have r0 : wr.cell? ⟨b, o + k * 4, none⟩ = some (.string (bs nm)) := hkt _ _ _ hb (hr 0 _ rfl)
   have r1 : wr.cell? ⟨b, o + k * 4 + 1, none⟩ = some (.slice pa pl.length pc) := hkt _ _ _ hb (hr 1 _ rfl)
   have r2 : wr.cell? ⟨b, o + k * 4 + 2, none⟩ = some (.slice ta tl.length tc) := hkt _ _ _ hb (hr 2 _ rfl)
   have r3 : wr.cell? ⟨b, o + k * 4 + 3, none⟩ = some (.slice ia il.length ic) := hkt _ _ _ hb (hr 3 _ rfl)
   have hnl : nm.length ≤ 12000000 := by simp only [MT.bk] at hbx; omega
   obtain ⟨z, hzz⟩ : ∃ z, wr.heap.size = z := ⟨_, rfl⟩
   rw [hzz] at hz
   obtain ⟨Wa, hWa⟩ : ∃ Wa, wr.alloc (.cells #[.string (bs nm), .slice pa pl.length pc, .slice ta tl.length tc, .slice ia il.length ic] 39) = Wa := ⟨_, rfl⟩
   have hza : Wa.heap.size = z + 1 := by rw [← hWa, ← hzz]; simp
   have hal : Below z wr Wa := by rw [← hWa, ← hzz]; exact (Below.refl _ _).alloc (Nat.le_refl _) _
   have BX : Wa.heap[z]? = some (.cells #[.string (bs nm), .slice pa pl.length pc, .slice ta tl.length tc, .slice ia il.length ic] 39 (0, 0)) := by rw [← hWa, ← hzz]; exact World.alloc_heap_new wr _
   have q1 := tell_any Wa c [] nm hnl (by omega) (hch.keep (by rw [hzz]; exact hal)) (by simp)
   rw [hc1] at q1
   have t0 : Wa.cell? ⟨z, 0, none⟩ = some (.string (bs nm)) := by simp [World.cell?, BX]
   have HR := Lib.hid (And.intro hxin2 (And.intro hal (And.intro BX (And.intro hso (And.intro hbW (And.intro hkt hbx))))))
   clear hxin2 hal BX hso hbW hxin hkt hr hch
   go_wp2_with fail
   clear hWa
   (try rw [hzz])
   refine q1.mono ?_
   clear q1 r0 r1 r2 r3 t0
   rintro e V ⟨hkV, hpV⟩
   obtain ⟨hxin2, hal, BX, hso, hbW, hkt, hbx⟩ := HR.out
   rw [hc2] at hkV
   have hzV := hkV.size
   have hsoV : V.heap[g + 1]? = some (.cells #[.bool false] 4 (0, 0)) := ((hkV.block _ (by omega) (by omega)).trans (hal.block _ (by omega))).trans hso
   have hbWV : Below g W V := hbW.trans ((hal.mono (by omega)).trans ((KeptBut.of1 hkV).below (by omega) (fun i hi e => by (try simp only at e); omega)))
   have BXV := (hkV.block _ (Array.getElem?_eq_some_iff.1 BX).1 (by omega)).trans BX
   rw [show tellSc c [] nm = (if NS.contains nm = true then none else some (c.add nm)) by
    unfold tellSc
    rw [toldIn_ar, hc4, show arOf [] = [] from rfl, List.append_nil]] at hpV
   cases hcc : NS.contains nm with
   | true =>
    rw [hcc] at hpV
    replace hpV : e = .panicked thrown := hpV
    subst hpV
    have hcl : V.cell? ⟨g + 1, 0, none⟩ = some (.bool false) ∧ V.frozen? ⟨g + 1, 0, none⟩ = false := cell_of_box_1 hsoV
    have HE3 : Hid (V.cell? ⟨g + 1, 0, none⟩ = some (.bool false) ∧ V.frozen? ⟨g + 1, 0, none⟩ = false ∧ true = TW ∧ Below g W V) := Lib.hid ⟨hcl.1, hcl.2, by rw [HT.out.1]; (try simp only); rw [hcc]; rfl, hbWV⟩
    refine leaves_cons (f := 84) (args := #[.pointer (some ⟨g + 1, 0, none⟩)]) (by simp) (by simp [go_sem]) ?_
    refine (catch_thrown ⟨g + 1, 0, none⟩ false _ [] _ HE3.out.1 HE3.out.2.1).mono ?_
    rintro e u' w'' ⟨rfl, rfl, rfl⟩
    show Leaves _ _ _ _ [] .returning _
    have hcs := World.cell?_setCell_same _ ⟨g + 1, 0, none⟩ (.bool true) HE3.out.1
    exact ⟨.bool true, by simp [results, Tryz.results53, go_sem, hcs], by rw [HE3.out.2.2.1], HE3.out.2.2.2.setCell (p := ⟨g + 1, 0, none⟩) (by show g ≤ g + 1; omega) _⟩
   | false =>
    rw [hcc] at hpV
    obtain ⟨rfl, hb2, hm2, hC2⟩ := hpV
    obtain ⟨zv, hzv⟩ : ∃ zv, V.heap.size = zv := ⟨_, rfl⟩
    rw [hzv] at hzV
    have kV : KeptTo n0 wr V := (Below.keptTo hal (by omega)).trans ((KeptBut.of1 hkV).to (by omega) (fun i hi e => by (try simp only at e); omega))
    have hxV : (MT.mk nm pa pc pl ta tc tl ia ic il).In n0 V := by
     obtain ⟨j1, j2, j3⟩ := hxin2
     exact ⟨j1.keep kV (fun y _ => XT.In.keep kV _), j2.keep kV (fun y _ => XT.In.keep kV _), j3.keep kV (fun y _ => IT.In.keep kV y)⟩
    have q2 : Calls Tryz.prog 85 #[.pointer none] V.drew fun e W' => e = .returned (.pointer (some ⟨zv + 1, 0, none⟩)) ∧ Chain W' [⟨zv + 1, zv, 0, []⟩] ∧ Below zv V.drew W' ∧ W'.heap.size = zv + 2 := by
     have := inside_any V.drew [] trivial
     rw [show V.drew.heap.size = zv from hzv] at this
     exact this
    have y0 : V.drew.cell? ⟨z, 0, none⟩ = some (.string (bs nm)) := (show V.cell? _ = _ by simp [World.cell?, BXV])
    have y1 : V.drew.cell? ⟨z, 1, none⟩ = some (.slice pa pl.length pc) := (show V.cell? _ = _ by simp [World.cell?, BXV])
    have y2 : V.drew.cell? ⟨z, 2, none⟩ = some (.slice ta tl.length tc) := (show V.cell? _ = _ by simp [World.cell?, BXV])
    have y3 : V.drew.cell? ⟨z, 3, none⟩ = some (.slice ia il.length ic) := (show V.cell? _ = _ by simp [World.cell?, BXV])
    obtain ⟨ok, hok⟩ : ∃ ok, modB ⟨nm, pa, pc, pl, ta, tc, tl, ia, ic, il⟩ = ok := ⟨_, rfl⟩
    have HK : Hid (∀ V2 : World, Chain V2 [⟨zv + 1, zv, 0, []⟩] → Below zv V.drew V2 → V2.heap.size = zv + 2 →
      (Calls Tryz.prog 87 #[.pointer (some ⟨zv + 1, 0, none⟩), .agg #[.string (bs nm), .slice pa pl.length pc, .slice ta tl.length tc, .slice ia il.length ic]] V2 (fun e W' => KeptBut (fun i => i = zv + 1 ∨ i = zv) V2 W' ∧ e = endB ok)) ∧
      V2.cell? ⟨z, 0, none⟩ = some (.string (bs nm)) ∧ V2.cell? ⟨z, 1, none⟩ = some (.slice pa pl.length pc) ∧ V2.cell? ⟨z, 2, none⟩ = some (.slice ta tl.length tc) ∧ V2.cell? ⟨z, 3, none⟩ = some (.slice ia il.length ic)) := Lib.hid (by
     intro V2 hC hB hz2
     have k2 : KeptTo n0 V V2 := fun b o v hb hv => (Below.keptTo (n := n0) hB (by omega)) b o v hb hv
     have hx2 : (MT.mk nm pa pc pl ta tc tl ia ic il).In n0 V2 := by
      obtain ⟨j1, j2, j3⟩ := hxV
      exact ⟨j1.keep k2 (fun y _ => XT.In.keep k2 _), j2.keep k2 (fun y _ => XT.In.keep k2 _), j3.keep k2 (fun y _ => IT.In.keep k2 y)⟩
     have B2 : V2.heap[z]? = some (.cells #[.string (bs nm), .slice pa pl.length pc, .slice ta tl.length tc, .slice ia il.length ic] 39 (0, 0)) := (hB.block _ (by omega)).trans BXV
     have hm := module_any V2 n0 ⟨zv + 1, zv, 0, []⟩ ⟨nm, pa, pc, pl, ta, tc, tl, ia, ic, il⟩ (by omega) (by show n0 ≤ zv + 1; omega) (by show n0 ≤ zv; omega) hx2 hC rfl rfl (by omega)
     rw [hok] at hm
     exact ⟨hm, by simp [World.cell?, B2], by simp [World.cell?, B2], by simp [World.cell?, B2], by simp [World.cell?, B2]⟩)
    have HV : Hid (∀ V2 : World, Below zv V.drew V2 → V2.heap.size = zv + 2 → ∀ V3 : World, KeptBut (fun i => i = zv + 1 ∨ i = zv) V2 V3 → Below zv V V3) := Lib.hid (by
     intro V2 hB hz2 V3 hk3
     have h1 : Below zv V V2 := ⟨hB.os, hB.tape, hB.output, hB.size, hB.block⟩
     exact h1.trans (hk3.below (by omega) (fun i hi e => by (try simp only at e); omega)))
    have hmix : Tryz.prog.follows .mixedOrders = true := by kernel_rfl
    cases ok with
    | false =>
     have HE : Hid (∀ V2 : World, Below zv V.drew V2 → V2.heap.size = zv + 2 → ∀ V3 : World, KeptBut (fun i => i = zv + 1 ∨ i = zv) V2 V3 → Hid (V3.cell? ⟨g + 1, 0, none⟩ = some (.bool false) ∧ V3.frozen? ⟨g + 1, 0, none⟩ = false ∧ true = TW ∧ Below g W V3)) := Lib.hid (by
      intro V2 hB hz2 V3 hk3
      have hb3 := HV.out V2 hB hz2 V3 hk3
      have hs3 : V3.heap[g + 1]? = some (.cells #[.bool false] 4 (0, 0)) := (hb3.block _ (by omega)).trans hsoV
      have hcl := cell_of_box_1 hs3
      exact Lib.hid ⟨hcl.1, hcl.2, by rw [HT.out.1]; (try simp only); rw [hcc, hok]; rfl, hbWV.trans (hb3.mono (by omega))⟩)
     clear hxin2 hal BX hso hbW hkt hbx hsoV hbWV BXV kV hxV hC2 hok HV hkV HR
     go_wp2_with fail
     refine wp_region_any hmix ?_
     change wpAny _ _ _ _ _ _ _ (World.drew _)
     refine wpAny_ready (rs := [0, 1]) (by kernel_rfl) (by simp) ?_
     refine AllReady.cons rfl (fun K hK => ?_) (AllReady.cons rfl (fun K hK => ?_) AllReady.nil)
     ·go_simp
      (try go_wp2_with fail)
      refine q2.mono ?_
      rintro e V2 ⟨rfl, hC2, hB2, hz2⟩
      refine hK _ _ ?_
      clear hK K
      obtain ⟨q3, xx0, xx1, xx2, xx3⟩ := HK.out V2 hC2 hB2 hz2
      refine wpAny_ready (rs := [1]) (by kernel_rfl) (by simp) ?_
      refine AllReady.cons rfl (fun K hK => ?_) AllReady.nil
      ·go_simp
       refine hK _ _ ?_
       clear hK K
       refine wpAny_ready (rs := [2]) (by kernel_rfl) (by simp) ?_
       refine AllReady.cons rfl (fun K hK => ?_) AllReady.nil
       ·go_simp
        (try go_wp2_with fail)
        refine q3.mono ?_
        clear q3
        rintro e V3 ⟨hk3, rfl⟩
        have HE3 := HE.out V2 hB2 hz2 V3 hk3
        rw [show endB false = .panicked thrown from rfl]
        refine leaves_cons (f := 84) (args := #[.pointer (some ⟨g + 1, 0, none⟩)]) (by simp) (by simp [go_sem]) ?_
        refine (catch_thrown ⟨g + 1, 0, none⟩ false _ [] _ HE3.out.1 HE3.out.2.1).mono ?_
        rintro e u' w'' ⟨rfl, rfl, rfl⟩
        show Leaves _ _ _ _ [] .returning _
        have hcs := World.cell?_setCell_same _ ⟨g + 1, 0, none⟩ (.bool true) HE3.out.1
        exact ⟨.bool true, by simp [results, Tryz.results53, go_sem, hcs], by rw [HE3.out.2.2.1], HE3.out.2.2.2.setCell (p := ⟨g + 1, 0, none⟩) (by show g ≤ g + 1; omega) _⟩
     ·go_simp
      refine hK _ _ ?_
      clear hK K
      refine wpAny_ready (rs := [0]) (by kernel_rfl) (by simp) ?_
      refine AllReady.cons rfl (fun K hK => ?_) AllReady.nil
      ·go_simp
       (try go_wp2_with fail)
       refine q2.mono ?_
       rintro e V2 ⟨rfl, hC2, hB2, hz2⟩
       refine hK _ _ ?_
       clear hK K
       obtain ⟨q3, xx0, xx1, xx2, xx3⟩ := HK.out V2 hC2 hB2 hz2
       refine wpAny_ready (rs := [2]) (by kernel_rfl) (by simp) ?_
       refine AllReady.cons rfl (fun K hK => ?_) AllReady.nil
       ·go_simp
        (try go_wp2_with fail)
        refine q3.mono ?_
        clear q3
        rintro e V3 ⟨hk3, rfl⟩
        have HE3 := HE.out V2 hB2 hz2 V3 hk3
        rw [show endB false = .panicked thrown from rfl]
        refine leaves_cons (f := 84) (args := #[.pointer (some ⟨g + 1, 0, none⟩)]) (by simp) (by simp [go_sem]) ?_
        refine (catch_thrown ⟨g + 1, 0, none⟩ false _ [] _ HE3.out.1 HE3.out.2.1).mono ?_
        rintro e u' w'' ⟨rfl, rfl, rfl⟩
        show Leaves _ _ _ _ [] .returning _
        have hcs := World.cell?_setCell_same _ ⟨g + 1, 0, none⟩ (.bool true) HE3.out.1
        exact ⟨.bool true, by simp [results, Tryz.results53, go_sem, hcs], by rw [HE3.out.2.2.1], HE3.out.2.2.2.setCell (p := ⟨g + 1, 0, none⟩) (by show g ≤ g + 1; omega) _⟩
    | true =>
     have HE : Hid (∀ V2 : World, Below zv V.drew V2 → V2.heap.size = zv + 2 → ∀ V3 : World, KeptBut (fun i => i = zv + 1 ∨ i = zv) V2 V3 → ∃ c : Sc, (c.b = g + 2 + 1 ∧ c.m = g + 2 ∧ c.n = k + 1 ∧ c.ns = (ml.take (k + 1)).map (·.nm)) ∧ TW = twiceB ((ml.take (k + 1)).map (·.nm)) (ml.drop (k + 1)) ∧ Chain V3 [c] ∧ V3.heap[g + 1]? = some (.cells #[.bool false] 4 (0, 0)) ∧ Below g W V3 ∧ g + 4 ≤ V3.heap.size) := Lib.hid (by
      intro V2 hB hz2 V3 hk3
      have hb3 := HV.out V2 hB hz2 V3 hk3
      have hs3 : V3.heap[g + 1]? = some (.cells #[.bool false] 4 (0, 0)) := (hb3.block _ (by omega)).trans hsoV
      refine ⟨c.add nm, ⟨hc1, hc2, ?_, ?_⟩, ?_, hC2.keep (by rw [hzv]; exact hb3), hs3, hbWV.trans (hb3.mono (by omega)), by have := hb3.size; omega⟩
      ·show c.n + 1 = k + 1; omega
      ·show c.ns ++ [nm] = _; rw [hc4, HT.out.2.1]
      ·rw [HT.out.1]; (try simp only); rw [hcc, hok]; simp)
     clear hxin2 hal BX hso hbW hkt hbx hsoV hbWV BXV kV hxV hC2 hok HV hkV HR
     go_wp2_with fail
     refine wp_region_any hmix ?_
     change wpAny _ _ _ _ _ _ _ (World.drew _)
     refine wpAny_ready (rs := [0, 1]) (by kernel_rfl) (by simp) ?_
     refine AllReady.cons rfl (fun K hK => ?_) (AllReady.cons rfl (fun K hK => ?_) AllReady.nil)
     ·go_simp
      (try go_wp2_with fail)
      refine q2.mono ?_
      rintro e V2 ⟨rfl, hC2, hB2, hz2⟩
      refine hK _ _ ?_
      clear hK K
      obtain ⟨q3, xx0, xx1, xx2, xx3⟩ := HK.out V2 hC2 hB2 hz2
      refine wpAny_ready (rs := [1]) (by kernel_rfl) (by simp) ?_
      refine AllReady.cons rfl (fun K hK => ?_) AllReady.nil
      ·go_simp
       refine hK _ _ ?_
       clear hK K
       refine wpAny_ready (rs := [2]) (by kernel_rfl) (by simp) ?_
       refine AllReady.cons rfl (fun K hK => ?_) AllReady.nil
       ·go_simp
        (try go_wp2_with fail)
        refine q3.mono ?_
        clear q3
        rintro e V3 ⟨hk3, rfl⟩
        have HE3 := HE.out V2 hB2 hz2 V3 hk3
        rw [show endB true = .returned (.tuple #[]) from rfl]
        refine hK _ _ ?_
        clear hK K
        refine wpAny_done (by kernel_rfl) ?_ _
        obtain ⟨c', h1, h2, h3, h4, h5, h6⟩ := HE3
        have HQ := Lib.hid (And.intro h1 (And.intro h2 (And.intro h3 (And.intro h4 (And.intro h5 h6)))))
        clear h1 h2 h3 h4 h5 h6 HE HK hk3 xx0 xx1 xx2 xx3 hC2 hB2 q2 y0 y1 y2 y3
        go_wp2_with fail
        cases gk with
        | zero => omega
        | succ gg =>
         go_roundg gg
         case rel => exact ⟨k + 1, c', rfl, by omega, HQ.out⟩
         case measure => omega
     ·go_simp
      refine hK _ _ ?_
      clear hK K
      refine wpAny_ready (rs := [0]) (by kernel_rfl) (by simp) ?_
      refine AllReady.cons rfl (fun K hK => ?_) AllReady.nil
      ·go_simp
       (try go_wp2_with fail)
       refine q2.mono ?_
       rintro e V2 ⟨rfl, hC2, hB2, hz2⟩
       refine hK _ _ ?_
       clear hK K
       obtain ⟨q3, xx0, xx1, xx2, xx3⟩ := HK.out V2 hC2 hB2 hz2
       refine wpAny_ready (rs := [2]) (by kernel_rfl) (by simp) ?_
       refine AllReady.cons rfl (fun K hK => ?_) AllReady.nil
       ·go_simp
        (try go_wp2_with fail)
        refine q3.mono ?_
        clear q3
        rintro e V3 ⟨hk3, rfl⟩
        have HE3 := HE.out V2 hB2 hz2 V3 hk3
        rw [show endB true = .returned (.tuple #[]) from rfl]
        refine hK _ _ ?_
        clear hK K
        refine wpAny_done (by kernel_rfl) ?_ _
        obtain ⟨c', h1, h2, h3, h4, h5, h6⟩ := HE3
        have HQ := Lib.hid (And.intro h1 (And.intro h2 (And.intro h3 (And.intro h4 (And.intro h5 h6)))))
        clear h1 h2 h3 h4 h5 h6 HE HK hk3 xx0 xx1 xx2 xx3 hC2 hB2 q2 y0 y1 y2 y3
        go_wp2_with fail
        cases gk with
        | zero => omega
        | succ gg =>
         go_roundg gg
         case rel => exact ⟨k + 1, c', rfl, by omega, HQ.out⟩
         case measure => omega
  ·have d1 : decide (k < ml.length) = false := by simpa using hlt
   have d2 : decide ((k : Int) < (ml.length : Int)) = false := by rw [decide_eq_false_iff_not]; omega
   have htf : false = TW := by rw [htw, List.drop_eq_nil_of_le (by omega)]; rfl
   have hcl := cell_of_box_1 hso
   have hs0 := hcl.1
   have hs1 := hcl.2
   have hcs := World.cell?_setCell_same wr ⟨g + 1, 0, none⟩ (.bool false) hs0
   have HF : Hid (false = TW ∧ Below g W (wr.setCell ⟨g + 1, 0, none⟩ (.bool false))) := Lib.hid ⟨htf, hbW.setCell (p := ⟨g + 1, 0, none⟩) (by show g ≤ g + 1; omega) _⟩
   clear htw hch hso hbW hcl htf HH hlt
   go_wp2_with fail
   refine leaves_cons (f := 84) (args := #[.pointer (some ⟨g + 1, 0, none⟩)]) (by simp) (by simp [go_sem]) ?_
   refine (catch_none ⟨g + 1, 0, none⟩ _).mono ?_
   rintro e u' w'' ⟨rfl, rfl, rfl⟩
   show Leaves _ _ _ _ [] .returning _
   exact ⟨.bool false, by simp [results, Tryz.results53, go_sem, hcs], by rw [HF.out.1], HF.out.2⟩
end Go.Proofs.YtiipjbafdhijlaaGreatDoor
namespace Go.Proofs.YtiipjbafdhijlaaGreatDoor
open Go Go.RowKit Go.Shelf
set_option linter.unusedVariables false
set_option linter.unusedSimpArgs false
attribute [local go_sem] Oper.semAt_some
open Go.Sort
/-- The module that an item is an instance of, if it is one. -/
def instV : IT → List Bytes
 | .mk op _ nf _ _ _ _ _ _ _ _ _ _ _ _ _ _ _ _ _ _ => if op = 7 then [nf] else []
theorem instL_vis_of (b : Nat) : ∀ (l : List IT) (o : Nat), (∀ x ∈ l, ∀ b o, (visI gnA b o x).flatMap (fun v => instV v.2.2) = instI x) → (visL gnA b o l).flatMap (fun v => instV v.2.2) = instL l
 | [], o, _ => rfl
 | x :: r, o, h => by
  rw [visL, instL, List.flatMap_append, h x (by simp) b o, instL_vis_of b r (o + 9) (fun y hy => h y (by simp [hy]))]
theorem instI_vis : ∀ x : IT, ∀ b o, (visI gnA b o x).flatMap (fun v => instV v.2.2) = instI x := IT.ind fun op nm nf xa xc xl sa sc sl la lc ll ea ec el pa pc pl ba bc bl ih0 ih1 b o => by
 rw [visI, instI, List.flatMap_cons, if_pos (show gnA op = true from rfl), List.flatMap_append, instL_vis_of _ ll _ ih0, instL_vis_of _ el _ ih1]
 rfl
theorem instL_vis (b o : Nat) (l : List IT) : (visL gnA b o l).flatMap (fun v => instV v.2.2) = instL l := instL_vis_of b l o (fun x _ => instI_vis x)
def foundV (pre : List Vis) : List Bytes := addN [] (pre.flatMap fun v => instV v.2.2)
theorem addN_snoc (pre : List Vis) (x : Vis) : foundV (pre ++ [x]) = addN (foundV pre) (instV x.2.2) := by
 unfold foundV
 rw [List.flatMap_append, addN_app]; simp
theorem addN_len0 : ∀ (m out : List Bytes), (addN out m).length ≤ out.length + m.length
 | [], out => by simp [addN]
 | s :: r, out => by
  rw [addN]
  have h1 := addN_len0 r (if out.contains s = true then out else out ++ [s])
  have h2 : (if out.contains s = true then out else out ++ [s]).length ≤ out.length + 1 := by split <;> simp
  simp only [List.length_cons]; omega
theorem visL_len_of (gn : Int → Bool) (b : Nat) : ∀ (l : List IT) (o : Nat), (∀ x ∈ l, ∀ b o, (visI gn b o x).length ≤ x.bk) → (visL gn b o l).length ≤ IT.bkL l
 | [], o, _ => by simp [visL]
 | x :: r, o, h => by
  rw [visL, IT.bkL, List.length_append]
  have h1 := h x (by simp) b o
  have h2 := visL_len_of gn b r (o + 9) (fun y hy => h y (by simp [hy]))
  omega
theorem visI_len (gn : Int → Bool) : ∀ x : IT, ∀ b o, (visI gn b o x).length ≤ x.bk := IT.ind fun op nm nf xa xc xl sa sc sl la lc ll ea ec el pa pc pl ba bc bl ih0 ih1 b o => by
 rw [visI, IT.bk, List.length_cons]
 have h1 := visL_len_of gn (adB la) ll (adO la) ih0
 have h2 := visL_len_of gn (adB ea) el (adO ea) ih1
 split
 ·rw [List.length_append]; omega
 ·simp; omega
theorem visL_len (gn : Int → Bool) (b o : Nat) (l : List IT) : (visL gn b o l).length ≤ IT.bkL l := visL_len_of gn b l o (fun x _ => visI_len gn x)
theorem insts_len : ∀ pre : List Vis, (pre.flatMap fun v => instV v.2.2).length ≤ pre.length
 | [] => by simp
 | x :: r => by
  rw [List.flatMap_cons, List.length_append, List.length_cons]
  have := insts_len r
  have h2 : (instV x.2.2).length ≤ 1 := by
   obtain ⟨_, _, X⟩ := x
   obtain ⟨op, nm, nf, xa, xc, xl, sa, sc, sl, la, lc, ll, ea, ec, el, pa, pc, pl, ba, bc, bl⟩ := X
   simp only [instV]
   split <;> simp
  omega
theorem wpIn_at {F : Fence} {n : Nat} {P : Program} {x : Code} {Q : Exit → Act → World → Prop} {a : Act} {w : World} (h : ∃ A WW, x.wpIn F n P (fun e a' w' => e = Exit.normal ∧ a' = A ∧ w' = WW) a w ∧ Q .normal A WW) : x.wpIn F n P Q a w := by
 obtain ⟨A, WW, h1, h2⟩ := h
 exact wpIn_mono h1 (by rintro e a' w' ⟨rfl, rfl, rfl⟩; exact h2)
theorem stepIn_append_own {F : Fence} {nn : Nat} {P : Program} {ops : Array Oper} {o : Oper} {a : Act} {w : World} {K : Act → World → Prop} {Q : Exit → Act → World → Prop} {E : Prop} (hgd : o.guard = none) (s x : Operand) (t : TypeId)
  (hop : o.op = .call { callee := .builtin .append, args := #[s, x], argTypes := #[t, t] })
  (base : Nat) (e : TypeId) (i : TypeInfo) (z : Value) (size bytes : Nat) (ht : P.underlying t = some (.slice e)) (hi : P.info? e = some i) (hz : i.zero = some z)
  (hsize : i.size = size) (hby : i.bytes = bytes) (hzs : z.cells.size = size) (hsz : 0 < size)
  (v : Value) (n : Nat) (xs : List Value) (hs : a.eval s = v) (hown : w.ownsRow base e size v n xs)
  (ad : Addr) (m c : Nat) (news : List Value) (hx : a.eval x = .slice (some ad) m c) (hl : news.length = m * size) (hnews : ∀ j u, news[j]? = some u → w.cell? (ad.add j) = some u) (h1 : ∀ u ∈ news, u.oneCell' = true)
  (h63 : n + m ≤ maxLen) (hbytes : (n + m) * bytes ≤ 140737488355328) (hbase : base ≤ w.heap.size)
  (h : ∀ v' w', w'.ownsRow base e size v' (n + m) (xs ++ news) → w.grownBy w' v.ownBlock → K (a.put o.dst v') w') :
  if Region.wanted o (yielded ops a.tmps) = true then Oper.wpIn F nn P o a w K Q else E := by
 have hw : Region.wanted o (yielded ops a.tmps) = true := by simp [Region.wanted, hgd]
 rw [if_pos hw]
 obtain ⟨v', w', hrun, r1, r2, _⟩ := run_append_own (P := P) w base t o.type e i z size bytes ht hi hz hsize hby hzs hsz v n xs hown ad m c news hl hnews h1 h63 hbytes hbase
 unfold Oper.wpIn
 refine ⟨?_, ?_⟩
 ·simp [Oper.about, hop, resolve, Target.leads, Sem.run_pure]
 ·rw [Oper.semAt_plain F _ _ (by rw [hop]; intro c hc'; cases hc')]
  simp [execOp, hop, resolve, invoke, builtin, hs, hx, hrun, Result.andThen]
  exact h v' w' r1 r2
/-- What Uses has at hand: its set, its list. -/
def Fnd (V : World) (g : Nat) (names : List Bytes) : Prop := SetAt V (g + 1) names.length names ∧ V.heap[g + 2]? = some (.cells #[.map (some (g + 1))] 81 (0, 0)) ∧
 ∃ v, V.heap[g + 3]? = some (.cells #[v] 29 (0, 0)) ∧ V.ownsRow (g + 4) 9 1 v names.length (strs names) ∧ g + 4 ≤ V.heap.size
theorem Fnd.kept {V V' : World} {g : Nat} {names : List Bytes} {row : Option Nat} (h : Fnd V g names) (hg : V.grownBy V' row) (hr : ∀ r, row = some r → g + 4 ≤ r ∧ ∃ o : Obj, V.heap[r]? = some o ∧ o.isCells = false) : Fnd V' g names := by
 obtain ⟨h1, h2, v, h3, h4, h5⟩ := h
 have hk : ∀ i, i < g + 4 → V'.heap[i]? = V.heap[i]? := fun i hi => hg.block i (by omega) (fun e => by have := (hr i e.symm).1; omega)
 refine ⟨h1.block (hk _ (by omega)), (hk _ (by omega)).trans h2, v, (hk _ (by omega)).trans h3, h4.kept hg ?_, Nat.le_trans h5 hg.size⟩
 rcases h4.2 with ⟨rfl, _⟩ | ⟨q, cap, cur, rfl, _, hq, _⟩
 ·exact .inl rfl
 ·right
  intro e
  have e2 : row = some q := e.symm
  obtain ⟨_, o, ho, hc⟩ := hr q e2
  rw [hq] at ho; cases ho; cases hc
theorem alloc_heap_lt (W : World) (o : Obj) {k : Nat} {x : Obj} (h : W.heap[k]? = some x) : (W.alloc o).heap[k]? = some x := (Below.heap_alloc W o k (Array.getElem?_eq_some_iff.1 h).1).trans h
set_option maxHeartbeats 8000000 in
set_option maxRecDepth 100000 in
theorem uses_in (F : Fence) (hd : F.depth = none) (hW : ∀ g, F.fn g) (hro : F.round = none) (W : World) (n0 : Nat) (x : MT) (hn0 : n0 ≤ W.heap.size) (hin : x.In n0 W) (hbk : x.bk ≤ 4500000) :
  CallsIn F 0 Tryz.prog 27 #[x.val] W fun e W' => ∃ v, e = .returned v ∧ W'.ownsRow (W.heap.size + 4) 9 1 v (usesM x).length (strs (usesM x)) ∧ Below W.heap.size W W' ∧ W.heap.size + 4 ≤ W'.heap.size := by
 obtain ⟨nm, pa, pc, pl, ta, tc, tl, ia, ic, il⟩ := x
 obtain ⟨_, _, i3⟩ := hin
 simp only [MT.bk] at hbk
 simp only [MT.val, MT.cells]
 simp only at i3
 have hdd : ∀ k : Nat, (F.depth.isSome = true → 1 ≤ k) := fun k h => by rw [hd] at h; cases h
 obtain ⟨g, hg⟩ : ∃ g, W.heap.size = g := ⟨_, rfl⟩
 rw [hg] at hn0 ⊢
 obtain ⟨W4, hW4⟩ : ∃ W4, ((((W.alloc (.cells #[.string (bs nm), .slice pa pl.length pc, .slice ta tl.length tc, .slice ia il.length ic] 39)).alloc (.map #[] 0)).alloc (.cells #[.map (some (g + 1))] 81)).alloc (.cells #[.slice none 0 0] 29)) = W4 := ⟨_, rfl⟩
 have hz4 : W4.heap.size = g + 4 := by rw [← hW4]; simp [hg]
 have hB4 : Below g W W4 := by rw [← hW4]; exact ((((Below.refl _ _).alloc (by omega) _).alloc (by simp; omega) _).alloc (by simp; omega) _).alloc (by simp; omega) _
 have BM : W4.heap[g]? = some (.cells #[.string (bs nm), .slice pa pl.length pc, .slice ta tl.length tc, .slice ia il.length ic] 39 (0, 0)) := by
  rw [← hW4, ← hg]; exact alloc_heap_lt _ _ (alloc_heap_lt _ _ (alloc_heap_lt _ _ (World.alloc_heap_new W _)))
 have hf0 : Fnd W4 g [] := by
  have hw1 : (W.alloc (.cells #[.string (bs nm), .slice pa pl.length pc, .slice ta tl.length tc, .slice ia il.length ic] 39)).heap.size = g + 1 := by simp [hg]
  have h1 := set_made (W.alloc (.cells #[.string (bs nm), .slice pa pl.length pc, .slice ta tl.length tc, .slice ia il.length ic] 39))
  rw [hw1] at h1
  have h2 := World.alloc_heap_new ((W.alloc (.cells #[.string (bs nm), .slice pa pl.length pc, .slice ta tl.length tc, .slice ia il.length ic] 39)).alloc (.map #[] 0)) (.cells #[.map (some (g + 1))] 81)
  have h3 := World.alloc_heap_new (((W.alloc (.cells #[.string (bs nm), .slice pa pl.length pc, .slice ta tl.length tc, .slice ia il.length ic] 39)).alloc (.map #[] 0)).alloc (.cells #[.map (some (g + 1))] 81)) (.cells #[.slice none 0 0] 29)
  simp only [World.size_alloc, hg] at h2 h3
  have h1' := h1.block (W' := W4) (by rw [← hW4]; exact (Below.heap_alloc _ _ _ (by simp; omega)).trans (Below.heap_alloc _ _ _ (by simp; omega)))
  refine ⟨h1', by rw [← hW4]; exact alloc_heap_lt _ _ h2, _, by rw [← hW4]; exact h3, World.ownsRow_nil _ _ _ _, by omega⟩
 have x3 : W4.cell? ⟨g, 3, none⟩ = some (.slice ia il.length ic) := by simp [World.cell?, BM]
 have q1 := seqA_in F hW hro (0 - 1) (.slice ia il.length ic) ia il.length ic rfl W4
 rw [hz4] at q1
 have hmm := @run_makeMap Tryz.prog
 have HH := Lib.hid (And.intro i3 (And.intro hB4 hf0))
 clear i3 hB4 BM hf0
 refine callsIn_of_wpF_marks Tryz.func27 rfl (hW _) ?_ hro
 simp only [Tryz.ntmps27, List.size_toArray, List.length_cons, List.length_nil, Nat.reduceAdd, Nat.reduceSub, Array.replicate_succ, Array.replicate_zero, List.push_toArray, List.append_toArray, List.nil_append, List.cons_append]
 refine wpF_seq_in ?_
 gi_wp2_with fail
 refine wpF_seq_in ?_
 gi_wp2_with fail
 refine wpF_seq_in ?_
 gi_wp2_with fail
 refine wpF_seq ?_
 refine wpF_seq_in ?_
 gi_wp2_with fail
 (try refine ⟨hdd _, ?_⟩)
 clear hW4
 obtain ⟨W5, hW5⟩ : ∃ W5, W4.alloc (.cells #[.slice ia il.length ic] 37) = W5 := ⟨_, rfl⟩
 rw [hW5] at q1
 refine q1.mono ?_
 clear q1
 rintro e w' ⟨rfl, rfl⟩
 obtain ⟨i3, hB4, hf0⟩ := HH.out
 have hz5 : w'.heap.size = g + 5 := by rw [← hW5]; simp [hz4]
 have hB5 : Below W4.heap.size W4 w' := by rw [← hW5]; exact (Below.refl _ _).alloc (Nat.le_refl _) _
 have BX5 : w'.heap[g + 4]? = some (.cells #[.slice ia il.length ic] 37 (0, 0)) := by rw [← hW5, ← hz4]; exact World.alloc_heap_new W4 _
 have hBg : Below g W w' := hB4.trans (hB5.mono (by omega))
 have hf5 : Fnd w' g [] := hf0.kept (row := none) ⟨hB5.os, hB5.tape, hB5.output, hB5.size, fun i hi _ => hB5.block i hi⟩ (fun r e => by cases e)
 have k5 : KeptTo n0 W w' := Below.keptTo hBg hn0
 have hin5 := i3.keep k5 (fun x _ => IT.In.keep k5 x)
 have hok5 := visL_ok gnA n0 w' il ia hin5
 have hseq := seqA_all F hd hW hro (0 - 1) n0 (g + 4) w' il (by omega) ia ic (by omega) hin5 BX5
 obtain ⟨xs, hxs⟩ : ∃ xs, visL gnA (adB ia) (adO ia) il = xs := ⟨_, rfl⟩
 have hxl : xs.length ≤ 4500000 := by rw [← hxs]; have := visL_len gnA (adB ia) (adO ia) il; omega
 have hxb : ∀ v ∈ xs, v.2.2.bk ≤ 4500000 := fun v hv => by rw [← hxs] at hv; have := visL_bk gnA _ _ il v hv; omega
 have hres : foundV xs = usesM ⟨nm, pa, pc, pl, ta, tc, tl, ia, ic, il⟩ := by unfold foundV; rw [← hxs, instL_vis]; rfl
 rw [hxs] at hseq hok5
 have HZ := Lib.hid (And.intro hok5 (And.intro hxl (And.intro hxb hres)))
 have hmix : Tryz.prog.follows .mixedOrders = true := by kernel_rfl
 clear HH i3 hB4 hf0 hW5 hB5 BX5 k5 hin5 hok5 hxs hxl hxb hres x3
 gi_wp2_with fail
 refine wpF_block ?_
 refine wpF_rangeFunc_own Tryz.func27 hro hd (gf := 71) (lb := #[.pointer (some ⟨g + 4, 0, none⟩)]) rfl (hW _) seqA_enters (encs := fun x : Vis => #[Value.pointer (some ⟨x.1, x.2.1, none⟩)]) (fun _ => rfl) (xs := xs) (Kp := KeptTo n0 w') hseq
   (fun pre V => Fnd V g (foundV pre) ∧ Below g W V ∧ Below g w' V ∧ g + 5 ≤ V.heap.size) (fun ps V => False)
   (OwnFrom.and (fun pre A B row hs hg hr => Fnd.kept hs hg (fun r e => ⟨by have := (hr r e).1; omega, (hr r e).2⟩)) (OwnFrom.and (ownFrom_below (by omega) (by omega)) (OwnFrom.and (ownFrom_below (by omega) (by omega)) (fun pre A B row hs hg hr => Nat.le_trans hs hg.size)))) (fun _ _ _ _ hs _ _ => hs)
   (fun pre V k h => ⟨⟨h.1.1.block rfl, h.1.2.1, h.1.2.2⟩, ⟨h.2.1.os, h.2.1.tape, h.2.1.output, h.2.1.size, h.2.1.block⟩, ⟨h.2.2.1.os, h.2.2.1.tape, h.2.2.1.output, h.2.2.1.size, h.2.2.1.block⟩, h.2.2.2⟩) (fun pre V h => Below.keptTo h.2.2.1 (by omega)) ⟨hf5, hBg, Below.refl _ _, by omega⟩
   (fun x : Vis => { tmps := #[.agg #[.string (bs nm), .slice pa pl.length pc, .slice ta tl.length tc, .slice ia il.length ic], .pointer (some ⟨g, 0, none⟩), .slice none 0 0, .pointer (some ⟨g + 1 + 1, 0, none⟩), .pointer (some ⟨g + 1 + 1 + 1, 0, none⟩), .pointer (some ⟨x.1, x.2.1, none⟩), .map (some (g + 1)), .pointer (some ⟨g, 3, none⟩), .slice ia il.length ic, .func (.func 71) #[] #[.pointer (some ⟨g + 4, 0, none⟩)], .pointer (some ⟨x.1, x.2.1, none⟩), undef, undef, undef, undef, undef, undef, undef, undef, undef, undef, undef, undef, undef, undef, undef, undef, undef, undef, undef, undef, undef, undef, undef, undef, undef, undef, undef], defers := [] })
   ?assign ?body ?done ?pan
 case assign =>
  rintro l0 m x V K hK
  gi_wp2
  exact hK
 case pan =>
  rintro D ps V hD h hK
  exact h.elim
 case done =>
  rintro D V hD ⟨hF, hBW, hBw, hzV⟩ hK
  rw [HZ.out.2.2.2] at hF
  obtain ⟨h1, h2, v, h3, h4, h5⟩ := hF
  have y3 : V.cell? ⟨g + 1 + 1 + 1, 0, none⟩ = some v := (cell_of_box_1 h3).1
  refine wpF_of ?_
  have HQ := Lib.hid (And.intro h4 (And.intro hBW hBw))
  clear h1 h2 h3 h4 h5 hBW hBw
  gi_wp2
  refine ⟨by simp, .inl ⟨_, _, rfl, run_takeDeferred hK, ?_⟩⟩
  obtain ⟨h4, hBW, hBw⟩ := HQ.out
  refine ⟨v, by simp [results, Tryz.results27, go_sem], v, rfl, ?_, ⟨hBW.os, hBW.tape, hBW.output, by rw [World.putObj_size]; exact hBW.size, fun i hi => (World.putObj_heap_other (by omega)).trans (hBW.block i hi)⟩, by rw [World.putObj_size]; omega⟩
  refine h4.kept (grownBy_putObj' V D (.deferred none)) ?_
  rcases h4.2 with ⟨rfl, _⟩ | ⟨q, cap, cur, rfl, _, hq, _⟩
  ·exact .inl rfl
  ·right
   intro e
   have e2 : q = D := by simpa [Value.ownBlock] using e
   subst e2
   rw [hq] at hK; cases hK
 case body =>
  rintro l0 m pre x V hpx hl1 hl2 ⟨hF, hBW, hBw, hzV⟩
  obtain ⟨hok5, hxl, hxb, hres⟩ := HZ.out
  have hxm : x ∈ xs := hpx.subset (by simp)
  have hpl : pre.length + 1 ≤ xs.length := by have := hpx.length_le; simpa using this
  have hil := insts_len pre
  have hal : (foundV pre).length ≤ _ := addN_len0 (pre.flatMap fun v => instV v.2.2) []
  simp only [List.length_nil, Nat.zero_add] at hal
  have hnlen : (foundV pre).length ≤ 4500000 := by omega
  have hnx := addN_snoc pre x
  obtain ⟨hb, hr, hxin⟩ := hok5 x hxm
  have hxk := hxb x hxm
  have kV : KeptTo n0 w' V := Below.keptTo hBw (by omega)
  obtain ⟨names, hnames⟩ : ∃ names, foundV pre = names := ⟨_, rfl⟩
  rw [hnames] at hF hal hnx hnlen
  have HP : Hid (∀ V' : World, KeepsFrom w'.heap.size V V' → Fnd V' g (addN names (instV x.2.2)) → Below g V V' → KeepsFrom w'.heap.size V V' ∧ (Fnd V' g (foundV (pre ++ [x])) ∧ Below g W V' ∧ Below g w' V' ∧ g + 5 ≤ V'.heap.size)) := Lib.hid (fun V' h1 h2 h3 => ⟨h1, by rw [hnx]; exact h2, hBW.trans h3, hBw.trans h3, Nat.le_trans hzV h3.size⟩)
  obtain ⟨b, o, X⟩ := x
  obtain ⟨op, xnm, nf, xa, xc, xl, sa, sc, sl, la, lc, ll, ea, ec, el, xpa, xpc, xpl, ba, bc, bl⟩ := X
  simp only at hb hr hxin hxk
  simp only [IT.bk] at hxk
  have r0 : V.cell? ⟨b, o, none⟩ = some (.int .i64 op) := kV _ _ _ hb (hr 0 _ rfl)
  have r2 : V.cell? ⟨b, o + 2, none⟩ = some (.string (bs nf)) := kV _ _ _ hb (hr 2 _ rfl)
  have hnl : nf.length ≤ 12000000 := by omega
  have HFF := Lib.hid hF
  obtain ⟨h1, h2, v, h3, h4, h5⟩ := hF
  have y2 : V.cell? ⟨g + 1 + 1, 0, none⟩ = some (.map (some (g + 1))) := (cell_of_box_1 h2).1
  have y3 : V.cell? ⟨g + 1 + 1 + 1, 0, none⟩ = some v := (cell_of_box_1 h3).1
  have f3 : V.frozen? ⟨g + 1 + 1 + 1, 0, none⟩ = false := (cell_of_box_1 h3).2
  have hlk := (h1.block (W' := V.drew) rfl).seen.look nf hnl
  have HV := Lib.hid (And.intro h1 (And.intro h2 (And.intro h3 (And.intro h4 h5))))
  clear h1 h2 h3 h4 h5 hres hok5 hxb hxm hr hxin kV hnx hnames hBW hBw hil hpx
  have y2d : V.drew.cell? ⟨g + 1 + 1, 0, none⟩ = some (.map (some (g + 1))) := y2
  have r0d : V.drew.cell? ⟨b, o, none⟩ = some (.int .i64 op) := r0
  have r2d : V.drew.cell? ⟨b, o + 2, none⟩ = some (.string (bs nf)) := r2
  by_cases h7 : op = 7
  ·subst h7
   cases hc : names.contains nf with
   | true =>
    rw [hc] at hlk
    have HQ := Lib.hid (HP.out V.drew ⟨Nat.le_refl _, fun k o _ h _ => h⟩ (by
     have e : addN names (instV (.mk 7 xnm nf xa xc xl sa sc sl la lc ll ea ec el xpa xpc xpl ba bc bl)) = names := by
      simp only [instV, if_pos, addN, hc]
     rw [e]
     exact ⟨HFF.out.1.block rfl, HFF.out.2.1, HFF.out.2.2⟩) (Below.drew (Below.refl _ _)))
    clear HP HFF hc HV f3 y3
    gi_wp2_with fail
    refine wpIn_at ?_
    apply Exists.intro
    apply Exists.intro
    refine ⟨?_, ?_⟩
    ·gi_region_o
     all_goals exact ⟨rfl, rfl, rfl⟩
    gi_wp2
    exact HQ.out
   | false =>
    rw [hc] at hlk
    have heN : addN names (instV (.mk 7 xnm nf xa xc xl sa sc sl la lc ll ea ec el xpa xpc xpl ba bc bl)) = names ++ [nf] := by
     simp only [instV, if_pos, addN, hc]
     rfl
    obtain ⟨h1, h2, h3, h4, h5⟩ := HV.out
    obtain ⟨V2, hrun, hS2, hg2⟩ := (h1.block (W' := V.drew.drew) rfl).put (by omega) nf hnl
    have hnb : ∀ k, v.ownBlock = some k → g + 4 ≤ k := fun k hk => (h4.lt k hk).1
    have hg2' : V.grownBy V2 (some (g + 1)) := ⟨hg2.os, hg2.tape, hg2.output, hg2.size, hg2.block⟩
    have ho2 : V2.ownsRow (g + 4) 9 1 v names.length (strs names) := h4.kept hg2' (by
     rcases h4.2 with ⟨rfl, _⟩ | ⟨q, cap, cur, rfl, hq, _⟩
     ·exact .inl rfl
     ·right; simp only [Value.ownBlock]; intro e; have := Option.some.inj e; omega)
    have hk2 : ∀ i, i < g + 4 → i ≠ g + 1 → V2.heap[i]? = V.heap[i]? := fun i hi hn => hg2'.block i (by omega) (fun e => hn (Option.some.inj e))
    have hz2 : V.heap.size ≤ V2.heap.size := hg2'.size
    have B23 := (hk2 (g + 3) (by omega) (by omega)).trans h3
    have B22 := (hk2 (g + 2) (by omega) (by omega)).trans h2
    have z3 : V2.cell? ⟨g + 1 + 1 + 1, 0, none⟩ = some v := (cell_of_box_1 B23).1
    have z3f : V2.frozen? ⟨g + 1 + 1 + 1, 0, none⟩ = false := (cell_of_box_1 B23).2
    have zr2 : V2.cell? ⟨b, o + 2, none⟩ = some (.string (bs nf)) := by rw [World.cell?_of_block (w := V) (hg2'.block b (by omega) (fun e => by have := Option.some.inj e; omega))]; exact r2
    obtain ⟨i0, hi0, hq0, hq1, hq2⟩ := info_parts info_str
    have z3d : V2.drew.cell? ⟨g + 1 + 1 + 1, 0, none⟩ = some v := z3
    have zr2d : V2.drew.cell? ⟨b, o + 2, none⟩ = some (.string (bs nf)) := zr2
    have z3dA := fun O => alloc_cell z3d O
    have z3dB : ∀ O : Obj, (V2.alloc O).drew.cell? ⟨g + 1 + 1 + 1, 0, none⟩ = some v := fun O => alloc_cell z3 O
    have HLF : Hid (∀ v' V3, V3.ownsRow (g + 4) 9 1 v' (names.length + 1) (strs names ++ [.string (bs nf)]) → (V2.drew.alloc (.cells #[.string (bs nf)] 9)).grownBy V3 v.ownBlock → V3.cell? ⟨g + 1 + 1 + 1, 0, none⟩ = some v ∧ V3.frozen? ⟨g + 1 + 1 + 1, 0, none⟩ = false ∧ (KeepsFrom w'.heap.size V (V3.setCell ⟨g + 1 + 1 + 1, 0, none⟩ v') ∧ (Fnd (V3.setCell ⟨g + 1 + 1 + 1, 0, none⟩ v') g (foundV (pre ++ [((b, o, IT.mk 7 xnm nf xa xc xl sa sc sl la lc ll ea ec el xpa xpc xpl ba bc bl) : Vis)])) ∧ Below g W (V3.setCell ⟨g + 1 + 1 + 1, 0, none⟩ v') ∧ Below g w' (V3.setCell ⟨g + 1 + 1 + 1, 0, none⟩ v') ∧ g + 5 ≤ (V3.setCell ⟨g + 1 + 1 + 1, 0, none⟩ v').heap.size))) := Lib.hid (by
     intro v' V3 ho3 hg3
     have hg3' : (V2.alloc (.cells #[.string (bs nf)] 9)).grownBy V3 v.ownBlock := ⟨hg3.os, hg3.tape, hg3.output, hg3.size, hg3.block⟩
     have hz3 : V2.heap.size + 1 ≤ V3.heap.size := by have := hg3'.size; rwa [World.size_alloc] at this
     have hk3 : ∀ i, i < g + 4 → V3.heap[i]? = V2.heap[i]? := fun i hi => (hg3'.block i (by rw [World.size_alloc]; omega) (fun e => by have := hnb i e.symm; omega)).trans (Below.heap_alloc V2 _ i (by omega))
     have B33 := (hk3 (g + 3) (by omega)).trans B23
     have w3 : V3.cell? ⟨g + 1 + 1 + 1, 0, none⟩ = some v := (cell_of_box_1 B33).1
     have w3f : V3.frozen? ⟨g + 1 + 1 + 1, 0, none⟩ = false := (cell_of_box_1 B33).2
     have hF4 : Fnd (V3.setCell ⟨g + 1 + 1 + 1, 0, none⟩ v') g (names ++ [nf]) := by
      refine ⟨?_, ?_, v', ?_, ?_, ?_⟩
      ·have := hS2.block (W' := V3.setCell ⟨g + 1 + 1 + 1, 0, none⟩ v') ((Below.heap_setCell _ _ _ _ (by show g + 1 ≠ g + 1 + 1 + 1; omega)).trans (hk3 _ (by omega)))
       simpa using this
      ·exact (Below.heap_setCell _ _ _ _ (by show g + 2 ≠ g + 1 + 1 + 1; omega)).trans ((hk3 _ (by omega)).trans B22)
      ·simp [World.setCell, Array.getElem?_modify]
       exact ⟨_, B33, rfl⟩
      ·have := ownsRow_setCell_below ho3 (a := ⟨g + 1 + 1 + 1, 0, none⟩) (by show g + 1 + 1 + 1 < g + 4; omega) v'
       rw [show strs (names ++ [nf]) = strs names ++ [.string (bs nf)] by simp [strs], show (names ++ [nf]).length = names.length + 1 by simp]
       exact this
      ·simp; omega
     have hB4 : Below g V (V3.setCell ⟨g + 1 + 1 + 1, 0, none⟩ v') := ⟨hg3'.os.trans hg2'.os, hg3'.tape.trans hg2'.tape, hg3'.output.trans hg2'.output, by simp; omega, fun i hi => (Below.heap_setCell _ _ _ _ (by show i ≠ g + 1 + 1 + 1; omega)).trans ((hk3 i (by omega)).trans (hk2 i (by omega) (by omega)))⟩
     have hKF : KeepsFrom w'.heap.size V (V3.setCell ⟨g + 1 + 1 + 1, 0, none⟩ v') := ⟨by simp; omega, fun i ob hi hob hcs => by
      have e2 : V2.heap[i]? = some ob := (hg2'.block i (Array.getElem?_eq_some_iff.1 hob).1 (fun e => by have := Option.some.inj e; omega)).trans hob
      have hlt2 := (Array.getElem?_eq_some_iff.1 e2).1
      have e3 : V3.heap[i]? = some ob := (hg3'.block i (by rw [World.size_alloc]; omega) (fun e => by
       rcases ho2.2 with ⟨rfl, _⟩ | ⟨q, cap, cur, rfl, hq, hh, _⟩
       ·cases e
       ·have e4 : i = q := Option.some.inj e
        subst e4
        rw [e2] at hh; cases hh; cases hcs)).trans ((Below.heap_alloc V2 _ i hlt2).trans e2)
      exact (Below.heap_setCell _ _ _ _ (by show i ≠ g + 1 + 1 + 1; omega)).trans e3⟩
     exact ⟨w3, w3f, HP.out _ hKF (by rw [heN]; exact hF4) hB4⟩)
    have HOW : Hid (V2.drew.ownsRow (g + 4) 9 1 v names.length (strs names) ∧ g + 4 ≤ V2.heap.size) := Lib.hid ⟨ho2, by omega⟩
    have y2dd : V.drew.drew.cell? ⟨g + 1 + 1, 0, none⟩ = some (.map (some (g + 1))) := y2
    have r2dd : V.drew.drew.cell? ⟨b, o + 2, none⟩ = some (.string (bs nf)) := r2
    have HI := Lib.hid (And.intro hi0 (And.intro hq0 (And.intro hq1 hq2)))
    clear HP HFF hc HV f3 y3 h1 h2 h3 h4 h5 hg2 hg2' ho2 hS2 hk2 B22 B23 heN hnb hz2 z3 zr2 hi0 hq0 hq1 hq2
    gi_wp2_with fail
    refine wpIn_at ?_
    apply Exists.intro
    apply Exists.intro
    refine ⟨?_, ?_⟩
    ·gi_region_o
     all_goals exact ⟨rfl, rfl, rfl⟩
    gi_wp2_with fail
    refine wpIn_at ?_
    apply Exists.intro
    apply Exists.intro
    refine ⟨?_, ?_⟩
    ·gi_region_o
     all_goals exact ⟨rfl, rfl, rfl⟩
    gi_wp2_with fail
    refine wpIn_region_any hmix ?_
    change wpAnyIn _ _ _ _ _ _ _ _ _ (World.drew _)
    refine wpAnyIn_ready (rs := [0, 1]) (by kernel_rfl) (by simp) ?_
    refine AllReadyIn.cons rfl (fun K hK => ?_) (AllReadyIn.cons rfl (fun K hK => ?_) AllReadyIn.nil)
    ·go_simp
     refine hK _ _ ?_
     clear hK K
     refine wpAnyIn_ready (rs := [1]) (by kernel_rfl) (by simp) ?_
     refine AllReadyIn.cons rfl (fun K hK => ?_) AllReadyIn.nil
     go_simp
     refine hK _ _ ?_
     clear hK K
     refine wpAnyIn_ready (rs := [2]) (by kernel_rfl) (by simp) ?_
     refine AllReadyIn.cons rfl (fun K hK => ?_) AllReadyIn.nil
     go_simp
     refine hK _ _ ?_
     clear hK K
     refine wpAnyIn_ready (rs := [3]) (by kernel_rfl) (by simp) ?_
     refine AllReadyIn.cons rfl (fun K hK => ?_) AllReadyIn.nil
     go_simp
     refine hK _ _ ?_
     clear hK K
     refine wpAnyIn_ready (rs := [4]) (by kernel_rfl) (by simp) ?_
     refine AllReadyIn.cons rfl (fun K hK => ?_) AllReadyIn.nil
     go_simp
     refine hK _ _ ?_
     clear hK K
     refine wpAnyIn_ready (rs := [5]) (by kernel_rfl) (by simp) ?_
     refine AllReadyIn.cons rfl (fun K hK => ?_) AllReadyIn.nil
     go_simp
     refine hK _ _ ?_
     clear hK K
     refine wpAnyIn_ready (rs := [6]) (by kernel_rfl) (by simp) ?_
     refine AllReadyIn.cons rfl (fun K hK => ?_) AllReadyIn.nil
     obtain ⟨hi0, hq0, hq1, hq2⟩ := HI.out
     refine stepIn_append_own rfl (.tmp 30) (.tmp 35) 29 rfl (g + 4) 9 i0 (.string ⟨#[]⟩) 1 16 Tryz.underlying29 hi0 hq0 hq1 hq2 rfl (by decide) v names.length (strs names) (by simp [Act.eval, Act.put]) (HOW.out.1.alloc _) ⟨V2.heap.size, 0, none⟩ 1 1 [.string (bs nf)] (by simp [Act.eval, Act.put]) rfl (news_one V2.drew (.string (bs nf)) 9) (ones_str nf) (by unfold maxLen; omega) (by omega) (by show g + 4 ≤ (V2.alloc _).heap.size; rw [World.size_alloc]; have := HOW.out.2; omega) ?_
     intro v' V3 ho3 hg3
     obtain ⟨w3, w3f, hfin⟩ := HLF.out v' V3 ho3 hg3
     obtain ⟨q5, c5, rfl⟩ := own_some ho3 (by omega)
     have HFIN := Lib.hid hfin
     clear hfin ho3 hg3 hi0 hq0 hq1 hq2
     refine hK _ _ ?_
     clear hK K
     refine wpAnyIn_ready (rs := [7]) (by kernel_rfl) (by simp) ?_
     refine AllReadyIn.cons rfl (fun K hK => ?_) AllReadyIn.nil
     go_simp
     refine hK _ _ ?_
     clear hK K
     refine wpAnyIn_done (by kernel_rfl) ?_ _
     gi_wp2
     exact HFIN.out
    ·go_simp
     refine hK _ _ ?_
     clear hK K
     refine wpAnyIn_ready (rs := [0, 2]) (by kernel_rfl) (by simp) ?_
     refine AllReadyIn.cons rfl (fun K hK => ?_) (AllReadyIn.cons rfl (fun K hK => ?_) AllReadyIn.nil)
     ·go_simp
      refine hK _ _ ?_
      clear hK K
      refine wpAnyIn_ready (rs := [2]) (by kernel_rfl) (by simp) ?_
      refine AllReadyIn.cons rfl (fun K hK => ?_) AllReadyIn.nil
      go_simp
      refine hK _ _ ?_
      clear hK K
      refine wpAnyIn_ready (rs := [3]) (by kernel_rfl) (by simp) ?_
      refine AllReadyIn.cons rfl (fun K hK => ?_) AllReadyIn.nil
      go_simp
      refine hK _ _ ?_
      clear hK K
      refine wpAnyIn_ready (rs := [4]) (by kernel_rfl) (by simp) ?_
      refine AllReadyIn.cons rfl (fun K hK => ?_) AllReadyIn.nil
      go_simp
      refine hK _ _ ?_
      clear hK K
      refine wpAnyIn_ready (rs := [5]) (by kernel_rfl) (by simp) ?_
      refine AllReadyIn.cons rfl (fun K hK => ?_) AllReadyIn.nil
      go_simp
      refine hK _ _ ?_
      clear hK K
      refine wpAnyIn_ready (rs := [6]) (by kernel_rfl) (by simp) ?_
      refine AllReadyIn.cons rfl (fun K hK => ?_) AllReadyIn.nil
      obtain ⟨hi0, hq0, hq1, hq2⟩ := HI.out
      refine stepIn_append_own rfl (.tmp 30) (.tmp 35) 29 rfl (g + 4) 9 i0 (.string ⟨#[]⟩) 1 16 Tryz.underlying29 hi0 hq0 hq1 hq2 rfl (by decide) v names.length (strs names) (by simp [Act.eval, Act.put]) (HOW.out.1.alloc _) ⟨V2.heap.size, 0, none⟩ 1 1 [.string (bs nf)] (by simp [Act.eval, Act.put]) rfl (news_one V2.drew (.string (bs nf)) 9) (ones_str nf) (by unfold maxLen; omega) (by omega) (by show g + 4 ≤ (V2.alloc _).heap.size; rw [World.size_alloc]; have := HOW.out.2; omega) ?_
      intro v' V3 ho3 hg3
      obtain ⟨w3, w3f, hfin⟩ := HLF.out v' V3 ho3 hg3
      obtain ⟨q5, c5, rfl⟩ := own_some ho3 (by omega)
      have HFIN := Lib.hid hfin
      clear hfin ho3 hg3 hi0 hq0 hq1 hq2
      refine hK _ _ ?_
      clear hK K
      refine wpAnyIn_ready (rs := [7]) (by kernel_rfl) (by simp) ?_
      refine AllReadyIn.cons rfl (fun K hK => ?_) AllReadyIn.nil
      go_simp
      refine hK _ _ ?_
      clear hK K
      refine wpAnyIn_done (by kernel_rfl) ?_ _
      gi_wp2
      exact HFIN.out
     ·go_simp
      refine hK _ _ ?_
      clear hK K
      refine wpAnyIn_ready (rs := [0, 3]) (by kernel_rfl) (by simp) ?_
      refine AllReadyIn.cons rfl (fun K hK => ?_) (AllReadyIn.cons rfl (fun K hK => ?_) AllReadyIn.nil)
      ·go_simp
       refine hK _ _ ?_
       clear hK K
       refine wpAnyIn_ready (rs := [3]) (by kernel_rfl) (by simp) ?_
       refine AllReadyIn.cons rfl (fun K hK => ?_) AllReadyIn.nil
       go_simp
       refine hK _ _ ?_
       clear hK K
       refine wpAnyIn_ready (rs := [4]) (by kernel_rfl) (by simp) ?_
       refine AllReadyIn.cons rfl (fun K hK => ?_) AllReadyIn.nil
       go_simp
       refine hK _ _ ?_
       clear hK K
       refine wpAnyIn_ready (rs := [5]) (by kernel_rfl) (by simp) ?_
       refine AllReadyIn.cons rfl (fun K hK => ?_) AllReadyIn.nil
       go_simp
       refine hK _ _ ?_
       clear hK K
       refine wpAnyIn_ready (rs := [6]) (by kernel_rfl) (by simp) ?_
       refine AllReadyIn.cons rfl (fun K hK => ?_) AllReadyIn.nil
       obtain ⟨hi0, hq0, hq1, hq2⟩ := HI.out
       refine stepIn_append_own rfl (.tmp 30) (.tmp 35) 29 rfl (g + 4) 9 i0 (.string ⟨#[]⟩) 1 16 Tryz.underlying29 hi0 hq0 hq1 hq2 rfl (by decide) v names.length (strs names) (by simp [Act.eval, Act.put]) (HOW.out.1.alloc _) ⟨V2.heap.size, 0, none⟩ 1 1 [.string (bs nf)] (by simp [Act.eval, Act.put]) rfl (news_one V2.drew (.string (bs nf)) 9) (ones_str nf) (by unfold maxLen; omega) (by omega) (by show g + 4 ≤ (V2.alloc _).heap.size; rw [World.size_alloc]; have := HOW.out.2; omega) ?_
       intro v' V3 ho3 hg3
       obtain ⟨w3, w3f, hfin⟩ := HLF.out v' V3 ho3 hg3
       obtain ⟨q5, c5, rfl⟩ := own_some ho3 (by omega)
       have HFIN := Lib.hid hfin
       clear hfin ho3 hg3 hi0 hq0 hq1 hq2
       refine hK _ _ ?_
       clear hK K
       refine wpAnyIn_ready (rs := [7]) (by kernel_rfl) (by simp) ?_
       refine AllReadyIn.cons rfl (fun K hK => ?_) AllReadyIn.nil
       go_simp
       refine hK _ _ ?_
       clear hK K
       refine wpAnyIn_done (by kernel_rfl) ?_ _
       gi_wp2
       exact HFIN.out
      ·go_simp
       refine hK _ _ ?_
       clear hK K
       refine wpAnyIn_ready (rs := [0, 4]) (by kernel_rfl) (by simp) ?_
       refine AllReadyIn.cons rfl (fun K hK => ?_) (AllReadyIn.cons rfl (fun K hK => ?_) AllReadyIn.nil)
       ·go_simp
        refine hK _ _ ?_
        clear hK K
        refine wpAnyIn_ready (rs := [4]) (by kernel_rfl) (by simp) ?_
        refine AllReadyIn.cons rfl (fun K hK => ?_) AllReadyIn.nil
        go_simp
        refine hK _ _ ?_
        clear hK K
        refine wpAnyIn_ready (rs := [5]) (by kernel_rfl) (by simp) ?_
        refine AllReadyIn.cons rfl (fun K hK => ?_) AllReadyIn.nil
        go_simp
        refine hK _ _ ?_
        clear hK K
        refine wpAnyIn_ready (rs := [6]) (by kernel_rfl) (by simp) ?_
        refine AllReadyIn.cons rfl (fun K hK => ?_) AllReadyIn.nil
        obtain ⟨hi0, hq0, hq1, hq2⟩ := HI.out
        refine stepIn_append_own rfl (.tmp 30) (.tmp 35) 29 rfl (g + 4) 9 i0 (.string ⟨#[]⟩) 1 16 Tryz.underlying29 hi0 hq0 hq1 hq2 rfl (by decide) v names.length (strs names) (by simp [Act.eval, Act.put]) (HOW.out.1.alloc _) ⟨V2.heap.size, 0, none⟩ 1 1 [.string (bs nf)] (by simp [Act.eval, Act.put]) rfl (news_one V2.drew (.string (bs nf)) 9) (ones_str nf) (by unfold maxLen; omega) (by omega) (by show g + 4 ≤ (V2.alloc _).heap.size; rw [World.size_alloc]; have := HOW.out.2; omega) ?_
        intro v' V3 ho3 hg3
        obtain ⟨w3, w3f, hfin⟩ := HLF.out v' V3 ho3 hg3
        obtain ⟨q5, c5, rfl⟩ := own_some ho3 (by omega)
        have HFIN := Lib.hid hfin
        clear hfin ho3 hg3 hi0 hq0 hq1 hq2
        refine hK _ _ ?_
        clear hK K
        refine wpAnyIn_ready (rs := [7]) (by kernel_rfl) (by simp) ?_
        refine AllReadyIn.cons rfl (fun K hK => ?_) AllReadyIn.nil
        go_simp
        refine hK _ _ ?_
        clear hK K
        refine wpAnyIn_done (by kernel_rfl) ?_ _
        gi_wp2
        exact HFIN.out
       ·go_simp
        refine hK _ _ ?_
        clear hK K
        refine wpAnyIn_ready (rs := [0, 5]) (by kernel_rfl) (by simp) ?_
        refine AllReadyIn.cons rfl (fun K hK => ?_) (AllReadyIn.cons rfl (fun K hK => ?_) AllReadyIn.nil)
        ·go_simp
         refine hK _ _ ?_
         clear hK K
         refine wpAnyIn_ready (rs := [5]) (by kernel_rfl) (by simp) ?_
         refine AllReadyIn.cons rfl (fun K hK => ?_) AllReadyIn.nil
         go_simp
         refine hK _ _ ?_
         clear hK K
         refine wpAnyIn_ready (rs := [6]) (by kernel_rfl) (by simp) ?_
         refine AllReadyIn.cons rfl (fun K hK => ?_) AllReadyIn.nil
         obtain ⟨hi0, hq0, hq1, hq2⟩ := HI.out
         refine stepIn_append_own rfl (.tmp 30) (.tmp 35) 29 rfl (g + 4) 9 i0 (.string ⟨#[]⟩) 1 16 Tryz.underlying29 hi0 hq0 hq1 hq2 rfl (by decide) v names.length (strs names) (by simp [Act.eval, Act.put]) (HOW.out.1.alloc _) ⟨V2.heap.size, 0, none⟩ 1 1 [.string (bs nf)] (by simp [Act.eval, Act.put]) rfl (news_one V2.drew (.string (bs nf)) 9) (ones_str nf) (by unfold maxLen; omega) (by omega) (by show g + 4 ≤ (V2.alloc _).heap.size; rw [World.size_alloc]; have := HOW.out.2; omega) ?_
         intro v' V3 ho3 hg3
         obtain ⟨w3, w3f, hfin⟩ := HLF.out v' V3 ho3 hg3
         obtain ⟨q5, c5, rfl⟩ := own_some ho3 (by omega)
         have HFIN := Lib.hid hfin
         clear hfin ho3 hg3 hi0 hq0 hq1 hq2
         refine hK _ _ ?_
         clear hK K
         refine wpAnyIn_ready (rs := [7]) (by kernel_rfl) (by simp) ?_
         refine AllReadyIn.cons rfl (fun K hK => ?_) AllReadyIn.nil
         go_simp
         refine hK _ _ ?_
         clear hK K
         refine wpAnyIn_done (by kernel_rfl) ?_ _
         gi_wp2
         exact HFIN.out
        ·go_simp
         refine hK _ _ ?_
         clear hK K
         refine wpAnyIn_ready (rs := [0]) (by kernel_rfl) (by simp) ?_
         refine AllReadyIn.cons rfl (fun K hK => ?_) AllReadyIn.nil
         go_simp
         refine hK _ _ ?_
         clear hK K
         refine wpAnyIn_ready (rs := [6]) (by kernel_rfl) (by simp) ?_
         refine AllReadyIn.cons rfl (fun K hK => ?_) AllReadyIn.nil
         obtain ⟨hi0, hq0, hq1, hq2⟩ := HI.out
         refine stepIn_append_own rfl (.tmp 30) (.tmp 35) 29 rfl (g + 4) 9 i0 (.string ⟨#[]⟩) 1 16 Tryz.underlying29 hi0 hq0 hq1 hq2 rfl (by decide) v names.length (strs names) (by simp [Act.eval, Act.put]) (HOW.out.1.alloc _) ⟨V2.heap.size, 0, none⟩ 1 1 [.string (bs nf)] (by simp [Act.eval, Act.put]) rfl (news_one V2.drew (.string (bs nf)) 9) (ones_str nf) (by unfold maxLen; omega) (by omega) (by show g + 4 ≤ (V2.alloc _).heap.size; rw [World.size_alloc]; have := HOW.out.2; omega) ?_
         intro v' V3 ho3 hg3
         obtain ⟨w3, w3f, hfin⟩ := HLF.out v' V3 ho3 hg3
         obtain ⟨q5, c5, rfl⟩ := own_some ho3 (by omega)
         have HFIN := Lib.hid hfin
         clear hfin ho3 hg3 hi0 hq0 hq1 hq2
         refine hK _ _ ?_
         clear hK K
         refine wpAnyIn_ready (rs := [7]) (by kernel_rfl) (by simp) ?_
         refine AllReadyIn.cons rfl (fun K hK => ?_) AllReadyIn.nil
         go_simp
         refine hK _ _ ?_
         clear hK K
         refine wpAnyIn_done (by kernel_rfl) ?_ _
         gi_wp2
         exact HFIN.out
  ·have hb7 : (op == 7) = false := by simpa using h7
   have HQ := Lib.hid (HP.out V.drew ⟨Nat.le_refl _, fun k o _ h _ => h⟩ (by
    have e : addN names (instV (.mk op xnm nf xa xc xl sa sc sl la lc ll ea ec el xpa xpc xpl ba bc bl)) = names := by
     simp only [instV, if_neg h7, addN]
    rw [e]
    exact ⟨HFF.out.1.block rfl, HFF.out.2.1, HFF.out.2.2⟩) (Below.drew (Below.refl _ _)))
   clear HP HFF HV f3 y3 hlk
   gi_wp2_with fail
   refine wpIn_at ?_
   apply Exists.intro
   apply Exists.intro
   refine ⟨?_, ?_⟩
   ·gi_region_o
    all_goals exact ⟨rfl, rfl, rfl⟩
   gi_wp2
   exact HQ.out
theorem uses_any (W : World) (n0 : Nat) (x : MT) (hn0 : n0 ≤ W.heap.size) (hin : x.In n0 W) (hbk : x.bk ≤ 4500000) :
  Calls Tryz.prog 27 #[x.val] W fun e W' => ∃ v, e = .returned v ∧ W'.ownsRow (W.heap.size + 4) 9 1 v (usesM x).length (strs (usesM x)) ∧ Below W.heap.size W W' ∧ W.heap.size + 4 ≤ W'.heap.size :=
 (callsIn_wide (n := 0)).1 (uses_in Fence.wide rfl (fun _ => trivial) rfl W n0 x hn0 hin hbk)
end Go.Proofs.YtiipjbafdhijlaaGreatDoor
