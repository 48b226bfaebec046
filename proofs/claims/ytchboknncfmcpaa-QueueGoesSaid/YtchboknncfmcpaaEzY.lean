/-
  A law: a region that draws its order, walked by an invariant: of each operation it is shown once that it keeps it, whichever have come up. No program.
-/
import Derived.Lib.QuietBelow
import Derived.BigQuiet
import Derived.Orders
import Derived.StillTail
namespace Go.Proofs.Ytchboknncfmcpaa
open Go Go.Sort Go.RowKit
set_option linter.unusedVariables false
set_option linter.unusedSimpArgs false

theorem filt_le {α : Type} (p q : α → Bool) : ∀ (l : List α), (∀ x ∈ l, q x = true → p x = true) → (l.filter q).length ≤ (l.filter p).length
  | [], _ => Nat.le_refl _
  | y :: r, h => by
    have h1 := filt_le p q r (fun x hx => h x (by simp [hx]))
    have h0 := h y (by simp)
    cases hq : q y with
    | true => rw [List.filter_cons_of_pos hq, List.filter_cons_of_pos (h0 hq)]; simpa using h1
    | false =>
      rw [List.filter_cons_of_neg (by simp [hq])]
      cases hp : p y with
      | true => rw [List.filter_cons_of_pos hp]; simp only [List.length_cons]; omega
      | false => rw [List.filter_cons_of_neg (by simp [hp])]; exact h1
theorem filt_lt {α : Type} (p q : α → Bool) : ∀ (l : List α), (∀ x ∈ l, q x = true → p x = true) → ∀ x ∈ l, p x = true → q x = false → (l.filter q).length < (l.filter p).length
  | y :: r, h, x, hx, h1, h2 => by
    have hr := filt_le p q r (fun x hx => h x (by simp [hx]))
    rcases List.mem_cons.1 hx with e | e
    · subst e
      rw [List.filter_cons_of_neg (by simp [h2]), List.filter_cons_of_pos h1]
      simp only [List.length_cons]; omega
    · have h3 := filt_lt p q r (fun x hx => h x (by simp [hx])) x e h1 h2
      have h0 := h y (by simp)
      cases hq : q y with
      | true => rw [List.filter_cons_of_pos hq, List.filter_cons_of_pos (h0 hq)]; simpa using h3
      | false =>
        rw [List.filter_cons_of_neg (by simp [hq])]
        cases hp : p y with
        | true => rw [List.filter_cons_of_pos hp]; simp only [List.length_cons]; omega
        | false => rw [List.filter_cons_of_neg (by simp [hp])]; exact h3
def unl (n : Nat) (b : Nat → Bool) : Nat := ((List.range n).filter fun i => !b i).length
def setB (b : Nat → Bool) (k : Nat) : Nat → Bool := fun j => if j = k then true else b j
def lowB (ops : Array Oper) : Bool := (List.range ops.size).all fun i => match ops[i]? with
  | none => true
  | some o => o.after.all fun e => !Region.binds .any e || decide (e.on < i)
theorem lowB_spec {ops : Array Oper} (h : lowB ops = true) {i : Nat} {o : Oper} (ho : ops[i]? = some o) : ∀ e ∈ o.after, Region.binds .any e = true → e.on < i := by
  have hi : i < ops.size := (Array.getElem?_eq_some_iff.1 ho).1
  have h1 := List.all_eq_true.1 h i (List.mem_range.2 hi)
  simp only [ho] at h1
  intro e he hb
  obtain ⟨k, hk, rfl⟩ := Array.mem_iff_getElem.1 he
  have h2 := Array.all_eq_true.1 h1 k hk
  simpa [hb] using h2
theorem all_listed {ops : Array Oper} {listed : Array Bool} (hs : listed.size = ops.size) (hlow : lowB ops = true) (hr : Region.ready .any ops listed = []) : ∀ j, j < ops.size → listed.getD j false = true := by
  intro j
  induction j using Nat.strongRecOn with
  | _ j ih =>
    intro hj
    cases hl : listed.getD j false with
    | true => rfl
    | false =>
      exfalso
      have hm : j ∈ Region.ready .any ops listed := by
        rw [mem_ready]
        refine ⟨by have hjl : j < listed.size := by omega
                   simp [hjl] at hl ⊢; exact hl, ops[j], by simp [hj], fun e he hb => ?_⟩
        have h1 := lowB_spec hlow (by simp [hj] : ops[j]? = some ops[j]) e he hb
        exact ih e.on h1 (by omega)
      rw [hr] at hm; cases hm
theorem getD_setB {listed : Array Bool} {i : Nat} (hi : i < listed.size) : (fun j => (listed.setIfInBounds i true).getD j false) = setB (fun j => listed.getD j false) i := by
  funext j
  unfold setB
  by_cases h : j = i
  · subst h; simp [Array.getElem?_setIfInBounds, hi, Array.getD]
  · rw [if_neg h]
    simp [Array.getD_eq_getD_getElem?, Array.getElem?_setIfInBounds, Ne.symm h]
/-- What stands behind something that has come up has come up. -/
def ClosedB (ops : Array Oper) (b : Nat → Bool) : Prop := ∀ (j : Nat) (o : Oper), ops[j]? = some o → b j = true → ∀ e ∈ o.after, Region.binds .any e = true → b e.on = true
theorem ClosedB.set {ops : Array Oper} {b : Nat → Bool} (h : ClosedB ops b) {i : Nat} {o : Oper} (ho : ops[i]? = some o) (hd : ∀ e ∈ o.after, Region.binds .any e = true → b e.on = true) : ClosedB ops (setB b i) := by
  intro j o' hj hb e he hbd
  have up : ∀ k, b k = true → setB b i k = true := fun k hk => by unfold setB; split; rfl; exact hk
  by_cases q : j = i
  · subst q
    rw [ho] at hj
    injection hj with hj
    subst hj
    exact up _ (hd e he hbd)
  · unfold setB at hb
    rw [if_neg q] at hb
    exact up _ (h j o' hj hb e he hbd)
section
variable {P : Program} {Q : Exit → Act → World → Prop}
theorem wpAny_inv {ops : Array Oper} (J : (Nat → Bool) → Act → World → Prop) (hlow : lowB ops = true)
    (hstep : ∀ (b : Nat → Bool) (a : Act) (w : World) (i : Nat) (o : Oper), ops[i]? = some o → b i = false → (∀ e ∈ o.after, Region.binds .any e = true → b e.on = true) → ClosedB ops b → J b a w → wpOp P ops Q i (J (setB b i)) a w)
    (hend : ∀ (b : Nat → Bool) (a : Act) (w : World), (∀ j, j < ops.size → b j = true) → J b a w → Q .normal a w) :
    ∀ (fuel : Nat) (listed : Array Bool) (a : Act) (w : World), listed.size = ops.size → unl ops.size (fun j => listed.getD j false) ≤ fuel → ClosedB ops (fun j => listed.getD j false) → J (fun j => listed.getD j false) a w → wpAny P .any ops Q fuel listed a w := by
  intro fuel
  induction fuel with
  | zero =>
    intro listed a w hs hu _ hJ
    have hr : Region.ready .any ops listed = [] := by
      rcases hh : Region.ready .any ops listed with _ | ⟨i, r⟩
      · rfl
      · exfalso
        have hm : i ∈ Region.ready .any ops listed := by rw [hh]; simp
        obtain ⟨h1, o, ho, _⟩ := mem_ready.1 hm
        have hi : i < ops.size := (Array.getElem?_eq_some_iff.1 ho).1
        have h2 : listed.getD i false = false := getD_both h1
        have h3 : i ∈ (List.range ops.size).filter (fun i => !(listed.getD i false)) := by
          rw [List.mem_filter]; exact ⟨List.mem_range.2 hi, by simp [h2]⟩
        have hu2 : ((List.range ops.size).filter (fun i => !(listed.getD i false))).length ≤ 0 := hu
        have h4 : ((List.range ops.size).filter (fun i => !(listed.getD i false))) = [] := List.eq_nil_of_length_eq_zero (by omega)
        rw [h4] at h3; cases h3
    exact ⟨hr, hend _ a w (all_listed hs hlow hr) hJ⟩
  | succ fuel ih =>
    intro listed a w hs hu hcl hJ
    refine ⟨fun hr => hend _ a w (all_listed hs hlow hr) hJ, fun i hi => ?_⟩
    obtain ⟨h1, o, ho, hd⟩ := mem_ready.1 hi
    have hil : i < ops.size := (Array.getElem?_eq_some_iff.1 ho).1
    have h2 : listed.getD i false = false := getD_both h1
    refine wpOp_mono (fun a' w' hJ' => ?_) (hstep (fun j => listed.getD j false) a w i o ho h2 hd hcl hJ)
    refine ih (listed.setIfInBounds i true) a' w' (by simp [hs]) ?_ (by rw [getD_setB (by omega)]; exact hcl.set ho hd) (by rw [getD_setB (by omega)]; exact hJ')
    have h3 := filt_lt (fun j => !(listed.getD j false)) (fun j => !(setB (fun j => listed.getD j false) i j)) (List.range ops.size) (fun x _ hx => by
      unfold setB at hx
      by_cases e : x = i
      · rw [if_pos e] at hx; cases hx
      · rw [if_neg e] at hx; exact hx) i (List.mem_range.2 hil) (by simp [h2]) (by unfold setB; simp)
    rw [getD_setB (by omega)]
    have hu2 : ((List.range ops.size).filter (fun j => !(listed.getD j false))).length ≤ fuel + 1 := hu
    show ((List.range ops.size).filter (fun j => !(setB (fun j => listed.getD j false) i j))).length ≤ fuel
    have h4 : ((List.range ops.size).filter (fun j => !(setB (fun j => listed.getD j false) i j))).length < ((List.range ops.size).filter (fun j => !(listed.getD j false))).length := h3
    omega
/-- What is shown of an operation of a region. -/
def StepOK (P : Program) (ops : Array Oper) (Q : Exit → Act → World → Prop) (J : (Nat → Bool) → Act → World → Prop) (k : Nat) (o : Oper) : Prop :=
  o.guard = none ∧ ∀ (b : Nat → Bool) (a : Act) (w : World), b k = false → (∀ e ∈ o.after.toList, Region.binds .any e = true → b e.on = true) → ClosedB ops b → J b a w → ∀ K : Act → World → Prop, (∀ a' w', J (setB b k) a' w' → K a' w') → o.wp P a w K Q
def InvSteps (P : Program) (ops : Array Oper) (Q : Exit → Act → World → Prop) (J : (Nat → Bool) → Act → World → Prop) : Nat → List Oper → Prop
  | _, [] => True
  | k, o :: r => StepOK P ops Q J k o ∧ InvSteps P ops Q J (k + 1) r
theorem invSteps_get {ops : Array Oper} {J : (Nat → Bool) → Act → World → Prop} : ∀ (l : List Oper) (k : Nat), InvSteps P ops Q J k l → ∀ (i : Nat) (o : Oper), l[i]? = some o → StepOK P ops Q J (k + i) o
  | [], _, _, i, o', ho => by simp at ho
  | o :: r, k, h, 0, o', ho => by
    rw [List.getElem?_cons_zero] at ho
    injection ho with ho
    rw [← ho, Nat.add_zero]
    exact h.1
  | o :: r, k, h, i + 1, o', ho => by
    rw [show k + (i + 1) = k + 1 + i by omega]
    exact invSteps_get r (k + 1) h.2 i o' (by rw [List.getElem?_cons_succ] at ho; exact ho)
theorem unl_le (n : Nat) (b : Nat → Bool) : unl n b ≤ n := by
  have h := List.length_filter_le (fun i => !b i) (List.range n)
  unfold unl; simpa using h
/-- THE LAW. -/
theorem wp_region_inv {id : Nat} {a : Act} {w : World} {l : List Oper} (J : (Nat → Bool) → Act → World → Prop) (hm : P.follows .mixedOrders = true) (hlow : lowB l.toArray = true)
    (h0 : J (fun _ => false) a w.drew) (hstep : InvSteps P l.toArray Q J 0 l) (hend : ∀ (b : Nat → Bool) (a : Act) (w : World), (∀ j, j < l.length → b j = true) → J b a w → Q .normal a w) :
    (Code.region id l.toArray true).wp P Q a w := by
  refine wp_region_any hm (wpAny_inv J hlow (fun b a w i o ho hb hd hcl hJ => ?_) (fun b a w hb hJ => hend b a w (by simpa using hb) hJ) _ _ _ _ (by simp) (unl_le _ _) ?_ ?_)
  · have ho2 : l[i]? = some o := by simpa using ho
    obtain ⟨hg, h1⟩ := invSteps_get l 0 hstep i o ho2
    rw [Nat.zero_add] at h1
    have h2 := h1 b a w hb (fun e he => hd e (by simpa using he)) hcl hJ (J (setB b i)) (fun _ _ h => h)
    unfold wpOp
    simp only [ho]
    have hw : Region.wanted o (yielded l.toArray a.tmps) = true := by simp [Region.wanted, hg]
    rw [if_pos hw]
    exact Or.inl h2
  · intro j o _ hb
    have hb2 : (Array.replicate l.toArray.size false).getD j false = true := hb
    rw [getD_replicate_false] at hb2; cases hb2
  · have e : (fun j => (Array.replicate l.toArray.size false).getD j false) = fun _ => false := by
      funext j; exact getD_replicate_false _ _
    rw [e]; exact h0
/-- The same, over the act at the region's beginning. -/
theorem wp_region_inv2 {id : Nat} {a : Act} {w : World} {l : List Oper} (J : Act → (Nat → Bool) → Act → World → Prop) (hm : P.follows .mixedOrders = true) (hlow : lowB l.toArray = true)
    (h0 : J a (fun _ => false) a w.drew) (hstep : InvSteps P l.toArray Q (J a) 0 l) (hend : ∀ (b : Nat → Bool) (a' : Act) (w : World), (∀ j, j < l.length → b j = true) → J a b a' w → Q .normal a' w) :
    (Code.region id l.toArray true).wp P Q a w := wp_region_inv (J a) hm hlow h0 hstep hend
theorem ClosedB.no {ops : Array Oper} {b : Nat → Bool} (h : ClosedB ops b) (j : Nat) (o : Oper) (ho : ops[j]? = some o) (e : Edge) (he : e ∈ o.after.toList) (hb : Region.binds .any e = true) {i : Nat} (hi : e.on = i) (hn : b i = false) : b j = false := by
  cases q : b j with
  | false => rfl
  | true =>
    have := h j o ho q e (by simpa using he) hb
    rw [hi, hn] at this; cases this
end
end Go.Proofs.Ytchboknncfmcpaa
