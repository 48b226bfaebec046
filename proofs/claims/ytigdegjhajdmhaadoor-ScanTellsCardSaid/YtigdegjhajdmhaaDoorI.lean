/-
  A law: a region that draws its order, whose operations read, or call what makes memory and leaves the old as it is, and which makes ONE variable and stores into it.
-/
import Derived.Lib.QuietBelow
import Derived.BigQuiet
import Derived.StillTail
import Derived.Laws.Rows
namespace Go.Proofs.YtigdegjhajdmhaaDoor
open Go Go.Sort Go.RowKit

structure RegS (W : World) (S : World → Prop) where
  d : Nat
  os : Array Obj
  ok : S (grow (redrawn W d) os)

def Closed (S : World → Prop) : Prop := ∀ w w', S w → Below w.heap.size w w' → S w'
def CS (W : World) (S : World → Prop) : World → Prop := fun w' => ∃ p : RegS W S, w' = grow (redrawn W p.d) p.os

theorem cs_iff {W : World} {S : World → Prop} {w : World} : CS W S w ↔ Below W.heap.size W w ∧ S w := by
  constructor
  · rintro ⟨p, rfl⟩; exact ⟨below_regrown _ _ _, p.ok⟩
  · rintro ⟨h, hs⟩
    obtain ⟨p, rfl⟩ := regrown_of_below h
    exact ⟨⟨p.d, p.os, hs⟩, rfl⟩

theorem calls_regS {P : Program} {f : FuncId} {args : Array Value} {W : World} {S : World → Prop} (hS : Closed S) (p : RegS W S) {v : Value}
    (h : Calls P f args (grow (redrawn W p.d) p.os) fun e w' => e = .returned v ∧ Below (grow (redrawn W p.d) p.os).heap.size (grow (redrawn W p.d) p.os) w') :
    Calls P f args (grow (redrawn W p.d) p.os) fun e w'' => e = .returned v ∧ ∃ q : RegS W S, w'' = grow (redrawn W q.d) q.os :=
  h.mono fun _ _ ⟨he, hb⟩ => ⟨he, cs_iff.2 ⟨(below_regrown _ _ _).trans (hb.mono (below_regrown W p.d p.os).size), hS _ _ p.ok hb⟩⟩

theorem frozen_row {w : World} {g : Nat} {cs : Array Value} {t : TypeId} (h : w.heap[g]? = some (.cells cs t (0, 0))) (i : Nat) : w.frozen? ⟨g, i, none⟩ = false := by simp [World.frozen?, h]
def ptrTo (g : Nat) : Value := .pointer (some ⟨g, 0, none⟩)

theorem put_put (a : Act) (d : Tmp) (u v : Value) : (a.put (some d) u).put (some d) v = a.put (some d) v := by
  simp [Act.put]

section
variable {P : Program} {ops : Array Oper} {md : Region.Mode} {W : World} {dA iA iS : Nat} {oA oS : Oper} {ob0 ob1 : Obj}

structure StoreTo (P : Program) (ops : Array Oper) (W : World) (dA : Nat) (oS : Oper) (ob0 ob1 : Obj) (a : Act) : Prop where
  wanted : oS.guard = none
  runs : ∀ g w, Below W.heap.size W w → W.heap.size ≤ g → w.heap[g]? = some ob0 →
    ∃ w', (execOp (a.put (some dA) (ptrTo g)).eval oS).run P w = .ok .skip w' ∧ Below W.heap.size W w' ∧ w'.heap[g]? = some ob1

theorem storeTo_put (hs : ∀ cs b, oS.op ≠ .select cs b) {a : Act} {dst : Option Tmp} {u : Value} (h : ∀ d, dst = some d → d ∉ oS.looksAt ops) :
    StoreTo P ops W dA oS ob0 ob1 (a.put dst u) ↔ StoreTo P ops W dA oS ob0 ob1 a := by
  have hr : ∀ g, execOp ((a.put dst u).put (some dA) (ptrTo g)).eval oS = execOp (a.put (some dA) (ptrTo g)).eval oS := by
    intro g
    cases dst with
    | none => rfl
    | some d =>
      by_cases e : d = dA
      · subst e; rw [put_put]
      · rw [Act.put_comm a u (ptrTo g) (x := some d) (y := some dA) (by intro d' hd' hc; injection hd' with h1; injection hc with h2; exact e (h1.trans h2.symm))]
        exact execOp_put (ops := ops) oS hs _ _ _ h
  constructor
  · rintro ⟨h1, h2⟩
    exact ⟨h1, fun g w a1 a2 a3 => by rw [← hr]; exact h2 g w a1 a2 a3⟩
  · rintro ⟨h1, h2⟩
    exact ⟨h1, fun g w a1 a2 a3 => by rw [hr]; exact h2 g w a1 a2 a3⟩

def Yv (P : Program) (ops : Array Oper) (W : World) (dA iA iS : Nat) (oS : Oper) (ob0 ob1 : Obj) (i : Nat) (o : Oper) (v : Value) (a : Act) : Prop :=
  (i = iA ∧ v = undef) ∨ (i = iS ∧ v = undef ∧ StoreTo P ops W dA oS ob0 ob1 a) ∨
  (i ≠ iA ∧ i ≠ iS ∧ ((Region.wanted o (yielded ops a.tmps) = true ∧ ∀ S, Closed S → ∀ w, CS W S w → o.quietAt P a (CS W S) w v) ∨ (Region.wanted o (yielded ops a.tmps) = false ∧ v = undef)))

theorem yv_put (hS : ops[iS]? = some oS) {i : Nat} {o : Oper} (hi : ops[i]? = some o) (hs : ∀ cs b, o.op ≠ .select cs b) {v u : Value} {a : Act} {dst : Option Tmp} (h : ∀ d, dst = some d → d ∉ o.looksAt ops) :
    Yv P ops W dA iA iS oS ob0 ob1 i o v (a.put dst u) ↔ Yv P ops W dA iA iS oS ob0 ob1 i o v a := by
  have hw := wanted_put (ops := ops) o a dst u h
  have he := execOp_put (ops := ops) o hs a dst u h
  unfold Yv Oper.quietAt
  rw [hw, he]
  by_cases e : i = iS
  · subst e
    have : o = oS := Option.some.inj (hi.symm.trans hS)
    subst this
    rw [storeTo_put hs h]
  · simp [e]

def anyV (P : Program) (md : Region.Mode) (ops : Array Oper) (W : World) (dA iA iS : Nat) (oS : Oper) (ob0 ob1 : Obj) (Q : Act → Prop) : Nat → Array Bool → Act → Prop
  | 0, listed, a => Region.ready md ops listed = [] ∧ (listed.getD iA false = true ∧ listed.getD iS false = true ∧ Q a)
  | f + 1, listed, a => (Region.ready md ops listed = [] → (listed.getD iA false = true ∧ listed.getD iS false = true ∧ Q a)) ∧
      ∀ i ∈ Region.ready md ops listed, ∃ o v, ops[i]? = some o ∧ Yv P ops W dA iA iS oS ob0 ob1 i o v a ∧ anyV P md ops W dA iA iS oS ob0 ob1 Q f (listed.setIfInBounds i true) (a.put o.dst v)

theorem anyV_first {Q : Act → Prop} (hS : ops[iS]? = some oS) {i : Nat} {oi : Oper} {v : Value} (hi : ops[i]? = some oi) (hsel : ∀ (j : Nat) (o : Oper) cs b, ops[j]? = some o → o.op ≠ .select cs b) :
    ∀ (f : Nat) (listed : Array Bool) (a : Act),
      (∀ j oj, ops[j]? = some oj → j ≠ i → listed.getD j true = false → (∀ e ∈ oj.after, Region.binds md e = true → e.on ≠ i) → oi.apart ops oj = true) →
      i ∈ Region.ready md ops listed → Yv P ops W dA iA iS oS ob0 ob1 i oi v a →
      anyV P md ops W dA iA iS oS ob0 ob1 Q f (listed.setIfInBounds i true) (a.put oi.dst v) → anyV P md ops W dA iA iS oS ob0 ob1 Q (f + 1) listed a := by
  intro f
  induction f with
  | zero =>
    intro listed a _ hr hy H
    refine ⟨fun h => (by rw [h] at hr; cases hr), fun j hj => ?_⟩
    by_cases hji : j = i
    · subst hji; exact ⟨oi, v, hi, hy, H⟩
    · have := ready_mono hj hji
      rw [H.1] at this
      cases this
  | succ f ih =>
    intro listed a hfree hr hy H
    refine ⟨fun h => (by rw [h] at hr; cases hr), fun j hj => ?_⟩
    by_cases hji : j = i
    · subst hji; exact ⟨oi, v, hi, hy, H⟩
    · obtain ⟨oj, vj, hoj, hyj, hrest⟩ := H.2 j (ready_mono hj hji)
      obtain ⟨hjun, oj', hoj', hall⟩ := mem_ready.1 hj
      have : oj' = oj := Option.some.inj (hoj'.symm.trans hoj)
      subst this
      have hnot : ∀ e ∈ oj'.after, Region.binds md e = true → e.on ≠ i := fun e he hb heq => by
        have h1 := hall e he hb
        rw [heq, getD_both (mem_ready.1 hr).1] at h1
        cases h1
      obtain ⟨h1, h2, h3⟩ := Oper.apart_spec (hfree j oj' hoj hji hjun hnot)
      refine ⟨oj', vj, hoj, (yv_put hS hoj (fun cs b => hsel j oj' cs b hoj) h1).1 hyj, ?_⟩
      have hfree' : ∀ k ok, ops[k]? = some ok → k ≠ i → (listed.setIfInBounds j true).getD k true = false →
          (∀ e ∈ ok.after, Region.binds md e = true → e.on ≠ i) → oi.apart ops ok = true := fun k ok hk hki hun hno => by
        refine hfree k ok hk hki ?_ hno
        by_cases hjk : j = k
        · subst hjk; exact hjun
        · rw [getD_set_ne true hjk] at hun; exact hun
      refine ih (listed.setIfInBounds j true) _ hfree' (ready_mono hr (Ne.symm hji)) ((yv_put hS hi (fun cs b => hsel i oi cs b hi) h3).2 hy) ?_
      rw [Array.setIfInBounds_comm _ _ hji, ← Act.put_comm a v vj h2]
      exact hrest

def wpG (P : Program) (ops : Array Oper) (W : World) (dA iA iS : Nat) (oS : Oper) (ob0 ob1 : Obj) (Q : Act → Prop) : Nat → List Oper → Act → Prop
  | _, [], a => Q a
  | k, o :: rest, a => ∃ v, Yv P ops W dA iA iS oS ob0 ob1 k o v a ∧ wpG P ops W dA iA iS oS ob0 ob1 Q (k + 1) rest (a.put o.dst v)

theorem getD_self {listed : Array Bool} {i : Nat} (h : listed.getD i true = false) : (listed.setIfInBounds i true).getD i false = true := by
  rcases Nat.lt_or_ge i listed.size with h' | h'
  · simp [h']
  · simp [Array.getElem?_eq_none h'] at h

theorem anyV_lex {Q : Act → Prop} (hS : ops[iS]? = some oS) (hAlt : iA < ops.size) (hSlt : iS < ops.size) (hs : Region.noSelect ops = true) : ∀ (l : List Oper) (k : Nat) (listed : Array Bool) (a : Act), (∀ j, l[j]? = ops[k + j]?) →
    (∀ j, j < k → listed.getD j false = true) →
    Region.lexFrom md ops l.length k listed = true → wpG P ops W dA iA iS oS ob0 ob1 Q k l a → anyV P md ops W dA iA iS oS ob0 ob1 Q l.length listed a
  | [], k, listed, a, hl, hd, hB, h => by
    have h0 : ops[k]? = none := by simpa using (hl 0).symm
    have hk : ops.size ≤ k := by simpa using h0
    exact ⟨by simpa [Region.lexFrom] using hB, hd _ (by omega), hd _ (by omega), h⟩
  | o :: l, k, listed, a, hl, hd, hB, h => by
    have h0 : ops[k]? = some o := by simpa using (hl 0).symm
    simp only [List.length_cons, Region.lexFrom, Bool.and_eq_true] at hB
    obtain ⟨⟨hr, hf⟩, hB'⟩ := hB
    obtain ⟨v, hy, hK⟩ := h
    have hr' : k ∈ Region.ready md ops listed := by simpa using hr
    refine anyV_first hS h0 (Region.noSelect_spec hs) l.length listed a (Region.free_spec h0 hf) hr' hy
      (anyV_lex hS hAlt hSlt hs l (k + 1) _ _ (fun j => by have := hl (j + 1); simpa [Nat.add_assoc, Nat.add_comm 1 j] using this) (fun j hj => ?_) hB' hK)
    by_cases e : j = k
    · subst e; exact getD_self (mem_ready.1 hr').1
    · exact getD_set_true (hd j (by omega))

def Inv (W : World) (dA iA iS : Nat) (ob0 ob1 : Obj) (listed : Array Bool) (a a' : Act) (w : World) : Prop :=
  (listed.getD iA false = false ∧ listed.getD iS false = false ∧ a' = a ∧ Below W.heap.size W w) ∨
  (listed.getD iA false = true ∧ ∃ g, W.heap.size ≤ g ∧ a' = a.put (some dA) (ptrTo g) ∧ Below W.heap.size W w ∧ w.heap[g]? = some (if listed.getD iS false = true then ob1 else ob0))

theorem closed_block (g : Nat) (o : Obj) : Closed (fun w => w.heap[g]? = some o) := fun w w' h hb => by
  have h : w.heap[g]? = some o := h
  have hlt : g < w.heap.size := by
    rcases Nat.lt_or_ge g w.heap.size with h1 | h1
    · exact h1
    · rw [Array.getElem?_eq_none h1] at h; cases h
  show w'.heap[g]? = some o
  rw [hb.block g hlt]; exact h

theorem wp_quietAt {Q' : Exit → Act → World → Prop} {S : World → Prop} {o : Oper} {a a' : Act} {w : World} {v : Value} {K : Act → World → Prop} (he : execOp a'.eval o = execOp a.eval o)
    (hq : o.quietAt P a (CS W S) w v) (hw : CS W S w) (h : ∀ w', CS W S w' → K (a'.put o.dst v) w') : o.wp P a' w K Q' := by
  unfold Oper.quietAt at hq
  unfold Oper.wp
  rw [he]
  generalize (execOp a.eval o).run P w = r at *
  cases r with
  | ok n w' =>
    cases n <;> simp only [Oper.quietUpon] at hq <;> simp only [Oper.upon]
    case value u =>
      obtain ⟨e1, e2⟩ := hq
      rw [e1, e2]; exact h _ hw
    case skip =>
      obtain ⟨e1, e2⟩ := hq
      rw [e1, ← e2]; exact h _ hw
    case enter f args =>
      obtain ⟨e1, hc⟩ := hq
      rw [e1]
      exact hc.mono fun e w'' ⟨he', hw''⟩ => by subst he'; exact h _ hw''
  | halt x w' => simp only [Oper.quietUpon] at hq

theorem wpAny_of_anyV {Q : Act → Prop} {Q' : Exit → Act → World → Prop} (hA : ops[iA]? = some oA) (hAd : oA.dst = some dA) (hAg : oA.guard = none)
    (hArun : ∀ (a : Act) w, (execOp a.eval oA).run P w = .ok (.value (ptrTo w.heap.size)) (w.alloc ob0))
    (hS : ops[iS]? = some oS) (hSd : oS.dst = none) (hne : iA ≠ iS) (hwait : ∃ e ∈ oS.after, Region.binds md e = true ∧ e.on = iA)
    (hap : ∀ i o, ops[i]? = some o → i ≠ iA → i ≠ iS → dA ∉ o.looksAt ops ∧ o.dst ≠ some dA) (hsel : ∀ (j : Nat) (o : Oper) cs b, ops[j]? = some o → o.op ≠ .select cs b)
    (hQ : ∀ a g w, Below W.heap.size W w → W.heap.size ≤ g → w.heap[g]? = some ob1 → Q a → Q' .normal (a.put (some dA) (ptrTo g)) w) :
    ∀ (f : Nat) (listed : Array Bool) (a a' : Act) (w : World), Inv W dA iA iS ob0 ob1 listed a a' w → anyV P md ops W dA iA iS oS ob0 ob1 Q f listed a → wpAny P md ops Q' f listed a' w := by
  have fin : ∀ {listed : Array Bool} {a a' : Act} {w : World}, Inv W dA iA iS ob0 ob1 listed a a' w → (listed.getD iA false = true ∧ listed.getD iS false = true ∧ Q a) → Q' .normal a' w := by
    rintro listed a a' w hI ⟨h1, h2, h3⟩
    rcases hI with ⟨h, _⟩ | ⟨_, g, hg, rfl, hb, ho⟩
    · rw [h1] at h; cases h
    · rw [if_pos h2] at ho; exact hQ _ _ _ hb hg ho h3
  intro f
  induction f with
  | zero => intro listed a a' w hI h; exact ⟨h.1, fin hI h.2⟩
  | succ f ih =>
    intro listed a a' w hI h
    refine ⟨fun h0 => fin hI (h.1 h0), fun i hi => ?_⟩
    obtain ⟨o, v, ho, hy, hrest⟩ := h.2 i hi
    obtain ⟨hun, o', ho', hall⟩ := mem_ready.1 hi
    have : o' = o := Option.some.inj (ho'.symm.trans ho)
    subst this
    unfold wpOp
    simp only [ho]
    rcases hy with ⟨rfl, rfl⟩ | ⟨rfl, rfl, hst⟩ | ⟨n1, n2, hy⟩
    · -- the variable
      have : o' = oA := Option.some.inj (ho.symm.trans hA)
      subst this
      rw [if_pos (by simp [Region.wanted, hAg])]
      refine .inl ?_
      unfold Oper.wp
      rw [hArun]
      show wpAny P md ops Q' f (listed.setIfInBounds i true) (a'.put o'.dst (ptrTo w.heap.size)) (w.alloc ob0)
      rcases hI with ⟨_, h2, rfl, hb⟩ | ⟨h1, _⟩
      · refine ih _ _ _ _ (.inr ⟨getD_self hun, w.heap.size, hb.size, ?_, hb.alloc hb.size _, ?_⟩) hrest
        · rw [hAd, put_put]
        · rw [getD_set_ne false hne, h2]; exact heap_alloc_new w _
      · rw [getD_both hun] at h1; cases h1
    · -- the store
      have : o' = oS := Option.some.inj (ho.symm.trans hS)
      subst this
      obtain ⟨e, he, hb1, hb2⟩ := hwait
      have hdone := hall e he hb1
      rw [hb2] at hdone
      rcases hI with ⟨h1, _⟩ | ⟨h1, g, hg, rfl, hb, hob⟩
      · rw [hdone] at h1; cases h1
      · rw [if_neg (by rw [getD_both hun]; simp)] at hob
        obtain ⟨w', hr, hb', hob'⟩ := hst.runs g w hb hg hob
        have hrest' : wpAny P md ops Q' f (listed.setIfInBounds i true) (a.put (some dA) (ptrTo g)) w' := by
          rw [hSd] at hrest
          refine ih _ _ _ _ (.inr ⟨getD_set_true h1, g, hg, rfl, hb', ?_⟩) hrest
          rw [if_pos (getD_self hun)]; exact hob'
        rw [if_pos (by simp [Region.wanted, hst.wanted])]
        refine .inl ?_
        unfold Oper.wp
        rw [hr]
        show wpAny P md ops Q' f (listed.setIfInBounds i true) ((a.put (some dA) (ptrTo g)).put o'.dst undef) w'
        rw [hSd]; exact hrest'
    · obtain ⟨hlook, hdst⟩ := hap i o' ho n1 n2
      have hlook' : ∀ (_ : Nat) d, (some dA : Option Tmp) = some d → d ∉ o'.looksAt ops := fun _ d hd => by injection hd with hd; subst hd; exact hlook
      -- whatever has been done of the variable is a class that is kept
      have key : ∀ (S : World → Prop), Closed S → S w → Below W.heap.size W w → (execOp a'.eval o' = execOp a.eval o') → (Region.wanted o' (yielded ops a'.tmps) = Region.wanted o' (yielded ops a.tmps)) →
          (∀ w', Below W.heap.size W w' → S w' → wpAny P md ops Q' f (listed.setIfInBounds i true) (a'.put o'.dst v) w') →
          (if Region.wanted o' (yielded ops a'.tmps) = true then Oper.wp P o' a' w (wpAny P md ops Q' f (listed.setIfInBounds i true)) Q' ∨ (o'.asks P a' w ∧ LetsOut Q') else wpAny P md ops Q' f (listed.setIfInBounds i true) (a'.put o'.dst undef) w) := by
        intro S hS hSw hb he hw hk
        rw [hw]
        rcases hy with ⟨h1, h2⟩ | ⟨h1, h2⟩
        · rw [if_pos h1]
          exact .inl (wp_quietAt he (h2 S hS w (cs_iff.2 ⟨hb, hSw⟩)) (cs_iff.2 ⟨hb, hSw⟩) fun w' hw' => hk w' (cs_iff.1 hw').1 (cs_iff.1 hw').2)
        · rw [h1, if_neg (by simp)]; subst h2; exact hk w hb hSw
      have ne1 : (listed.setIfInBounds i true).getD iA false = listed.getD iA false := getD_set_ne false n1
      have ne2 : (listed.setIfInBounds i true).getD iS false = listed.getD iS false := getD_set_ne false n2
      rcases hI with ⟨h1, h2, rfl, hb⟩ | ⟨h1, g, hg, rfl, hb, hob⟩
      · exact key (fun _ => True) (fun _ _ _ _ => trivial) trivial hb rfl rfl fun w' hb' _ => ih _ _ _ _ (.inl ⟨by rw [ne1]; exact h1, by rw [ne2]; exact h2, rfl, hb'⟩) hrest
      · refine key (fun x => x.heap[g]? = some (if listed.getD iS false = true then ob1 else ob0)) (closed_block g _) hob hb (execOp_put (ops := ops) o' (fun cs b => hsel i o' cs b ho) _ _ _ (hlook' g)) (wanted_put (ops := ops) o' _ _ _ (hlook' g)) fun w' hb' hob' => ih _ _ _ _ (.inr ⟨by rw [ne1]; exact h1, g, hg, ?_, hb', by rw [ne2]; exact hob'⟩) hrest
        exact Act.put_comm a (ptrTo g) v (x := some dA) (y := o'.dst) (fun d hd hc => by injection hd with hd; subst hd; exact hdst hc)

/-- What no other operation of the region may look at, or write: the variable's slot. -/
def varFree (ops : Array Oper) (dA iA iS : Nat) : Bool := (List.range ops.size).all fun i => i == iA || i == iS || match ops[i]? with
  | some o => !(o.looksAt ops).contains dA && o.dst != some dA
  | none => true
theorem varFree_spec (h : varFree ops dA iA iS = true) (i : Nat) (o : Oper) (ho : ops[i]? = some o) (n1 : i ≠ iA) (n2 : i ≠ iS) : dA ∉ o.looksAt ops ∧ o.dst ≠ some dA := by
  have h1 := List.all_eq_true.1 h i (List.mem_range.2 (Array.getElem?_eq_some_iff.1 ho).1)
  simpa [ho, n1, n2] using h1
def varWaits (md : Region.Mode) (oS : Oper) (iA : Nat) : Bool := oS.after.any fun e => Region.binds md e && e.on == iA
theorem varWaits_spec (h : varWaits md oS iA = true) : ∃ e ∈ oS.after, Region.binds md e = true ∧ e.on = iA := by
  obtain ⟨e, he, hb⟩ := Array.any_eq_true'.1 h
  simp only [Bool.and_eq_true, beq_iff_eq] at hb
  exact ⟨e, he, hb.1, hb.2⟩

/-- THE LAW. -/
theorem wp_region_var {id : Nat} {Q : Exit → Act → World → Prop} {a : Act} {l : List Oper} (iA iS dA : Nat) (oA oS : Oper) (ob0 ob1 : Obj) (hm : P.follows .mixedOrders = true) (hB : Region.lexB .any l.toArray = true)
    (hA : l.toArray[iA]? = some oA) (hAd : oA.dst = some dA) (hAg : oA.guard = none)
    (hS : l.toArray[iS]? = some oS) (hSd : oS.dst = none) (hne : iA ≠ iS) (hwait : varWaits .any oS iA = true) (hap : varFree l.toArray dA iA iS = true)
    (hArun : ∀ (a : Act) w, (execOp a.eval oA).run P w = .ok (.value (ptrTo w.heap.size)) (w.alloc ob0))
    (h : wpG P l.toArray W dA iA iS oS ob0 ob1 (fun a' => ∀ g w', Below W.heap.size W w' → W.heap.size ≤ g → w'.heap[g]? = some ob1 → Q .normal (a'.put (some dA) (ptrTo g)) w') 0 l a) :
    (Code.region id l.toArray true).wp P Q a W := by
  simp only [Region.lexB, Bool.and_eq_true] at hB
  refine wp_region_any hm (wpAny_of_anyV (W := W) (Q := fun a' => ∀ g w', Below W.heap.size W w' → W.heap.size ≤ g → w'.heap[g]? = some ob1 → Q .normal (a'.put (some dA) (ptrTo g)) w') hA hAd hAg hArun hS hSd hne (varWaits_spec hwait) (varFree_spec hap) (Region.noSelect_spec hB.1) (fun a g w' hb hg ho hq => hq g w' hb hg ho) _ _ _ _ _ (.inl ⟨getD_replicate_false _ _, getD_replicate_false _ _, rfl, ⟨rfl, rfl, rfl, Nat.le_refl _, fun _ _ => rfl⟩⟩) ?_)
  have := anyV_lex (P := P) (md := .any) hS (Array.getElem?_eq_some_iff.1 hA).1 (Array.getElem?_eq_some_iff.1 hS).1 hB.1 l.toArray.toList 0 (Array.replicate l.toArray.size false) a (by simp) (fun j hj => by omega) (by simpa using hB.2) (by simpa using h)
  simpa using this

section
variable {Q : Act → Prop} {k : Nat} {o : Oper} {rest : List Oper} {a : Act}
theorem wpG_nil (h : Q a) : wpG P ops W dA iA iS oS ob0 ob1 Q k [] a := h
theorem wpG_var (hk : k = iA) (h : wpG P ops W dA iA iS oS ob0 ob1 Q (k + 1) rest (a.put o.dst undef)) : wpG P ops W dA iA iS oS ob0 ob1 Q k (o :: rest) a := ⟨undef, .inl ⟨hk, rfl⟩, h⟩
theorem wpG_store (hk : k = iS) (hd : o.dst = none) (hs : StoreTo P ops W dA oS ob0 ob1 a) (h : wpG P ops W dA iA iS oS ob0 ob1 Q (k + 1) rest a) : wpG P ops W dA iA iS oS ob0 ob1 Q k (o :: rest) a :=
  ⟨undef, .inr (.inl ⟨hk, rfl, hs⟩), by rw [hd]; exact h⟩
theorem wpG_skip (h1 : k ≠ iA) (h2 : k ≠ iS) (hw : Region.wanted o (yielded ops a.tmps) = false) (h : wpG P ops W dA iA iS oS ob0 ob1 Q (k + 1) rest (a.put o.dst undef)) : wpG P ops W dA iA iS oS ob0 ob1 Q k (o :: rest) a :=
  ⟨undef, .inr (.inr ⟨h1, h2, .inr ⟨hw, rfl⟩⟩), h⟩
theorem wpG_quiet {d : Nat} (h1 : k ≠ iA) (h2 : k ≠ iS) (hw : Region.wanted o (yielded ops a.tmps) = true) (hd : o.dst = some d) (hlt : d < a.tmps.size)
    (hh : ∃ a1, (∀ S, Closed S → ∀ K : Act → Prop, K a1 → o.quiet P a (fun w' => ∃ p : RegS W S, w' = grow (redrawn W p.d) p.os) K) ∧ wpG P ops W dA iA iS oS ob0 ob1 Q (k + 1) rest a1) :
    wpG P ops W dA iA iS oS ob0 ob1 Q k (o :: rest) a := by
  obtain ⟨a1, h, hr⟩ := hh
  obtain ⟨v, _, hv⟩ := h (fun _ => True) (fun _ _ _ _ => trivial) (fun x => x = a1) rfl
  refine ⟨v, .inr (.inr ⟨h1, h2, .inl ⟨hw, fun S hS w hw' => ?_⟩⟩), by rw [hv]; exact hr⟩
  obtain ⟨v', hq, hv'⟩ := h S hS (fun x => x = a1) rfl
  have e : v' = v := by
    have h3 : a.put o.dst v' = a.put o.dst v := hv'.trans hv.symm
    rw [hd] at h3
    have h4 := congrArg (fun x : Act => x.tmps[d]?) h3
    simpa [Act.put, hlt] using h4
  subst e
  exact hq w hw'
end
end
end Go.Proofs.YtigdegjhajdmhaaDoor
