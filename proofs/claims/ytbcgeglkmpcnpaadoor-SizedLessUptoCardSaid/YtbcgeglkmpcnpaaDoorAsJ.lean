/-
  A long 'a && b && ..' whose way is decided: what is left of its operations is passed over at once, by reckoning over the operations alone (no frame is written out): each is guarded by what is false or was passed over itself, or hands a false on.
-/
import Derived.WalkKit
import Derived.Lib.Hide
namespace Go.Proofs.YtbcgeglkmpcnpaaDoor
open Go Go.RowKit
/-- What is known of slots: (slot, true): it holds 'false'; (slot, false): it holds nothing. -/
def fkRun (lo hi : Nat) (ops : Array Oper) : List Oper → List (Nat × Bool) → Option (List (Nat × Bool))
  | [], K => some K
  | o :: rest, K =>
    match o.dst with
    | none => none
    | some d =>
      if Nat.ble lo d && Nat.blt d hi then
        match o.guard with
        | some (j, want) =>
          match (ops[j]?).bind (·.dst) with
          | none => none
          | some s => match K.lookup s with
            | none => none
            | some b => if b && !want then none else fkRun lo hi ops rest ((d, false) :: K)
        | none => match o.op with
          | .move (.tmp t) => match K.lookup t with
            | some true => fkRun lo hi ops rest ((d, true) :: K)
            | _ => none
          | .pick (.tmp c) _ (.const (.bool false)) => match K.lookup c with
            | some true => fkRun lo hi ops rest ((d, true) :: K)
            | _ => none
          | _ => none
      else none
def FInv (K : List (Nat × Bool)) (t : Array Value) : Prop := ∀ s b, K.lookup s = some b → t.getD s undef = if b then .bool false else undef
theorem FInv.one {s : Nat} {t : Array Value} (h : t.getD s undef = .bool false) : FInv [(s, true)] t := by
  intro s' b hb
  simp only [List.lookup] at hb
  split at hb
  · rename_i e
    have : s' = s := by simpa using e
    subst this
    cases hb
    exact h
  · cases hb
theorem FInv.cons {K : List (Nat × Bool)} {t : Array Value} (h : FInv K t) {d : Nat} (hd : d < t.size) (b : Bool) : FInv ((d, b) :: K) (t.setIfInBounds d (if b then .bool false else undef)) := by
  intro s c hc
  simp only [List.lookup] at hc
  split at hc
  · rename_i e
    have : s = d := by simpa using e
    subst this
    cases hc
    simp [Array.getD, hd]
  · rename_i e
    have hne : s ≠ d := by intro q; subst q; simp at e
    have := h s c hc
    simp only [Array.getD_eq_getD_getElem?] at this ⊢
    rw [Array.getElem?_setIfInBounds_ne (Ne.symm hne)]
    exact this
theorem fk_not_wanted {ops : Array Oper} {K : List (Nat × Bool)} {t : Array Value} (h : FInv K t) {o : Oper} {j s : Nat} {want b : Bool} (hg : o.guard = some (j, want)) (hs : (ops[j]?).bind (·.dst) = some s) (hl : K.lookup s = some b) (hb : (b && !want) = false) : Region.wanted o (yielded ops t) = false := by
  have := h s b hl
  unfold Region.wanted
  rw [hg]
  simp only [yielded, hs, Option.bind_some]
  rw [Array.getD_eq_getD_getElem?] at this
  cases hq : t[s]? with
  | none => rfl
  | some v =>
    rw [hq] at this
    simp only [Option.getD_some] at this
    subst this
    cases b with
    | false => rfl
    | true => cases want with
      | true => rfl
      | false => simp at hb
theorem fk_sound {P : Program} {ops : Array Oper} {Q : Exit → Act → World → Prop} (lo hi : Nat) (R : List Oper) : ∀ (l : List Oper) (K K' : List (Nat × Bool)) (a : Act) (w : World), fkRun lo hi ops l K = some K' → FInv K a.tmps → a.tmps.size = hi →
    (∀ a' : Act, a'.tmps.size = hi → a'.defers = a.defers → (∀ i, i < lo → a'.tmps[i]? = a.tmps[i]?) → FInv K' a'.tmps → wpList P ops Q R a' w) → wpList P ops Q (l ++ R) a w
  | [], K, K', a, w, hr, hi', hs, hQ => by
    simp only [fkRun, Option.some.injEq] at hr
    subst hr
    exact hQ a hs rfl (fun _ _ => rfl) hi'
  | o :: rest, K, K', a, w, hr, hi', hs, hQ => by
    rw [fkRun] at hr
    rw [List.cons_append]
    split at hr
    · cases hr
    rename_i d hd
    split at hr
    case isFalse => cases hr
    rename_i hb
    simp only [Bool.and_eq_true, Nat.ble_eq, Nat.blt_eq] at hb
    have hdt : d < a.tmps.size := Nat.lt_of_lt_of_eq hb.2 hs.symm
    have step : ∀ b, FInv ((d, b) :: K) (a.put (some d) (if b then .bool false else undef)).tmps → fkRun lo hi ops rest ((d, b) :: K) = some K' → wpList P ops Q (rest ++ R) (a.put (some d) (if b then .bool false else undef)) w := fun b hI hR =>
      fk_sound lo hi R rest _ K' _ w hR hI (by simp [Act.put, hs]) (fun a' h1 h2 h3 h4 => hQ a' h1 h2 (fun i hi2 => by
        rw [h3 i hi2]
        simp only [Act.put]
        rw [Array.getElem?_setIfInBounds_ne (fun q => absurd hi2 (by rw [← q]; exact Nat.not_lt.2 hb.1))]) h4)
    have hc := fun b => FInv.cons hi' hdt b
    split at hr
    · rename_i j want hg
      split at hr
      · cases hr
      rename_i s hsl
      split at hr
      · cases hr
      rename_i b hl
      split at hr
      · cases hr
      rename_i hbw
      refine wpList_skip (fk_not_wanted hi' hg hsl hl (by simpa using hbw)) ?_
      rw [hd]
      exact step false (hc false) hr
    · rename_i hg
      split at hr
      · rename_i t ho
        split at hr
        · rename_i hl
          refine wpList_plain hg fun K2 hK => ?_
          unfold Oper.wp
          simp only [execOp, ho]
          have hv : a.eval (.tmp t) = .bool false := hi' t true hl
          have := step true (hc true) hr
          rw [← hd] at this
          simp only [hv]
          exact hK _ _ this
        · cases hr
      · rename_i c x ho
        split at hr
        · rename_i hl
          refine wpList_plain hg fun K2 hK => ?_
          unfold Oper.wp
          have hv : a.eval (.tmp c) = .bool false := hi' c true hl
          have := step true (hc true) hr
          rw [← hd] at this
          simp only [execOp, ho, hv]
          exact hK _ _ this
        · cases hr
      · cases hr
/-- The frame behind it, written out: what lies below 'lo' is as it was; what the operations laid is f's, and 'last' holds false. -/
theorem fk_exit {P : Program} {ops : Array Oper} {Q : Exit → Act → World → Prop} {l : List Oper} {L : List Value} {D : List Deferred} {w : World} (lo hi s last m : Nat) (hL : L.length = hi) (hs : (L.toArray).getD s undef = .bool false)
    (hrun : (fkRun lo hi ops (l.take m) [(s, true)]).map (fun K => K.lookup last) = some (some true)) (hlo : lo ≤ hi)
    (h : ∀ f : Nat → Value, f last = .bool false → wpList P ops Q (l.drop m) ⟨(L.take lo ++ (List.range' lo (hi - lo)).map f).toArray, D⟩ w) : wpList P ops Q l ⟨L.toArray, D⟩ w := by
  cases hr : fkRun lo hi ops (l.take m) [(s, true)] with
  | none => rw [hr] at hrun; cases hrun
  | some K' =>
    rw [hr] at hrun
    simp only [Option.map_some, Option.some.injEq] at hrun
    rw [← List.take_append_drop m l]
    refine fk_sound lo hi (l.drop m) (l.take m) _ K' _ w hr (FInv.one hs) (by simpa using hL) (fun a' h1 h2 h3 h4 => ?_)
    obtain ⟨t, D'⟩ := a'
    simp only at h1 h2 h3 h4
    subst h2
    have := h (fun i => t.getD i undef) (h4 last true hrun)
    refine cast ?_ this
    congr 2
    apply Array.ext'
    apply List.ext_getElem?
    intro i
    by_cases hi2 : i < lo
    · have e := h3 i hi2
      simp only [List.getElem?_toArray] at e
      rw [List.getElem?_append_left (by simp; omega), List.getElem?_take_of_lt hi2]
      exact e.symm.trans Array.getElem?_toList.symm
    · have hlen : (L.take lo).length = lo := by simp; omega
      rw [List.getElem?_append_right (by omega), hlen]
      refine Eq.trans ?_ Array.getElem?_toList.symm
      by_cases hi3 : i < hi
      · rw [List.getElem?_map, List.getElem?_range' (by omega)]
        simp only [Option.map_some, Array.getD_eq_getD_getElem?]
        rw [show lo + 1 * (i - lo) = i by omega]
        rw [Array.getElem?_eq_getElem (by omega)]
        rfl
      · rw [List.getElem?_eq_none (by simp; omega), Array.getElem?_eq_none (by omega)]
end Go.Proofs.YtbcgeglkmpcnpaaDoor
