/-
  queue: Push, Pop, Take as functions; the laws' live, the chapter's example.
-/
import Derived.Test.YtchboknncfmcpaaQaH
import Derived.Test.YtchboknncfmcpaaQaK
import Derived.Test.YtchboknncfmcpaaQaL
import Derived.Test.YtchboknncfmcpaaQaT
namespace Go.Proofs.Ytchboknncfmcpaa
open Go Go.RowKit
set_option linter.unusedVariables false
set_option linter.unusedSimpArgs false
open Go.Sort
abbrev SQ := List EV × Int × Int × Int
def pushS (l : List EV) (now dl nx t d s v : Int) : SQ := if pushF now dl nx l t d s = 0 then (insE ⟨t, d, nx, s, v⟩ l, now, dl, nx + 1) else ([], 0, 0, 0)
def popS (l : List EV) (now dl nx : Int) : SQ := if popF now dl nx l = 0 then (match l with | [] => ([], 0, 0, 0) | x :: r => (r, x.t, x.d, nx)) else ([], 0, 0, 0)
def popX (l : List EV) (now dl nx : Int) : EV := if popF now dl nx l = 0 then (match l with | [] => ⟨0, 0, 0, 0, 0⟩ | x :: _ => x) else ⟨0, 0, 0, 0, 0⟩
def takeN (l : List EV) : Nat := match l with | [] => 0 | x :: r => lead (fun e => togE e x) (x :: r)
def takeS (l : List EV) (now dl nx : Int) : SQ := if popF now dl nx l = 0 then (l.drop (takeN l), ((l[takeN l - 1]?).getD ⟨0, 0, 0, 0, 0⟩).t, ((l[takeN l - 1]?).getD ⟨0, 0, 0, 0, 0⟩).d, nx) else ([], 0, 0, 0)
def takeL (l : List EV) (now dl nx : Int) : List EV := if popF now dl nx l = 0 then l.take (takeN l) else []
/-- A call that hands back a queue, and an error. -/
def QRes (S : SQ) (err : Int) (w : World) (e : Ending) (w' : World) : Prop :=
  Below w.heap.size w w' ∧ ∃ a c, e = .returned (.tuple #[.agg #[.slice a S.1.length c, .int .i64 S.2.1, .int .i64 S.2.2.1, .int .i64 S.2.2.2], .int .i64 err]) ∧ EvIn w'.heap.size w' S.1 a ∧ (a = none → c = 0) ∧ S.1.length ≤ c
def XRes (S : SQ) (x : EV) (err : Int) (w : World) (e : Ending) (w' : World) : Prop :=
  Below w.heap.size w w' ∧ ∃ a c, e = .returned (.tuple #[.agg #[.slice a S.1.length c, .int .i64 S.2.1, .int .i64 S.2.2.1, .int .i64 S.2.2.2], .agg #[.int .i64 x.t, .int .i64 x.d, .int .i64 x.no, .int .i64 x.sg, .int .u64 x.v], .int .i64 err]) ∧ EvIn w'.heap.size w' S.1 a ∧ (a = none → c = 0) ∧ S.1.length ≤ c
def LRes (S : SQ) (m : List EV) (err : Int) (w : World) (e : Ending) (w' : World) : Prop :=
  Below w.heap.size w w' ∧ ∃ a c a2 c2, e = .returned (.tuple #[.agg #[.slice a S.1.length c, .int .i64 S.2.1, .int .i64 S.2.2.1, .int .i64 S.2.2.2], .slice a2 m.length c2, .int .i64 err]) ∧ EvIn w'.heap.size w' S.1 a ∧ (a = none → c = 0) ∧ S.1.length ≤ c ∧ EvIn w'.heap.size w' m a2 ∧ (a2 = none → c2 = 0) ∧ m.length ≤ c2
theorem push_res {l : List EV} {now dl nx t d s v : Int} {w : World} {f : Nat} {args : Array Value} (h : Calls Try.prog f args w (PushPost l now dl nx t d s v w)) : Calls Try.prog f args w (QRes (pushS l now dl nx t d s v) (pushF now dl nx l t d s) w) := by
  refine h.mono ?_
  rintro e w' ⟨hb, ⟨h1, rfl⟩ | ⟨h1, a, c, rfl, h2, h3, h4, _⟩⟩
  · refine ⟨hb, none, 0, ?_⟩
    rw [pushS, if_neg h1]
    exact ⟨rfl, trivial, fun _ => rfl, Nat.le_refl _⟩
  · refine ⟨hb, a, c, ?_⟩
    rw [pushS, if_pos h1, h1]
    exact ⟨by rw [insE_len], h2, h3, by rw [insE_len]; exact h4⟩
theorem pop_res {l : List EV} {now dl nx : Int} {w : World} {f : Nat} {args : Array Value} (h : Calls Try.prog f args w (PopPost l now dl nx w)) : Calls Try.prog f args w (XRes (popS l now dl nx) (popX l now dl nx) (popF now dl nx l) w) := by
  refine h.mono ?_
  rintro e w' ⟨hb, ⟨h1, rfl⟩ | ⟨h1, t, d, n1, s, v, r, a, c, rfl, rfl, h2, h3, h4, _⟩⟩
  · refine ⟨hb, none, 0, ?_⟩
    have e1 : popS l now dl nx = ([], 0, 0, 0) := by unfold popS; rw [if_neg h1]
    have e2 : popX l now dl nx = ⟨0, 0, 0, 0, 0⟩ := by unfold popX; rw [if_neg h1]
    rw [e1, e2]
    exact ⟨rfl, trivial, fun _ => rfl, Nat.le_refl _⟩
  · refine ⟨hb, a, c, ?_⟩
    have e1 : popS (⟨t, d, n1, s, v⟩ :: r) now dl nx = (r, t, d, nx) := by unfold popS; rw [if_pos h1]
    have e2 : popX (⟨t, d, n1, s, v⟩ :: r) now dl nx = ⟨t, d, n1, s, v⟩ := by unfold popX; rw [if_pos h1]
    rw [e1, e2, h1]
    exact ⟨rfl, h2, h3, h4⟩
theorem take_res {l : List EV} {now dl nx : Int} {w : World} {f : Nat} {args : Array Value} (h : Calls Try.prog f args w (TakePost l now dl nx w)) : Calls Try.prog f args w (LRes (takeS l now dl nx) (takeL l now dl nx) (popF now dl nx l) w) := by
  refine h.mono ?_
  rintro e w' ⟨hb, ⟨h1, rfl⟩ | ⟨h1, x, r, m, a, c, a2, c2, hm0, hml, hl, hm, rfl, h2, h3, h4, h5, h6, h7⟩⟩
  · refine ⟨hb, none, 0, none, 0, ?_⟩
    rw [takeS, takeL, if_neg h1, if_neg h1]
    exact ⟨rfl, trivial, fun _ => rfl, Nat.le_refl _, trivial, fun _ => rfl, Nat.le_refl _⟩
  · refine ⟨hb, a, c, a2, c2, ?_⟩
    have hn : takeN l = m := by rw [hm]; subst hl; rfl
    rw [takeS, takeL, if_pos h1, if_pos h1, h1, hn]
    have e1 : (l.drop m).length = l.length - m := List.length_drop
    have e2 : (l.take m).length = m := by rw [List.length_take]; omega
    have e3 : (l[m - 1]?).getD ⟨0, 0, 0, 0, 0⟩ = l[m - 1]'(by omega) := by rw [List.getElem?_eq_getElem (by omega)]; rfl
    simp only [e1, e2, e3]
    exact ⟨trivial, h2, h3, h4, h5, h6, h7⟩
set_option maxHeartbeats 8000000 in
set_option maxRecDepth 100000 in
theorem live_p1 (a : Option Addr) (c : Nat) (hac : a = none → c = 0) (hlc : ([] : List EV).length ≤ c) (w : World) (hin : EvIn w.heap.size w [] a) : Calls Try.prog 11 #[.agg #[.slice a 0 c, .int .i64 0, .int .i64 0, .int .i64 0], .int .i64 2, .int .i64 0, .int .i64 5, .int .u64 50] w fun e w' => Below w.heap.size w w' ∧ ∃ a' c', e = .returned (.tuple #[.agg #[.slice a' 1 c', .int .i64 0, .int .i64 0, .int .i64 1], .int .i64 0]) ∧ EvIn w'.heap.size w' [⟨2, 0, 0, 5, 50⟩] a' ∧ (a' = none → c' = 0) ∧ ([⟨2, 0, 0, 5, 50⟩] : List EV).length ≤ c' := by
  have h := push_res (push_any a c [] (by decide) hac hlc 0 0 0 2 0 5 50 (by decide) w.heap.size w (Nat.le_refl _) hin)
  have e1 : pushS [] 0 0 0 2 0 5 50 = ([⟨2, 0, 0, 5, 50⟩], 0, 0, 1) := by decide
  have e2 : pushF 0 0 0 [] 2 0 5 = 0 := by decide
  rw [e1, e2] at h
  exact h
set_option maxHeartbeats 8000000 in
set_option maxRecDepth 100000 in
theorem live_p2 (a : Option Addr) (c : Nat) (hac : a = none → c = 0) (hlc : ([⟨2, 0, 0, 5, 50⟩] : List EV).length ≤ c) (w : World) (hin : EvIn w.heap.size w [⟨2, 0, 0, 5, 50⟩] a) : Calls Try.prog 11 #[.agg #[.slice a 1 c, .int .i64 0, .int .i64 0, .int .i64 1], .int .i64 1, .int .i64 1, .int .i64 6, .int .u64 60] w fun e w' => Below w.heap.size w w' ∧ ∃ a' c', e = .returned (.tuple #[.agg #[.slice a' 2 c', .int .i64 0, .int .i64 0, .int .i64 2], .int .i64 0]) ∧ EvIn w'.heap.size w' [⟨1, 1, 1, 6, 60⟩, ⟨2, 0, 0, 5, 50⟩] a' ∧ (a' = none → c' = 0) ∧ ([⟨1, 1, 1, 6, 60⟩, ⟨2, 0, 0, 5, 50⟩] : List EV).length ≤ c' := by
  have h := push_res (push_any a c [⟨2, 0, 0, 5, 50⟩] (by decide) hac hlc 0 0 1 1 1 6 60 (by decide) w.heap.size w (Nat.le_refl _) hin)
  have e1 : pushS [⟨2, 0, 0, 5, 50⟩] 0 0 1 1 1 6 60 = ([⟨1, 1, 1, 6, 60⟩, ⟨2, 0, 0, 5, 50⟩], 0, 0, 2) := by decide
  have e2 : pushF 0 0 1 [⟨2, 0, 0, 5, 50⟩] 1 1 6 = 0 := by decide
  rw [e1, e2] at h
  exact h
set_option maxHeartbeats 8000000 in
set_option maxRecDepth 100000 in
theorem live_p3 (a : Option Addr) (c : Nat) (hac : a = none → c = 0) (hlc : ([⟨1, 1, 1, 6, 60⟩, ⟨2, 0, 0, 5, 50⟩] : List EV).length ≤ c) (w : World) (hin : EvIn w.heap.size w [⟨1, 1, 1, 6, 60⟩, ⟨2, 0, 0, 5, 50⟩] a) : Calls Try.prog 11 #[.agg #[.slice a 2 c, .int .i64 0, .int .i64 0, .int .i64 2], .int .i64 1, .int .i64 0, .int .i64 7, .int .u64 70] w fun e w' => Below w.heap.size w w' ∧ ∃ a' c', e = .returned (.tuple #[.agg #[.slice a' 3 c', .int .i64 0, .int .i64 0, .int .i64 3], .int .i64 0]) ∧ EvIn w'.heap.size w' [⟨1, 0, 2, 7, 70⟩, ⟨1, 1, 1, 6, 60⟩, ⟨2, 0, 0, 5, 50⟩] a' ∧ (a' = none → c' = 0) ∧ ([⟨1, 0, 2, 7, 70⟩, ⟨1, 1, 1, 6, 60⟩, ⟨2, 0, 0, 5, 50⟩] : List EV).length ≤ c' := by
  have h := push_res (push_any a c [⟨1, 1, 1, 6, 60⟩, ⟨2, 0, 0, 5, 50⟩] (by decide) hac hlc 0 0 2 1 0 7 70 (by decide) w.heap.size w (Nat.le_refl _) hin)
  have e1 : pushS [⟨1, 1, 1, 6, 60⟩, ⟨2, 0, 0, 5, 50⟩] 0 0 2 1 0 7 70 = ([⟨1, 0, 2, 7, 70⟩, ⟨1, 1, 1, 6, 60⟩, ⟨2, 0, 0, 5, 50⟩], 0, 0, 3) := by decide
  have e2 : pushF 0 0 2 [⟨1, 1, 1, 6, 60⟩, ⟨2, 0, 0, 5, 50⟩] 1 0 7 = 0 := by decide
  rw [e1, e2] at h
  exact h
set_option maxHeartbeats 8000000 in
set_option maxRecDepth 100000 in
theorem live_p6 (a : Option Addr) (c : Nat) (hac : a = none → c = 0) (hlc : ([⟨2, 0, 0, 5, 50⟩] : List EV).length ≤ c) (w : World) (hin : EvIn w.heap.size w [⟨2, 0, 0, 5, 50⟩] a) : Calls Try.prog 11 #[.agg #[.slice a 1 c, .int .i64 1, .int .i64 1, .int .i64 3], .int .i64 1, .int .i64 0, .int .i64 1, .int .u64 1] w fun e w' => Below w.heap.size w w' ∧ ∃ a' c', e = .returned (.tuple #[.agg #[.slice a' 0 c', .int .i64 0, .int .i64 0, .int .i64 0], .int .i64 140]) ∧ EvIn w'.heap.size w' [] a' ∧ (a' = none → c' = 0) ∧ ([] : List EV).length ≤ c' := by
  have h := push_res (push_any a c [⟨2, 0, 0, 5, 50⟩] (by decide) hac hlc 1 1 3 1 0 1 1 (by decide) w.heap.size w (Nat.le_refl _) hin)
  have e1 : pushS [⟨2, 0, 0, 5, 50⟩] 1 1 3 1 0 1 1 = ([], 0, 0, 0) := by decide
  have e2 : pushF 1 1 3 [⟨2, 0, 0, 5, 50⟩] 1 0 1 = 140 := by decide
  rw [e1, e2] at h
  exact h
set_option maxHeartbeats 8000000 in
set_option maxRecDepth 100000 in
theorem live_p7 (a : Option Addr) (c : Nat) (hac : a = none → c = 0) (hlc : ([⟨2, 0, 0, 5, 50⟩] : List EV).length ≤ c) (w : World) (hin : EvIn w.heap.size w [⟨2, 0, 0, 5, 50⟩] a) : Calls Try.prog 11 #[.agg #[.slice a 1 c, .int .i64 1, .int .i64 1, .int .i64 3], .int .i64 1, .int .i64 (-1), .int .i64 1, .int .u64 1] w fun e w' => Below w.heap.size w w' ∧ ∃ a' c', e = .returned (.tuple #[.agg #[.slice a' 0 c', .int .i64 0, .int .i64 0, .int .i64 0], .int .i64 1]) ∧ EvIn w'.heap.size w' [] a' ∧ (a' = none → c' = 0) ∧ ([] : List EV).length ≤ c' := by
  have h := push_res (push_any a c [⟨2, 0, 0, 5, 50⟩] (by decide) hac hlc 1 1 3 1 (-1) 1 1 (by decide) w.heap.size w (Nat.le_refl _) hin)
  have e1 : pushS [⟨2, 0, 0, 5, 50⟩] 1 1 3 1 (-1) 1 1 = ([], 0, 0, 0) := by decide
  have e2 : pushF 1 1 3 [⟨2, 0, 0, 5, 50⟩] 1 (-1) 1 = 1 := by decide
  rw [e1, e2] at h
  exact h
set_option maxHeartbeats 8000000 in
set_option maxRecDepth 100000 in
theorem live_pop (a : Option Addr) (c : Nat) (hac : a = none → c = 0) (hlc : ([⟨1, 0, 2, 7, 70⟩, ⟨1, 1, 1, 6, 60⟩, ⟨2, 0, 0, 5, 50⟩] : List EV).length ≤ c) (w : World) (hin : EvIn w.heap.size w [⟨1, 0, 2, 7, 70⟩, ⟨1, 1, 1, 6, 60⟩, ⟨2, 0, 0, 5, 50⟩] a) : Calls Try.prog 18 #[.agg #[.slice a 3 c, .int .i64 0, .int .i64 0, .int .i64 3]] w fun e w' => Below w.heap.size w w' ∧ ∃ a' c', e = .returned (.tuple #[.agg #[.slice a' 2 c', .int .i64 1, .int .i64 0, .int .i64 3], .agg #[.int .i64 1, .int .i64 0, .int .i64 2, .int .i64 7, .int .u64 70], .int .i64 0]) ∧ EvIn w'.heap.size w' [⟨1, 1, 1, 6, 60⟩, ⟨2, 0, 0, 5, 50⟩] a' ∧ (a' = none → c' = 0) ∧ ([⟨1, 1, 1, 6, 60⟩, ⟨2, 0, 0, 5, 50⟩] : List EV).length ≤ c' := by
  have h := pop_res (pop_any a c [⟨1, 0, 2, 7, 70⟩, ⟨1, 1, 1, 6, 60⟩, ⟨2, 0, 0, 5, 50⟩] (by decide) hac hlc 0 0 3 w.heap.size w (Nat.le_refl _) hin)
  have e1 : popS [⟨1, 0, 2, 7, 70⟩, ⟨1, 1, 1, 6, 60⟩, ⟨2, 0, 0, 5, 50⟩] 0 0 3 = ([⟨1, 1, 1, 6, 60⟩, ⟨2, 0, 0, 5, 50⟩], 1, 0, 3) := by decide
  have e2 : popF 0 0 3 [⟨1, 0, 2, 7, 70⟩, ⟨1, 1, 1, 6, 60⟩, ⟨2, 0, 0, 5, 50⟩] = 0 := by decide
  have e3 : popX [⟨1, 0, 2, 7, 70⟩, ⟨1, 1, 1, 6, 60⟩, ⟨2, 0, 0, 5, 50⟩] 0 0 3 = ⟨1, 0, 2, 7, 70⟩ := by decide
  rw [e1, e2, e3] at h
  exact h
set_option maxHeartbeats 8000000 in
set_option maxRecDepth 100000 in
theorem live_none (w : World) : Calls Try.prog 18 #[.agg #[.slice none 0 0, .int .i64 0, .int .i64 0, .int .i64 0]] w fun e w' => Below w.heap.size w w' ∧ e = .returned (.tuple #[.agg #[.slice none 0 0, .int .i64 0, .int .i64 0, .int .i64 0], .agg #[.int .i64 0, .int .i64 0, .int .i64 0, .int .i64 0, .int .u64 0], .int .i64 141]) := by
  refine (pop_any none 0 [] (by decide) (fun _ => rfl) (by decide) 0 0 0 w.heap.size w (Nat.le_refl _) trivial).mono ?_
  rintro e w' ⟨hb, ⟨h1, rfl⟩ | ⟨h1, _⟩⟩
  · exact ⟨hb, rfl⟩
  · exact absurd h1 (by decide)
set_option maxHeartbeats 8000000 in
set_option maxRecDepth 100000 in
theorem live_take (a : Option Addr) (c : Nat) (hac : a = none → c = 0) (hlc : ([⟨1, 1, 1, 6, 60⟩, ⟨2, 0, 0, 5, 50⟩] : List EV).length ≤ c) (w : World) (hin : EvIn w.heap.size w [⟨1, 1, 1, 6, 60⟩, ⟨2, 0, 0, 5, 50⟩] a) : Calls Try.prog 20 #[.agg #[.slice a 2 c, .int .i64 1, .int .i64 0, .int .i64 3]] w fun e w' => Below w.heap.size w w' ∧ ∃ a' c' a2 c2, e = .returned (.tuple #[.agg #[.slice a' 1 c', .int .i64 1, .int .i64 1, .int .i64 3], .slice a2 1 c2, .int .i64 0]) ∧ EvIn w'.heap.size w' [⟨2, 0, 0, 5, 50⟩] a' ∧ (a' = none → c' = 0) ∧ ([⟨2, 0, 0, 5, 50⟩] : List EV).length ≤ c' ∧ EvIn w'.heap.size w' [⟨1, 1, 1, 6, 60⟩] a2 := by
  have h := take_res (take_any a c [⟨1, 1, 1, 6, 60⟩, ⟨2, 0, 0, 5, 50⟩] (by decide) hac hlc 1 0 3 w.heap.size w (Nat.le_refl _) hin)
  have e1 : takeS [⟨1, 1, 1, 6, 60⟩, ⟨2, 0, 0, 5, 50⟩] 1 0 3 = ([⟨2, 0, 0, 5, 50⟩], 1, 1, 3) := by decide
  have e2 : popF 1 0 3 [⟨1, 1, 1, 6, 60⟩, ⟨2, 0, 0, 5, 50⟩] = 0 := by decide
  have e3 : takeL [⟨1, 1, 1, 6, 60⟩, ⟨2, 0, 0, 5, 50⟩] 1 0 3 = [⟨1, 1, 1, 6, 60⟩] := by decide
  rw [e1, e2, e3] at h
  refine h.mono ?_
  rintro e w' ⟨hb, a', c', a2, c2, rfl, h1, h2, h3, h4, _⟩
  exact ⟨hb, a', c', a2, c2, rfl, h1, h2, h3, h4⟩
set_option maxHeartbeats 8000000 in
set_option maxRecDepth 100000 in
theorem live_any (w : World) : Calls Try.prog 9 #[] w fun e w' => e = .returned (.bool true) ∧ Below w.heap.size w w' := by
  go_enter Try.func9, Try.ntmps9
  have HB := Lib.hid (Below.refl w.heap.size w)
  go_wp2_with fail
  refine (live_p1 none 0 (fun _ => rfl) (by decide) w trivial).mono ?_
  rintro e w1 ⟨hb, a1, c1, rfl, hi1, ha1, hl1⟩
  replace HB := Lib.hid (HB.out.trans (hb.mono HB.out.size))
  clear hb
  have HI1 := Lib.hid hi1
  have HA1 := Lib.hid (And.intro ha1 hl1)
  clear hi1 ha1 hl1
  obtain ⟨gp1, hgp1⟩ : ∃ g, w1.heap.size = g := ⟨_, rfl⟩
  obtain ⟨V10, hV10⟩ : ∃ W, w1.alloc (.cells #[.slice a1 1 c1, .int .i64 0, .int .i64 0, .int .i64 1] 24) = W := ⟨_, rfl⟩
  have hbV10 : Below w1.heap.size w1 V10 := by rw [← hV10]; exact (Below.refl _ _).alloc (Nat.le_refl _) _
  have hzV10 : V10.heap.size = gp1 + 1 := by rw [← hV10, World.size_alloc, hgp1]
  have BBp1 : V10.heap[gp1]? = some (.cells #[.slice a1 1 c1, .int .i64 0, .int .i64 0, .int .i64 1] 24 (0, 0)) := by rw [← hV10, ← hgp1]; exact World.alloc_heap_new w1 _
  have hbw := hbV10
  replace HI1 := Lib.hid (InRow.less hbw.size (fun _ _ h => h) (EvIn.keep HI1.out hbw (Nat.le_refl _)))
  have Hp1 := Lib.hid BBp1
  replace HB := Lib.hid (HB.out.trans (hbw.mono HB.out.size))
  clear BBp1 hbw hbV10
  have HV10 := Lib.hid hV10
  clear hV10
  go_upto_region 2 with (fail)
  (try rw [hgp1])
  (try rw [HV10.out])
  (try rw [hzV10])
  clear HV10 hzV10 hgp1
  obtain ⟨q0, q1, q2, q3⟩ := ope4 Hp1.out
  go_wp2_with fail
  refine (live_p2 a1 c1 HA1.out.1 HA1.out.2 _ HI1.out).mono ?_
  clear q0 q1 q2 q3
  rintro e w2 ⟨hb, a2, c2, rfl, hi2, ha2, hl2⟩
  clear Hp1
  clear HI1
  replace HB := Lib.hid (HB.out.trans (hb.mono HB.out.size))
  clear hb
  have HI2 := Lib.hid hi2
  have HA2 := Lib.hid (And.intro ha2 hl2)
  clear hi2 ha2 hl2
  obtain ⟨gp2, hgp2⟩ : ∃ g, w2.heap.size = g := ⟨_, rfl⟩
  obtain ⟨V20, hV20⟩ : ∃ W, w2.alloc (.cells #[.slice a2 2 c2, .int .i64 0, .int .i64 0, .int .i64 2] 24) = W := ⟨_, rfl⟩
  have hbV20 : Below w2.heap.size w2 V20 := by rw [← hV20]; exact (Below.refl _ _).alloc (Nat.le_refl _) _
  have hzV20 : V20.heap.size = gp2 + 1 := by rw [← hV20, World.size_alloc, hgp2]
  have BBp2 : V20.heap[gp2]? = some (.cells #[.slice a2 2 c2, .int .i64 0, .int .i64 0, .int .i64 2] 24 (0, 0)) := by rw [← hV20, ← hgp2]; exact World.alloc_heap_new w2 _
  have hbw := hbV20
  replace HI2 := Lib.hid (InRow.less hbw.size (fun _ _ h => h) (EvIn.keep HI2.out hbw (Nat.le_refl _)))
  have Hp2 := Lib.hid BBp2
  replace HB := Lib.hid (HB.out.trans (hbw.mono HB.out.size))
  clear BBp2 hbw hbV20
  have HV20 := Lib.hid hV20
  clear hV20
  go_upto_region 3 with (fail)
  (try rw [hgp2])
  (try rw [HV20.out])
  (try rw [hzV20])
  clear HV20 hzV20 hgp2
  obtain ⟨q0, q1, q2, q3⟩ := ope4 Hp2.out
  go_wp2_with fail
  refine (live_p3 a2 c2 HA2.out.1 HA2.out.2 _ HI2.out).mono ?_
  clear q0 q1 q2 q3
  rintro e w3 ⟨hb, a3, c3, rfl, hi3, ha3, hl3⟩
  clear Hp2
  clear HI2
  replace HB := Lib.hid (HB.out.trans (hb.mono HB.out.size))
  clear hb
  have HI3 := Lib.hid hi3
  have HA3 := Lib.hid (And.intro ha3 hl3)
  clear hi3 ha3 hl3
  obtain ⟨gp3, hgp3⟩ : ∃ g, w3.heap.size = g := ⟨_, rfl⟩
  obtain ⟨V30, hV30⟩ : ∃ W, w3.alloc (.cells #[.slice a3 3 c3, .int .i64 0, .int .i64 0, .int .i64 3] 24) = W := ⟨_, rfl⟩
  have hbV30 : Below w3.heap.size w3 V30 := by rw [← hV30]; exact (Below.refl _ _).alloc (Nat.le_refl _) _
  have hzV30 : V30.heap.size = gp3 + 1 := by rw [← hV30, World.size_alloc, hgp3]
  have BBp3 : V30.heap[gp3]? = some (.cells #[.slice a3 3 c3, .int .i64 0, .int .i64 0, .int .i64 3] 24 (0, 0)) := by rw [← hV30, ← hgp3]; exact World.alloc_heap_new w3 _
  have hbw := hbV30
  replace HI3 := Lib.hid (InRow.less hbw.size (fun _ _ h => h) (EvIn.keep HI3.out hbw (Nat.le_refl _)))
  have Hp3 := Lib.hid BBp3
  replace HB := Lib.hid (HB.out.trans (hbw.mono HB.out.size))
  clear BBp3 hbw hbV30
  have HV30 := Lib.hid hV30
  clear hV30
  go_upto_region 4 with (fail)
  (try rw [hgp3])
  (try rw [HV30.out])
  (try rw [hzV30])
  clear HV30 hzV30 hgp3
  obtain ⟨q0, q1, q2, q3⟩ := ope4 Hp3.out
  go_wp2_with fail
  refine (live_pop a3 c3 HA3.out.1 HA3.out.2 _ HI3.out).mono ?_
  clear q0 q1 q2 q3
  rintro e w4 ⟨hb, a4, c4, rfl, hi4, ha4, hl4⟩
  replace Hp3 := Lib.hid (block_kept Hp3.out hb)
  replace HI3 := Lib.hid (InRow.less hb.size (fun _ _ h => h) (EvIn.keep HI3.out hb (Nat.le_refl _)))
  replace HB := Lib.hid (HB.out.trans (hb.mono HB.out.size))
  clear hb
  have HI4 := Lib.hid hi4
  have HA4 := Lib.hid (And.intro ha4 hl4)
  clear hi4 ha4 hl4
  obtain ⟨gp4, hgp4⟩ : ∃ g, w4.heap.size = g := ⟨_, rfl⟩
  obtain ⟨V40, hV40⟩ : ∃ W, w4.alloc (.cells #[.slice a4 2 c4, .int .i64 1, .int .i64 0, .int .i64 3] 24) = W := ⟨_, rfl⟩
  have hbV40 : Below w4.heap.size w4 V40 := by rw [← hV40]; exact (Below.refl _ _).alloc (Nat.le_refl _) _
  have hzV40 : V40.heap.size = gp4 + 1 := by rw [← hV40, World.size_alloc, hgp4]
  have BBp4 : V40.heap[gp4]? = some (.cells #[.slice a4 2 c4, .int .i64 1, .int .i64 0, .int .i64 3] 24 (0, 0)) := by rw [← hV40, ← hgp4]; exact World.alloc_heap_new w4 _
  have hbw := hbV40
  obtain ⟨V41, hV41⟩ : ∃ W, V40.alloc (.cells #[.int .i64 1, .int .i64 0, .int .i64 2, .int .i64 7, .int .u64 70] 35) = W := ⟨_, rfl⟩
  have hbV41 : Below V40.heap.size V40 V41 := by rw [← hV41]; exact (Below.refl _ _).alloc (Nat.le_refl _) _
  have hzV41 : V41.heap.size = gp4 + 2 := by rw [← hV41, World.size_alloc, hzV40]
  have BBx4 : V41.heap[gp4 + 1]? = some (.cells #[.int .i64 1, .int .i64 0, .int .i64 2, .int .i64 7, .int .u64 70] 35 (0, 0)) := by rw [← hV41, ← hzV40]; exact World.alloc_heap_new V40 _
  replace BBp4 := block_kept BBp4 hbV41
  replace hbw := hbw.trans (hbV41.mono hbw.size)
  replace Hp3 := Lib.hid (block_kept (block_kept Hp3.out hbV40) hbV41)
  replace HI3 := Lib.hid (InRow.less hbw.size (fun _ _ h => h) (EvIn.keep HI3.out hbw (Nat.le_refl _)))
  replace HI4 := Lib.hid (InRow.less hbw.size (fun _ _ h => h) (EvIn.keep HI4.out hbw (Nat.le_refl _)))
  have Hp4 := Lib.hid BBp4
  have Hx4 := Lib.hid BBx4
  replace HB := Lib.hid (HB.out.trans (hbw.mono HB.out.size))
  clear BBp4 BBx4 hbw hbV40 hbV41
  have HV40 := Lib.hid hV40
  clear hV40
  have HV41 := Lib.hid hV41
  clear hV41
  go_upto_region 5 with (fail)
  (try rw [hgp4])
  (try rw [HV40.out])
  (try rw [hzV40])
  (try rw [HV41.out])
  (try rw [hzV41])
  clear HV40 hzV40 HV41 hzV41 hgp4
  obtain ⟨q0, q1, q2, q3⟩ := ope4 Hp4.out
  go_wp2_with fail
  refine (live_take a4 c4 HA4.out.1 HA4.out.2 _ HI4.out).mono ?_
  clear q0 q1 q2 q3
  rintro e w5 ⟨hb, a5, c5, a6, c6, rfl, hi5, ha5, hl5, hi6⟩
  replace Hp3 := Lib.hid (block_kept Hp3.out hb)
  clear Hp4
  replace Hx4 := Lib.hid (block_kept Hx4.out hb)
  replace HI3 := Lib.hid (InRow.less hb.size (fun _ _ h => h) (EvIn.keep HI3.out hb (Nat.le_refl _)))
  clear HI4
  replace HB := Lib.hid (HB.out.trans (hb.mono HB.out.size))
  clear hb
  have HI5 := Lib.hid hi5
  have HA5 := Lib.hid (And.intro ha5 hl5)
  have HI6 := Lib.hid hi6
  clear hi5 ha5 hl5 hi6
  obtain ⟨gp5, hgp5⟩ : ∃ g, w5.heap.size = g := ⟨_, rfl⟩
  obtain ⟨V50, hV50⟩ : ∃ W, w5.alloc (.cells #[.slice a5 1 c5, .int .i64 1, .int .i64 1, .int .i64 3] 24) = W := ⟨_, rfl⟩
  have hbV50 : Below w5.heap.size w5 V50 := by rw [← hV50]; exact (Below.refl _ _).alloc (Nat.le_refl _) _
  have hzV50 : V50.heap.size = gp5 + 1 := by rw [← hV50, World.size_alloc, hgp5]
  have BBp5 : V50.heap[gp5]? = some (.cells #[.slice a5 1 c5, .int .i64 1, .int .i64 1, .int .i64 3] 24 (0, 0)) := by rw [← hV50, ← hgp5]; exact World.alloc_heap_new w5 _
  have hbw := hbV50
  replace Hp3 := Lib.hid (block_kept Hp3.out hbV50)
  replace Hx4 := Lib.hid (block_kept Hx4.out hbV50)
  replace HI3 := Lib.hid (InRow.less hbw.size (fun _ _ h => h) (EvIn.keep HI3.out hbw (Nat.le_refl _)))
  replace HI5 := Lib.hid (InRow.less hbw.size (fun _ _ h => h) (EvIn.keep HI5.out hbw (Nat.le_refl _)))
  replace HI6 := Lib.hid (InRow.less hbw.size (fun _ _ h => h) (EvIn.keep HI6.out hbw (Nat.le_refl _)))
  have Hp5 := Lib.hid BBp5
  replace HB := Lib.hid (HB.out.trans (hbw.mono HB.out.size))
  clear BBp5 hbw hbV50
  have HV50 := Lib.hid hV50
  clear hV50
  go_upto_region 6 with (fail)
  (try rw [hgp5])
  (try rw [HV50.out])
  (try rw [hzV50])
  clear HV50 hzV50 hgp5
  obtain ⟨q0, q1, q2, q3⟩ := ope4 Hp5.out
  go_wp2_with fail
  refine (live_p6 a5 c5 HA5.out.1 HA5.out.2 _ HI5.out).mono ?_
  clear q0 q1 q2 q3
  rintro e w6 ⟨hb, a7, c7, rfl, hi7, ha7, hl7⟩
  replace Hp3 := Lib.hid (block_kept Hp3.out hb)
  replace Hx4 := Lib.hid (block_kept Hx4.out hb)
  replace Hp5 := Lib.hid (block_kept Hp5.out hb)
  replace HI3 := Lib.hid (InRow.less hb.size (fun _ _ h => h) (EvIn.keep HI3.out hb (Nat.le_refl _)))
  replace HI5 := Lib.hid (InRow.less hb.size (fun _ _ h => h) (EvIn.keep HI5.out hb (Nat.le_refl _)))
  replace HI6 := Lib.hid (InRow.less hb.size (fun _ _ h => h) (EvIn.keep HI6.out hb (Nat.le_refl _)))
  replace HB := Lib.hid (HB.out.trans (hb.mono HB.out.size))
  clear hb
  clear hi7 ha7 hl7
  obtain ⟨gp6, hgp6⟩ : ∃ g, w6.heap.size = g := ⟨_, rfl⟩
  obtain ⟨V60, hV60⟩ : ∃ W, w6.alloc (.cells #[.slice a7 0 c7, .int .i64 0, .int .i64 0, .int .i64 0] 24) = W := ⟨_, rfl⟩
  have hbV60 : Below w6.heap.size w6 V60 := by rw [← hV60]; exact (Below.refl _ _).alloc (Nat.le_refl _) _
  have hzV60 : V60.heap.size = gp6 + 1 := by rw [← hV60, World.size_alloc, hgp6]
  have BBp6 : V60.heap[gp6]? = some (.cells #[.slice a7 0 c7, .int .i64 0, .int .i64 0, .int .i64 0] 24 (0, 0)) := by rw [← hV60, ← hgp6]; exact World.alloc_heap_new w6 _
  have hbw := hbV60
  replace Hp3 := Lib.hid (block_kept Hp3.out hbV60)
  replace Hx4 := Lib.hid (block_kept Hx4.out hbV60)
  replace Hp5 := Lib.hid (block_kept Hp5.out hbV60)
  replace HI3 := Lib.hid (InRow.less hbw.size (fun _ _ h => h) (EvIn.keep HI3.out hbw (Nat.le_refl _)))
  replace HI5 := Lib.hid (InRow.less hbw.size (fun _ _ h => h) (EvIn.keep HI5.out hbw (Nat.le_refl _)))
  replace HI6 := Lib.hid (InRow.less hbw.size (fun _ _ h => h) (EvIn.keep HI6.out hbw (Nat.le_refl _)))
  have Hp6 := Lib.hid BBp6
  replace HB := Lib.hid (HB.out.trans (hbw.mono HB.out.size))
  clear BBp6 hbw hbV60
  have HV60 := Lib.hid hV60
  clear hV60
  go_upto_region 7 with (fail)
  (try rw [hgp6])
  (try rw [HV60.out])
  (try rw [hzV60])
  clear HV60 hzV60 hgp6
  clear Hp6
  obtain ⟨q0, q1, q2, q3⟩ := ope4 Hp5.out
  go_wp2_with fail
  refine (live_p7 a5 c5 HA5.out.1 HA5.out.2 _ HI5.out).mono ?_
  clear q0 q1 q2 q3
  rintro e w7 ⟨hb, a8, c8, rfl, hi8, ha8, hl8⟩
  replace Hp3 := Lib.hid (block_kept Hp3.out hb)
  replace Hx4 := Lib.hid (block_kept Hx4.out hb)
  replace Hp5 := Lib.hid (block_kept Hp5.out hb)
  replace HI3 := Lib.hid (InRow.less hb.size (fun _ _ h => h) (EvIn.keep HI3.out hb (Nat.le_refl _)))
  replace HI5 := Lib.hid (InRow.less hb.size (fun _ _ h => h) (EvIn.keep HI5.out hb (Nat.le_refl _)))
  replace HI6 := Lib.hid (InRow.less hb.size (fun _ _ h => h) (EvIn.keep HI6.out hb (Nat.le_refl _)))
  replace HB := Lib.hid (HB.out.trans (hb.mono HB.out.size))
  clear hb
  clear hi8 ha8 hl8
  obtain ⟨gp7, hgp7⟩ : ∃ g, w7.heap.size = g := ⟨_, rfl⟩
  obtain ⟨V70, hV70⟩ : ∃ W, w7.alloc (.cells #[.slice a8 0 c8, .int .i64 0, .int .i64 0, .int .i64 0] 24) = W := ⟨_, rfl⟩
  have hbV70 : Below w7.heap.size w7 V70 := by rw [← hV70]; exact (Below.refl _ _).alloc (Nat.le_refl _) _
  have hzV70 : V70.heap.size = gp7 + 1 := by rw [← hV70, World.size_alloc, hgp7]
  have BBp7 : V70.heap[gp7]? = some (.cells #[.slice a8 0 c8, .int .i64 0, .int .i64 0, .int .i64 0] 24 (0, 0)) := by rw [← hV70, ← hgp7]; exact World.alloc_heap_new w7 _
  have hbw := hbV70
  replace Hp3 := Lib.hid (block_kept Hp3.out hbV70)
  replace Hx4 := Lib.hid (block_kept Hx4.out hbV70)
  replace Hp5 := Lib.hid (block_kept Hp5.out hbV70)
  replace HI3 := Lib.hid (InRow.less hbw.size (fun _ _ h => h) (EvIn.keep HI3.out hbw (Nat.le_refl _)))
  replace HI5 := Lib.hid (InRow.less hbw.size (fun _ _ h => h) (EvIn.keep HI5.out hbw (Nat.le_refl _)))
  replace HI6 := Lib.hid (InRow.less hbw.size (fun _ _ h => h) (EvIn.keep HI6.out hbw (Nat.le_refl _)))
  have Hp7 := Lib.hid BBp7
  replace HB := Lib.hid (HB.out.trans (hbw.mono HB.out.size))
  clear BBp7 hbw hbV70
  have HV70 := Lib.hid hV70
  clear hV70
  go_upto_region 8 with (fail)
  (try rw [hgp7])
  (try rw [HV70.out])
  (try rw [hzV70])
  clear HV70 hzV70 hgp7
  clear Hp7
  go_wp2_with fail
  refine (live_none _).mono ?_
  rintro e w8 ⟨hb, rfl⟩
  replace Hp3 := Lib.hid (block_kept Hp3.out hb)
  replace Hx4 := Lib.hid (block_kept Hx4.out hb)
  replace Hp5 := Lib.hid (block_kept Hp5.out hb)
  replace HI3 := Lib.hid (InRow.less hb.size (fun _ _ h => h) (EvIn.keep HI3.out hb (Nat.le_refl _)))
  replace HI5 := Lib.hid (InRow.less hb.size (fun _ _ h => h) (EvIn.keep HI5.out hb (Nat.le_refl _)))
  replace HI6 := Lib.hid (InRow.less hb.size (fun _ _ h => h) (EvIn.keep HI6.out hb (Nat.le_refl _)))
  replace HB := Lib.hid (HB.out.trans (hb.mono HB.out.size))
  clear hb
  obtain ⟨gp8, hgp8⟩ : ∃ g, w8.heap.size = g := ⟨_, rfl⟩
  obtain ⟨V80, hV80⟩ : ∃ W, w8.alloc (.cells #[.slice none 0 0, .int .i64 0, .int .i64 0, .int .i64 0] 24) = W := ⟨_, rfl⟩
  have hbV80 : Below w8.heap.size w8 V80 := by rw [← hV80]; exact (Below.refl _ _).alloc (Nat.le_refl _) _
  have hzV80 : V80.heap.size = gp8 + 1 := by rw [← hV80, World.size_alloc, hgp8]
  have BBp8 : V80.heap[gp8]? = some (.cells #[.slice none 0 0, .int .i64 0, .int .i64 0, .int .i64 0] 24 (0, 0)) := by rw [← hV80, ← hgp8]; exact World.alloc_heap_new w8 _
  have hbw := hbV80
  obtain ⟨V81, hV81⟩ : ∃ W, V80.alloc (.cells #[.int .i64 0, .int .i64 0, .int .i64 0, .int .i64 0, .int .u64 0] 35) = W := ⟨_, rfl⟩
  have hbV81 : Below V80.heap.size V80 V81 := by rw [← hV81]; exact (Below.refl _ _).alloc (Nat.le_refl _) _
  have hzV81 : V81.heap.size = gp8 + 2 := by rw [← hV81, World.size_alloc, hzV80]
  have BBx8 : V81.heap[gp8 + 1]? = some (.cells #[.int .i64 0, .int .i64 0, .int .i64 0, .int .i64 0, .int .u64 0] 35 (0, 0)) := by rw [← hV81, ← hzV80]; exact World.alloc_heap_new V80 _
  replace BBp8 := block_kept BBp8 hbV81
  replace hbw := hbw.trans (hbV81.mono hbw.size)
  replace Hp3 := Lib.hid (block_kept (block_kept Hp3.out hbV80) hbV81)
  replace Hx4 := Lib.hid (block_kept (block_kept Hx4.out hbV80) hbV81)
  replace Hp5 := Lib.hid (block_kept (block_kept Hp5.out hbV80) hbV81)
  replace HI3 := Lib.hid (InRow.less hbw.size (fun _ _ h => h) (EvIn.keep HI3.out hbw (Nat.le_refl _)))
  replace HI5 := Lib.hid (InRow.less hbw.size (fun _ _ h => h) (EvIn.keep HI5.out hbw (Nat.le_refl _)))
  replace HI6 := Lib.hid (InRow.less hbw.size (fun _ _ h => h) (EvIn.keep HI6.out hbw (Nat.le_refl _)))
  have Hp8 := Lib.hid BBp8
  have Hx8 := Lib.hid BBx8
  replace HB := Lib.hid (HB.out.trans (hbw.mono HB.out.size))
  clear BBp8 BBx8 hbw hbV80 hbV81
  have HV80 := Lib.hid hV80
  clear hV80
  have HV81 := Lib.hid hV81
  clear hV81
  go_upto_region 9 with (fail)
  (try rw [hgp8])
  (try rw [HV80.out])
  (try rw [hzV80])
  (try rw [HV81.out])
  (try rw [hzV81])
  clear HV80 hzV80 HV81 hzV81 hgp8
  clear Hp8
  clear Hx8
  obtain ⟨x0, x1, x2, x3, x4⟩ := ope5 Hx4.out
  obtain ⟨q0, q1, q2, q3⟩ := ope4 Hp5.out
  obtain ⟨p0, p1, p2, p3⟩ := ope4 Hp3.out
  obtain ⟨b6, o6, e6⟩ := EvIn.addr HI6.out (by decide)
  subst e6
  obtain ⟨r0, r1, r2, r3, r4⟩ := EvIn.cells HI6.out (i := 0) (by decide)
  simp only [List.getElem_cons_zero, Nat.zero_mul, Nat.add_zero] at r0 r1 r2 r3 r4
  have qe : ∀ W, (binOp .eql 35 (.agg #[.int .i64 1, .int .i64 0, .int .i64 2, .int .i64 7, .int .u64 70]) (.agg #[.int .i64 1, .int .i64 0, .int .i64 2, .int .i64 7, .int .u64 70])).run Try.prog W = .ok (.bool true) W := fun W => by rw [ev_eql]; simp
  have k1 : ckE (-1) 0 0 [] = 1 := by decide
  have k2 : ckE 0 0 3 [⟨1, 0, 2, 7, 70⟩, ⟨1, 1, 1, 6, 60⟩, ⟨2, 0, 0, 5, 50⟩] = 0 := by decide
  go_wp2_with fail
  refine (empty_any none 0 0 0 0 0 _).mono ?_
  rintro e w9 ⟨rfl, hb⟩
  clear q0 q1 q2 q3 p0 p1 p2 p3 r0 r1 r2 r3 r4 x0 x1 x2 x3 x4
  replace Hp5 := Lib.hid (block_kept Hp5.out hb)
  replace Hp3 := Lib.hid (block_kept Hp3.out hb)
  replace HI3 := Lib.hid (InRow.less hb.size (fun _ _ h => h) (EvIn.keep HI3.out hb (Nat.le_refl _)))
  replace HB := Lib.hid (HB.out.trans (hb.mono HB.out.size))
  clear hb
  obtain ⟨q0, q1, q2, q3⟩ := ope4 Hp5.out
  go_wp2_with fail
  refine (empty_any a5 1 c5 1 1 3 _).mono ?_
  rintro e w10 ⟨rfl, hb⟩
  clear q0 q1 q2 q3
  replace Hp3 := Lib.hid (block_kept Hp3.out hb)
  replace HI3 := Lib.hid (InRow.less hb.size (fun _ _ h => h) (EvIn.keep HI3.out hb (Nat.le_refl _)))
  replace HB := Lib.hid (HB.out.trans (hb.mono HB.out.size))
  clear hb
  have cK := check_any none 0 [] (by decide) (-1) 0 0 0 w10 (Nat.zero_le _) trivial
  rw [k1] at cK
  go_wp2_with fail
  refine cK.mono ?_
  clear cK
  rintro e w11 ⟨rfl, hb⟩
  replace Hp3 := Lib.hid (block_kept Hp3.out hb)
  replace HI3 := Lib.hid (InRow.less hb.size (fun _ _ h => h) (EvIn.keep HI3.out hb (Nat.le_refl _)))
  replace HB := Lib.hid (HB.out.trans (hb.mono HB.out.size))
  clear hb
  obtain ⟨q0, q1, q2, q3⟩ := ope4 Hp3.out
  have cK := check_any a3 c3 [⟨1, 0, 2, 7, 70⟩, ⟨1, 1, 1, 6, 60⟩, ⟨2, 0, 0, 5, 50⟩] (by decide) 0 0 3 _ w11 (Nat.le_refl _) HI3.out
  rw [k2] at cK
  go_wp2_with fail
  refine cK.mono ?_
  clear cK
  rintro e w12 ⟨rfl, hb⟩
  replace HB := Lib.hid (HB.out.trans (hb.mono HB.out.size))
  clear hb
  go_wp2
  go_ret
  exact ⟨rfl, HB.out⟩
end Go.Proofs.Ytchboknncfmcpaa
