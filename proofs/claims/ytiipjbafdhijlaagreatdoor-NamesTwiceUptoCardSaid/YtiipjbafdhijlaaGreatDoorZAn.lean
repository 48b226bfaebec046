/-
  AsNm, in one text.
-/
import Derived.Test.YtiipjbafdhijlaaGreatDoorZAl
import Derived.Deep.LoopGhost
import Derived.Deep.QuietTactic
namespace Go.Proofs.YtiipjbafdhijlaaGreatDoor
open Go Go.RowKit
set_option linter.unusedVariables false
set_option linter.unusedSimpArgs false
open Go.Sort
/-- A row of texts, where it lies. -/
def LiesS (w : World) (a : Option Addr) (l : List Bytes) : Prop := l = [] ∨ ∃ b o, a = some ⟨b, o, none⟩ ∧ ∀ i (h : i < l.length), w.cell? ⟨b, o + i, none⟩ = some (.string (bs l[i]))
theorem ret_bool {a b : Bool} (h : a = b) : Ending.returned (.bool a) = Ending.returned (.bool b) := by rw [h]
set_option maxHeartbeats 4000000 in
set_option maxRecDepth 9000000 in
theorem amongS_any (a1 : Option Addr) (p1 : Nat) (l : List Bytes) (s : Bytes) (hl : l.length ≤ 1099511627776) (w : World) (h1 : LiesS w a1 l) : Calls Tryz.prog 23 #[.slice a1 l.length p1, .string (bs s)] w fun e w' => e = .returned (.bool (l.contains s)) ∧ ∃ n, w' = w.drewN n := by
 have HI : Hid (l.contains s = l.contains s) := Lib.hid rfl
 generalize hR : l.contains s = R at *
 have HR := Lib.hid hR
 clear hR HI
 have H1 := Lib.hid h1
 clear h1
 go_enter Tryz.func23, Tryz.ntmps23
 go_wp2
 go_loopg [5] l.length (fun g u wr => ∃ i : Nat, u = .int .i64 i ∧ i + g = l.length ∧ (l.drop i).contains s = R ∧ ∃ n, wr = w.drewN n)
 case atStart => exact ⟨0, rfl, by omega, by rw [List.drop_zero]; exact HR.out, 0, rfl⟩
 case round =>
  obtain ⟨i, rfl, hi, hdr, nd, rfl⟩ := hrel
  have HD := Lib.hid hdr
  clear hdr
  by_cases hlt : i < l.length
  ·have d1 : decide (i < l.length) = true := by simpa using hlt
   have d2 : decide ((i : Int) < (l.length : Int)) = true := by rw [decide_eq_true_eq]; omega
   have HX : Hid ((l[i] == s || (l.drop (i + 1)).contains s) = R) := Lib.hid (by rw [← HD.out, ← List.getElem_cons_drop hlt, List.contains_cons]; rw [Bool.beq_comm])
   obtain ⟨b1, o1, rfl, hL1⟩ := (H1.out).resolve_left (by intro h; rw [h] at hlt; simp at hlt)
   replace hL1 := hL1 i hlt
   generalize l[i] = t at *
   by_cases heq : (t == s) = true
   ·have HE : Hid (R = true) := Lib.hid (by rw [← HX.out, heq]; rfl)
    clear HX HD H1 HR
    go_wp2
    go_ret
    exact ⟨ret_bool HE.out.symm, nd, rfl⟩
   ·have heq2 : (t == s) = false := by simpa using heq
    have HX2 : Hid ((l.drop (i + 1)).contains s = R) := Lib.hid (by rw [← HX.out, heq2]; rfl)
    clear HX HD H1 HR heq
    go_wp2
    cases gk with
    | zero => omega
    | succ gg =>
     go_roundg gg
     case rel => exact ⟨i + 1, rfl, by omega, HX2.out, nd, rfl⟩
     case measure => omega
  ·have d1 : decide (i < l.length) = false := by simpa using hlt
   have d2 : decide ((i : Int) < (l.length : Int)) = false := by rw [decide_eq_false_iff_not]; omega
   have HE : Hid (R = false) := Lib.hid (by rw [← HD.out, List.drop_eq_nil_of_le (by omega)]; rfl)
   go_wp2
   go_ret
   exact ⟨ret_bool HE.out.symm, nd, rfl⟩
set_option maxHeartbeats 4000000 in
set_option maxRecDepth 9000000 in
theorem textsS_any (a1 a2 : Option Addr) (p1 p2 : Nat) (l m : List Bytes) (hl : l.length ≤ 1099511627776) (hm : m.length ≤ 1099511627776) (w : World) (h1 : LiesS w a1 l) (h2 : LiesS w a2 m) : Calls Tryz.prog 16 #[.slice a1 l.length p1, .slice a2 m.length p2] w fun e w' => e = .returned (.bool (decide (l = m))) ∧ ∃ n, w' = w.drewN n := by
 obtain ⟨R, hR⟩ : ∃ R, decide (l = m) = R := ⟨_, rfl⟩
 rw [hR]
 have HI : Hid (decide (l = m) = R) := Lib.hid hR
 clear hR
 by_cases hn : l.length = m.length
 ·have dn : (l.length != m.length) = false := by simp [hn]
  have dn2 : ((l.length : Int) != (m.length : Int)) = false := by simp [hn]
  have H1 := Lib.hid h1
  have H2 := Lib.hid h2
  clear h1 h2
  go_enter Tryz.func16, Tryz.ntmps16
  go_wp2
  go_loopg [5] l.length (fun g u wr => ∃ i : Nat, u = .int .i64 i ∧ i + g = l.length ∧ decide (l.drop i = m.drop i) = R ∧ ∃ n, wr = w.drewN n)
  case atStart => exact ⟨0, rfl, by omega, by rw [List.drop_zero, List.drop_zero]; exact HI.out, 0, rfl⟩
  case round =>
   obtain ⟨i, rfl, hi, hdr, nd, rfl⟩ := hrel
   have HD := Lib.hid hdr
   clear hdr
   by_cases hlt : i < l.length
   ·have hlt2 : i < m.length := by omega
    have d1 : decide (i < l.length) = true := by simpa using hlt
    have d2 : decide ((i : Int) < (l.length : Int)) = true := by rw [decide_eq_true_eq]; omega
    have d3 : decide (i < m.length) = true := by simpa using hlt2
    have d4 : decide ((i : Int) < (m.length : Int)) = true := by rw [decide_eq_true_eq]; omega
    have HX : Hid (decide (l[i] = m[i] ∧ l.drop (i + 1) = m.drop (i + 1)) = R) := Lib.hid (by rw [← HD.out, ← List.getElem_cons_drop hlt, ← List.getElem_cons_drop hlt2]; simp only [List.cons.injEq])
    obtain ⟨b1, o1, rfl, hL1⟩ := (H1.out).resolve_left (by intro h; rw [h] at hlt; simp at hlt)
    obtain ⟨b2, o2, rfl, hL2⟩ := (H2.out).resolve_left (by intro h; rw [h] at hlt2; simp at hlt2)
    replace hL1 := hL1 i hlt
    replace hL2 := hL2 i hlt2
    generalize l[i] = t at *
    generalize m[i] = t2 at *
    by_cases heq : t = t2
    ·have hq1 : (t == t2) = true := by simpa using heq
     have hq2 : (t != t2) = false := by simpa using heq
     have HX2 : Hid (decide (l.drop (i + 1) = m.drop (i + 1)) = R) := Lib.hid (by rw [← HX.out]; simp [heq])
     clear HX HD H1 H2 HI heq
     go_wp2
     go_quiet (fail)
     go_wp2
     cases gk with
     | zero => omega
     | succ gg =>
      go_roundg gg
      case rel => exact ⟨i + 1, rfl, by omega, HX2.out, nd + nq, rfl⟩
      case measure => omega
    ·have hq1 : (t == t2) = false := by simpa using heq
     have hq2 : (t != t2) = true := by simpa using heq
     have HE : Hid (R = false) := Lib.hid (by rw [← HX.out]; simp [heq])
     clear HX HD H1 H2 HI heq
     go_wp2
     go_quiet (fail)
     go_wp2
     go_ret
     exact ⟨ret_bool HE.out.symm, nd + nq, World.drewN_drewN _ _ _⟩
   ·have d1 : decide (i < l.length) = false := by simpa using hlt
    have d2 : decide ((i : Int) < (l.length : Int)) = false := by rw [decide_eq_false_iff_not]; omega
    have HE : Hid (R = true) := Lib.hid (by rw [← HD.out, List.drop_eq_nil_of_le (by omega), List.drop_eq_nil_of_le (by omega)]; rfl)
    go_wp2
    go_ret
    exact ⟨ret_bool HE.out.symm, nd, rfl⟩
 ·have dn : (l.length != m.length) = true := by simp [hn]
  have dn2 : ((l.length : Int) != (m.length : Int)) = true := by simp; omega
  have HE : Hid (R = false) := Lib.hid (by rw [← HI.out]; simp; intro h; exact hn (by rw [h]))
  clear HI
  go_enter Tryz.func16, Tryz.ntmps16
  go_wp2
  go_ret
  exact ⟨ret_bool HE.out.symm, 0, rfl⟩
/-- Names put behind others, each that is not there yet. -/
def addN (out : List Bytes) : List Bytes → List Bytes
 | [] => out
 | s :: r => addN (if out.contains s = true then out else out ++ [s]) r
/-- The names as they are come to, some of them more than once. -/
def occX : XT → List Bytes
 | .mk op nm _ _ _ _ _ l => (if hasB op = true then [nm] else []) ++ occL l
where occL : List XT → List Bytes
 | [] => []
 | x :: r => occX x ++ occL r
theorem addN_app : ∀ (l out m : List Bytes), addN out (l ++ m) = addN (addN out l) m
 | [], out, m => rfl
 | s :: r, out, m => by rw [List.cons_append, addN, addN, addN_app r]
theorem addN_keeps : ∀ (m out : List Bytes) (s : Bytes), s ∈ out → s ∈ addN out m
 | [], out, s, h => h
 | t :: r, out, s, h => by
  rw [addN]
  refine addN_keeps r _ s ?_
  split
  ·exact h
  ·simp [h]
theorem addN_mem : ∀ (m out : List Bytes) (s : Bytes), s ∈ m → s ∈ addN out m
 | t :: r, out, s, h => by
  rw [addN]
  rcases List.mem_cons.1 h with h | h
  ·subst h
   refine addN_keeps r _ s ?_
   split
   ·rename_i h2; simpa using h2
   ·simp
  ·exact addN_mem r _ s h
theorem addN_addN : ∀ (m out o : List Bytes), addN out (addN o m) = addN (addN out o) m
 | [], out, o => rfl
 | s :: r, out, o => by
  rw [addN, addN]
  by_cases h : o.contains s = true
  ·have h2 : (addN out o).contains s = true := by
    rw [List.contains_iff_mem] at h ⊢
    exact addN_mem o out s h
   rw [if_pos h, if_pos h2, addN_addN r]
  ·rw [if_neg h, addN_addN r, addN_app]
   rfl
theorem addN_nodup : ∀ (m out : List Bytes), out.Nodup → (addN out m).Nodup
 | [], out, h => h
 | s :: r, out, h => by
  rw [addN]
  refine addN_nodup r _ ?_
  split
  ·exact h
  ·rename_i h2
   rw [List.nodup_append]
   refine ⟨h, by simp, ?_⟩
   intro a ha b hb e
   simp at hb
   subst hb
   subst e
   exact h2 (by simpa using ha)
theorem freeL_occ_of : ∀ (l : List XT) (out : List Bytes), (∀ x ∈ l, ∀ o, freeX o x = addN o (occX x)) → freeL out l = addN out (occX.occL l)
 | [], out, _ => rfl
 | x :: r, out, h => by
  rw [freeL, occX.occL, addN_app, h x (by simp) out]
  exact freeL_occ_of r _ (fun y hy => h y (by simp [hy]))
theorem freeX_occ : ∀ (x : XT) (out : List Bytes), freeX out x = addN out (occX x) := XT.ind fun op nm n wd v a c l ih out => by
 rw [freeX, occX, addN_app, freeL_occ_of l _ (fun x hx o => ih x hx o)]
 congr 1
 by_cases h : hasB op = true
 ·by_cases h2 : out.contains nm = true
  ·simp [h, h2, addN]
  ·simp [h, h2, addN]
 ·simp [h, addN]
/-- The names of two, one behind the other. -/
theorem freeX_behind (x y : XT) : freeX (freeX [] x) y = addN (freeX [] x) (freeX [] y) := by
 rw [freeX_occ y (freeX [] x), freeX_occ y [], addN_addN]
 rfl
theorem freeX_nodup (x : XT) : (freeX [] x).Nodup := by
 rw [freeX_occ]
 exact addN_nodup _ _ List.nodup_nil
theorem nodup_take : ∀ (l : List Bytes) (i : Nat) (h : i < l.length), l.Nodup → (l.take i).contains l[i] = false := by
 intro l i h hn
 rw [Bool.eq_false_iff]
 intro hc
 rw [List.contains_iff_mem] at hc
 obtain ⟨j, hj, he⟩ := List.getElem_of_mem hc
 rw [List.getElem_take] at he
 have hj2 : j < i := by rw [List.length_take] at hj; omega
 exact List.pairwise_iff_getElem.1 hn j i (by omega) h hj2 he
theorem addN_take (out m : List Bytes) (k : Nat) (h : k < m.length) : addN out (m.take (k + 1)) = if (addN out (m.take k)).contains m[k] = true then addN out (m.take k) else addN out (m.take k) ++ [m[k]] := by
 rw [List.take_succ_eq_append_getElem h, addN_app]; rfl
end Go.Proofs.YtiipjbafdhijlaaGreatDoor
