/-
  Contract: token.
-/
import Derived.Test.YtigdegjhajdmhaaDoorScY
import Derived.Test.YtigdegjhajdmhaaDoorScT
namespace Go.Proofs.YtigdegjhajdmhaaDoor
open Go Go.RowKit
set_option linter.unusedVariables false
open Go.Sort

/-- What of the world is read: how long the library's search may be, and the signs. -/
structure Env (w : World) : Prop where
  most : ∃ m, w.cell? ⟨1, 0, none⟩ = some (.int .i64 m)
  signs : w.rangeAt 0 0 signCells
theorem Env.keep {w w' : World} (h : Env w) (hb : Below w.heap.size w w') : Env w' := by
  obtain ⟨⟨m, hm⟩, hs⟩ := h
  exact ⟨⟨m, keep_cell hb hm⟩, fun j v hv => keep_cell hb (hs j v hv)⟩
theorem Env.alloc {w : World} (h : Env w) (x : Obj) : Env (w.alloc x) := h.keep ((Below.refl _ _).alloc (Nat.le_refl _) x)
theorem Env.drewN {w : World} (h : Env w) (n : Nat) : Env (w.drewN n) := h.keep (below_drewN (Below.refl _ _) n)
def tokenS (l : Bytes) : Tk :=
  match l with
  | [] => badT 0
  | c :: _ => if letter c = true then nameS l else if digit c = true then numberS l
    else if signS l = [] then badT 20 else ⟨4, signS l, 0, 0, (signS l).length, 0⟩
theorem signS_short (l : Bytes) : (signS l).length ≤ 2 := by
  unfold signS
  have hall : signList.all (fun s => decide (s.length ≤ 2)) = true := by decide
  rw [List.all_eq_true] at hall
  cases h : signList.find? (fun s => s.isPrefixOf l) with
  | none => simp
  | some s => have := hall s (List.mem_of_find?_eq_some h); simpa using this

set_option maxHeartbeats 4000000 in
theorem token_any (c : UInt8) (t : Bytes) (hl : (c :: t).length ≤ 70000) (w : World) (he : Env w) : Calls Tryd.prog 12 #[.string (bs (c :: t))] w fun e w' => e = .returned (tokenS (c :: t)).val ∧ Below w.heap.size w w' := by
  obtain ⟨l, hl0⟩ : ∃ l, c :: t = l := ⟨_, rfl⟩
  have hx : (c :: t)[0] = c := rfl
  have hbg := begins_any c
  have hdg := digit_any c
  have HT : Hid (tokenS l = if letter c = true then nameS l else if digit c = true then numberS l else if signS l = [] then badT 20 else ⟨4, signS l, 0, 0, (signS l).length, 0⟩) := Lib.hid (by rw [← hl0]; rfl)
  have hz : 0 < l.length := by rw [← hl0]; simp
  have h0 : ∀ h : 0 < l.length, l[0] = c := by subst hl0; intro h; rfl
  rw [hl0] at hl ⊢
  have hc0 := h0 hz
  have HL := Lib.hid hl0
  clear hl0 h0 hx
  cases ha : letter c with
  | true =>
    rw [ha] at hbg
    have HE : Hid (tokenS l = nameS l) := Lib.hid (by rw [HT.out, if_pos ha])
    have hnm := fun (mx : Int) (w : World) hm => name_any l hl mx w hm
    generalize nameS l = T at *
    clear ha hdg
    go_enter Tryd.func12, Tryd.ntmps12
    have rs := res_new w
    have hB : Below w.heap.size w (w.alloc (.cells #[.int .i64 0, .string ⟨#[]⟩, .int .i64 0, .int .u64 0, .int .i64 0] 32)) := (Below.refl _ _).alloc (Nat.le_refl _) _
    replace he : Env (w.alloc (.cells #[.int .i64 0, .string ⟨#[]⟩, .int .i64 0, .int .u64 0, .int .i64 0] 32)) := he.alloc _
    go_wp2_with fail
    refine (hbg _).mono ?_
    rintro e1 w1 ⟨rfl, rfl⟩
    generalize w.alloc (.cells #[.int .i64 0, .string ⟨#[]⟩, .int .i64 0, .int .u64 0, .int .i64 0] 32) = w1 at *
    obtain ⟨⟨mx, hmx⟩, _⟩ := he
    go_wp2_with fail
    refine (hnm mx _ hmx).mono ?_
    rintro e3 w3 ⟨rfl, hb3⟩
    replace rs := rs.below hb3
    replace hB := hB.trans (hb3.mono hB.size)
    clear hb3
    unfold Tk.val
    obtain ⟨x0, x1c, x2c, x3c, x4c⟩ := rs.cells
    have y0 := rs.free 0
    have y1 := rs.free 1
    have y2 := rs.free 2
    have y3 := rs.free 3
    have y4 := rs.free 4
    go_wp2
    refine bodyPost_ret (v := T.val) (by simp [results, Tryd.results12, go_sem, Tk.val, *]) rfl ⟨by rw [HE.out], ?_⟩
    repeat (first | exact hB | (refine Below.setCell ?_ (by first | (simp; done) | (simp; omega) | omega) _))
  | false =>
    rw [ha] at hbg
    cases hd : digit c with
    | true =>
      rw [hd] at hdg
      have HE : Hid (tokenS l = numberS l) := Lib.hid (by rw [HT.out, if_neg (by rw [ha]; decide), if_pos hd])
      have hnm := fun (w : World) => number_any l hl w
      generalize numberS l = T at *
      clear ha hd
      go_enter Tryd.func12, Tryd.ntmps12
      have rs := res_new w
      have hB : Below w.heap.size w (w.alloc (.cells #[.int .i64 0, .string ⟨#[]⟩, .int .i64 0, .int .u64 0, .int .i64 0] 32)) := (Below.refl _ _).alloc (Nat.le_refl _) _
      replace he : Env (w.alloc (.cells #[.int .i64 0, .string ⟨#[]⟩, .int .i64 0, .int .u64 0, .int .i64 0] 32)) := he.alloc _
      go_wp2_with fail
      refine (hbg _).mono ?_
      rintro e1 w1 ⟨rfl, rfl⟩
      generalize w.alloc (.cells #[.int .i64 0, .string ⟨#[]⟩, .int .i64 0, .int .u64 0, .int .i64 0] 32) = w1 at *
      go_wp2_with fail
      refine (hdg _).mono ?_
      rintro e2 w2 ⟨rfl, rfl⟩
      go_wp2_with fail
      refine (hnm _).mono ?_
      rintro e3 w3 ⟨rfl, hb3⟩
      replace rs := rs.below hb3
      replace hB := hB.trans (hb3.mono hB.size)
      clear hb3
      unfold Tk.val
      obtain ⟨x0, x1c, x2c, x3c, x4c⟩ := rs.cells
      have y0 := rs.free 0
      have y1 := rs.free 1
      have y2 := rs.free 2
      have y3 := rs.free 3
      have y4 := rs.free 4
      go_wp2
      refine bodyPost_ret (v := T.val) (by simp [results, Tryd.results12, go_sem, Tk.val, *]) rfl ⟨by rw [HE.out], ?_⟩
      repeat (first | exact hB | (refine Below.setCell ?_ (by first | (simp; done) | (simp; omega) | omega) _))
    | false =>
      rw [hd] at hdg
      have hsg := fun (w : World) hg => sign_any l hl w hg
      have hsl := signS_short l
      replace HT : Hid (tokenS l = if signS l = [] then badT 20 else ⟨4, signS l, 0, 0, (signS l).length, 0⟩) := Lib.hid (by rw [HT.out, if_neg (by rw [ha]; decide), if_neg (by rw [hd]; decide)])
      clear ha hd
      generalize signS l = g at *
      by_cases hg : g = []
      · subst hg
        have HE : Hid (tokenS l = badT 20) := Lib.hid (by rw [HT.out, if_pos rfl])
        go_enter Tryd.func12, Tryd.ntmps12
        have rs := res_new w
        have hB : Below w.heap.size w (w.alloc (.cells #[.int .i64 0, .string ⟨#[]⟩, .int .i64 0, .int .u64 0, .int .i64 0] 32)) := (Below.refl _ _).alloc (Nat.le_refl _) _
        replace he : Env (w.alloc (.cells #[.int .i64 0, .string ⟨#[]⟩, .int .i64 0, .int .u64 0, .int .i64 0] 32)) := he.alloc _
        go_wp2_with fail
        refine (hbg _).mono ?_
        rintro e1 w1 ⟨rfl, rfl⟩
        generalize w.alloc (.cells #[.int .i64 0, .string ⟨#[]⟩, .int .i64 0, .int .u64 0, .int .i64 0] 32) = w1 at *
        go_wp2_with fail
        refine (hdg _).mono ?_
        rintro e2 w2 ⟨rfl, rfl⟩
        go_wp2_with fail
        refine (hsg _ he.signs).mono ?_
        rintro e3 w3 ⟨rfl, mq, rfl⟩
        replace rs := rs.below (below_drewN (Below.refl _ _) mq)
        replace hB := hB.trans ((below_drewN (Below.refl _ w1) mq).mono hB.size)
        generalize w1.drewN mq = w3 at *
        go_wp2_with fail
        refine (wrong_any 20 _).mono ?_
        rintro ez wz ⟨rfl, hbz⟩
        replace rs := rs.below hbz
        replace hB := hB.trans (hbz.mono hB.size)
        clear hbz
        obtain ⟨x0, x1c, x2c, x3c, x4c⟩ := rs.cells
        have y0 := rs.free 0
        have y1 := rs.free 1
        have y2 := rs.free 2
        have y3 := rs.free 3
        have y4 := rs.free 4
        go_wp2
        refine bodyPost_ret (v := (badT 20).val) (by simp [results, Tryd.results12, go_sem, Tk.val, badT, *]) rfl ⟨by rw [HE.out], ?_⟩
        repeat (first | exact hB | (refine Below.setCell ?_ (by first | (simp; done) | (simp; omega) | omega) _))
      · have hg1 : g.isEmpty = false := by simpa using hg
        have hg2 : (g == []) = false := by simpa using hg
        have HE : Hid (tokenS l = ⟨4, g, 0, 0, g.length, 0⟩) := Lib.hid (by rw [HT.out, if_neg hg])
        clear hg
        go_enter Tryd.func12, Tryd.ntmps12
        have rs := res_new w
        have hB : Below w.heap.size w (w.alloc (.cells #[.int .i64 0, .string ⟨#[]⟩, .int .i64 0, .int .u64 0, .int .i64 0] 32)) := (Below.refl _ _).alloc (Nat.le_refl _) _
        replace he : Env (w.alloc (.cells #[.int .i64 0, .string ⟨#[]⟩, .int .i64 0, .int .u64 0, .int .i64 0] 32)) := he.alloc _
        go_wp2_with fail
        refine (hbg _).mono ?_
        rintro e1 w1 ⟨rfl, rfl⟩
        generalize w.alloc (.cells #[.int .i64 0, .string ⟨#[]⟩, .int .i64 0, .int .u64 0, .int .i64 0] 32) = w1 at *
        go_wp2_with fail
        refine (hdg _).mono ?_
        rintro e2 w2 ⟨rfl, rfl⟩
        go_wp2_with fail
        refine (hsg _ he.signs).mono ?_
        rintro e3 w3 ⟨rfl, mq, rfl⟩
        replace rs := rs.below (below_drewN (Below.refl _ _) mq)
        replace hB := hB.trans ((below_drewN (Below.refl _ w1) mq).mono hB.size)
        generalize w1.drewN mq = w3 at *
        obtain ⟨x0, x1c, x2c, x3c, x4c⟩ := rs.cells
        have y0 := rs.free 0
        have y1 := rs.free 1
        have y2 := rs.free 2
        have y3 := rs.free 3
        have y4 := rs.free 4
        go_wp2
        refine bodyPost_ret (v := (⟨4, g, 0, 0, g.length, 0⟩ : Tk).val) (by simp [results, Tryd.results12, go_sem, Tk.val, *]; skip) rfl ⟨by rw [HE.out], ?_⟩
        repeat (first | exact hB | (refine Below.setCell ?_ (by first | (simp; done) | (simp; omega) | omega) _))
end Go.Proofs.YtigdegjhajdmhaaDoor
