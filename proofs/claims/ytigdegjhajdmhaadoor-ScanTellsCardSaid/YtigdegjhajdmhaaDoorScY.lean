/-
  Contracts: names, and words.
-/
import Derived.Test.YtigdegjhajdmhaaDoorScH
import Derived.Test.YtigdegjhajdmhaaDoorScX
namespace Go.Proofs.YtigdegjhajdmhaaDoor
open Go Go.RowKit
set_option linter.unusedVariables false
open Go.Sort

def nameS (l : Bytes) : Tk :=
  if 64 < run inName l then badT 2
  else ⟨if isWord (l.take (run inName l)) = true then 2 else 1, l.take (run inName l), 0, 0, run inName l, 0⟩
theorem take_take_len (l : Bytes) (n : Nat) : List.take n l = List.take n l := rfl

set_option maxHeartbeats 4000000 in
theorem name_any (l : Bytes) (hl : l.length ≤ 70000) (mx : Int) (w : World) (hm : w.cell? ⟨1, 0, none⟩ = some (.int .i64 mx)) : Calls Tryd.prog 26 #[.string (bs l)] w fun e w' => e = .returned (nameS l).val ∧ Below w.heap.size w w' := by
  obtain ⟨n, hn⟩ : ∃ n, run inName l = n := ⟨_, rfl⟩
  have hnl : n ≤ l.length := by rw [← hn]; exact run_le _ _
  have hru := run_name l (by omega)
  rw [hn] at hru
  obtain ⟨b, hb⟩ : ∃ b, isWord (l.take n) = b := ⟨_, rfl⟩
  have hwo := fun (w : World) hm => word_any (l.take n) (by simp; omega) mx w hm
  rw [hb] at hwo
  have HW : Hid (nameS l = if 64 < n then badT 2 else ⟨if b = true then 2 else 1, l.take n, 0, 0, n, 0⟩) := Lib.hid (by unfold nameS; rw [hn, hb])
  clear hn hb
  by_cases h64 : 64 < n
  · have d64 : decide ((64 : Int) < (n : Int)) = true := by simp; omega
    have HE : Hid (nameS l = badT 2) := Lib.hid (by rw [HW.out, if_pos h64])
    go_enter Tryd.func26, Tryd.ntmps26
    have rs := res_new w
    have hB : Below w.heap.size w (w.alloc (.cells #[.int .i64 0, .string ⟨#[]⟩, .int .i64 0, .int .u64 0, .int .i64 0] 32)) := (Below.refl _ _).alloc (Nat.le_refl _) _
    replace hm : (w.alloc (.cells #[.int .i64 0, .string ⟨#[]⟩, .int .i64 0, .int .u64 0, .int .i64 0] 32)).cell? ⟨1, 0, none⟩ = some (.int .i64 mx) := alloc_cell hm _
    go_wp2_with fail
    refine (hru _).mono ?_
    rintro e1 w1 ⟨rfl, rfl⟩
    generalize w.alloc (.cells #[.int .i64 0, .string ⟨#[]⟩, .int .i64 0, .int .u64 0, .int .i64 0] 32) = w1 at *
    go_wp2_with fail
    refine (wrong_any 2 _).mono ?_
    rintro ez wz ⟨rfl, hbz⟩
    replace rs := rs.below hbz
    replace hB := hB.trans (hbz.mono hB.size)
    clear hbz
    obtain ⟨x0, x1c, x2c, x3c, x4c⟩ := rs.cells
    have y0 := rs.free 0
    have y1 := rs.free 1
    have y2 := rs.free 2
    have y3 := rs.free 3
    have y4 := rs.free 4
    go_wp2
    refine bodyPost_ret (v := (badT 2).val) (by simp [results, Tryd.results26, go_sem, Tk.val, badT, *]) rfl ⟨by rw [HE.out], ?_⟩
    repeat (first | exact hB | (refine Below.setCell ?_ (by first | (simp; done) | (simp; omega) | omega) _))
  · have d64 : decide ((64 : Int) < (n : Int)) = false := by simp; omega
    cases b with
    | true =>
      have HE : Hid (nameS l = ⟨2, l.take n, 0, 0, n, 0⟩) := Lib.hid (by rw [HW.out, if_neg h64]; rfl)
      go_enter Tryd.func26, Tryd.ntmps26
      have rs := res_new w
      have hB : Below w.heap.size w (w.alloc (.cells #[.int .i64 0, .string ⟨#[]⟩, .int .i64 0, .int .u64 0, .int .i64 0] 32)) := (Below.refl _ _).alloc (Nat.le_refl _) _
      replace hm : (w.alloc (.cells #[.int .i64 0, .string ⟨#[]⟩, .int .i64 0, .int .u64 0, .int .i64 0] 32)).cell? ⟨1, 0, none⟩ = some (.int .i64 mx) := alloc_cell hm _
      go_wp2_with fail
      refine (hru _).mono ?_
      rintro e1 w1 ⟨rfl, rfl⟩
      generalize w.alloc (.cells #[.int .i64 0, .string ⟨#[]⟩, .int .i64 0, .int .u64 0, .int .i64 0] 32) = w1 at *
      go_wp2_with fail
      refine (hwo _ hm).mono ?_
      rintro e2 w2 ⟨rfl, rfl⟩
      obtain ⟨x0, x1c, x2c, x3c, x4c⟩ := rs.cells
      have y0 := rs.free 0
      have y1 := rs.free 1
      have y2 := rs.free 2
      have y3 := rs.free 3
      have y4 := rs.free 4
      go_wp2
      refine bodyPost_ret (v := (⟨2, l.take n, 0, 0, n, 0⟩ : Tk).val) (by simp [results, Tryd.results26, go_sem, Tk.val, *]; skip) rfl ⟨by rw [HE.out], ?_⟩
      repeat (first | exact hB | (refine Below.setCell ?_ (by first | (simp; done) | (simp; omega) | omega) _))
    | false =>
      have HE : Hid (nameS l = ⟨1, l.take n, 0, 0, n, 0⟩) := Lib.hid (by rw [HW.out, if_neg h64]; rfl)
      go_enter Tryd.func26, Tryd.ntmps26
      have rs := res_new w
      have hB : Below w.heap.size w (w.alloc (.cells #[.int .i64 0, .string ⟨#[]⟩, .int .i64 0, .int .u64 0, .int .i64 0] 32)) := (Below.refl _ _).alloc (Nat.le_refl _) _
      replace hm : (w.alloc (.cells #[.int .i64 0, .string ⟨#[]⟩, .int .i64 0, .int .u64 0, .int .i64 0] 32)).cell? ⟨1, 0, none⟩ = some (.int .i64 mx) := alloc_cell hm _
      go_wp2_with fail
      refine (hru _).mono ?_
      rintro e1 w1 ⟨rfl, rfl⟩
      generalize w.alloc (.cells #[.int .i64 0, .string ⟨#[]⟩, .int .i64 0, .int .u64 0, .int .i64 0] 32) = w1 at *
      go_wp2_with fail
      refine (hwo _ hm).mono ?_
      rintro e2 w2 ⟨rfl, rfl⟩
      obtain ⟨x0, x1c, x2c, x3c, x4c⟩ := rs.cells
      have y0 := rs.free 0
      have y1 := rs.free 1
      have y2 := rs.free 2
      have y3 := rs.free 3
      have y4 := rs.free 4
      go_wp2
      refine bodyPost_ret (v := (⟨1, l.take n, 0, 0, n, 0⟩ : Tk).val) (by simp [results, Tryd.results26, go_sem, Tk.val, *]; skip) rfl ⟨by rw [HE.out], ?_⟩
      repeat (first | exact hB | (refine Below.setCell ?_ (by first | (simp; done) | (simp; omega) | omega) _))
end Go.Proofs.YtigdegjhajdmhaaDoor
