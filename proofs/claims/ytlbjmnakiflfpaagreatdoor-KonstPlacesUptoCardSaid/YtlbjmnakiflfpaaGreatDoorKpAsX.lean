/-
  The walkers: a node tells its own depth, and goes on to its parts, one by one.
-/
import Derived.Test.YtlbjmnakiflfpaaGreatDoorKpAsW
namespace Go.Proofs.YtlbjmnakiflfpaaGreatDoor
open Go Go.RowKit Go.Shelf
set_option linter.unusedVariables false
set_option linter.unusedSimpArgs false
attribute [local go_sem] Oper.semAt_some

set_option maxHeartbeats 8000000 in
set_option maxRecDepth 3000000 in
theorem expr_in (F : Fence) (hd : F.depth = none) (hW : ∀ g, F.fn g) (hro : F.round = none) (l B n0 H0 : Nat) (hnB : n0 ≤ B) (N : Nat) (J Jx : List Nat → World → Prop) (hJ : AbidesFrom H0 J)
    (hY : ∀ m pre (d : Nat) W, J pre W → pre.length < N → YieldAt F m Tryz.prog l #[.int .i64 (d : Int)] W fun e W' => (e = .returned (.bool true) ∧ J (pre ++ [d]) W' ∧ KeepC B W W') ∨ (e = .returned (.bool false) ∧ Jx (pre ++ [d]) W')) :
    ∀ x : XT, x.sz ≤ 2000000 → ∀ (d n : Nat) (pre : List Nat) (W : World), d + x.sz ≤ 4000000 → B < W.heap.size → x.In n0 W → J pre W → pre.length + (x.ds d).length ≤ N → CallsIn F n Tryz.prog 41 #[.func (.yield l) #[] #[], x.val, .int .i64 (d : Int)] W (TravPost J Jx B pre (x.ds d) W) := by
  refine XT.ind ?_
  intro op nm xn wd v xa xc xl ih0 hsz d n pre W hd2 hB hin hj hN
  rw [XT.In_mk] at hin
  rw [XT.ds_mk] at hN ⊢
  simp only [XT.sz] at hsz hd2
  simp only [XT.val, XT.cells]
  have hdd : ∀ k : Nat, (F.depth.isSome = true → 1 ≤ k) := fun k h => by rw [hd] at h; cases h
  have i0 := hin
  have m0 := fun y (hy : y ∈ xl) => XT.szL_mem hy
  have e0 := XT.szL_len xl
  obtain ⟨d1, hd1⟩ : ∃ d1, d + 1 = d1 := ⟨_, rfl⟩
  have hadd : (d : Int) + 1 = (d1 : Int) := by omega
  have hadd2 : IntKind.i64.wrap ((d : Int) + 1) = (d1 : Int) := by rw [hadd]; exact IntWalk.i64_in _ (by omega)
  rw [hd1] at hN ⊢
  simp only [List.length_cons, List.length_append] at hN
  have c0 := fun pre' (W' : World) (h1 : B < W'.heap.size) h2 h3 (h4 : pre'.length + (xl.flatMap (XT.ds d1)).length ≤ N) => eachX_in F hd (hW _) (hW _) hro B n0 H0 hnB N J Jx hJ (.func (.yield l) #[] #[]) d1 xl (by omega) (fun y hy m pre2 W2 hB2 hin2 hj2 hN2 => ih0 y hy (by have := m0 y hy; omega) d1 m pre2 W2 (by have := m0 y hy; omega) hB2 hin2 hj2 hN2) (n - 1) xa xc pre' W' h1 h2 h3 h4
  have hk0 : KeepC B W (W.alloc (.cells #[.int .i64 op, .string (bs nm), .int .i64 xn, .int .i64 wd, .int .u64 (v : Int), .slice xa xl.length xc] 25)) := (KeepC.refl _ _).alloc _
  have hj0 : J pre (W.alloc (.cells #[.int .i64 op, .string (bs nm), .int .i64 xn, .int .i64 wd, .int .u64 (v : Int), .slice xa xl.length xc] 25)) := AbidesFrom.alloc hJ _ hj
  have b5 : (W.alloc (.cells #[.int .i64 op, .string (bs nm), .int .i64 xn, .int .i64 wd, .int .u64 (v : Int), .slice xa xl.length xc] 25)).cell? ⟨W.heap.size, 5, none⟩ = some (.slice xa xl.length xc) := by simp
  obtain ⟨fn, tmps, assign, body, hy, hR⟩ := hY (n - 1) pre d _ hj0 (by omega)
  have HH := Lib.hid (And.intro hd1 hN)
  clear hd1
  refine callsIn_of_wp Tryz.func41 rfl (hW _) ?_ hro
  simp only [Tryz.ntmps41, List.size_toArray, List.length_cons, List.length_nil, Nat.reduceAdd, Nat.reduceSub, Array.replicate_succ, Array.replicate_zero, List.push_toArray, List.append_toArray, List.nil_append, List.cons_append]
  gi_wp2
  refine hR.mono ?_
  clear hR hy hj0
  rintro e W1 (⟨rfl, hj1, hk1⟩ | ⟨rfl, hx1⟩)
  · have K1 := hk0.trans hk1
    have z1 := K1.size
    replace b5 := hk1.cell (by omega) b5
    have t0 := c0 (pre ++ [d]) W1 (by omega) (i0.keep (K1.keptTo hnB) (fun x _ => XT.In.keep (K1.keptTo hnB) x)) hj1 (by simp only [List.length_append, List.length_cons, List.length_nil]; omega)
    gi_wp2_with fail
    (try refine ⟨hdd _, ?_⟩)
    refine t0.mono ?_
    clear t0
    rintro e W2 (⟨rfl, hj2, hk2⟩ | ⟨rfl, q, hq, hx2⟩)
    · gi_wp2
      go_ret
      exact .inl ⟨rfl, by simpa [List.append_assoc] using hj2, K1.trans hk2⟩
    · gi_wp2
      go_ret
      obtain ⟨r, hr⟩ := hq
      exact .inr ⟨rfl, d :: (q), ⟨r, by simp [← hr]⟩, by simpa [List.append_assoc] using hx2⟩
  · gi_wp2
    go_ret
    exact .inr ⟨rfl, [d], ⟨xl.flatMap (XT.ds d1), by simp⟩, by simpa using hx1⟩

end Go.Proofs.YtlbjmnakiflfpaaGreatDoor
