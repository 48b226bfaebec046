/-
  live: the examples of the chapter.
-/
import Derived.Test.YtlbjmnakiflfpaaGreatDoorKpKsJ
namespace Go.Proofs.YtlbjmnakiflfpaaGreatDoor
open Go Go.RowKit
set_option linter.unusedVariables false
set_option linter.unusedSimpArgs false
open Go.Sort

def nmT (s : Bytes) : XT := .mk 2 s 0 0 0 none 0 []
theorem nmT_in (s : Bytes) (n : Nat) (W : World) : (nmT s).In n W := by rw [nmT, XT.In_mk]; trivial
theorem nmT_wf (s : Bytes) : (nmT s).Wf := by simp [nmT, XT.wf_mk]
theorem numT_wf (k : Nat) (h : k < 18446744073709551616) : (numT k).Wf := by simp [numT, XT.wf_mk]; omega
theorem binT_wf (op : Int) (g : Nat) {x y : XT} (hx : x.Wf) (hy : y.Wf) : (binT op g x y).Wf := by simp [binT, XT.wf_mk, hx, hy]
def envT : List NT := [⟨[78], 9⟩, ⟨[78], 3⟩]
theorem env_row {W : World} {n ge : Nat} (h : W.heap[ge]? = some (.cells #[.string ⟨#[78]⟩, .int .i64 9, .string ⟨#[78]⟩, .int .i64 3] 96)) (hn : ge < n) : NRow n W envT (some ⟨ge, 0, none⟩) :=
  ⟨⟨ge, 0, rfl, hn, rowc_of2 (o := 0) h rfl⟩, ⟨by decide, by decide⟩, ⟨ge, 2, rfl, hn, rowc_of2 (o := 2) h rfl⟩, ⟨by decide, by decide⟩, trivial⟩
theorem lbin (op : Int) (k : Nat) (W : World) : Calls Tryz.prog 64 #[.int .i64 op, .agg #[.int .i64 2, .string ⟨#[78]⟩, .int .i64 0, .int .i64 0, .int .u64 0, .slice none 0 0], .agg #[.int .i64 1, .string ⟨#[]⟩, .int .i64 0, .int .i64 0, .int .u64 (k : Int), .slice none 0 0]] W (BinPost op (nmT [78]) (numT k) W) := bin_any op (nmT [78]) (numT k) 0 W (Nat.zero_le _) (nmT_in _ _ _) (numT_in _ _ _)
theorem leval (op : Int) (k : Nat) (hk : k ≤ 2147483647) (r q : Int) (g ge : Nat) (W : World) (hr : evalK envT (binT op g (nmT [78]) (numT k)) = (r, q)) (he : EnvA W) (hb : (binT op g (nmT [78]) (numT k)).In W.heap.size W) (hE : W.heap[ge]? = some (.cells #[.string ⟨#[78]⟩, .int .i64 9, .string ⟨#[78]⟩, .int .i64 3] 96)) : Calls Tryz.prog 63 #[.agg #[.int .i64 6, .string ⟨#[]⟩, .int .i64 op, .int .i64 0, .int .u64 0, .slice (some ⟨g, 0, none⟩) 2 2], .slice (some ⟨ge, 0, none⟩) 2 2] W fun e w' => e = .returned (.tuple #[.int .i64 r, .int .i64 q]) ∧ Below W.heap.size W w' := by
  have h := eval_any (binT op g (nmT [78]) (numT k)) (by simp [binT, nmT, numT, XT.bk, XT.bkL]) (binT_wf _ _ (nmT_wf _) (numT_wf _ (by omega))) envT (by decide) (some ⟨ge, 0, none⟩) 2 W.heap.size W (Nat.le_refl _) he hb (env_row hE (Array.getElem?_eq_some_iff.1 hE).1)
  rw [hr] at h
  exact h
theorem ev_1 (g : Nat) : evalK envT (binT 14 g (nmT [78]) (numT 1)) = (4, 0) := by rfl
theorem ev_2 (g : Nat) : evalK envT (binT 15 g (nmT [78]) (numT 4)) = (0, 62) := by rfl
theorem ev_3 (g : Nat) : evalK envT (binT 17 g (nmT [78]) (numT 2)) = (12, 0) := by rfl
theorem leval4 (ge : Nat) (W : World) (he : EnvA W) (hE : W.heap[ge]? = some (.cells #[.string ⟨#[78]⟩, .int .i64 9, .string ⟨#[78]⟩, .int .i64 3] 96)) : Calls Tryz.prog 63 #[.agg #[.int .i64 2, .string ⟨#[77]⟩, .int .i64 0, .int .i64 0, .int .u64 0, .slice none 0 0], .slice (some ⟨ge, 0, none⟩) 2 2] W fun e w' => e = .returned (.tuple #[.int .i64 0, .int .i64 60]) ∧ Below W.heap.size W w' := by
  have h := eval_any (nmT [77]) (by simp [nmT, XT.bk, XT.bkL]) (nmT_wf _) envT (by decide) (some ⟨ge, 0, none⟩) 2 W.heap.size W (Nat.le_refl _) he (nmT_in _ _ _) (env_row hE (Array.getElem?_eq_some_iff.1 hE).1)
  rw [show evalK envT (nmT [77]) = (0, 60) by rfl] at h
  exact h
theorem llook (ge : Nat) (W : World) (hE : W.heap[ge]? = some (.cells #[.string ⟨#[78]⟩, .int .i64 9, .string ⟨#[78]⟩, .int .i64 3] 96)) : Calls Tryz.prog 66 #[.slice (some ⟨ge, 0, none⟩) 2 2, .string ⟨#[78]⟩] W fun e w' => e = .returned (.tuple #[.int .i64 3, .bool true]) ∧ Below W.heap.size W w' :=
  lookup_any envT (by decide) [78] (some ⟨ge, 0, none⟩) 2 W.heap.size W (Nat.le_refl _) (env_row hE (Array.getElem?_eq_some_iff.1 hE).1)
theorem lwidth (ge : Nat) (W : World) (he : EnvA W) (hE : W.heap[ge]? = some (.cells #[.string ⟨#[78]⟩, .int .i64 9, .string ⟨#[78]⟩, .int .i64 3] 96)) : Calls Tryz.prog 25 #[.agg #[.int .i64 2, .string ⟨#[78]⟩, .int .i64 0, .int .i64 0, .int .u64 0, .slice none 0 0], .slice (some ⟨ge, 0, none⟩) 2 2] W fun e w' => e = .returned (.tuple #[.int .i64 3, .int .i64 0]) ∧ Below W.heap.size W w' := by
  have h := width_any (nmT [78]) (by simp [nmT, XT.bk, XT.bkL]) (nmT_wf _) envT (by decide) (some ⟨ge, 0, none⟩) 2 W.heap.size W (Nat.le_refl _) he (nmT_in _ _ _) (env_row hE (Array.getElem?_eq_some_iff.1 hE).1)
  rw [show widthK envT (nmT [78]) = (3, 0) by rfl] at h
  exact h
theorem lnumber (W : World) (he : EnvA W) : Calls Tryz.prog 27 #[.agg #[.int .i64 1, .string ⟨#[]⟩, .int .i64 0, .int .i64 8, .int .u64 200, .slice none 0 0], .slice none 0 0] W fun e w' => e = .returned (.tuple #[.agg #[.int .i64 8, .int .u64 200], .int .i64 0]) ∧ Below W.heap.size W w' := by
  have h := number_any (.mk 1 [] 0 8 200 none 0 []) (by simp [XT.bk, XT.bkL]) (by simp [XT.wf_mk]) [] (by decide) none 0 W.heap.size W (Nat.le_refl _) he (by rw [XT.In_mk]; trivial) trivial
  rw [show numberK [] (.mk 1 [] 0 8 200 none 0 []) = (8, 200, 0) by rfl] at h
  exact h
def LsPost (W : World) (e : Ending) (w' : World) : Prop := e = .returned (.agg #[.int .i64 1, .string ⟨#[]⟩, .int .i64 0, .int .i64 0, .int .u64 3, .slice none 0 0]) ∧ Below W.heap.size W w'
theorem lsubst (ge : Nat) (W : World) (hE : W.heap[ge]? = some (.cells #[.string ⟨#[78]⟩, .int .i64 9, .string ⟨#[78]⟩, .int .i64 3] 96)) : Calls Tryz.prog 29 #[.agg #[.int .i64 2, .string ⟨#[78]⟩, .int .i64 0, .int .i64 0, .int .u64 0, .slice none 0 0], .slice (some ⟨ge, 0, none⟩) 2 2] W fun e w' => ∃ a c, e = .returned (.agg #[.int .i64 1, .string ⟨#[]⟩, .int .i64 0, .int .i64 0, .int .u64 3, .slice a 0 c]) ∧ Below W.heap.size W w' := by
  refine (subst_any (nmT [78]) (by simp [nmT, XT.bk, XT.bkL]) envT (by decide) (some ⟨ge, 0, none⟩) 2 W.heap.size W (Nat.le_refl _) (nmT_in _ _ _) (env_row hE (Array.getElem?_eq_some_iff.1 hE).1)).mono ?_
  rintro e w' ⟨y, rfl, hy, _, _, hb⟩
  have hy2 : y.nrm = .mk 1 [] 0 0 3 none 0 [] := hy
  obtain ⟨op, nm, n, wd, v, a, c, l⟩ := y
  rw [XT.nrm, XT.nrmL_map] at hy2
  injection hy2 with h1 h2 h3 h4 h5 _ _ h6
  subst h1 h2 h3 h4 h5
  obtain rfl : l = [] := by simpa using h6
  exact ⟨a, c, rfl, hb⟩

set_option maxHeartbeats 16000000 in
set_option maxRecDepth 3000000 in
theorem live_any (w : World) (he : EnvA w) : Calls Tryz.prog 23 #[] w fun e w' => e = .returned (.bool true) ∧ Below w.heap.size w w' := by
  have BE := block_alloc (World.alloc_heap_new w (.cells #[.string ⟨#[78]⟩, .int .i64 9, .string ⟨#[78]⟩, .int .i64 3] 96)) (.cells #[.int .i64 2, .string ⟨#[78]⟩, .int .i64 0, .int .i64 0, .int .u64 0, .slice none 0 0] 25)
  have BN := World.alloc_heap_new (w.alloc (.cells #[.string ⟨#[78]⟩, .int .i64 9, .string ⟨#[78]⟩, .int .i64 3] 96)) (.cells #[.int .i64 2, .string ⟨#[78]⟩, .int .i64 0, .int .i64 0, .int .u64 0, .slice none 0 0] 25)
  rw [World.size_alloc] at BN
  have hB : Below w.heap.size w ((w.alloc (.cells #[.string ⟨#[78]⟩, .int .i64 9, .string ⟨#[78]⟩, .int .i64 3] 96)).alloc (.cells #[.int .i64 2, .string ⟨#[78]⟩, .int .i64 0, .int .i64 0, .int .u64 0, .slice none 0 0] 25)) := ((Below.refl _ _).alloc (Nat.le_refl _) _).alloc (by simp) _
  have he2 := (he.alloc (.cells #[.string ⟨#[78]⟩, .int .i64 9, .string ⟨#[78]⟩, .int .i64 3] 96)).alloc (.cells #[.int .i64 2, .string ⟨#[78]⟩, .int .i64 0, .int .i64 0, .int .u64 0, .slice none 0 0] 25)
  clear he
  go_enter Tryz.func23, Tryz.ntmps23
  go_upto_region 3 with (fail)
  generalize ((w.alloc (.cells #[.string ⟨#[78]⟩, .int .i64 9, .string ⟨#[78]⟩, .int .i64 3] 96)).alloc (.cells #[.int .i64 2, .string ⟨#[78]⟩, .int .i64 0, .int .i64 0, .int .u64 0, .slice none 0 0] 25)) = w2 at *
  obtain ⟨z0, z1, z2, z3, z4, z5⟩ := open6 BN
  go_region_held3 (fun u1 => u1.cell? ⟨w.heap.size + 1, 0, none⟩ = some (.int .i64 2) ∧ u1.cell? ⟨w.heap.size + 1, 1, none⟩ = some (.string ⟨#[78]⟩) ∧ u1.cell? ⟨w.heap.size + 1, 2, none⟩ = some (.int .i64 0) ∧ u1.cell? ⟨w.heap.size + 1, 3, none⟩ = some (.int .i64 0) ∧ u1.cell? ⟨w.heap.size + 1, 4, none⟩ = some (.int .u64 0) ∧ u1.cell? ⟨w.heap.size + 1, 5, none⟩ = some (.slice none 0 0)) (first | exact ⟨z0, z1, z2, z3, z4, z5⟩ | exact ⟨z0A, z1A, z2A, z3A, z4A, z5A⟩ | exact ⟨z0B, z1B, z2B, z3B, z4B, z5B⟩ | exact ⟨z0C, z1C, z2C, z3C, z4C, z5C⟩) (first | (go_at_call 65; refine (num_any 1 (by omega) _).mono ?_; rintro e w3a ⟨rfl, hb⟩; have hq1 : Below w2.heap.size w2 w3a := ((by first | exact Below.refl _ _ | exact (Below.refl _ _).drew | exact below_drawn2 (Below.refl _ _) _) : Below w2.heap.size w2 _).trans hb; have z0A := keep_cell hq1 z0; have z1A := keep_cell hq1 z1; have z2A := keep_cell hq1 z2; have z3A := keep_cell hq1 z3; have z4A := keep_cell hq1 z4; have z5A := keep_cell hq1 z5; clear hb) | (go_at_call 64; refine (lbin 14 1 _).mono ?_; rintro e w3b ⟨g, rfl, hbi, hb⟩; have hq2 : Below w2.heap.size w2 w3b := hq1.trans (hb.mono hq1.size); have z0B := keep_cell hq2 z0; have z1B := keep_cell hq2 z1; have z2B := keep_cell hq2 z2; have z3B := keep_cell hq2 z3; have z4B := keep_cell hq2 z4; have z5B := keep_cell hq2 z5; clear hb) | (go_at_call 63; refine (leval 14 1 (by omega) _ _ g _ _ (ev_1 g) (he2.keep hq2) hbi (block_kept BE hq2)).mono ?_; rintro e w3 ⟨rfl, hb⟩; have hq3 : Below w2.heap.size w2 w3 := hq2.trans (hb.mono hq2.size); have z0C := keep_cell hq3 z0; have z1C := keep_cell hq3 z1; have z2C := keep_cell hq3 z2; have z3C := keep_cell hq3 z3; have z4C := keep_cell hq3 z4; have z5C := keep_cell hq3 z5; clear hb))
  replace BE := block_kept BE hq3
  replace BN := block_kept BN hq3
  replace he2 := he2.keep hq3
  replace hB := hB.trans (hq3.mono hB.size)
  clear z0 z0A z0B z0C z1 z1A z1B z1C z2 z2A z2B z2C z3 z3A z3B z3C z4 z4A z4B z4C z5 z5A z5B z5C
  clear hq1 hq2 hq3 hbi
  go_upto_region 4 with (fail)
  obtain ⟨z0, z1, z2, z3, z4, z5⟩ := open6 BN
  go_region_held3 (fun u1 => u1.cell? ⟨w.heap.size + 1, 0, none⟩ = some (.int .i64 2) ∧ u1.cell? ⟨w.heap.size + 1, 1, none⟩ = some (.string ⟨#[78]⟩) ∧ u1.cell? ⟨w.heap.size + 1, 2, none⟩ = some (.int .i64 0) ∧ u1.cell? ⟨w.heap.size + 1, 3, none⟩ = some (.int .i64 0) ∧ u1.cell? ⟨w.heap.size + 1, 4, none⟩ = some (.int .u64 0) ∧ u1.cell? ⟨w.heap.size + 1, 5, none⟩ = some (.slice none 0 0)) (first | exact ⟨z0, z1, z2, z3, z4, z5⟩ | exact ⟨z0A, z1A, z2A, z3A, z4A, z5A⟩ | exact ⟨z0B, z1B, z2B, z3B, z4B, z5B⟩ | exact ⟨z0C, z1C, z2C, z3C, z4C, z5C⟩) (first | (go_at_call 65; refine (num_any 4 (by omega) _).mono ?_; rintro e w4a ⟨rfl, hb⟩; have hq1 : Below w3.heap.size w3 w4a := ((by first | exact Below.refl _ _ | exact (Below.refl _ _).drew | exact below_drawn2 (Below.refl _ _) _) : Below w3.heap.size w3 _).trans hb; have z0A := keep_cell hq1 z0; have z1A := keep_cell hq1 z1; have z2A := keep_cell hq1 z2; have z3A := keep_cell hq1 z3; have z4A := keep_cell hq1 z4; have z5A := keep_cell hq1 z5; clear hb) | (go_at_call 64; refine (lbin 15 4 _).mono ?_; rintro e w4b ⟨g, rfl, hbi, hb⟩; have hq2 : Below w3.heap.size w3 w4b := hq1.trans (hb.mono hq1.size); have z0B := keep_cell hq2 z0; have z1B := keep_cell hq2 z1; have z2B := keep_cell hq2 z2; have z3B := keep_cell hq2 z3; have z4B := keep_cell hq2 z4; have z5B := keep_cell hq2 z5; clear hb) | (go_at_call 63; refine (leval 15 4 (by omega) _ _ g _ _ (ev_2 g) (he2.keep hq2) hbi (block_kept BE hq2)).mono ?_; rintro e w4 ⟨rfl, hb⟩; have hq3 : Below w3.heap.size w3 w4 := hq2.trans (hb.mono hq2.size); have z0C := keep_cell hq3 z0; have z1C := keep_cell hq3 z1; have z2C := keep_cell hq3 z2; have z3C := keep_cell hq3 z3; have z4C := keep_cell hq3 z4; have z5C := keep_cell hq3 z5; clear hb))
  replace BE := block_kept BE hq3
  replace BN := block_kept BN hq3
  replace he2 := he2.keep hq3
  replace hB := hB.trans (hq3.mono hB.size)
  clear z0 z0A z0B z0C z1 z1A z1B z1C z2 z2A z2B z2C z3 z3A z3B z3C z4 z4A z4B z4C z5 z5A z5B z5C
  clear hq1 hq2 hq3 hbi
  go_upto_region 5 with (fail)
  obtain ⟨z0, z1, z2, z3, z4, z5⟩ := open6 BN
  go_region_held3 (fun u1 => u1.cell? ⟨w.heap.size + 1, 0, none⟩ = some (.int .i64 2) ∧ u1.cell? ⟨w.heap.size + 1, 1, none⟩ = some (.string ⟨#[78]⟩) ∧ u1.cell? ⟨w.heap.size + 1, 2, none⟩ = some (.int .i64 0) ∧ u1.cell? ⟨w.heap.size + 1, 3, none⟩ = some (.int .i64 0) ∧ u1.cell? ⟨w.heap.size + 1, 4, none⟩ = some (.int .u64 0) ∧ u1.cell? ⟨w.heap.size + 1, 5, none⟩ = some (.slice none 0 0)) (first | exact ⟨z0, z1, z2, z3, z4, z5⟩ | exact ⟨z0A, z1A, z2A, z3A, z4A, z5A⟩ | exact ⟨z0B, z1B, z2B, z3B, z4B, z5B⟩ | exact ⟨z0C, z1C, z2C, z3C, z4C, z5C⟩) (first | (go_at_call 65; refine (num_any 2 (by omega) _).mono ?_; rintro e w5a ⟨rfl, hb⟩; have hq1 : Below w4.heap.size w4 w5a := ((by first | exact Below.refl _ _ | exact (Below.refl _ _).drew | exact below_drawn2 (Below.refl _ _) _) : Below w4.heap.size w4 _).trans hb; have z0A := keep_cell hq1 z0; have z1A := keep_cell hq1 z1; have z2A := keep_cell hq1 z2; have z3A := keep_cell hq1 z3; have z4A := keep_cell hq1 z4; have z5A := keep_cell hq1 z5; clear hb) | (go_at_call 64; refine (lbin 17 2 _).mono ?_; rintro e w5b ⟨g, rfl, hbi, hb⟩; have hq2 : Below w4.heap.size w4 w5b := hq1.trans (hb.mono hq1.size); have z0B := keep_cell hq2 z0; have z1B := keep_cell hq2 z1; have z2B := keep_cell hq2 z2; have z3B := keep_cell hq2 z3; have z4B := keep_cell hq2 z4; have z5B := keep_cell hq2 z5; clear hb) | (go_at_call 63; refine (leval 17 2 (by omega) _ _ g _ _ (ev_3 g) (he2.keep hq2) hbi (block_kept BE hq2)).mono ?_; rintro e w5 ⟨rfl, hb⟩; have hq3 : Below w4.heap.size w4 w5 := hq2.trans (hb.mono hq2.size); have z0C := keep_cell hq3 z0; have z1C := keep_cell hq3 z1; have z2C := keep_cell hq3 z2; have z3C := keep_cell hq3 z3; have z4C := keep_cell hq3 z4; have z5C := keep_cell hq3 z5; clear hb))
  replace BE := block_kept BE hq3
  replace BN := block_kept BN hq3
  replace he2 := he2.keep hq3
  replace hB := hB.trans (hq3.mono hB.size)
  clear z0 z0A z0B z0C z1 z1A z1B z1C z2 z2A z2B z2C z3 z3A z3B z3C z4 z4A z4B z4C z5 z5A z5B z5C
  clear hq1 hq2 hq3 hbi
  obtain ⟨z0, z1, z2, z3, z4, z5⟩ := open6 BN
  go_wp2_with fail
  refine (leval4 _ _ he2 BE).mono ?_
  rintro e w6 ⟨rfl, hb⟩
  clear z0 z1 z2 z3 z4 z5
  have hq3 := hb
  replace BE := block_kept BE hq3
  replace BN := block_kept BN hq3
  replace he2 := he2.keep hq3
  replace hB := hB.trans (hq3.mono hB.size)
  clear hq3 hb
  obtain ⟨z0, z1, z2, z3, z4, z5⟩ := open6 BN
  go_wp2_with fail
  refine (llook _ _ BE).mono ?_
  rintro e w7 ⟨rfl, hb⟩
  clear z0 z1 z2 z3 z4 z5
  have hq3 := hb
  replace BE := block_kept BE hq3
  replace BN := block_kept BN hq3
  replace he2 := he2.keep hq3
  replace hB := hB.trans (hq3.mono hB.size)
  clear hq3 hb
  obtain ⟨z0, z1, z2, z3, z4, z5⟩ := open6 BN
  go_wp2_with fail
  refine (lwidth _ _ he2 BE).mono ?_
  rintro e w8 ⟨rfl, hb⟩
  clear z0 z1 z2 z3 z4 z5
  have hq3 := hb
  replace BE := block_kept BE hq3
  replace BN := block_kept BN hq3
  replace he2 := he2.keep hq3
  replace hB := hB.trans (hq3.mono hB.size)
  clear hq3 hb
  obtain ⟨z0, z1, z2, z3, z4, z5⟩ := open6 BN
  go_wp2_with fail
  refine (lnumber _ he2).mono ?_
  rintro e w9 ⟨rfl, hb⟩
  clear z0 z1 z2 z3 z4 z5
  have hq3 := hb
  replace BE := block_kept BE hq3
  replace BN := block_kept BN hq3
  replace he2 := he2.keep hq3
  replace hB := hB.trans (hq3.mono hB.size)
  clear hq3 hb
  obtain ⟨z0, z1, z2, z3, z4, z5⟩ := open6 BN
  go_upto_region 10 with (fail)
  have BB := World.alloc_heap_new w9 (.cells #[.int .i64 8, .int .u64 200] 52)
  have hq3 : Below w9.heap.size w9 (w9.alloc (.cells #[.int .i64 8, .int .u64 200] 52)) := (Below.refl _ _).alloc (Nat.le_refl _) _
  clear z0 z1 z2 z3 z4 z5
  replace BE := block_kept BE hq3
  replace BN := block_kept BN hq3
  replace he2 := he2.keep hq3
  replace hB := hB.trans (hq3.mono hB.size)
  clear hq3
  generalize hgb : w9.heap.size = gb at *
  generalize w9.alloc (.cells #[.int .i64 8, .int .u64 200] 52) = wA at *
  clear hgb
  obtain ⟨z0, z1, z2, z3, z4, z5⟩ := open6 BN
  go_wp2_with fail
  refine (lsubst _ _ BE).mono ?_
  rintro e wB ⟨a, c, rfl, hb⟩
  clear z0 z1 z2 z3 z4 z5
  have hq3 := hb
  replace BE := block_kept BE hq3
  replace BN := block_kept BN hq3
  replace he2 := he2.keep hq3
  replace hB := hB.trans (hq3.mono hB.size)
  replace BB := block_kept BB hq3
  clear hq3 hb
  obtain ⟨b0, b1⟩ : wB.cell? ⟨gb, 0, none⟩ = some (.int .i64 8) ∧ wB.cell? ⟨gb, 1, none⟩ = some (.int .u64 200) := by constructor <;> simp [World.cell?, BB]
  have c0 := alloc_cell b0
  have c1 := alloc_cell b1
  clear BB BE BN he2
  go_wp2
  go_ret
  exact ⟨rfl, hB.alloc hB.size _⟩
end Go.Proofs.YtlbjmnakiflfpaaGreatDoor
