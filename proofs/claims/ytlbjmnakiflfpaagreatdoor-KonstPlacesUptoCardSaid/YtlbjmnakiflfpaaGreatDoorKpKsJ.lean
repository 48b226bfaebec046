/-
  Subst.
-/
import Derived.Test.YtlbjmnakiflfpaaGreatDoorKpKsI
namespace Go.Proofs.YtlbjmnakiflfpaaGreatDoor
open Go Go.RowKit
set_option linter.unusedVariables false
set_option linter.unusedSimpArgs false
open Go.Sort

/-- What Subst leaves. -/
def SbPost (l : List NT) (x : XT) (W : World) (e : Ending) (W' : World) : Prop := ∃ y : XT, e = .returned y.val ∧ y.nrm = substX l x ∧ y.In W'.heap.size W' ∧ (∀ b, b < W.heap.size → y.Av b) ∧ Below W.heap.size W W'
set_option maxHeartbeats 4000000 in
set_option maxRecDepth 3000000 in
theorem subst_any (x : XT) (hbk : x.bk ≤ 1400000) (l : List NT) (hlk : NT.bkL l ≤ 1500000) (a : Option Addr) (c n0 : Nat) (W : World) (hn0 : n0 ≤ W.heap.size) (hx : x.In n0 W) (hl : NRow n0 W l a) : Calls Tryz.prog 29 #[x.val, .slice a l.length c] W (SbPost l x W) := by
  have hS := stays_P (W.heap.size + 2) n0 l a c (by omega)
  have hp := putIn_any (W.heap.size + 1 + 1) (W.heap.size + 1 + 1) n0 (by omega) (Nat.le_refl _) l hlk a c x hbk
  have hbx : ∀ o1 o2 o3, Below W.heap.size W (((W.alloc o1).alloc o2).alloc o3) := fun o1 o2 o3 => (((Below.refl _ _).alloc (Nat.le_refl _) _).alloc (by simp) _).alloc (by simp; omega) _
  have hx3 := fun o1 o2 o3 => XT.In.keep (Below.keptTo (hbx o1 o2 o3) hn0) _ hx
  have hl3 := fun o1 o2 o3 => hl.keep (Below.keptTo (hbx o1 o2 o3) hn0)
  have HX := Lib.hid (fun y : XT => (rfl : substX l y = substX l y))
  obtain ⟨X, hX⟩ : ∃ X, substX l x = X := ⟨_, rfl⟩
  have HSX := Lib.hid hX
  obtain ⟨op, nm, xn, wd, v, xa, xc, xl⟩ := x
  have hB2 := hbx (.cells #[.int .i64 op, .string (bs nm), .int .i64 xn, .int .i64 wd, .int .u64 (v : Int), .slice xa xl.length xc] 25) (.cells #[.int .i64 0, .string ⟨#[]⟩, .int .i64 0, .int .i64 0, .int .u64 0, .slice none 0 0] 25) (.cells #[.slice a l.length c, .int .i64 0, .map none] 104)
  have hc3 : ConAt (((W.alloc (.cells #[.int .i64 op, .string (bs nm), .int .i64 xn, .int .i64 wd, .int .u64 (v : Int), .slice xa xl.length xc] 25)).alloc (.cells #[.int .i64 0, .string ⟨#[]⟩, .int .i64 0, .int .i64 0, .int .u64 0, .slice none 0 0] 25)).alloc (.cells #[.slice a l.length c, .int .i64 0, .map none] 104)) (W.heap.size + 1 + 1) l a c 104 [] := ⟨0, none, by have h := World.alloc_heap_new ((W.alloc (.cells #[.int .i64 op, .string (bs nm), .int .i64 xn, .int .i64 wd, .int .u64 (v : Int), .slice xa xl.length xc] 25)).alloc (.cells #[.int .i64 0, .string ⟨#[]⟩, .int .i64 0, .int .i64 0, .int .u64 0, .slice none 0 0] 25)) (.cells #[.slice a l.length c, .int .i64 0, .map none] 104); simp only [World.size_alloc] at h; exact h, by omega, fun g e => by cases e⟩
  have hw := hp (((W.alloc (.cells #[.int .i64 op, .string (bs nm), .int .i64 xn, .int .i64 wd, .int .u64 (v : Int), .slice xa xl.length xc] 25)).alloc (.cells #[.int .i64 0, .string ⟨#[]⟩, .int .i64 0, .int .i64 0, .int .u64 0, .slice none 0 0] 25)).alloc (.cells #[.slice a l.length c, .int .i64 0, .map none] 104)) ⟨⟨hc3, hl3 _ _ _⟩, by simp⟩ (by simp) (hx3 _ _ _)
  have BR := block_alloc (World.alloc_heap_new (W.alloc (.cells #[.int .i64 op, .string (bs nm), .int .i64 xn, .int .i64 wd, .int .u64 (v : Int), .slice xa xl.length xc] 25)) (.cells #[.int .i64 0, .string ⟨#[]⟩, .int .i64 0, .int .i64 0, .int .u64 0, .slice none 0 0] 25)) (.cells #[.slice a l.length c, .int .i64 0, .map none] 104)
  rw [World.size_alloc] at BR
  have hz2 : (((W.alloc (.cells #[.int .i64 op, .string (bs nm), .int .i64 xn, .int .i64 wd, .int .u64 (v : Int), .slice xa xl.length xc] 25)).alloc (.cells #[.int .i64 0, .string ⟨#[]⟩, .int .i64 0, .int .i64 0, .int .u64 0, .slice none 0 0] 25)).alloc (.cells #[.slice a l.length c, .int .i64 0, .map none] 104)).heap.size = W.heap.size + 3 := by simp
  simp only [XT.val, XT.cells] at hw ⊢
  clear hx hl hx3 hl3 hbx hp hc3 hX HX
  go_enter Tryz.func29, Tryz.ntmps29
  go_wp2_with fail
  generalize (((W.alloc (.cells #[.int .i64 op, .string (bs nm), .int .i64 xn, .int .i64 wd, .int .u64 (v : Int), .slice xa xl.length xc] 25)).alloc (.cells #[.int .i64 0, .string ⟨#[]⟩, .int .i64 0, .int .i64 0, .int .u64 0, .slice none 0 0] 25)).alloc (.cells #[.slice a l.length c, .int .i64 0, .map none] 104)) = w3 at *
  refine hw.mono ?_
  rintro e w5 ⟨y, rfl, hyn, hyi, hav, ⟨hIn, hIn2⟩, hk⟩
  clear hw
  obtain ⟨op2, nm2, xn2, wd2, v2, xa2, xc2, xl2⟩ := y
  simp only [XT.val, XT.cells]
  have BRn := hk.block BR (by omega)
  have hz5 := hk.size
  have hp : put6 w5 (W.heap.size + 1) 0 (.mk op2 nm2 xn2 wd2 v2 xa2 xc2 xl2) = ((((((w5.setCell ⟨W.heap.size + 1, 0, none⟩ (.int .i64 op2)).setCell ⟨W.heap.size + 1, 1, none⟩ (.string (bs nm2))).setCell ⟨W.heap.size + 1, 2, none⟩ (.int .i64 xn2)).setCell ⟨W.heap.size + 1, 3, none⟩ (.int .i64 wd2)).setCell ⟨W.heap.size + 1, 4, none⟩ (.int .u64 (v2 : Int))).setCell ⟨W.heap.size + 1, 5, none⟩ (.slice xa2 xl2.length xc2)) := by simp [put6, XT.cells, bs]
  have hi9 := put6_in (x := (.mk op2 nm2 xn2 wd2 v2 xa2 xc2 xl2)) (o := 0) (hav (W.heap.size + 1) (by omega)) hyi
  have hb9 := (hB2.trans (hk.low.mono (by omega))).trans (put6_below (n := W.heap.size) (g := W.heap.size + 1) w5 0 (.mk op2 nm2 xn2 wd2 v2 xa2 xc2 xl2) (by omega))
  have hz9 := put6_size w5 (W.heap.size + 1) 0 (.mk op2 nm2 xn2 wd2 v2 xa2 xc2 xl2)
  rw [hp] at hi9 hb9 hz9
  have hfull := set6full (v0 := .int .i64 op2) (v1 := .string (bs nm2)) (v2 := .int .i64 xn2) (v3 := .int .i64 wd2) (v4 := .int .u64 (v2 : Int)) (v5 := .slice xa2 xl2.length xc2) BRn
  obtain ⟨s0, s1, s2, s3, s4, s5⟩ := open6 hfull
  obtain ⟨q0, q1, q2, q3, q4, q5⟩ := open6 BRn
  have fr : ∀ j, w5.frozen? ⟨W.heap.size + 1, j, none⟩ = false := fun j => by simp [World.frozen?, BRn]
  have f0 := fr 0
  have f1 := fr 1
  have f2 := fr 2
  have f3 := fr 3
  have f4 := fr 4
  have f5 := fr 5
  have HS := Lib.hid (And.intro s0 (And.intro s1 (And.intro s2 (And.intro s3 (And.intro s4 s5)))))
  have HE := Lib.hid (And.intro hi9 (And.intro hb9 (And.intro hav hz9)))
  clear hp hi9 hb9 hz9 hfull fr s0 s1 s2 s3 s4 s5 hyi BRn hIn hIn2 hk
  go_wp2
  obtain ⟨s0, s1, s2, s3, s4, s5⟩ := HS.out
  refine bodyPost_ret (v := .agg #[.int .i64 op2, .string (bs nm2), .int .i64 xn2, .int .i64 wd2, .int .u64 (v2 : Int), .slice xa2 xl2.length xc2]) (by simp [results, Tryz.results29, go_sem, s0, s1, s2, s3, s4, s5]) rfl ⟨(.mk op2 nm2 xn2 wd2 v2 xa2 xc2 xl2), rfl, hyn, by have h := HE.out.1; rw [← HE.out.2.2.2] at h; exact h, fun b hb => HE.out.2.2.1 b (by omega), HE.out.2.1⟩
end Go.Proofs.YtlbjmnakiflfpaaGreatDoor
