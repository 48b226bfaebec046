/-
  sized: ownWidth.
-/
import Derived.Test.YtbcgeglkmpcnpaaDoorEzG
import Derived.Lib.QuietBelow
import Derived.BigQuiet
namespace Go.Proofs.YtbcgeglkmpcnpaaDoor
open Go Go.RowKit
set_option linter.unusedVariables false
set_option linter.unusedSimpArgs false
open Go.Sort
set_option maxHeartbeats 8000000 in
set_option maxRecDepth 100000 in
theorem ow_any {gl : List GT} (hg : ∀ g ∈ gl, g.wd ≤ 64) : ∀ x : ET, x.bk ≤ 4500000 → mayE gl x = true → ∀ (n0 : Nat) (w : World), n0 ≤ w.heap.size → x.In n0 w → Calls Tryd.prog 55 #[x.val] w fun e w' => e = .returned (.int .i64 (ow x)) ∧ Below w.heap.size w w' := by
  refine ET.ind ?_
  intro op wd v sg uh ul xn xa xc xl ih hbk hm n0 w hn0 hin
  rw [ET.In_mk] at hin
  simp only [ET.bk] at hbk
  have hll := ET.bkL_len xl
  obtain ⟨ho, f2, f3, f4, f5, f6, f7⟩ := may_facts hm
  have hbd : ∀ x ∈ xl, 0 ≤ ow x ∧ ow x ≤ 300000000 := fun x hx => by
    have h1 := ow_bound hg x (f7 x hx)
    have h2 := x.sz_bk
    have h3 := ET.bkL_mem hx
    omega
  have hc := fun x (hx : x ∈ xl) (w' : World) h1 h2 => ih x hx (by have := ET.bkL_mem hx; omega) (f7 x hx) n0 w' h1 h2
  have hall := fun (w' : World) h1 h2 => allW_any n0 xl (by omega) hbd hc xa xc w' h1 h2
  obtain ⟨R, hR⟩ : ∃ R, ow (.mk op wd v sg uh ul xn xa xc xl) = R := ⟨_, rfl⟩
  rw [hR]
  rw [ow] at hR
  clear ih hm hbd f7
  simp only [ET.val, ET.cells]
  have hop : op = 1 ∨ op = 2 ∨ op = 3 ∨ op = 4 ∨ op = 5 ∨ op = 6 ∨ op = 7 ∨ op = 8 := by omega
  clear ho
  rcases hop with rfl | rfl | rfl | rfl | rfl | rfl | rfl | rfl
  · have HE : Hid (R = wd) := Lib.hid (by rw [← hR]; simp [owF])
    obtain ⟨gx, hgx⟩ : ∃ gx, w.heap.size = gx := ⟨_, rfl⟩
    obtain ⟨w1, hw1⟩ : ∃ w1, w.alloc (.cells #[.int .i64 1, .int .i64 wd, .int .u64 (v : Int), .int .i64 sg, .int .i64 uh, .int .i64 ul, .int .i64 xn, .slice xa xl.length xc] 30) = w1 := ⟨_, rfl⟩
    have hb0 : Below w.heap.size w w1 := by rw [← hw1]; exact (Below.refl _ _).alloc (Nat.le_refl _) _
    have BX : w1.heap[gx]? = some (.cells #[.int .i64 1, .int .i64 wd, .int .u64 (v : Int), .int .i64 sg, .int .i64 uh, .int .i64 ul, .int .i64 xn, .slice xa xl.length xc] 30) := by rw [← hw1, ← hgx]; exact World.alloc_heap_new w _
    obtain ⟨z0, z1, z2, z3, z4, z5, z6, z7⟩ := ope8 BX
    have hn1 : n0 ≤ w1.heap.size := Nat.le_trans hn0 hb0.size
    have hin1 := hin.keep (Below.keptTo hb0 hn0) (fun x _ => ET.In.keep (Below.keptTo hb0 hn0) x)
    have HB := Lib.hid hb0
    clear hin hb0 BX
    clear hR hc hall hin1 f2 f3 f4 f5 f6
    go_enter Tryd.func55, Tryd.ntmps55
    go_wp2
    (try rw [hw1])
    go_ret
    exact ⟨by rw [HE.out]; rfl, by first | exact HB.out | (have h9 := HB.out; rw [hgx] at h9; exact h9) | (have h9 := HB.out; rw [← hw1] at h9; exact h9)⟩
  · have f3 := haveBits_facts (by simpa [bitsFitB] using f3)
    have f8 := widthOf_le hg sg
    have y1 : uh ≤ 63 := by omega
    have y2 : 0 ≤ ul := by omega
    have y3 : ul ≤ uh := by omega
    clear f8
    have HE : Hid (R = uh - ul + 1) := Lib.hid (by rw [← hR]; simp [owF])
    obtain ⟨gx, hgx⟩ : ∃ gx, w.heap.size = gx := ⟨_, rfl⟩
    obtain ⟨w1, hw1⟩ : ∃ w1, w.alloc (.cells #[.int .i64 2, .int .i64 wd, .int .u64 (v : Int), .int .i64 sg, .int .i64 uh, .int .i64 ul, .int .i64 xn, .slice xa xl.length xc] 30) = w1 := ⟨_, rfl⟩
    have hb0 : Below w.heap.size w w1 := by rw [← hw1]; exact (Below.refl _ _).alloc (Nat.le_refl _) _
    have BX : w1.heap[gx]? = some (.cells #[.int .i64 2, .int .i64 wd, .int .u64 (v : Int), .int .i64 sg, .int .i64 uh, .int .i64 ul, .int .i64 xn, .slice xa xl.length xc] 30) := by rw [← hw1, ← hgx]; exact World.alloc_heap_new w _
    obtain ⟨z0, z1, z2, z3, z4, z5, z6, z7⟩ := ope8 BX
    have hn1 : n0 ≤ w1.heap.size := Nat.le_trans hn0 hb0.size
    have hin1 := hin.keep (Below.keptTo hb0 hn0) (fun x _ => ET.In.keep (Below.keptTo hb0 hn0) x)
    have HB := Lib.hid hb0
    clear hin hb0 BX
    clear hR hc hall hin1 f2 f3 f4 f5 f6
    go_enter Tryd.func55, Tryd.ntmps55
    go_wp2
    (try rw [hw1])
    go_ret
    exact ⟨by rw [HE.out]; rfl, by first | exact HB.out | (have h9 := HB.out; rw [hgx] at h9; exact h9) | (have h9 := HB.out; rw [← hw1] at h9; exact h9)⟩
  · have HE : Hid (R = 1) := Lib.hid (by rw [← hR]; simp [owF])
    obtain ⟨gx, hgx⟩ : ∃ gx, w.heap.size = gx := ⟨_, rfl⟩
    obtain ⟨w1, hw1⟩ : ∃ w1, w.alloc (.cells #[.int .i64 3, .int .i64 wd, .int .u64 (v : Int), .int .i64 sg, .int .i64 uh, .int .i64 ul, .int .i64 xn, .slice xa xl.length xc] 30) = w1 := ⟨_, rfl⟩
    have hb0 : Below w.heap.size w w1 := by rw [← hw1]; exact (Below.refl _ _).alloc (Nat.le_refl _) _
    have BX : w1.heap[gx]? = some (.cells #[.int .i64 3, .int .i64 wd, .int .u64 (v : Int), .int .i64 sg, .int .i64 uh, .int .i64 ul, .int .i64 xn, .slice xa xl.length xc] 30) := by rw [← hw1, ← hgx]; exact World.alloc_heap_new w _
    obtain ⟨z0, z1, z2, z3, z4, z5, z6, z7⟩ := ope8 BX
    have hn1 : n0 ≤ w1.heap.size := Nat.le_trans hn0 hb0.size
    have hin1 := hin.keep (Below.keptTo hb0 hn0) (fun x _ => ET.In.keep (Below.keptTo hb0 hn0) x)
    have HB := Lib.hid hb0
    clear hin hb0 BX
    clear hR hc hall hin1 f2 f3 f4 f5 f6
    go_enter Tryd.func55, Tryd.ntmps55
    go_wp2
    (try rw [hw1])
    go_ret
    exact ⟨by rw [HE.out]; rfl, by first | exact HB.out | (have h9 := HB.out; rw [hgx] at h9; exact h9) | (have h9 := HB.out; rw [← hw1] at h9; exact h9)⟩
  · have f6 : xl.length = 1 := by have h9 := f6; simp [countP, ke] at h9; omega
    have f4 : 1 ≤ xn := by simpa [ke] using f4
    have f5 : xn ≤ 6 := by simpa [ke] using f5
    have q1 : xn = 1 ∨ xn = 2 ∨ xn = 17 ∨ xn = 18 → 1 ≤ xl.length := by omega
    have q2 : 11 ≤ xn ∧ xn ≤ 16 → 2 ≤ xl.length := by omega
    have HE : Hid (R = owO xn (owL xl)) := Lib.hid (by rw [← hR]; simp [owF])
    obtain ⟨gx, hgx⟩ : ∃ gx, w.heap.size = gx := ⟨_, rfl⟩
    obtain ⟨w1, hw1⟩ : ∃ w1, w.alloc (.cells #[.int .i64 4, .int .i64 wd, .int .u64 (v : Int), .int .i64 sg, .int .i64 uh, .int .i64 ul, .int .i64 xn, .slice xa xl.length xc] 30) = w1 := ⟨_, rfl⟩
    have hb0 : Below w.heap.size w w1 := by rw [← hw1]; exact (Below.refl _ _).alloc (Nat.le_refl _) _
    have BX : w1.heap[gx]? = some (.cells #[.int .i64 4, .int .i64 wd, .int .u64 (v : Int), .int .i64 sg, .int .i64 uh, .int .i64 ul, .int .i64 xn, .slice xa xl.length xc] 30) := by rw [← hw1, ← hgx]; exact World.alloc_heap_new w _
    obtain ⟨z0, z1, z2, z3, z4, z5, z6, z7⟩ := ope8 BX
    have hn1 : n0 ≤ w1.heap.size := Nat.le_trans hn0 hb0.size
    have hin1 := hin.keep (Below.keptTo hb0 hn0) (fun x _ => ET.In.keep (Below.keptTo hb0 hn0) x)
    have HB := Lib.hid hb0
    clear hin hb0 BX
    have c0 := opW_any 4 wd v sg uh ul xn xa xc xl n0 (by omega) q1 q2 hc w1 hn1 hin1
    (try simp only [ET.val, ET.cells] at c0)
    clear hR hc hall hin1 f2 f3 f4 f5 f6
    go_enter Tryd.func55, Tryd.ntmps55
    go_wp2_with fail
    (try rw [hw1])
    (try rw [hgx])
    refine c0.mono ?_
    clear c0
    rintro e W1 ⟨rfl, hb1⟩
    have HB2 := Lib.hid (HB.out.trans (hb1.mono HB.out.size))
    clear hb1
    go_wp2
    go_ret
    exact ⟨by rw [HE.out]; rfl, by first | exact HB2.out | (have h9 := HB2.out; rw [hgx] at h9; exact h9)⟩
  · have f6 : xl.length = 2 := by have h9 := f6; simp [countP, ke] at h9; omega
    have q1 : xn = 1 ∨ xn = 2 ∨ xn = 17 ∨ xn = 18 → 1 ≤ xl.length := by omega
    have q2 : 11 ≤ xn ∧ xn ≤ 16 → 2 ≤ xl.length := by omega
    have HE : Hid (R = owO xn (owL xl)) := Lib.hid (by rw [← hR]; simp [owF])
    obtain ⟨gx, hgx⟩ : ∃ gx, w.heap.size = gx := ⟨_, rfl⟩
    obtain ⟨w1, hw1⟩ : ∃ w1, w.alloc (.cells #[.int .i64 5, .int .i64 wd, .int .u64 (v : Int), .int .i64 sg, .int .i64 uh, .int .i64 ul, .int .i64 xn, .slice xa xl.length xc] 30) = w1 := ⟨_, rfl⟩
    have hb0 : Below w.heap.size w w1 := by rw [← hw1]; exact (Below.refl _ _).alloc (Nat.le_refl _) _
    have BX : w1.heap[gx]? = some (.cells #[.int .i64 5, .int .i64 wd, .int .u64 (v : Int), .int .i64 sg, .int .i64 uh, .int .i64 ul, .int .i64 xn, .slice xa xl.length xc] 30) := by rw [← hw1, ← hgx]; exact World.alloc_heap_new w _
    obtain ⟨z0, z1, z2, z3, z4, z5, z6, z7⟩ := ope8 BX
    have hn1 : n0 ≤ w1.heap.size := Nat.le_trans hn0 hb0.size
    have hin1 := hin.keep (Below.keptTo hb0 hn0) (fun x _ => ET.In.keep (Below.keptTo hb0 hn0) x)
    have HB := Lib.hid hb0
    clear hin hb0 BX
    have c0 := opW_any 5 wd v sg uh ul xn xa xc xl n0 (by omega) q1 q2 hc w1 hn1 hin1
    (try simp only [ET.val, ET.cells] at c0)
    clear hR hc hall hin1 f2 f3 f4 f5 f6
    go_enter Tryd.func55, Tryd.ntmps55
    go_wp2_with fail
    (try rw [hw1])
    (try rw [hgx])
    refine c0.mono ?_
    clear c0
    rintro e W1 ⟨rfl, hb1⟩
    have HB2 := Lib.hid (HB.out.trans (hb1.mono HB.out.size))
    clear hb1
    go_wp2
    go_ret
    exact ⟨by rw [HE.out]; rfl, by first | exact HB2.out | (have h9 := HB2.out; rw [hgx] at h9; exact h9)⟩
  · have f6 : xl.length = 3 := by have h9 := f6; simp [countP, ke] at h9; omega
    have hlen : 3 ≤ xl.length := by omega
    have x1 : (1 : Int) < (xl.length : Int) := by omega
    have x2 : (2 : Int) < (xl.length : Int) := by omega
    obtain ⟨gx, hgx⟩ : ∃ gx, w.heap.size = gx := ⟨_, rfl⟩
    obtain ⟨w1, hw1⟩ : ∃ w1, w.alloc (.cells #[.int .i64 6, .int .i64 wd, .int .u64 (v : Int), .int .i64 sg, .int .i64 uh, .int .i64 ul, .int .i64 xn, .slice xa xl.length xc] 30) = w1 := ⟨_, rfl⟩
    have hb0 : Below w.heap.size w w1 := by rw [← hw1]; exact (Below.refl _ _).alloc (Nat.le_refl _) _
    have BX : w1.heap[gx]? = some (.cells #[.int .i64 6, .int .i64 wd, .int .u64 (v : Int), .int .i64 sg, .int .i64 uh, .int .i64 ul, .int .i64 xn, .slice xa xl.length xc] 30) := by rw [← hw1, ← hgx]; exact World.alloc_heap_new w _
    obtain ⟨z0, z1, z2, z3, z4, z5, z6, z7⟩ := ope8 BX
    have hn1 : n0 ≤ w1.heap.size := Nat.le_trans hn0 hb0.size
    have hin1 := hin.keep (Below.keptTo hb0 hn0) (fun x _ => ET.In.keep (Below.keptTo hb0 hn0) x)
    have HB := Lib.hid hb0
    clear hin hb0 BX
    clear f2 f3 f4 f5 f6 hall
    obtain ⟨b1, o1, ha1, hb1, hr1, hx1⟩ := InRow.at hin1 (show 1 < xl.length by omega)
    subst ha1
    have hc1 := hc xl[1] (List.getElem_mem (by omega))
    obtain ⟨p1, hp1⟩ : ∃ p, ow xl[1] = p := ⟨_, rfl⟩
    obtain ⟨b2, o2, ha2, hb2, hr2, hx2⟩ := InRow.at hin1 (show 2 < xl.length by omega)
    simp only [Option.some.injEq, Addr.mk.injEq] at ha2
    obtain ⟨e1, e2, -⟩ := ha2
    subst e1 e2
    have hc2 := hc xl[2] (List.getElem_mem (by omega))
    obtain ⟨p2, hp2⟩ : ∃ p, ow xl[2] = p := ⟨_, rfl⟩
    have HE : Hid (R = eith p1 p2) := Lib.hid (by rw [← hR, ← hp1, ← hp2, ← owL_get xl 1 (by omega), ← owL_get xl 2 (by omega)]; simp [owF])
    clear hR
    obtain ⟨q, hq⟩ : ∃ q, eith p1 p2 = q := ⟨_, rfl⟩
    have c9 := fun (dq : Nat) (os : Array Obj) => either_any xl[1] xl[2] n0 hc1 hc2 (grow (redrawn w1 dq) os) (Nat.le_trans hn1 (below_regrown w1 dq os).size) (ET.In.keep (Below.keptTo (below_regrown w1 dq os) hn1) _ hx1) (ET.In.keep (Below.keptTo (below_regrown w1 dq os) hn1) _ hx2)
    simp only [hp1, hp2, hq] at c9
    have HE2 : Hid (R = q) := Lib.hid (by rw [HE.out, hq])
    generalize hgy1 : xl[1] = y1 at *
    obtain ⟨op4, wd4, v4, sg4, uh4, ul4, xn4, xa4, xc4, xl4⟩ := y1
    have s0 : w1.cell? ⟨b1, o1 + 8, none⟩ = some (.int .i64 op4) := by have h9 := hr1 0 _ rfl; simpa using h9
    have s1 : w1.cell? ⟨b1, o1 + 8 + 1, none⟩ = some (.int .i64 wd4) := by have h9 := hr1 1 _ rfl; simpa using h9
    have s2 : w1.cell? ⟨b1, o1 + 8 + 2, none⟩ = some (.int .u64 (v4 : Int)) := by have h9 := hr1 2 _ rfl; simpa using h9
    have s3 : w1.cell? ⟨b1, o1 + 8 + 3, none⟩ = some (.int .i64 sg4) := by have h9 := hr1 3 _ rfl; simpa using h9
    have s4 : w1.cell? ⟨b1, o1 + 8 + 4, none⟩ = some (.int .i64 uh4) := by have h9 := hr1 4 _ rfl; simpa using h9
    have s5 : w1.cell? ⟨b1, o1 + 8 + 5, none⟩ = some (.int .i64 ul4) := by have h9 := hr1 5 _ rfl; simpa using h9
    have s6 : w1.cell? ⟨b1, o1 + 8 + 6, none⟩ = some (.int .i64 xn4) := by have h9 := hr1 6 _ rfl; simpa using h9
    have s7 : w1.cell? ⟨b1, o1 + 8 + 7, none⟩ = some (.slice xa4 xl4.length xc4) := by have h9 := hr1 7 _ rfl; simpa using h9
    generalize hgy2 : xl[2] = y2 at *
    obtain ⟨op5, wd5, v5, sg5, uh5, ul5, xn5, xa5, xc5, xl5⟩ := y2
    have t0 : w1.cell? ⟨b1, o1 + 16, none⟩ = some (.int .i64 op5) := by have h9 := hr2 0 _ rfl; simpa using h9
    have t1 : w1.cell? ⟨b1, o1 + 16 + 1, none⟩ = some (.int .i64 wd5) := by have h9 := hr2 1 _ rfl; simpa using h9
    have t2 : w1.cell? ⟨b1, o1 + 16 + 2, none⟩ = some (.int .u64 (v5 : Int)) := by have h9 := hr2 2 _ rfl; simpa using h9
    have t3 : w1.cell? ⟨b1, o1 + 16 + 3, none⟩ = some (.int .i64 sg5) := by have h9 := hr2 3 _ rfl; simpa using h9
    have t4 : w1.cell? ⟨b1, o1 + 16 + 4, none⟩ = some (.int .i64 uh5) := by have h9 := hr2 4 _ rfl; simpa using h9
    have t5 : w1.cell? ⟨b1, o1 + 16 + 5, none⟩ = some (.int .i64 ul5) := by have h9 := hr2 5 _ rfl; simpa using h9
    have t6 : w1.cell? ⟨b1, o1 + 16 + 6, none⟩ = some (.int .i64 xn5) := by have h9 := hr2 6 _ rfl; simpa using h9
    have t7 : w1.cell? ⟨b1, o1 + 16 + 7, none⟩ = some (.slice xa5 xl5.length xc5) := by have h9 := hr2 7 _ rfl; simpa using h9
    simp only [ET.val, ET.cells] at c9
    have HCX := Lib.hid c9
    have s0R := cell_regrown s0
    have s1R := cell_regrown s1
    have s2R := cell_regrown s2
    have s3R := cell_regrown s3
    have s4R := cell_regrown s4
    have s5R := cell_regrown s5
    have s6R := cell_regrown s6
    have s7R := cell_regrown s7
    have t0R := cell_regrown t0
    have t1R := cell_regrown t1
    have t2R := cell_regrown t2
    have t3R := cell_regrown t3
    have t4R := cell_regrown t4
    have t5R := cell_regrown t5
    have t6R := cell_regrown t6
    have t7R := cell_regrown t7
    have z7R := cell_regrown z7
    clear hr1 hr2 hx1 hx2 hc1 hc2 hc hin1 hgy1 hgy2 hb1 hb2 c9 hq hp1 hp2 HE
    go_enter Tryd.func55, Tryd.ntmps55
    go_wp2_with fail
    (try rw [hw1])
    (try rw [hgx])
    refine wp_region_quiet_below (by kernel_rfl) (by kernel_rfl) ?_
    repeat (go_big_quiet_step (first | (go_at_call 92; exact Calls.regrown_of (HCX.out _ _))))
    refine wpQuiet_nil ?_
    intro _ hw'
    obtain ⟨⟨dq, osq⟩, hw''⟩ := hw'
    subst hw''
    have hbq := below_regrown w1 dq osq
    have HB2 := Lib.hid (HB.out.trans (hbq.mono HB.out.size))
    clear s0R s0 s1R s1 s2R s2 s3R s3 s4R s4 s5R s5 s6R s6 s7R s7 t0R t0 t1R t1 t2R t2 t3R t3 t4R t4 t5R t5 t6R t6 t7R t7 z7R hbq
    generalize grow (redrawn w1 dq) osq = w3 at *
    go_wp2
    go_ret
    exact ⟨by rw [HE2.out]; rfl, by first | exact HB2.out | (have h9 := HB2.out; rw [hgx] at h9; exact h9)⟩
  · have HE : Hid (R = sumW 0 (owL xl)) := Lib.hid (by rw [← hR]; simp [owF])
    obtain ⟨gx, hgx⟩ : ∃ gx, w.heap.size = gx := ⟨_, rfl⟩
    obtain ⟨w1, hw1⟩ : ∃ w1, w.alloc (.cells #[.int .i64 7, .int .i64 wd, .int .u64 (v : Int), .int .i64 sg, .int .i64 uh, .int .i64 ul, .int .i64 xn, .slice xa xl.length xc] 30) = w1 := ⟨_, rfl⟩
    have hb0 : Below w.heap.size w w1 := by rw [← hw1]; exact (Below.refl _ _).alloc (Nat.le_refl _) _
    have BX : w1.heap[gx]? = some (.cells #[.int .i64 7, .int .i64 wd, .int .u64 (v : Int), .int .i64 sg, .int .i64 uh, .int .i64 ul, .int .i64 xn, .slice xa xl.length xc] 30) := by rw [← hw1, ← hgx]; exact World.alloc_heap_new w _
    obtain ⟨z0, z1, z2, z3, z4, z5, z6, z7⟩ := ope8 BX
    have hn1 : n0 ≤ w1.heap.size := Nat.le_trans hn0 hb0.size
    have hin1 := hin.keep (Below.keptTo hb0 hn0) (fun x _ => ET.In.keep (Below.keptTo hb0 hn0) x)
    have HB := Lib.hid hb0
    clear hin hb0 BX
    have c0 := hall w1 hn1 hin1
    (try simp only [ET.val, ET.cells] at c0)
    clear hR hc hall hin1 f2 f3 f4 f5 f6
    go_enter Tryd.func55, Tryd.ntmps55
    go_wp2_with fail
    (try rw [hw1])
    (try rw [hgx])
    refine c0.mono ?_
    clear c0
    rintro e W1 ⟨rfl, hb1⟩
    have HB2 := Lib.hid (HB.out.trans (hb1.mono HB.out.size))
    clear hb1
    go_wp2
    go_ret
    exact ⟨by rw [HE.out]; rfl, by first | exact HB2.out | (have h9 := HB2.out; rw [hgx] at h9; exact h9)⟩
  · have HE : Hid (R = wd) := Lib.hid (by rw [← hR]; simp [owF])
    obtain ⟨gx, hgx⟩ : ∃ gx, w.heap.size = gx := ⟨_, rfl⟩
    obtain ⟨w1, hw1⟩ : ∃ w1, w.alloc (.cells #[.int .i64 8, .int .i64 wd, .int .u64 (v : Int), .int .i64 sg, .int .i64 uh, .int .i64 ul, .int .i64 xn, .slice xa xl.length xc] 30) = w1 := ⟨_, rfl⟩
    have hb0 : Below w.heap.size w w1 := by rw [← hw1]; exact (Below.refl _ _).alloc (Nat.le_refl _) _
    have BX : w1.heap[gx]? = some (.cells #[.int .i64 8, .int .i64 wd, .int .u64 (v : Int), .int .i64 sg, .int .i64 uh, .int .i64 ul, .int .i64 xn, .slice xa xl.length xc] 30) := by rw [← hw1, ← hgx]; exact World.alloc_heap_new w _
    obtain ⟨z0, z1, z2, z3, z4, z5, z6, z7⟩ := ope8 BX
    have hn1 : n0 ≤ w1.heap.size := Nat.le_trans hn0 hb0.size
    have hin1 := hin.keep (Below.keptTo hb0 hn0) (fun x _ => ET.In.keep (Below.keptTo hb0 hn0) x)
    have HB := Lib.hid hb0
    clear hin hb0 BX
    clear hR hc hall hin1 f2 f3 f4 f5 f6
    go_enter Tryd.func55, Tryd.ntmps55
    go_wp2
    (try rw [hw1])
    go_ret
    exact ⟨by rw [HE.out]; rfl, by first | exact HB.out | (have h9 := HB.out; rw [hgx] at h9; exact h9) | (have h9 := HB.out; rw [← hw1] at h9; exact h9)⟩
end Go.Proofs.YtbcgeglkmpcnpaaDoor
