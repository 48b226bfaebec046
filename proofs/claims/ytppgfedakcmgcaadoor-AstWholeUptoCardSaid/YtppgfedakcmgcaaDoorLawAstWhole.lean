/-
  What may be is made of what may be. For every input of the bulk that the statement names; the listed variables hold what the program's text lays in them.
-/
import Derived.Test.YtppgfedakcmgcaaDoorTie
import Derived.Test.YtppgfedakcmgcaaDoorCards
import Derived.Test.YtppgfedakcmgcaaDoorAsOp
import Derived.Test.YtppgfedakcmgcaaDoorAsLv
import Derived.JoinedCond
import Derived.Deep.DeepHandedRow
namespace Go.Proofs.YtppgfedakcmgcaaDoor.astWhole
open Go Go.ChangeShapes Go.WideShapes Go.ChangeAt Go.RowKit Go.Joins Go.Sort Go.Deep
set_option linter.unusedVariables false
set_option linter.unusedSimpArgs false

theorem cx_zero (x : XT) : checkX x = 0 ↔ x.sz ≤ 65536 ∧ x.dp ≤ 64 ∧ mayX x = true := by
  unfold checkX
  cases h1 : decide (65536 < x.sz) <;> cases h2 : decide (64 < x.dp) <;> cases h3 : mayX x <;> simp at h1 h2 ⊢ <;> omega
theorem cs_zero (x : ST) : checkSt x = 0 ↔ x.sz ≤ 65536 ∧ x.dp ≤ 64 ∧ standS x = true := by
  unfold checkSt
  cases h1 : decide (65536 < x.sz) <;> cases h2 : decide (64 < x.dp) <;> cases h3 : standS x <;> simp at h1 h2 ⊢ <;> omega
theorem dpL_mem {x : XT} : ∀ {l : List XT}, x ∈ l → x.dp ≤ XT.dpL l
  | y :: r, h => by
    rcases List.mem_cons.1 h with e | e
    · subst e; simp only [XT.dpL]; omega
    · have := dpL_mem e; simp only [XT.dpL]; omega
theorem dpS_mem {x : ST} : ∀ {l : List ST}, x ∈ l → x.dp ≤ ST.dpL l
  | y :: r, h => by
    rcases List.mem_cons.1 h with e | e
    · subst e; simp only [ST.dpL]; omega
    · have := dpS_mem e; simp only [ST.dpL]; omega
theorem cx_part {op : Int} {nm : Bytes} {xn wd : Int} {v : Nat} {xa : Option Addr} {xc : Nat} {xl : List XT} (h : checkX (.mk op nm xn wd v xa xc xl) = 0) : ∀ y ∈ xl, checkX y = 0 := by
  rw [cx_zero] at h
  obtain ⟨h1, h2, h3⟩ := h
  rw [mayX, mayXL_all] at h3
  simp only [Bool.and_eq_true, List.all_eq_true] at h3
  simp only [XT.sz, XT.dp] at h1 h2
  intro y hy
  rw [cx_zero]
  have := XT.szL_mem hy
  have := dpL_mem hy
  exact ⟨by omega, by omega, h3.2.2.2.2.2.2 y hy⟩
theorem cx_name {op : Int} {nm : Bytes} {xn wd : Int} {v : Nat} {xa : Option Addr} {xc : Nat} {xl : List XT} (h : checkX (.mk op nm xn wd v xa xc xl) = 0) (hne : nm.isEmpty = false) : checkX (nameT nm) = 0 := by
  rw [cx_zero] at h
  obtain ⟨h1, h2, h3⟩ := h
  rw [mayX] at h3
  simp only [Bool.and_eq_true] at h3
  have h4 := h3.2.1
  have h5 : isNameB nm = true := by
    unfold nameB at h4
    cases hk : (kx op.toNat).1 with
    | true => rw [hk] at h4; exact h4
    | false => rw [hk] at h4; rw [hne] at h4; cases h4
  rw [cx_zero]
  have e : mayX (nameT nm) = isNameB nm := by
    rw [nameT, mayX]
    show (true && (nameB nm true && (true && (true && (true && (true && mayXL [])))))) = _
    rw [mayXL]
    simp [nameB]
  exact ⟨by simp [nameT, XT.sz, XT.szL], by simp [nameT, XT.dp, XT.dpL], by rw [e]; exact h5⟩
theorem cs_parts {op : Int} {nm : Bytes} {xa : Option Addr} {xc : Nat} {xl : List XT} {sa : Option Addr} {sc : Nat} {sl : List ST} (h : checkSt (.mk op nm xa xc xl sa sc sl) = 0) : (∀ y ∈ xl, checkX y = 0) ∧ ∀ y ∈ sl, mayS y = true ∧ y.sz ≤ 65536 ∧ y.dp ≤ 64 := by
  rw [cs_zero] at h
  obtain ⟨h1, h2, h3⟩ := h
  unfold standS at h3
  rw [mayS, maySL_all] at h3
  simp only [Bool.and_eq_true, List.all_eq_true] at h3
  simp only [ST.sz, ST.dp] at h1 h2
  refine ⟨fun y hy => ?_, fun y hy => ⟨h3.2.2.2.2.2.2.2.1 y hy, ?_, ?_⟩⟩
  · rw [cx_zero]
    have := XT.szL_mem hy
    have := dpL_mem hy
    exact ⟨by omega, by omega, h3.2.2.2.2.1 y hy⟩
  · have := ST.szL_mem hy; omega
  · have := dpS_mem hy; omega
theorem cs_plain {y : ST} (h : mayS y = true ∧ y.sz ≤ 65536 ∧ y.dp ≤ 64) (ho : (y.op == 4) = false) : checkSt y = 0 := by
  rw [cs_zero]
  exact ⟨h.2.1, h.2.2, by unfold standS; rw [ho, h.1]; rfl⟩
theorem cs_arm {nm : Bytes} {xa : Option Addr} {xc : Nat} {xl : List XT} {sa : Option Addr} {sc : Nat} {sl : List ST} (h : mayS (.mk 4 nm xa xc xl sa sc sl) = true ∧ ST.sz (.mk 4 nm xa xc xl sa sc sl) ≤ 65536 ∧ ST.dp (.mk 4 nm xa xc xl sa sc sl) ≤ 64) : checkSt (.mk 5 [] none 0 [] sa sc sl) = 0 := by
  obtain ⟨h1, h2, h3⟩ := h
  rw [mayS, maySL_all] at h1
  simp only [Bool.and_eq_true, List.all_eq_true] at h1
  simp only [ST.sz, ST.dp] at h2 h3
  rw [cs_zero]
  refine ⟨by simp only [ST.sz, XT.szL]; omega, by simp only [ST.dp, XT.dpL]; omega, ?_⟩
  have hk := h1.2.2.2.2.2.2.2.1
  have hs := h1.2.2.2.2.2.2.1
  have hc : countB (sl.length : Int) 0 true = true := h1.2.2.2.2.2.1
  unfold standS
  rw [mayS, maySL_all]
  show (true && (true && (true && (true && (true && (true && (countB (sl.length : Int) 0 true && (sl.all mayS && (kindsK 110 110 sl && true))))))))) = true
  have hk2 : kindsK 110 110 sl = true := hk
  rw [hk2, hc, List.all_eq_true.2 hs]
  rfl

set_option maxHeartbeats 8000000 in
set_option maxRecDepth 100000 in
theorem walk (x : XT) (s : ST) (hb0 : x.bk ≤ 1048576) (hb1 : s.bk ≤ 1048576) (hw0 : x.Wf) (hw1 : s.Wf) (W : World) (he : EnvA W) (hx : x.In W.heap.size W) (hs : s.In W.heap.size W) : Calls Tryd.prog 3 #[x.val, s.val] W fun e w' => e = .returned (.bool true) ∧ Below W.heap.size W w' := by
  have e0 : x.sz ≤ 1048576 := Nat.le_trans x.sz_bk hb0
  have e1 : s.sz ≤ 1048576 := Nat.le_trans s.sz_bk hb1
  have few0 := fun (w' : World) h1 h2 => fewX_any x (by omega) W.heap.size w' h1 h2
  have few1 := fun (w' : World) h1 h2 => fewS_any s (by omega) W.heap.size w' h1 h2
  obtain ⟨q0, hq0⟩ : ∃ b, (decide (x.sz ≤ 2000) && decide (x.dp ≤ 100)) = b := ⟨_, rfl⟩
  obtain ⟨q1, hq1⟩ : ∃ b, (decide (s.sz ≤ 2000) && decide (s.dp ≤ 100)) = b := ⟨_, rfl⟩
  rw [hq0] at few0
  rw [hq1] at few1
  have cx := fun (w' : World) h1 h2 h3 => checkX_any x (by omega) hw0 W.heap.size w' h1 h2 h3
  have cs := fun (w' : World) h1 h2 h3 => checkS_any s (by omega) hw1 W.heap.size w' h1 h2 h3
  have j0 := hx
  have j1 := hs
  obtain ⟨op, nm, xn, wd, v, xa, xc, xl⟩ := x
  obtain ⟨sop, snm, sxa, sxc, sxl, ssa, ssc, ssl⟩ := s
  have fx := fun h => cx_part (op := op) (nm := nm) (xn := xn) (wd := wd) (v := v) (xa := xa) (xc := xc) (xl := xl) h
  have fn := fun h => cx_name (op := op) (nm := nm) (xn := xn) (wd := wd) (v := v) (xa := xa) (xc := xc) (xl := xl) h
  have fs := fun h => cs_parts (op := sop) (nm := snm) (xa := sxa) (xc := sxc) (xl := sxl) (sa := ssa) (sc := ssc) (sl := ssl) h
  obtain ⟨c0, hc0⟩ : ∃ c, checkX (.mk op nm xn wd v xa xc xl) = c := ⟨_, rfl⟩
  obtain ⟨c1, hc1⟩ : ∃ c, checkSt (.mk sop snm sxa sxc sxl ssa ssc ssl) = c := ⟨_, rfl⟩
  rw [hc0] at cx fx fn
  rw [hc1] at cs fs
  have gx : ∀ y ∈ xl, y.bk ≤ 1048576 ∧ y.Wf := fun y hy => by { rw [XT.wf_mk] at hw0; have h9 := XT.bkL_mem hy; simp only [XT.bk] at hb0; exact ⟨by omega, hw0.2 y hy⟩ }
  have gl : xl.length ≤ 1048576 := by { have h9 := XT.bkL_len xl; simp only [XT.bk] at hb0; omega }
  have gn : nm.length ≤ 1048576 := by { simp only [XT.bk] at hb0; omega }
  have gsx : ∀ y ∈ sxl, y.bk ≤ 1048576 ∧ y.Wf := fun y hy => by { rw [ST.Wf, XT.wfL_iff, ST.wfL_iff] at hw1; have h9 := XT.bkL_mem hy; simp only [ST.bk] at hb1; exact ⟨by omega, hw1.1 y hy⟩ }
  have gsl : ∀ y ∈ ssl, y.bk ≤ 1048576 ∧ y.Wf := fun y hy => by { rw [ST.Wf, XT.wfL_iff, ST.wfL_iff] at hw1; have h9 := ST.bkL_mem hy; simp only [ST.bk] at hb1; exact ⟨by omega, hw1.2 y hy⟩ }
  have gl2 : sxl.length ≤ 1048576 := by { have h9 := XT.bkL_len sxl; simp only [ST.bk] at hb1; omega }
  have gl3 : ssl.length ≤ 1048576 := by { have h9 := ST.bkL_len ssl; simp only [ST.bk] at hb1; omega }
  simp only [XT.val, XT.cells, ST.val, ST.cells] at few0 few1 cx cs ⊢
  have Hfew0 := Lib.hid few0
  have Hfew1 := Lib.hid few1
  have Hcx := Lib.hid cx
  have Hcs := Lib.hid cs
  have Hfx := Lib.hid fx
  have Hfn := Lib.hid fn
  have Hfs := Lib.hid fs
  have Hgx := Lib.hid gx
  have Hgsx := Lib.hid gsx
  have Hgsl := Lib.hid gsl
  clear few0 few1 cx cs fx fn fs gx gsx gsl hx hs hq0 hq1 hb0 hb1 hw0 hw1 hc0 hc1 e0 e1
  have B0 := World.alloc_heap_new W (.cells #[.int .i64 op, .string (bs nm), .int .i64 xn, .int .i64 wd, .int .u64 (v : Int), .slice xa xl.length xc] 25)
  have B1 := World.alloc_heap_new (W.alloc (.cells #[.int .i64 op, .string (bs nm), .int .i64 xn, .int .i64 wd, .int .u64 (v : Int), .slice xa xl.length xc] 25)) (.cells #[.int .i64 sop, .string (bs snm), .slice sxa sxl.length sxc, .slice ssa ssl.length ssc] 28)
  simp only [World.size_alloc] at B1
  replace B0 := block_alloc B0 (.cells #[.int .i64 sop, .string (bs snm), .slice sxa sxl.length sxc, .slice ssa ssl.length ssc] 28)
  have k1 : Below W.heap.size W (W.alloc (.cells #[.int .i64 op, .string (bs nm), .int .i64 xn, .int .i64 wd, .int .u64 (v : Int), .slice xa xl.length xc] 25)) := (Below.refl _ _).alloc (Nat.le_refl _) _
  have hB := k1.alloc k1.size (.cells #[.int .i64 sop, .string (bs snm), .slice sxa sxl.length sxc, .slice ssa ssl.length ssc] 28)
  clear k1
  have he1 := he.keep hB
  have hn := hB.size
  replace j0 := XT.In.keep (Below.keptTo hB (Nat.le_refl _)) _ j0
  replace j1 := ST.In.keep (Below.keptTo hB (Nat.le_refl _)) _ j1
  have HA := Lib.hid (And.intro j0 (And.intro j1 (And.intro he1 hn)))
  clear j0 j1 he1 hn he
  go_enter Tryd.func3, Tryd.ntmps3
  go_upto_region 1 with (fail)
  generalize (W.alloc (.cells #[.int .i64 op, .string (bs nm), .int .i64 xn, .int .i64 wd, .int .u64 (v : Int), .slice xa xl.length xc] 25)).alloc (.cells #[.int .i64 sop, .string (bs snm), .slice sxa sxl.length sxc, .slice ssa ssl.length ssc] 28) = w1 at *
  generalize W.heap.size + 1 = g1 at *
  go_wp2_with fail
  obtain ⟨j0, j1, he1, hn⟩ := HA.out
  clear HA
  refine (live_any _ he1).mono ?_
  rintro e w9 ⟨rfl, hb⟩
  replace B0 := block_kept B0 hb
  replace B1 := block_kept B1 hb
  replace j0 := XT.In.keep (Below.keptTo hb hn) _ j0
  replace j1 := ST.In.keep (Below.keptTo hb hn) _ j1
  replace he1 := he1.keep hb
  replace hB := hB.trans (hb.mono hB.size)
  replace hn := Nat.le_trans hn hb.size
  clear hb
  have HA := Lib.hid (And.intro j0 (And.intro j1 (And.intro he1 hn)))
  clear j0 j1 he1 hn
  obtain ⟨x0, x1, x2, x3, x4, x5⟩ := open6 B0
  go_wp2_with fail
  obtain ⟨j0, j1, he1, hn⟩ := HA.out
  clear HA
  refine (Hfew0.out _ hn j0).mono ?_
  rintro e w9 ⟨rfl, hb⟩
  clear x0 x1 x2 x3 x4 x5
  replace B0 := block_kept B0 hb
  replace B1 := block_kept B1 hb
  replace j0 := XT.In.keep (Below.keptTo hb hn) _ j0
  replace j1 := ST.In.keep (Below.keptTo hb hn) _ j1
  replace he1 := he1.keep hb
  replace hB := hB.trans (hb.mono hB.size)
  replace hn := Nat.le_trans hn hb.size
  clear hb
  have HA := Lib.hid (And.intro j0 (And.intro j1 (And.intro he1 hn)))
  clear j0 j1 he1 hn
  cases q0 with
  | false =>
    obtain ⟨x0, x1, x2, x3, x4, x5⟩ := open6 B0
    obtain ⟨s0, s1, s2, s3⟩ := open4 B1
    go_wp2
    go_ret
    exact ⟨rfl, hB⟩
  | true =>
    obtain ⟨s0, s1, s2, s3⟩ := open4 B1
    go_wp2_with fail
    obtain ⟨j0, j1, he1, hn⟩ := HA.out
    clear HA
    refine (Hfew1.out _ hn j1).mono ?_
    rintro e w9 ⟨rfl, hb⟩
    clear s0 s1 s2 s3
    replace B0 := block_kept B0 hb
    replace B1 := block_kept B1 hb
    replace j0 := XT.In.keep (Below.keptTo hb hn) _ j0
    replace j1 := ST.In.keep (Below.keptTo hb hn) _ j1
    replace he1 := he1.keep hb
    replace hB := hB.trans (hb.mono hB.size)
    replace hn := Nat.le_trans hn hb.size
    clear hb
    have HA := Lib.hid (And.intro j0 (And.intro j1 (And.intro he1 hn)))
    clear j0 j1 he1 hn
    cases q1 with
    | false =>
      obtain ⟨x0, x1, x2, x3, x4, x5⟩ := open6 B0
      obtain ⟨s0, s1, s2, s3⟩ := open4 B1
      go_wp2
      go_ret
      exact ⟨rfl, hB⟩
    | true =>
      obtain ⟨x0, x1, x2, x3, x4, x5⟩ := open6 B0
      go_wp2_with fail
      obtain ⟨j0, j1, he1, hn⟩ := HA.out
      clear HA
      refine (Hcx.out _ hn he1 j0).mono ?_
      rintro e w9 ⟨rfl, hb⟩
      clear x0 x1 x2 x3 x4 x5
      replace B0 := block_kept B0 hb
      replace B1 := block_kept B1 hb
      replace j0 := XT.In.keep (Below.keptTo hb hn) _ j0
      replace j1 := ST.In.keep (Below.keptTo hb hn) _ j1
      replace he1 := he1.keep hb
      replace hB := hB.trans (hb.mono hB.size)
      replace hn := Nat.le_trans hn hb.size
      clear hb
      have HA := Lib.hid (And.intro j0 (And.intro j1 (And.intro he1 hn)))
      clear j0 j1 he1 hn
      by_cases hc0 : c0 = 0
      · subst hc0
        cases hne : nm.isEmpty with
        | true =>
          have hnm : nm = [] := by simpa using hne
          subst hnm
          obtain ⟨x0, x1, x2, x3, x4, x5⟩ := open6 B0
          go_wp2
          go_loopg [6] xl.length (fun g u wr => ∃ k : Nat, u = .int .i64 k ∧ k + g = xl.length ∧ Below w9.heap.size w9 wr)
          case atStart => exact ⟨0, rfl, by omega, Below.refl _ _⟩
          case round =>
            obtain ⟨k, rfl, hk, hb⟩ := hrel
            have hb0 := hb
            obtain ⟨j0, j1, he1, hn⟩ := HA.out
            clear HA
            replace B0 := block_kept B0 hb
            replace B1 := block_kept B1 hb
            replace j0 := XT.In.keep (Below.keptTo hb hn) _ j0
            replace j1 := ST.In.keep (Below.keptTo hb hn) _ j1
            replace he1 := he1.keep hb
            replace hB := hB.trans (hb.mono hB.size)
            replace hn := Nat.le_trans hn hb.size
            clear hb
            by_cases hlt : k < xl.length
            · have d1 : decide (k < xl.length) = true := by simpa using hlt
              have d2 : decide ((k : Int) < (xl.length : Int)) = true := by rw [decide_eq_true_eq]; omega
              have y1 : (k : Int) < (xl.length : Int) := by omega
              have jx := j0
              rw [XT.In_mk] at jx
              have jr := jx
              obtain ⟨b, o, hxa, hb5, hr, hx⟩ := jr.at hlt
              have hxs : xa = some ⟨b, o, none⟩ := hxa
              subst hxs
              have hmem := List.getElem_mem hlt
              have hz := Hfx.out (by simp)
              have hz1 := hz xl[k] hmem
              have hg := Hgx.out xl[k] hmem
              have hcc := checkX_any xl[k] (by omega) hg.2 W.heap.size wr hn he1 hx
              rw [hz1] at hcc
              generalize xl[k] = y at *
              obtain ⟨op2, nm2, xn2, wd2, v2, xa2, xc2, xl2⟩ := y
              simp only [XT.val, XT.cells] at hcc
              have r0 : wr.cell? ⟨b, o + k * 6, none⟩ = some (.int .i64 op2) := hr 0 _ rfl
              have r1 : wr.cell? ⟨b, o + k * 6 + 1, none⟩ = some (.string (bs nm2)) := hr 1 _ rfl
              have r2 : wr.cell? ⟨b, o + k * 6 + 2, none⟩ = some (.int .i64 xn2) := hr 2 _ rfl
              have r3 : wr.cell? ⟨b, o + k * 6 + 3, none⟩ = some (.int .i64 wd2) := hr 3 _ rfl
              have r4 : wr.cell? ⟨b, o + k * 6 + 4, none⟩ = some (.int .u64 (v2 : Int)) := hr 4 _ rfl
              have r5 : wr.cell? ⟨b, o + k * 6 + 5, none⟩ = some (.slice xa2 xl2.length xc2) := hr 5 _ rfl
              obtain ⟨x0, x1, x2, x3, x4, x5⟩ := open6 B0
              cases gk with
              | zero => omega
              | succ gg =>
                have hkg : k + 1 + gg = xl.length := by omega
                have HC := Lib.hid hcc
                clear jx jr hr hx hz hz1 hg hmem hk hxa hcc hb5
                have HA := Lib.hid (And.intro j0 (And.intro j1 (And.intro he1 hn)))
                clear j0 j1 he1 hn
                go_wp2_with fail
                refine HC.out.mono ?_
                rintro e w8 ⟨rfl, hb⟩
                clear x0 x1 x2 x3 x4 x5 r0 r1 r2 r3 r4 r5 HC
                obtain ⟨j0, j1, he1, hn⟩ := HA.out
                clear HA
                replace B0 := block_kept B0 hb
                replace B1 := block_kept B1 hb
                have hbw := hb0.trans (hb.mono hb0.size)
                obtain ⟨x0, x1, x2, x3, x4, x5⟩ := open6 B0
                go_wp2
                go_roundg gg
                case rel => exact ⟨k + 1, by simp; first | done | rfl | omega, hkg, hbw⟩
                case measure => omega
            · have d1 : decide (k < xl.length) = false := by simpa using hlt
              have d2 : decide ((k : Int) < (xl.length : Int)) = false := by rw [decide_eq_false_iff_not]; omega
              obtain ⟨x0, x1, x2, x3, x4, x5⟩ := open6 B0
              have HA := Lib.hid (And.intro j0 (And.intro j1 (And.intro he1 hn)))
              clear j0 j1 he1 hn
              clear hlt hk hb0
              generalize wr = w9 at *
              have B0k := B0
              clear B0k
              obtain ⟨s0, s1, s2, s3⟩ := open4 B1
              go_wp2_with fail
              obtain ⟨j0, j1, he1, hn⟩ := HA.out
              clear HA
              refine (Hcs.out _ hn he1 j1).mono ?_
              rintro e w9 ⟨rfl, hb⟩
              clear x0 x1 x2 x3 x4 x5 s0 s1 s2 s3
              replace B0 := block_kept B0 hb
              replace B1 := block_kept B1 hb
              replace j0 := XT.In.keep (Below.keptTo hb hn) _ j0
              replace j1 := ST.In.keep (Below.keptTo hb hn) _ j1
              replace he1 := he1.keep hb
              replace hB := hB.trans (hb.mono hB.size)
              replace hn := Nat.le_trans hn hb.size
              clear hb
              have HA := Lib.hid (And.intro j0 (And.intro j1 (And.intro he1 hn)))
              clear j0 j1 he1 hn
              by_cases hc1 : c1 = 0
              · subst hc1
                obtain ⟨s0, s1, s2, s3⟩ := open4 B1
                go_wp2
                go_loopg [7] sxl.length (fun g u wr => ∃ k : Nat, u = .int .i64 k ∧ k + g = sxl.length ∧ Below w9.heap.size w9 wr)
                case atStart => exact ⟨0, rfl, by omega, Below.refl _ _⟩
                case round =>
                  obtain ⟨k, rfl, hk, hb⟩ := hrel
                  have hb0 := hb
                  obtain ⟨j0, j1, he1, hn⟩ := HA.out
                  clear HA
                  replace B0 := block_kept B0 hb
                  replace B1 := block_kept B1 hb
                  replace j0 := XT.In.keep (Below.keptTo hb hn) _ j0
                  replace j1 := ST.In.keep (Below.keptTo hb hn) _ j1
                  replace he1 := he1.keep hb
                  replace hB := hB.trans (hb.mono hB.size)
                  replace hn := Nat.le_trans hn hb.size
                  clear hb
                  by_cases hlt : k < sxl.length
                  · have d1 : decide (k < sxl.length) = true := by simpa using hlt
                    have d2 : decide ((k : Int) < (sxl.length : Int)) = true := by rw [decide_eq_true_eq]; omega
                    have y1 : (k : Int) < (sxl.length : Int) := by omega
                    have jx := j1
                    rw [ST.In_mk] at jx
                    have jr := jx.1
                    obtain ⟨b, o, hxa, hb5, hr, hx⟩ := jr.at hlt
                    have hxs : sxa = some ⟨b, o, none⟩ := hxa
                    subst hxs
                    have hmem := List.getElem_mem hlt
                    have hz := Hfs.out (by simp)
                    have hz1 := hz.1 sxl[k] hmem
                    have hg := Hgsx.out sxl[k] hmem
                    have hcc := checkX_any sxl[k] (by omega) hg.2 W.heap.size wr hn he1 hx
                    rw [hz1] at hcc
                    generalize sxl[k] = y at *
                    obtain ⟨op2, nm2, xn2, wd2, v2, xa2, xc2, xl2⟩ := y
                    simp only [XT.val, XT.cells] at hcc
                    have r0 : wr.cell? ⟨b, o + k * 6, none⟩ = some (.int .i64 op2) := hr 0 _ rfl
                    have r1 : wr.cell? ⟨b, o + k * 6 + 1, none⟩ = some (.string (bs nm2)) := hr 1 _ rfl
                    have r2 : wr.cell? ⟨b, o + k * 6 + 2, none⟩ = some (.int .i64 xn2) := hr 2 _ rfl
                    have r3 : wr.cell? ⟨b, o + k * 6 + 3, none⟩ = some (.int .i64 wd2) := hr 3 _ rfl
                    have r4 : wr.cell? ⟨b, o + k * 6 + 4, none⟩ = some (.int .u64 (v2 : Int)) := hr 4 _ rfl
                    have r5 : wr.cell? ⟨b, o + k * 6 + 5, none⟩ = some (.slice xa2 xl2.length xc2) := hr 5 _ rfl
                    obtain ⟨s0, s1, s2, s3⟩ := open4 B1
                    cases gk with
                    | zero => omega
                    | succ gg =>
                      have hkg : k + 1 + gg = sxl.length := by omega
                      have HC := Lib.hid hcc
                      clear jx jr hr hx hz hz1 hg hmem hk hxa hcc hb5
                      have HA := Lib.hid (And.intro j0 (And.intro j1 (And.intro he1 hn)))
                      clear j0 j1 he1 hn
                      go_wp2_with fail
                      refine HC.out.mono ?_
                      rintro e w8 ⟨rfl, hb⟩
                      clear s0 s1 s2 s3 r0 r1 r2 r3 r4 r5 HC
                      obtain ⟨j0, j1, he1, hn⟩ := HA.out
                      clear HA
                      replace B0 := block_kept B0 hb
                      replace B1 := block_kept B1 hb
                      have hbw := hb0.trans (hb.mono hb0.size)
                      obtain ⟨s0, s1, s2, s3⟩ := open4 B1
                      go_wp2
                      go_roundg gg
                      case rel => exact ⟨k + 1, by simp; first | done | rfl | omega, hkg, hbw⟩
                      case measure => omega
                  · have d1 : decide (k < sxl.length) = false := by simpa using hlt
                    have d2 : decide ((k : Int) < (sxl.length : Int)) = false := by rw [decide_eq_false_iff_not]; omega
                    obtain ⟨s0, s1, s2, s3⟩ := open4 B1
                    have HA := Lib.hid (And.intro j0 (And.intro j1 (And.intro he1 hn)))
                    clear j0 j1 he1 hn
                    clear hlt hk hb0
                    generalize wr = w9 at *
                    have B0k := B0
                    clear B0k
                    go_wp2
                    go_loopg [8] ssl.length (fun g u wr => ∃ k : Nat, u = .int .i64 k ∧ k + g = ssl.length ∧ Below w9.heap.size w9 wr)
                    case atStart => exact ⟨0, rfl, by omega, Below.refl _ _⟩
                    case round =>
                      obtain ⟨k, rfl, hk, hb⟩ := hrel
                      have hb0 := hb
                      clear s0 s1 s2 s3
                      obtain ⟨j0, j1, he1, hn⟩ := HA.out
                      clear HA
                      replace B0 := block_kept B0 hb
                      replace B1 := block_kept B1 hb
                      replace j0 := XT.In.keep (Below.keptTo hb hn) _ j0
                      replace j1 := ST.In.keep (Below.keptTo hb hn) _ j1
                      replace he1 := he1.keep hb
                      replace hB := hB.trans (hb.mono hB.size)
                      replace hn := Nat.le_trans hn hb.size
                      clear hb
                      by_cases hlt : k < ssl.length
                      · have d1 : decide (k < ssl.length) = true := by simpa using hlt
                        have d2 : decide ((k : Int) < (ssl.length : Int)) = true := by rw [decide_eq_true_eq]; omega
                        have y1 : (k : Int) < (ssl.length : Int) := by omega
                        have jx := j1
                        rw [ST.In_mk] at jx
                        have jr := jx.2
                        obtain ⟨b, o, hxa, hb5, hr, hx⟩ := jr.at hlt
                        have hxs : ssa = some ⟨b, o, none⟩ := hxa
                        subst hxs
                        have hmem := List.getElem_mem hlt
                        have hz1 := (Hfs.out (by simp)).2 ssl[k] hmem
                        have hg := Hgsl.out ssl[k] hmem
                        generalize ssl[k] = y at *
                        obtain ⟨top, tnm, txa, txc, txl, tsa, tsc, tsl⟩ := y
                        have r0 : wr.cell? ⟨b, o + k * 4, none⟩ = some (.int .i64 top) := hr 0 _ rfl
                        have r1 : wr.cell? ⟨b, o + k * 4 + 1, none⟩ = some (.string (bs tnm)) := hr 1 _ rfl
                        have r2 : wr.cell? ⟨b, o + k * 4 + 2, none⟩ = some (.slice txa txl.length txc) := hr 2 _ rfl
                        have r3 : wr.cell? ⟨b, o + k * 4 + 3, none⟩ = some (.slice tsa tsl.length tsc) := hr 3 _ rfl
                        obtain ⟨s0, s1, s2, s3⟩ := open4 B1
                        cases gk with
                        | zero => omega
                        | succ gg =>
                          have hkg : k + 1 + gg = ssl.length := by omega
                          clear jx jr hr hmem hk hxa hb5
                          have hkk : Below wr.heap.size wr (wr.alloc (.cells #[.int .i64 top, .string (bs tnm), .slice txa txl.length txc, .slice tsa tsl.length tsc] 28)) := (Below.refl _ _).alloc (Nat.le_refl _) _
                          by_cases ho : top = 4
                          · subst ho
                            have hcc := fun (w' : World) h1 h2 h3 => checkS_any (.mk 5 [] none 0 [] tsa tsc tsl) (by have h9 := hg.1; simp only [ST.bk, XT.bkL, List.length_nil] at h9 ⊢; omega) (by have h9 := hg.2; rw [ST.Wf] at h9 ⊢; exact ⟨trivial, h9.2⟩) W.heap.size w' h1 h2 h3
                            rw [cs_arm hz1] at hcc
                            simp only [ST.val, ST.cells] at hcc
                            have hx2 : ST.In W.heap.size wr (.mk 5 [] none 0 [] tsa tsc tsl) := by rw [ST.In_mk] at hx ⊢; exact ⟨trivial, hx.2⟩
                            have hkk2 : Below wr.heap.size wr (wr.alloc (.cells #[.int .i64 5, .string ⟨#[]⟩, .slice none 0 0, .slice tsa tsl.length tsc] 28)) := (Below.refl _ _).alloc (Nat.le_refl _) _
                            have hc2 := hcc (wr.alloc (.cells #[.int .i64 5, .string ⟨#[]⟩, .slice none 0 0, .slice tsa tsl.length tsc] 28)) (Nat.le_trans hn hkk2.size) (he1.keep hkk2) (ST.In.keep (Below.keptTo hkk2 hn) _ hx2)
                            have HC := Lib.hid hc2
                            clear hcc hc2 hx2 hx hz1 hg hkk
                            have hkk := hkk2
                            clear hkk2
                            have HA := Lib.hid (And.intro j0 (And.intro j1 (And.intro he1 hn)))
                            clear j0 j1 he1 hn
                            go_wp2_with fail
                            refine HC.out.mono ?_
                            rintro e w8 ⟨rfl, hb⟩
                            clear HC
                            have hbw := hb0.trans ((hkk.trans (hb.mono hkk.size)).mono hb0.size)
                            clear HA s0 s1 s2 s3 r0 r1 r2 r3
                            go_wp2
                            go_roundg gg
                            case rel => exact ⟨k + 1, by simp; first | done | rfl | omega, hkg, hbw⟩
                            case measure => omega
                          · have ho2 : (top == 4) = false := by simpa using ho
                            have hcc := fun (w' : World) h1 h2 h3 => checkS_any (.mk top tnm txa txc txl tsa tsc tsl) (by omega) hg.2 W.heap.size w' h1 h2 h3
                            rw [cs_plain hz1 ho2] at hcc
                            simp only [ST.val, ST.cells] at hcc
                            have hc2 := hcc (wr.alloc (.cells #[.int .i64 top, .string (bs tnm), .slice txa txl.length txc, .slice tsa tsl.length tsc] 28)) (Nat.le_trans hn hkk.size) (he1.keep hkk) (ST.In.keep (Below.keptTo hkk hn) _ hx)
                            have HC := Lib.hid hc2
                            have ho3 : decide (top = 4) = false := by simpa using ho
                            clear hcc hc2 hx hz1 hg
                            have HA := Lib.hid (And.intro j0 (And.intro j1 (And.intro he1 hn)))
                            clear j0 j1 he1 hn
                            go_wp2_with fail
                            refine HC.out.mono ?_
                            rintro e w8 ⟨rfl, hb⟩
                            clear HC
                            have hbw := hb0.trans ((hkk.trans (hb.mono hkk.size)).mono hb0.size)
                            clear HA s0 s1 s2 s3 r0 r1 r2 r3
                            go_wp2
                            go_roundg gg
                            case rel => exact ⟨k + 1, by simp; first | done | rfl | omega, hkg, hbw⟩
                            case measure => omega
                      · have d1 : decide (k < ssl.length) = false := by simpa using hlt
                        have d2 : decide ((k : Int) < (ssl.length : Int)) = false := by rw [decide_eq_false_iff_not]; omega
                        obtain ⟨s0, s1, s2, s3⟩ := open4 B1
                        go_wp2
                        go_ret
                        exact ⟨rfl, hB⟩
              · have hc2 : (c1 == 0) = false := by simpa using hc1
                have hc3 : decide (c1 = 0) = false := by simpa using hc1
                obtain ⟨s0, s1, s2, s3⟩ := open4 B1
                go_wp2
                go_ret
                exact ⟨rfl, hB⟩
        | false =>
          have hq := Hfn.out (by simp) hne
          have hbe : (nm == []) = false := by cases nm with | nil => cases hne | cons u r => rfl
          have hcn := fun (w' : World) h3 => checkX_any (nameT nm) (by simp only [nameT, XT.bk, XT.bkL]; omega) (nameT_wf nm) w'.heap.size w' (Nat.le_refl _) h3 (nameT_in _ _ _)
          rw [hq] at hcn
          have HCN := Lib.hid hcn
          clear hcn hq
          obtain ⟨x0, x1, x2, x3, x4, x5⟩ := open6 B0
          go_wp2_with fail
          obtain ⟨j0, j1, he1, hn⟩ := HA.out
          clear HA
          refine (name_call nm _).mono ?_
          rintro e w9 ⟨rfl, hb⟩
          clear x0 x1 x2 x3 x4 x5
          replace B0 := block_kept B0 hb
          replace B1 := block_kept B1 hb
          replace j0 := XT.In.keep (Below.keptTo hb hn) _ j0
          replace j1 := ST.In.keep (Below.keptTo hb hn) _ j1
          replace he1 := he1.keep hb
          replace hB := hB.trans (hb.mono hB.size)
          replace hn := Nat.le_trans hn hb.size
          clear hb
          have HA := Lib.hid (And.intro j0 (And.intro j1 (And.intro he1 hn)))
          clear j0 j1 he1 hn
          go_wp2_with fail
          obtain ⟨j0, j1, he1, hn⟩ := HA.out
          clear HA
          refine (HCN.out _ he1).mono ?_
          rintro e w9 ⟨rfl, hb⟩
          replace B0 := block_kept B0 hb
          replace B1 := block_kept B1 hb
          replace j0 := XT.In.keep (Below.keptTo hb hn) _ j0
          replace j1 := ST.In.keep (Below.keptTo hb hn) _ j1
          replace he1 := he1.keep hb
          replace hB := hB.trans (hb.mono hB.size)
          replace hn := Nat.le_trans hn hb.size
          clear hb
          have HA := Lib.hid (And.intro j0 (And.intro j1 (And.intro he1 hn)))
          clear j0 j1 he1 hn
          obtain ⟨x0, x1, x2, x3, x4, x5⟩ := open6 B0
          go_wp2
          go_loopg [6] xl.length (fun g u wr => ∃ k : Nat, u = .int .i64 k ∧ k + g = xl.length ∧ Below w9.heap.size w9 wr)
          case atStart => exact ⟨0, rfl, by omega, Below.refl _ _⟩
          case round =>
            obtain ⟨k, rfl, hk, hb⟩ := hrel
            have hb0 := hb
            obtain ⟨j0, j1, he1, hn⟩ := HA.out
            clear HA
            replace B0 := block_kept B0 hb
            replace B1 := block_kept B1 hb
            replace j0 := XT.In.keep (Below.keptTo hb hn) _ j0
            replace j1 := ST.In.keep (Below.keptTo hb hn) _ j1
            replace he1 := he1.keep hb
            replace hB := hB.trans (hb.mono hB.size)
            replace hn := Nat.le_trans hn hb.size
            clear hb
            by_cases hlt : k < xl.length
            · have d1 : decide (k < xl.length) = true := by simpa using hlt
              have d2 : decide ((k : Int) < (xl.length : Int)) = true := by rw [decide_eq_true_eq]; omega
              have y1 : (k : Int) < (xl.length : Int) := by omega
              have jx := j0
              rw [XT.In_mk] at jx
              have jr := jx
              obtain ⟨b, o, hxa, hb5, hr, hx⟩ := jr.at hlt
              have hxs : xa = some ⟨b, o, none⟩ := hxa
              subst hxs
              have hmem := List.getElem_mem hlt
              have hz := Hfx.out (by simp)
              have hz1 := hz xl[k] hmem
              have hg := Hgx.out xl[k] hmem
              have hcc := checkX_any xl[k] (by omega) hg.2 W.heap.size wr hn he1 hx
              rw [hz1] at hcc
              generalize xl[k] = y at *
              obtain ⟨op2, nm2, xn2, wd2, v2, xa2, xc2, xl2⟩ := y
              simp only [XT.val, XT.cells] at hcc
              have r0 : wr.cell? ⟨b, o + k * 6, none⟩ = some (.int .i64 op2) := hr 0 _ rfl
              have r1 : wr.cell? ⟨b, o + k * 6 + 1, none⟩ = some (.string (bs nm2)) := hr 1 _ rfl
              have r2 : wr.cell? ⟨b, o + k * 6 + 2, none⟩ = some (.int .i64 xn2) := hr 2 _ rfl
              have r3 : wr.cell? ⟨b, o + k * 6 + 3, none⟩ = some (.int .i64 wd2) := hr 3 _ rfl
              have r4 : wr.cell? ⟨b, o + k * 6 + 4, none⟩ = some (.int .u64 (v2 : Int)) := hr 4 _ rfl
              have r5 : wr.cell? ⟨b, o + k * 6 + 5, none⟩ = some (.slice xa2 xl2.length xc2) := hr 5 _ rfl
              obtain ⟨x0, x1, x2, x3, x4, x5⟩ := open6 B0
              cases gk with
              | zero => omega
              | succ gg =>
                have hkg : k + 1 + gg = xl.length := by omega
                have HC := Lib.hid hcc
                clear jx jr hr hx hz hz1 hg hmem hk hxa hcc hb5
                have HA := Lib.hid (And.intro j0 (And.intro j1 (And.intro he1 hn)))
                clear j0 j1 he1 hn
                go_wp2_with fail
                refine HC.out.mono ?_
                rintro e w8 ⟨rfl, hb⟩
                clear x0 x1 x2 x3 x4 x5 r0 r1 r2 r3 r4 r5 HC
                obtain ⟨j0, j1, he1, hn⟩ := HA.out
                clear HA
                replace B0 := block_kept B0 hb
                replace B1 := block_kept B1 hb
                have hbw := hb0.trans (hb.mono hb0.size)
                obtain ⟨x0, x1, x2, x3, x4, x5⟩ := open6 B0
                go_wp2
                go_roundg gg
                case rel => exact ⟨k + 1, by simp; first | done | rfl | omega, hkg, hbw⟩
                case measure => omega
            · have d1 : decide (k < xl.length) = false := by simpa using hlt
              have d2 : decide ((k : Int) < (xl.length : Int)) = false := by rw [decide_eq_false_iff_not]; omega
              obtain ⟨x0, x1, x2, x3, x4, x5⟩ := open6 B0
              have HA := Lib.hid (And.intro j0 (And.intro j1 (And.intro he1 hn)))
              clear j0 j1 he1 hn
              clear hlt hk hb0
              generalize wr = w9 at *
              have B0k := B0
              clear B0k
              obtain ⟨s0, s1, s2, s3⟩ := open4 B1
              go_wp2_with fail
              obtain ⟨j0, j1, he1, hn⟩ := HA.out
              clear HA
              refine (Hcs.out _ hn he1 j1).mono ?_
              rintro e w9 ⟨rfl, hb⟩
              clear x0 x1 x2 x3 x4 x5 s0 s1 s2 s3
              replace B0 := block_kept B0 hb
              replace B1 := block_kept B1 hb
              replace j0 := XT.In.keep (Below.keptTo hb hn) _ j0
              replace j1 := ST.In.keep (Below.keptTo hb hn) _ j1
              replace he1 := he1.keep hb
              replace hB := hB.trans (hb.mono hB.size)
              replace hn := Nat.le_trans hn hb.size
              clear hb
              have HA := Lib.hid (And.intro j0 (And.intro j1 (And.intro he1 hn)))
              clear j0 j1 he1 hn
              by_cases hc1 : c1 = 0
              · subst hc1
                obtain ⟨s0, s1, s2, s3⟩ := open4 B1
                go_wp2
                go_loopg [7] sxl.length (fun g u wr => ∃ k : Nat, u = .int .i64 k ∧ k + g = sxl.length ∧ Below w9.heap.size w9 wr)
                case atStart => exact ⟨0, rfl, by omega, Below.refl _ _⟩
                case round =>
                  obtain ⟨k, rfl, hk, hb⟩ := hrel
                  have hb0 := hb
                  obtain ⟨j0, j1, he1, hn⟩ := HA.out
                  clear HA
                  replace B0 := block_kept B0 hb
                  replace B1 := block_kept B1 hb
                  replace j0 := XT.In.keep (Below.keptTo hb hn) _ j0
                  replace j1 := ST.In.keep (Below.keptTo hb hn) _ j1
                  replace he1 := he1.keep hb
                  replace hB := hB.trans (hb.mono hB.size)
                  replace hn := Nat.le_trans hn hb.size
                  clear hb
                  by_cases hlt : k < sxl.length
                  · have d1 : decide (k < sxl.length) = true := by simpa using hlt
                    have d2 : decide ((k : Int) < (sxl.length : Int)) = true := by rw [decide_eq_true_eq]; omega
                    have y1 : (k : Int) < (sxl.length : Int) := by omega
                    have jx := j1
                    rw [ST.In_mk] at jx
                    have jr := jx.1
                    obtain ⟨b, o, hxa, hb5, hr, hx⟩ := jr.at hlt
                    have hxs : sxa = some ⟨b, o, none⟩ := hxa
                    subst hxs
                    have hmem := List.getElem_mem hlt
                    have hz := Hfs.out (by simp)
                    have hz1 := hz.1 sxl[k] hmem
                    have hg := Hgsx.out sxl[k] hmem
                    have hcc := checkX_any sxl[k] (by omega) hg.2 W.heap.size wr hn he1 hx
                    rw [hz1] at hcc
                    generalize sxl[k] = y at *
                    obtain ⟨op2, nm2, xn2, wd2, v2, xa2, xc2, xl2⟩ := y
                    simp only [XT.val, XT.cells] at hcc
                    have r0 : wr.cell? ⟨b, o + k * 6, none⟩ = some (.int .i64 op2) := hr 0 _ rfl
                    have r1 : wr.cell? ⟨b, o + k * 6 + 1, none⟩ = some (.string (bs nm2)) := hr 1 _ rfl
                    have r2 : wr.cell? ⟨b, o + k * 6 + 2, none⟩ = some (.int .i64 xn2) := hr 2 _ rfl
                    have r3 : wr.cell? ⟨b, o + k * 6 + 3, none⟩ = some (.int .i64 wd2) := hr 3 _ rfl
                    have r4 : wr.cell? ⟨b, o + k * 6 + 4, none⟩ = some (.int .u64 (v2 : Int)) := hr 4 _ rfl
                    have r5 : wr.cell? ⟨b, o + k * 6 + 5, none⟩ = some (.slice xa2 xl2.length xc2) := hr 5 _ rfl
                    obtain ⟨s0, s1, s2, s3⟩ := open4 B1
                    cases gk with
                    | zero => omega
                    | succ gg =>
                      have hkg : k + 1 + gg = sxl.length := by omega
                      have HC := Lib.hid hcc
                      clear jx jr hr hx hz hz1 hg hmem hk hxa hcc hb5
                      have HA := Lib.hid (And.intro j0 (And.intro j1 (And.intro he1 hn)))
                      clear j0 j1 he1 hn
                      go_wp2_with fail
                      refine HC.out.mono ?_
                      rintro e w8 ⟨rfl, hb⟩
                      clear s0 s1 s2 s3 r0 r1 r2 r3 r4 r5 HC
                      obtain ⟨j0, j1, he1, hn⟩ := HA.out
                      clear HA
                      replace B0 := block_kept B0 hb
                      replace B1 := block_kept B1 hb
                      have hbw := hb0.trans (hb.mono hb0.size)
                      obtain ⟨s0, s1, s2, s3⟩ := open4 B1
                      go_wp2
                      go_roundg gg
                      case rel => exact ⟨k + 1, by simp; first | done | rfl | omega, hkg, hbw⟩
                      case measure => omega
                  · have d1 : decide (k < sxl.length) = false := by simpa using hlt
                    have d2 : decide ((k : Int) < (sxl.length : Int)) = false := by rw [decide_eq_false_iff_not]; omega
                    obtain ⟨s0, s1, s2, s3⟩ := open4 B1
                    have HA := Lib.hid (And.intro j0 (And.intro j1 (And.intro he1 hn)))
                    clear j0 j1 he1 hn
                    clear hlt hk hb0
                    generalize wr = w9 at *
                    have B0k := B0
                    clear B0k
                    go_wp2
                    go_loopg [8] ssl.length (fun g u wr => ∃ k : Nat, u = .int .i64 k ∧ k + g = ssl.length ∧ Below w9.heap.size w9 wr)
                    case atStart => exact ⟨0, rfl, by omega, Below.refl _ _⟩
                    case round =>
                      obtain ⟨k, rfl, hk, hb⟩ := hrel
                      have hb0 := hb
                      clear s0 s1 s2 s3
                      obtain ⟨j0, j1, he1, hn⟩ := HA.out
                      clear HA
                      replace B0 := block_kept B0 hb
                      replace B1 := block_kept B1 hb
                      replace j0 := XT.In.keep (Below.keptTo hb hn) _ j0
                      replace j1 := ST.In.keep (Below.keptTo hb hn) _ j1
                      replace he1 := he1.keep hb
                      replace hB := hB.trans (hb.mono hB.size)
                      replace hn := Nat.le_trans hn hb.size
                      clear hb
                      by_cases hlt : k < ssl.length
                      · have d1 : decide (k < ssl.length) = true := by simpa using hlt
                        have d2 : decide ((k : Int) < (ssl.length : Int)) = true := by rw [decide_eq_true_eq]; omega
                        have y1 : (k : Int) < (ssl.length : Int) := by omega
                        have jx := j1
                        rw [ST.In_mk] at jx
                        have jr := jx.2
                        obtain ⟨b, o, hxa, hb5, hr, hx⟩ := jr.at hlt
                        have hxs : ssa = some ⟨b, o, none⟩ := hxa
                        subst hxs
                        have hmem := List.getElem_mem hlt
                        have hz1 := (Hfs.out (by simp)).2 ssl[k] hmem
                        have hg := Hgsl.out ssl[k] hmem
                        generalize ssl[k] = y at *
                        obtain ⟨top, tnm, txa, txc, txl, tsa, tsc, tsl⟩ := y
                        have r0 : wr.cell? ⟨b, o + k * 4, none⟩ = some (.int .i64 top) := hr 0 _ rfl
                        have r1 : wr.cell? ⟨b, o + k * 4 + 1, none⟩ = some (.string (bs tnm)) := hr 1 _ rfl
                        have r2 : wr.cell? ⟨b, o + k * 4 + 2, none⟩ = some (.slice txa txl.length txc) := hr 2 _ rfl
                        have r3 : wr.cell? ⟨b, o + k * 4 + 3, none⟩ = some (.slice tsa tsl.length tsc) := hr 3 _ rfl
                        obtain ⟨s0, s1, s2, s3⟩ := open4 B1
                        cases gk with
                        | zero => omega
                        | succ gg =>
                          have hkg : k + 1 + gg = ssl.length := by omega
                          clear jx jr hr hmem hk hxa hb5
                          have hkk : Below wr.heap.size wr (wr.alloc (.cells #[.int .i64 top, .string (bs tnm), .slice txa txl.length txc, .slice tsa tsl.length tsc] 28)) := (Below.refl _ _).alloc (Nat.le_refl _) _
                          by_cases ho : top = 4
                          · subst ho
                            have hcc := fun (w' : World) h1 h2 h3 => checkS_any (.mk 5 [] none 0 [] tsa tsc tsl) (by have h9 := hg.1; simp only [ST.bk, XT.bkL, List.length_nil] at h9 ⊢; omega) (by have h9 := hg.2; rw [ST.Wf] at h9 ⊢; exact ⟨trivial, h9.2⟩) W.heap.size w' h1 h2 h3
                            rw [cs_arm hz1] at hcc
                            simp only [ST.val, ST.cells] at hcc
                            have hx2 : ST.In W.heap.size wr (.mk 5 [] none 0 [] tsa tsc tsl) := by rw [ST.In_mk] at hx ⊢; exact ⟨trivial, hx.2⟩
                            have hkk2 : Below wr.heap.size wr (wr.alloc (.cells #[.int .i64 5, .string ⟨#[]⟩, .slice none 0 0, .slice tsa tsl.length tsc] 28)) := (Below.refl _ _).alloc (Nat.le_refl _) _
                            have hc2 := hcc (wr.alloc (.cells #[.int .i64 5, .string ⟨#[]⟩, .slice none 0 0, .slice tsa tsl.length tsc] 28)) (Nat.le_trans hn hkk2.size) (he1.keep hkk2) (ST.In.keep (Below.keptTo hkk2 hn) _ hx2)
                            have HC := Lib.hid hc2
                            clear hcc hc2 hx2 hx hz1 hg hkk
                            have hkk := hkk2
                            clear hkk2
                            have HA := Lib.hid (And.intro j0 (And.intro j1 (And.intro he1 hn)))
                            clear j0 j1 he1 hn
                            go_wp2_with fail
                            refine HC.out.mono ?_
                            rintro e w8 ⟨rfl, hb⟩
                            clear HC
                            have hbw := hb0.trans ((hkk.trans (hb.mono hkk.size)).mono hb0.size)
                            clear HA s0 s1 s2 s3 r0 r1 r2 r3
                            go_wp2
                            go_roundg gg
                            case rel => exact ⟨k + 1, by simp; first | done | rfl | omega, hkg, hbw⟩
                            case measure => omega
                          · have ho2 : (top == 4) = false := by simpa using ho
                            have hcc := fun (w' : World) h1 h2 h3 => checkS_any (.mk top tnm txa txc txl tsa tsc tsl) (by omega) hg.2 W.heap.size w' h1 h2 h3
                            rw [cs_plain hz1 ho2] at hcc
                            simp only [ST.val, ST.cells] at hcc
                            have hc2 := hcc (wr.alloc (.cells #[.int .i64 top, .string (bs tnm), .slice txa txl.length txc, .slice tsa tsl.length tsc] 28)) (Nat.le_trans hn hkk.size) (he1.keep hkk) (ST.In.keep (Below.keptTo hkk hn) _ hx)
                            have HC := Lib.hid hc2
                            have ho3 : decide (top = 4) = false := by simpa using ho
                            clear hcc hc2 hx hz1 hg
                            have HA := Lib.hid (And.intro j0 (And.intro j1 (And.intro he1 hn)))
                            clear j0 j1 he1 hn
                            go_wp2_with fail
                            refine HC.out.mono ?_
                            rintro e w8 ⟨rfl, hb⟩
                            clear HC
                            have hbw := hb0.trans ((hkk.trans (hb.mono hkk.size)).mono hb0.size)
                            clear HA s0 s1 s2 s3 r0 r1 r2 r3
                            go_wp2
                            go_roundg gg
                            case rel => exact ⟨k + 1, by simp; first | done | rfl | omega, hkg, hbw⟩
                            case measure => omega
                      · have d1 : decide (k < ssl.length) = false := by simpa using hlt
                        have d2 : decide ((k : Int) < (ssl.length : Int)) = false := by rw [decide_eq_false_iff_not]; omega
                        obtain ⟨s0, s1, s2, s3⟩ := open4 B1
                        go_wp2
                        go_ret
                        exact ⟨rfl, hB⟩
              · have hc2 : (c1 == 0) = false := by simpa using hc1
                have hc3 : decide (c1 = 0) = false := by simpa using hc1
                obtain ⟨s0, s1, s2, s3⟩ := open4 B1
                go_wp2
                go_ret
                exact ⟨rfl, hB⟩
      · have hc2 : (c0 == 0) = false := by simpa using hc0
        have hc3 : decide (c0 = 0) = false := by simpa using hc0
        obtain ⟨s0, s1, s2, s3⟩ := open4 B1
        go_wp2_with fail
        obtain ⟨j0, j1, he1, hn⟩ := HA.out
        clear HA
        refine (Hcs.out _ hn he1 j1).mono ?_
        rintro e w9 ⟨rfl, hb⟩
        clear s0 s1 s2 s3
        replace B0 := block_kept B0 hb
        replace B1 := block_kept B1 hb
        replace j0 := XT.In.keep (Below.keptTo hb hn) _ j0
        replace j1 := ST.In.keep (Below.keptTo hb hn) _ j1
        replace he1 := he1.keep hb
        replace hB := hB.trans (hb.mono hB.size)
        replace hn := Nat.le_trans hn hb.size
        clear hb
        have HA := Lib.hid (And.intro j0 (And.intro j1 (And.intro he1 hn)))
        clear j0 j1 he1 hn
        by_cases hc1 : c1 = 0
        · subst hc1
          obtain ⟨s0, s1, s2, s3⟩ := open4 B1
          go_wp2
          go_loopg [7] sxl.length (fun g u wr => ∃ k : Nat, u = .int .i64 k ∧ k + g = sxl.length ∧ Below w9.heap.size w9 wr)
          case atStart => exact ⟨0, rfl, by omega, Below.refl _ _⟩
          case round =>
            obtain ⟨k, rfl, hk, hb⟩ := hrel
            have hb0 := hb
            obtain ⟨j0, j1, he1, hn⟩ := HA.out
            clear HA
            replace B0 := block_kept B0 hb
            replace B1 := block_kept B1 hb
            replace j0 := XT.In.keep (Below.keptTo hb hn) _ j0
            replace j1 := ST.In.keep (Below.keptTo hb hn) _ j1
            replace he1 := he1.keep hb
            replace hB := hB.trans (hb.mono hB.size)
            replace hn := Nat.le_trans hn hb.size
            clear hb
            by_cases hlt : k < sxl.length
            · have d1 : decide (k < sxl.length) = true := by simpa using hlt
              have d2 : decide ((k : Int) < (sxl.length : Int)) = true := by rw [decide_eq_true_eq]; omega
              have y1 : (k : Int) < (sxl.length : Int) := by omega
              have jx := j1
              rw [ST.In_mk] at jx
              have jr := jx.1
              obtain ⟨b, o, hxa, hb5, hr, hx⟩ := jr.at hlt
              have hxs : sxa = some ⟨b, o, none⟩ := hxa
              subst hxs
              have hmem := List.getElem_mem hlt
              have hz := Hfs.out (by simp)
              have hz1 := hz.1 sxl[k] hmem
              have hg := Hgsx.out sxl[k] hmem
              have hcc := checkX_any sxl[k] (by omega) hg.2 W.heap.size wr hn he1 hx
              rw [hz1] at hcc
              generalize sxl[k] = y at *
              obtain ⟨op2, nm2, xn2, wd2, v2, xa2, xc2, xl2⟩ := y
              simp only [XT.val, XT.cells] at hcc
              have r0 : wr.cell? ⟨b, o + k * 6, none⟩ = some (.int .i64 op2) := hr 0 _ rfl
              have r1 : wr.cell? ⟨b, o + k * 6 + 1, none⟩ = some (.string (bs nm2)) := hr 1 _ rfl
              have r2 : wr.cell? ⟨b, o + k * 6 + 2, none⟩ = some (.int .i64 xn2) := hr 2 _ rfl
              have r3 : wr.cell? ⟨b, o + k * 6 + 3, none⟩ = some (.int .i64 wd2) := hr 3 _ rfl
              have r4 : wr.cell? ⟨b, o + k * 6 + 4, none⟩ = some (.int .u64 (v2 : Int)) := hr 4 _ rfl
              have r5 : wr.cell? ⟨b, o + k * 6 + 5, none⟩ = some (.slice xa2 xl2.length xc2) := hr 5 _ rfl
              obtain ⟨s0, s1, s2, s3⟩ := open4 B1
              cases gk with
              | zero => omega
              | succ gg =>
                have hkg : k + 1 + gg = sxl.length := by omega
                have HC := Lib.hid hcc
                clear jx jr hr hx hz hz1 hg hmem hk hxa hcc hb5
                have HA := Lib.hid (And.intro j0 (And.intro j1 (And.intro he1 hn)))
                clear j0 j1 he1 hn
                go_wp2_with fail
                refine HC.out.mono ?_
                rintro e w8 ⟨rfl, hb⟩
                clear s0 s1 s2 s3 r0 r1 r2 r3 r4 r5 HC
                obtain ⟨j0, j1, he1, hn⟩ := HA.out
                clear HA
                replace B0 := block_kept B0 hb
                replace B1 := block_kept B1 hb
                have hbw := hb0.trans (hb.mono hb0.size)
                obtain ⟨s0, s1, s2, s3⟩ := open4 B1
                go_wp2
                go_roundg gg
                case rel => exact ⟨k + 1, by simp; first | done | rfl | omega, hkg, hbw⟩
                case measure => omega
            · have d1 : decide (k < sxl.length) = false := by simpa using hlt
              have d2 : decide ((k : Int) < (sxl.length : Int)) = false := by rw [decide_eq_false_iff_not]; omega
              obtain ⟨s0, s1, s2, s3⟩ := open4 B1
              have HA := Lib.hid (And.intro j0 (And.intro j1 (And.intro he1 hn)))
              clear j0 j1 he1 hn
              clear hlt hk hb0
              generalize wr = w9 at *
              have B0k := B0
              clear B0k
              go_wp2
              go_loopg [8] ssl.length (fun g u wr => ∃ k : Nat, u = .int .i64 k ∧ k + g = ssl.length ∧ Below w9.heap.size w9 wr)
              case atStart => exact ⟨0, rfl, by omega, Below.refl _ _⟩
              case round =>
                obtain ⟨k, rfl, hk, hb⟩ := hrel
                have hb0 := hb
                clear s0 s1 s2 s3
                obtain ⟨j0, j1, he1, hn⟩ := HA.out
                clear HA
                replace B0 := block_kept B0 hb
                replace B1 := block_kept B1 hb
                replace j0 := XT.In.keep (Below.keptTo hb hn) _ j0
                replace j1 := ST.In.keep (Below.keptTo hb hn) _ j1
                replace he1 := he1.keep hb
                replace hB := hB.trans (hb.mono hB.size)
                replace hn := Nat.le_trans hn hb.size
                clear hb
                by_cases hlt : k < ssl.length
                · have d1 : decide (k < ssl.length) = true := by simpa using hlt
                  have d2 : decide ((k : Int) < (ssl.length : Int)) = true := by rw [decide_eq_true_eq]; omega
                  have y1 : (k : Int) < (ssl.length : Int) := by omega
                  have jx := j1
                  rw [ST.In_mk] at jx
                  have jr := jx.2
                  obtain ⟨b, o, hxa, hb5, hr, hx⟩ := jr.at hlt
                  have hxs : ssa = some ⟨b, o, none⟩ := hxa
                  subst hxs
                  have hmem := List.getElem_mem hlt
                  have hz1 := (Hfs.out (by simp)).2 ssl[k] hmem
                  have hg := Hgsl.out ssl[k] hmem
                  generalize ssl[k] = y at *
                  obtain ⟨top, tnm, txa, txc, txl, tsa, tsc, tsl⟩ := y
                  have r0 : wr.cell? ⟨b, o + k * 4, none⟩ = some (.int .i64 top) := hr 0 _ rfl
                  have r1 : wr.cell? ⟨b, o + k * 4 + 1, none⟩ = some (.string (bs tnm)) := hr 1 _ rfl
                  have r2 : wr.cell? ⟨b, o + k * 4 + 2, none⟩ = some (.slice txa txl.length txc) := hr 2 _ rfl
                  have r3 : wr.cell? ⟨b, o + k * 4 + 3, none⟩ = some (.slice tsa tsl.length tsc) := hr 3 _ rfl
                  obtain ⟨s0, s1, s2, s3⟩ := open4 B1
                  cases gk with
                  | zero => omega
                  | succ gg =>
                    have hkg : k + 1 + gg = ssl.length := by omega
                    clear jx jr hr hmem hk hxa hb5
                    have hkk : Below wr.heap.size wr (wr.alloc (.cells #[.int .i64 top, .string (bs tnm), .slice txa txl.length txc, .slice tsa tsl.length tsc] 28)) := (Below.refl _ _).alloc (Nat.le_refl _) _
                    by_cases ho : top = 4
                    · subst ho
                      have hcc := fun (w' : World) h1 h2 h3 => checkS_any (.mk 5 [] none 0 [] tsa tsc tsl) (by have h9 := hg.1; simp only [ST.bk, XT.bkL, List.length_nil] at h9 ⊢; omega) (by have h9 := hg.2; rw [ST.Wf] at h9 ⊢; exact ⟨trivial, h9.2⟩) W.heap.size w' h1 h2 h3
                      rw [cs_arm hz1] at hcc
                      simp only [ST.val, ST.cells] at hcc
                      have hx2 : ST.In W.heap.size wr (.mk 5 [] none 0 [] tsa tsc tsl) := by rw [ST.In_mk] at hx ⊢; exact ⟨trivial, hx.2⟩
                      have hkk2 : Below wr.heap.size wr (wr.alloc (.cells #[.int .i64 5, .string ⟨#[]⟩, .slice none 0 0, .slice tsa tsl.length tsc] 28)) := (Below.refl _ _).alloc (Nat.le_refl _) _
                      have hc2 := hcc (wr.alloc (.cells #[.int .i64 5, .string ⟨#[]⟩, .slice none 0 0, .slice tsa tsl.length tsc] 28)) (Nat.le_trans hn hkk2.size) (he1.keep hkk2) (ST.In.keep (Below.keptTo hkk2 hn) _ hx2)
                      have HC := Lib.hid hc2
                      clear hcc hc2 hx2 hx hz1 hg hkk
                      have hkk := hkk2
                      clear hkk2
                      have HA := Lib.hid (And.intro j0 (And.intro j1 (And.intro he1 hn)))
                      clear j0 j1 he1 hn
                      go_wp2_with fail
                      refine HC.out.mono ?_
                      rintro e w8 ⟨rfl, hb⟩
                      clear HC
                      have hbw := hb0.trans ((hkk.trans (hb.mono hkk.size)).mono hb0.size)
                      clear HA s0 s1 s2 s3 r0 r1 r2 r3
                      go_wp2
                      go_roundg gg
                      case rel => exact ⟨k + 1, by simp; first | done | rfl | omega, hkg, hbw⟩
                      case measure => omega
                    · have ho2 : (top == 4) = false := by simpa using ho
                      have hcc := fun (w' : World) h1 h2 h3 => checkS_any (.mk top tnm txa txc txl tsa tsc tsl) (by omega) hg.2 W.heap.size w' h1 h2 h3
                      rw [cs_plain hz1 ho2] at hcc
                      simp only [ST.val, ST.cells] at hcc
                      have hc2 := hcc (wr.alloc (.cells #[.int .i64 top, .string (bs tnm), .slice txa txl.length txc, .slice tsa tsl.length tsc] 28)) (Nat.le_trans hn hkk.size) (he1.keep hkk) (ST.In.keep (Below.keptTo hkk hn) _ hx)
                      have HC := Lib.hid hc2
                      have ho3 : decide (top = 4) = false := by simpa using ho
                      clear hcc hc2 hx hz1 hg
                      have HA := Lib.hid (And.intro j0 (And.intro j1 (And.intro he1 hn)))
                      clear j0 j1 he1 hn
                      go_wp2_with fail
                      refine HC.out.mono ?_
                      rintro e w8 ⟨rfl, hb⟩
                      clear HC
                      have hbw := hb0.trans ((hkk.trans (hb.mono hkk.size)).mono hb0.size)
                      clear HA s0 s1 s2 s3 r0 r1 r2 r3
                      go_wp2
                      go_roundg gg
                      case rel => exact ⟨k + 1, by simp; first | done | rfl | omega, hkg, hbw⟩
                      case measure => omega
                · have d1 : decide (k < ssl.length) = false := by simpa using hlt
                  have d2 : decide ((k : Int) < (ssl.length : Int)) = false := by rw [decide_eq_false_iff_not]; omega
                  obtain ⟨s0, s1, s2, s3⟩ := open4 B1
                  go_wp2
                  go_ret
                  exact ⟨rfl, hB⟩
        · have hc2 : (c1 == 0) = false := by simpa using hc1
          have hc3 : decide (c1 = 0) = false := by simpa using hc1
          obtain ⟨s0, s1, s2, s3⟩ := open4 B1
          go_wp2
          go_ret
          exact ⟨rfl, hB⟩

/-! ### The row's step -/
set_option maxRecDepth 100000 in
theorem contract (H : Type) (enc : TypeId × Value → H) (W : World) (base : Nat) (args : Array Value) (ds gs : List (DataW H)) (before : List MemPlace)
    (hval0 : ∀ (j : Nat) t v, Tryd.f3.params[j]? = some t → args[j]? = some v → Value.okWide Tryd.prog W .any base t v)
    (hW : DataW.Whole enc Tryd.prog Tryd.f3.params.toList Rows.astWholeSpec.vars false W args.toList ds gs before) (hbk : Rows.uptoBulkAll (ds ++ gs) ≤ 1048576) (hL : laidMetH Tryd.prog LD W) (hsh : W.ShapedOpen Tryd.prog) :
    Calls Tryd.prog 3 args W fun e W' => ∃ v, e = .returned v ∧ Rows.astWholeSpec.post enc Tryd.prog Tryd.f3 false true false false W args v W' := by
  have hval : ∀ (j : Nat) t v, Tryd.f3.params[j]? = some t → args[j]? = some v → Value.okWide Tryd.prog W .any base t v := hval0
  have hW' := hW
  obtain ⟨p, q, hA0, hV, rfl, hfz, hnd⟩ := hW
  have hA : DataW.TrodAll enc Tryd.prog W 0 (fun _ => true) true Tryd.f3.params.toList args.toList ds p := hA0
  rw [Tryd.params3] at hA hval
  obtain ⟨v0, vs0, d0, ds0, p0, q0, hargs, rfl, rfl, h0, r0⟩ := trodAll_cons hA
  obtain ⟨v1, vs1, d1, ds1, p1, q1, rfl, rfl, rfl, h1, r1⟩ := trodAll_cons r0
  obtain ⟨rfl, rfl, rfl⟩ := trodAll_nil r1
  obtain rfl : args = #[v0, v1] := by cases args; simp_all
  obtain ⟨rfl, rfl⟩ := trodVars_none hV
  have he := env_of hL hsh
  simp only [List.append_nil, Rows.uptoBulkAll] at hbk
  have k0 : ∀ (W' : World), Below W.heap.size W W' → DataW.Trod enc Tryd.prog W' 0 (fun b => decide (b < W.heap.size)) true 25 v0 d0 p0 := fun W' hn => Below.trod laidOut (by kernel_rfl) (of_decide_eq_true (by kernel_rfl)) h0 hn (fun x hx => by simpa using hW'.lt x (by simp [hx]))
  have k1 : ∀ (W' : World), Below W.heap.size W W' → DataW.Trod enc Tryd.prog W' 0 (fun b => decide (b < W.heap.size)) true 28 v1 d1 p1 := fun W' hn => Below.trod laidOut (by kernel_rfl) (of_decide_eq_true (by kernel_rfl)) h1 hn (fun x hx => by simpa using hW'.lt x (by simp [hx]))
  obtain ⟨t0, rfl, i0, w0, b0⟩ := xt_of (hval 0 25 v0 rfl rfl) h0
  obtain ⟨t1, rfl, i1, w1, b1⟩ := st_of (hval 1 28 v1 rfl rfl) h1
  clear hA0 hval0
  simp only [List.append_nil] at hW'
  refine (walk t0 t1 (by omega) (by omega) w0 w1 W he i0 i1).mono fun e W' ⟨hr, bel⟩ => ?_
  subst hr
  exact ⟨_, rfl, _, _, _, [], _, [], hW', trodAll_mk1 (shut_bool Tryd.underlying4 _), (trodAll_cons_mk (k0 _ bel) (trodAll_cons_mk (k1 _ bel) trodAll_mk0)), rfl, bel.frame _, fun h => by cases h⟩
theorem reads (os : Os) {H : Type} (enc : TypeId × Value → H) : ∃ places, DataW.whole enc Tryd.prog ((World.doorLaid Tryd.prog 55 os).forCall (fun _ _ => 0) ⟨#[], #[.agg #[.int .i64 0, .string ⟨#[]⟩, .int .i64 0, .int .i64 0, .int .u64 0, .slice none 0 0], .agg #[.int .i64 0, .string ⟨#[]⟩, .slice none 0 0, .slice none 0 0]], []⟩).memory Tryd.f3.params.toList Rows.astWholeSpec.vars false #[.agg #[.int .i64 0, .string ⟨#[]⟩, .int .i64 0, .int .i64 0, .int .u64 0, .slice none 0 0], .agg #[.int .i64 0, .string ⟨#[]⟩, .slice none 0 0, .slice none 0 0]].toList 8 = some ([.agg [.lit (.int .i64 0), .lit (.string []), .lit (.int .i64 0), .lit (.int .i64 0), .lit (.int .u64 0), .nil], .agg [.lit (.int .i64 0), .lit (.string []), .nil, .nil]], [], places) :=
  ⟨[], by kernel_rfl⟩
set_option maxRecDepth 100000 in
theorem lifted (os : Os) (started : os.Started) (H : Type) (enc : TypeId × Value → H) (F : Stop.Interp) :
    ReturnsInHanded {} Tryd.checked os 3 .any ((Rows.OpenSpec.upto Rows.astWholeSpec).preRow enc Tryd.prog Tryd.f3 Rows.astWholeUptoRow.domain false Rows.astWholeUptoRow.laid) (((Rows.OpenSpec.upto Rows.astWholeSpec).at F).post enc Tryd.prog Tryd.f3 false true false false) := by
  obtain ⟨places, hx⟩ := reads os enc
  refine returnsInHanded_of_row (C := Tryd.checked) (s := Rows.OpenSpec.upto Rows.astWholeSpec) own started (by kernel_rfl) Tryd.func3
    (witness_row_at (enc := enc) (C := Tryd.checked) false (World.doorLaid Tryd.prog 55 os) #[.agg #[.int .i64 0, .string ⟨#[]⟩, .int .i64 0, .int .i64 0, .int .u64 0, .slice none 0 0], .agg #[.int .i64 0, .string ⟨#[]⟩, .slice none 0 0, .slice none 0 0]] rfl (by kernel_rfl) (by kernel_rfl) (by kernel_rfl)
      (OpenSpec.preRow_of_cond 8 hx (by kernel_rfl) (fun k hk => by cases hk; kernel_rfl) (by kernel_rfl) (door_met os _))) ?_
  intro W base args ds gs before hval hW _ hcond _ hL hsh _
  have hbk : Rows.uptoBulkAll (ds ++ gs) ≤ 1048576 := of_decide_eq_true (hcond _ rfl)
  exact contract H enc W base args ds gs before hval hW hbk hL hsh
theorem over : Rows.AstWholeUptoSaid :=
  OpenClaim.holds_of_cond 3 Tryd.f3 rfl rfl rfl rfl rfl rfl rfl ⟨rfl, rfl, rfl, rfl, rfl⟩ rfl rfl rfl rfl rfl (by kernel_rfl) Tryd.func3 (by kernel_rfl)
    (of_decide_eq_true (by kernel_rfl)) (by unfold Func.isWrapper; first | (rw [if_pos (by decide +kernel)]; kernel_rfl) | (rw [if_neg (by decide +kernel)]; exact ⟨rfl, rfl⟩))
    (fun os started H enc _ F => by rw [OpenClaim.pre_eq_preRow]; exact lifted os started H enc F)
/-- The given statement. -/
theorem proved : Rows.AstWholeUptoCardSaid :=
  Claim7.holds_tied_plain_at .later [] _ _ _ _
    over (fun _ h => by cases h) (by kernel_rfl) (fun _ h => by cases h) astWholeUpto_row_tie rfl ⟨rfl, rfl⟩ (by kernel_rfl) rfl
    (fun f fn hf hfn => by
      obtain rfl : f = 3 := Option.some.inj ((show Tryd.prog.funcNamed "filigree/filigreelaw03.AstWhole" = some 3 by kernel_rfl).symm.trans hf) |>.symm
      obtain rfl : fn = Tryd.f3 := (Option.some.inj (Tryd.func3.symm.trans hfn)).symm
      exact ⟨by kernel_rfl, fun j t ht => by
        rw [Tryd.params3] at ht
        have hm : t ∈ [25, 28] := by simpa using Array.mem_of_getElem? ht
        have hall : ([25, 28].all fun u => !Tryd.prog.wantsStandIn u) = true := by kernel_rfl
        exact (show Tryd.prog.wantsStandIn t = false by simpa using List.all_eq_true.1 hall t hm)⟩)
    (by kernel_rfl)
#print axioms proved
end Go.Proofs.YtppgfedakcmgcaaDoor.astWhole
