/-
  A file is its modules. For every input of the bulk that the statement names; the listed variables hold what the program's text lays in them.
-/
import Derived.Test.YtppgfedakcmgcaaDoorTie
import Derived.Test.YtppgfedakcmgcaaDoorCards
import Derived.Test.YtppgfedakcmgcaaDoorAsOp
import Derived.Test.YtppgfedakcmgcaaDoorAsLv
import Derived.JoinedCond
import Derived.Deep.DeepHandedRow
namespace Go.Proofs.YtppgfedakcmgcaaDoor.astModules
open Go Go.ChangeShapes Go.WideShapes Go.ChangeAt Go.RowKit Go.Joins Go.Sort Go.Deep
set_option linter.unusedVariables false
set_option linter.unusedSimpArgs false

theorem i64_and65535 (n : Int) : bits .and .i64 n 65535 = n % 65536 := by
  have h127 : (BitVec.ofInt 64 65535).toNat = 2 ^ 16 - 1 := by decide
  have key : (BitVec.ofInt 64 n &&& BitVec.ofInt 64 65535).toNat = (n % ((2 ^ 64 : Nat) : Int)).toNat % 2 ^ 16 := by
    rw [BitVec.toNat_and, BitVec.toNat_ofInt, h127, Nat.and_two_pow_sub_one_eq_mod]
  show IntKind.i64.wrap ((BitVec.ofInt 64 n &&& BitVec.ofInt 64 65535).toNat : Nat) = n % 65536
  rw [key, IntKind.wrap_i64]
  omega
theorem add_add' (p : Addr) (i j : Nat) : (p.add i).add j = p.add (i + j) := by by_cases hi : i = 0 <;> by_cases hj : j = 0 <;> simp [Addr.add, hi, hj, Nat.add_assoc]
theorem _root_.Go.Proofs.YtppgfedakcmgcaaDoor.InRow.take {α : Type} {k : Nat} {cells : α → List Value} {inn : α → Prop} {n : Nat} {W : World} : ∀ {l : List α} {a : Option Addr} (i : Nat), InRow k cells inn n W l a → InRow k cells inn n W (l.take i) a
  | _, _, 0, _ => by rw [List.take_zero]; trivial
  | [], _, _ + 1, _ => trivial
  | x :: r, a, i + 1, h => ⟨h.1, h.2.1, InRow.take i h.2.2⟩
theorem _root_.Go.Proofs.YtppgfedakcmgcaaDoor.InRow.drop {α : Type} {k : Nat} {cells : α → List Value} {inn : α → Prop} {n : Nat} {W : World} : ∀ {l : List α} {a : Option Addr} (i : Nat), InRow k cells inn n W l a → InRow k cells inn n W (l.drop i) (a.map fun p => p.add (i * k))
  | l, a, 0, h => by
    rw [List.drop_zero, Nat.zero_mul]
    cases a with
    | none => exact h
    | some p => rw [Option.map_some, show p.add 0 = p by simp [Addr.add]]; exact h
  | [], _, _ + 1, _ => trivial
  | x :: r, a, i + 1, h => by
    have h2 := InRow.drop i h.2.2
    rw [List.drop_succ_cons]
    cases a with
    | none => exact h2
    | some p =>
      rw [Option.map_some, Option.map_some, add_add'] at h2
      rw [Option.map_some, show (i + 1) * k = k + i * k by rw [Nat.add_mul]; omega]
      exact h2
theorem check_parts (ml la lb : List MT) (i : Nat) (hs : MT.szL ml ≤ 65536) (h1 : la = ml.take i) (h2 : lb = ml.drop i) (ma : Option Addr) (mc : Nat) (mb : Option Addr) (md : Nat) : decide (64 < ml.length) = false → (checkF ⟨ma, mc, ml⟩ == 0) = ((checkF ⟨ma, mc, la⟩ == 0) && (checkF ⟨mb, md, lb⟩ == 0)) := by
  intro hl
  have hsp : MT.szL ml = MT.szL la + MT.szL lb := by rw [h1, h2, ← MT.szL_app, List.take_append_drop]
  have hdp : MT.dpL ml = max (MT.dpL la) (MT.dpL lb) := by rw [h1, h2, ← MT.dpL_app, List.take_append_drop]
  have hal : ml.all mayM = (la.all mayM && lb.all mayM) := by rw [h1, h2, ← List.all_append, List.take_append_drop]
  have hla : la.length ≤ ml.length := by rw [h1]; simp; omega
  have hlb : lb.length ≤ ml.length := by rw [h2]; simp
  simp only [decide_eq_false_iff_not] at hl
  have hda : decide (64 < la.length) = false := by rw [decide_eq_false_iff_not]; omega
  have hdb : decide (64 < lb.length) = false := by rw [decide_eq_false_iff_not]; omega
  have hdm : decide (64 < ml.length) = false := by rw [decide_eq_false_iff_not]; omega
  have a1 : decide (65536 < MT.szL ml) = false := by rw [decide_eq_false_iff_not]; omega
  have a2 : decide (65536 < MT.szL la) = false := by rw [decide_eq_false_iff_not]; omega
  have a3 : decide (65536 < MT.szL lb) = false := by rw [decide_eq_false_iff_not]; omega
  have hd : decide (64 < MT.dpL ml) = (decide (64 < MT.dpL la) || decide (64 < MT.dpL lb)) := by rw [Bool.eq_iff_iff]; simp only [decide_eq_true_eq, Bool.or_eq_true]; omega
  have c : ∀ (m : Option Addr) (c : Nat) (l : List MT), checkF ⟨m, c, l⟩ = if decide (64 < l.length) = true then 2 else if (decide (65536 < MT.szL l) || decide (64 < MT.dpL l)) = true then 2 else if l.all mayM = true then 0 else 1 := fun _ _ _ => rfl
  rw [c, c, c, hda, hdb, hdm, hal, a1, a2, a3, hd]
  generalize decide (64 < MT.dpL la) = p1
  generalize decide (64 < MT.dpL lb) = p2
  generalize la.all mayM = p3
  generalize lb.all mayM = p4
  cases p1 <;> cases p2 <;> cases p3 <;> cases p4 <;> rfl
set_option maxHeartbeats 8000000 in
set_option maxRecDepth 100000 in
theorem walk (x : FT) (k : Int) (hbk : x.bk ≤ 1048576) (hwf : x.Wf) (W : World) (he : EnvA W) (hx : x.In W.heap.size W) (hcap : x.ml.length ≤ x.mc) (hnil : x.ma = none → x.mc = 0) : Calls Tryd.prog 5 #[x.val, .int .i64 k] W fun e w' => e = .returned (.bool true) ∧ Below W.heap.size W w' := by
  have hsz : x.sz ≤ 1048576 := by have := MT.szL_bk x.ml; have h2 : 1 + MT.bkL x.ml ≤ 1048576 := hbk; show MT.szL x.ml ≤ _; omega
  have hfew := fun (w' : World) h1 h2 => few_any x (by omega) W.heap.size w' h1 h2
  obtain ⟨b, hb⟩ : ∃ b, (decide (x.sz ≤ 2000) && decide (x.dp ≤ 100)) = b := ⟨_, rfl⟩
  rw [hb] at hfew
  have HBB := Lib.hid hb
  obtain ⟨q, hq⟩ : ∃ q : Nat, k % 65536 = (q : Int) := ⟨(k % 65536).toNat, by omega⟩
  have hlen := MT.bkL_len x.ml
  have hl2 : x.ml.length ≤ 1048576 := by have h2 : 1 + MT.bkL x.ml ≤ 1048576 := hbk; omega
  obtain ⟨at', hat⟩ : ∃ a : Nat, q % (x.ml.length + 1) = a := ⟨_, rfl⟩
  have hal : at' ≤ x.ml.length := by rw [← hat]; have := Nat.mod_lt q (show 0 < x.ml.length + 1 by omega); omega
  have e1 : bits BinOp.and IntKind.i64 k 65535 = (q : Int) := by rw [i64_and65535, hq]
  have e2 : Int.tmod (q : Int) ((x.ml.length : Int) + 1) = (at' : Int) := by rw [← hat]; exact (Int.ofNat_tmod q (x.ml.length + 1)).symm
  have hx0 := hx
  obtain ⟨ma, mc, ml⟩ := x
  simp only [FT.val, FT.cells] at hfew ⊢
  simp only at hcap hnil hal e2 hl2
  have HF := Lib.hid hfew
  have HQ := Lib.hid (And.intro hq (And.intro hat (And.intro hbk (And.intro hwf (And.intro hsz hnil)))))
  have HX := Lib.hid hx
  clear hfew hq hat hbk hwf hsz hnil hlen hx hb
  go_enter Tryd.func5, Tryd.ntmps5
  go_upto_region 1 with (fail)
  have BX : (W.alloc (.cells #[.slice ma ml.length mc] 41)).heap[W.heap.size]? = some (.cells #[.slice ma ml.length mc] 41) := World.alloc_heap_new W _
  have hB : Below W.heap.size W (W.alloc (.cells #[.slice ma ml.length mc] 41)) := (Below.refl _ _).alloc (Nat.le_refl _) _
  have he1 := he.alloc (.cells #[.slice ma ml.length mc] 41)
  have hi := FT.In.keep (Below.keptTo hB (Nat.le_refl _)) _ HX.out
  have hn := hB.size
  clear HX he hx0
  generalize W.alloc (.cells #[.slice ma ml.length mc] 41) = w1 at *
  go_wp2_with fail
  refine (live_any _ he1).mono ?_
  rintro e w2 ⟨rfl, hb⟩
  replace BX := block_kept BX hb
  replace hi := FT.In.keep (Below.keptTo hb hn) _ hi
  replace he1 := he1.keep hb
  replace hB := hB.trans (hb.mono hB.size)
  replace hn := Nat.le_trans hn hb.size
  clear hb
  have x0 := (cell_of_box_1 BX).1
  go_wp2_with fail
  refine (HF.out _ hn hi).mono ?_
  rintro e w3 ⟨rfl, hb⟩
  clear x0
  replace BX := block_kept BX hb
  replace hi := FT.In.keep (Below.keptTo hb hn) _ hi
  replace he1 := he1.keep hb
  replace hB := hB.trans (hb.mono hB.size)
  replace hn := Nat.le_trans hn hb.size
  clear hb HF
  have x0 := (cell_of_box_1 BX).1
  cases b with
  | false =>
    go_wp2
    go_ret
    exact ⟨rfl, hB⟩
  | true =>
    have x0A := fun O => alloc_cell x0 O
    have HI := Lib.hid (And.intro hi (And.intro he1 hn))
    clear hi he1 hn
    go_upto_region 7 with (fail)
    obtain ⟨hi, he, hn⟩ := HI.out
    obtain ⟨hq, hat, hbk, hwf, hsz, hnil⟩ := HQ.out
    obtain ⟨mb, hmb⟩ : ∃ mb, (if mc = at' then ma else Option.map (fun x => x.add (at' * 4)) ma) = mb := ⟨_, rfl⟩
    rw [hmb]
    have hrow : InRow 4 MT.cells (MT.In W.heap.size w3) W.heap.size w3 ml ma := hi
    have ha3 : FT.In W.heap.size w3 ⟨ma, mc, ml.take at'⟩ := hrow.take at'
    have hb3 : FT.In W.heap.size w3 ⟨mb, mc - at', ml.drop at'⟩ := by
      show InRow 4 MT.cells (MT.In W.heap.size w3) W.heap.size w3 (ml.drop at') mb
      rw [← hmb]
      by_cases hme : mc = at'
      · rw [List.drop_eq_nil_of_le (by omega)]; trivial
      · rw [if_neg hme]; exact hrow.drop at'
    have hsp : MT.szL ml = MT.szL (ml.take at') + MT.szL (ml.drop at') := by rw [← MT.szL_app, List.take_append_drop]
    have hdp : MT.dpL ml = max (MT.dpL (ml.take at')) (MT.dpL (ml.drop at')) := by rw [← MT.dpL_app, List.take_append_drop]
    have hbsp : MT.bkL ml = MT.bkL (ml.take at') + MT.bkL (ml.drop at') := by rw [MT.bkL_sum, MT.bkL_sum, MT.bkL_sum, ← List.sum_append, ← List.map_append, List.take_append_drop]
    have hbk2 : 1 + MT.bkL ml ≤ 1048576 := hbk
    have hsz2 : MT.szL ml ≤ 1048576 := hsz
    have hwm : MT.WfL ml := hwf
    rw [MT.wfL_iff] at hwm
    have hwa : FT.Wf ⟨ma, mc, ml.take at'⟩ := by show MT.WfL _; rw [MT.wfL_iff]; exact fun y hy => hwm y (List.mem_of_mem_take hy)
    have hwb : FT.Wf ⟨mb, mc - at', ml.drop at'⟩ := by show MT.WfL _; rw [MT.wfL_iff]; exact fun y hy => hwm y (List.mem_of_mem_drop hy)
    have hta : (ml.take at').length = at' := by simp; omega
    have htb : (ml.drop at').length = ml.length - at' := by simp
    obtain ⟨la, lb', hla, hlb⟩ : ∃ u v, ml.take at' = u ∧ ml.drop at' = v := ⟨_, _, rfl, rfl⟩
    rw [hla, hlb] at hsp hdp hbsp
    rw [hla] at ha3 hwa hta
    rw [hlb] at hb3 hwb htb
    have hs9 : MT.szL ml ≤ 2000 := by have h9 := HBB.out; rw [Bool.and_eq_true, decide_eq_true_eq] at h9; exact h9.1
    have hck := check_parts ml la lb' at' (by omega) (by rw [← hla]) (by rw [← hlb])
    have BA := World.alloc_heap_new w3 (.cells #[.slice ma at' mc] 41)
    have BB := World.alloc_heap_new (w3.alloc (.cells #[.slice ma at' mc] 41)) (.cells #[.slice mb (ml.length - at') (mc - at')] 41)
    replace BA := block_alloc BA (.cells #[.slice mb (ml.length - at') (mc - at')] 41)
    replace BX := block_alloc (block_alloc BX (.cells #[.slice ma at' mc] 41)) (.cells #[.slice mb (ml.length - at') (mc - at')] 41)
    rw [World.size_alloc] at BB
    have k1 : Below w3.heap.size w3 (w3.alloc (.cells #[.slice ma at' mc] 41)) := (Below.refl _ _).alloc (Nat.le_refl _) _
    have k2 := k1.alloc k1.size (.cells #[.slice mb (ml.length - at') (mc - at')] 41)
    replace hi := FT.In.keep (Below.keptTo k2 hn) _ hi
    replace ha3 := FT.In.keep (Below.keptTo k2 hn) _ ha3
    replace hb3 := FT.In.keep (Below.keptTo k2 hn) _ hb3
    replace he := he.keep k2
    replace hB := hB.trans (k2.mono hB.size)
    replace hn := Nat.le_trans hn k2.size
    clear k1 k2 HI x0 x0A
    generalize (w3.alloc (.cells #[.slice ma at' mc] 41)).alloc (.cells #[.slice mb (ml.length - at') (mc - at')] 41) = V at *
    generalize w3.heap.size + 1 = gb at *
    generalize w3.heap.size = ga at *
    obtain ⟨Sa, hSa⟩ : ∃ S, MT.szL la = S := ⟨_, rfl⟩
    obtain ⟨Sb, hSb⟩ : ∃ S, MT.szL lb' = S := ⟨_, rfl⟩
    obtain ⟨Da, hDa⟩ : ∃ S, MT.dpL la = S := ⟨_, rfl⟩
    obtain ⟨Db, hDb⟩ : ∃ S, MT.dpL lb' = S := ⟨_, rfl⟩
    obtain ⟨Dm, hDm⟩ : ∃ S, MT.dpL ml = S := ⟨_, rfl⟩
    obtain ⟨ca, hca⟩ : ∃ S, checkF ⟨ma, mc, la⟩ = S := ⟨_, rfl⟩
    obtain ⟨cb, hcb⟩ : ∃ S, checkF ⟨mb, mc - at', lb'⟩ = S := ⟨_, rfl⟩
    obtain ⟨cf, hcf⟩ : ∃ S, checkF ⟨ma, mc, ml⟩ = S := ⟨_, rfl⟩
    rw [hSa, hSb] at hsp
    rw [hDa, hDb, hDm] at hdp
    have hM : (if (Da : Int) < (Db : Int) then (Db : Int) else (Da : Int)) = (Dm : Int) := by split <;> omega
    have hSa2 : Sa ≤ 1048576 := by omega
    have hSb2 : Sb ≤ 1048576 := by omega
    have cs_f := fun (w' : World) h1 h2 => size_any ⟨ma, mc, ml⟩ (by show MT.szL ml ≤ _; omega) W.heap.size w' h1 h2
    have cs_a := fun (w' : World) h1 h2 => size_any ⟨ma, mc, la⟩ (by show MT.szL la ≤ _; omega) W.heap.size w' h1 h2
    have cs_b := fun (w' : World) h1 h2 => size_any ⟨mb, mc - at', lb'⟩ (by show MT.szL lb' ≤ _; omega) W.heap.size w' h1 h2
    have cd_f := fun (w' : World) h1 h2 => deep_any ⟨ma, mc, ml⟩ (by show MT.szL ml ≤ _; omega) W.heap.size w' h1 h2
    have cd_a := fun (w' : World) h1 h2 => deep_any ⟨ma, mc, la⟩ (by show MT.szL la ≤ _; omega) W.heap.size w' h1 h2
    have cd_b := fun (w' : World) h1 h2 => deep_any ⟨mb, mc - at', lb'⟩ (by show MT.szL lb' ≤ _; omega) W.heap.size w' h1 h2
    have cc_f := fun (w' : World) h1 h2 h3 => check_file_any ⟨ma, mc, ml⟩ (by show 1 + MT.bkL ml ≤ _; omega) hwf W.heap.size w' h1 h2 h3
    have cc_a := fun (w' : World) h1 h2 h3 => check_file_any ⟨ma, mc, la⟩ (by show 1 + MT.bkL la ≤ _; omega) hwa W.heap.size w' h1 h2 h3
    have cc_b := fun (w' : World) h1 h2 h3 => check_file_any ⟨mb, mc - at', lb'⟩ (by show 1 + MT.bkL lb' ≤ _; omega) hwb W.heap.size w' h1 h2 h3
    have es_f : ((FT.sz ⟨ma, mc, ml⟩ : Nat) : Int) = (Sa : Int) + (Sb : Int) := by show ((MT.szL ml : Nat) : Int) = _; rw [hsp]; omega
    have es_a : FT.sz ⟨ma, mc, la⟩ = Sa := hSa
    have es_b : FT.sz ⟨mb, mc - at', lb'⟩ = Sb := hSb
    have ed_f : FT.dp ⟨ma, mc, ml⟩ = Dm := hDm
    have ed_a : FT.dp ⟨ma, mc, la⟩ = Da := hDa
    have ed_b : FT.dp ⟨mb, mc - at', lb'⟩ = Db := hDb
    rw [es_f] at cs_f
    rw [es_a] at cs_a
    rw [es_b] at cs_b
    rw [ed_f] at cd_f
    rw [ed_a] at cd_a
    rw [ed_b] at cd_b
    rw [hcf] at cc_f
    rw [hca] at cc_a
    rw [hcb] at cc_b
    simp only [FT.val, FT.cells, hta, htb] at cs_f cs_a cs_b cd_f cd_a cd_b cc_f cc_a cc_b
    have hck2 := hck ma mc mb (mc - at')
    rw [hcf, hca, hcb] at hck2
    have HCK := Lib.hid hck2
    have bq := fun (dq : Nat) (os : Array Obj) => below_regrown V dq os
    have Qsf := Lib.hid (fun (dq : Nat) (os : Array Obj) => cs_f (grow (redrawn V dq) os) (Nat.le_trans hn (bq dq os).size) (FT.In.keep (Below.keptTo (bq dq os) hn) _ hi))
    have Qsa := Lib.hid (fun (dq : Nat) (os : Array Obj) => cs_a (grow (redrawn V dq) os) (Nat.le_trans hn (bq dq os).size) (FT.In.keep (Below.keptTo (bq dq os) hn) _ ha3))
    have Qsb := Lib.hid (fun (dq : Nat) (os : Array Obj) => cs_b (grow (redrawn V dq) os) (Nat.le_trans hn (bq dq os).size) (FT.In.keep (Below.keptTo (bq dq os) hn) _ hb3))
    have Qdf := Lib.hid (fun (dq : Nat) (os : Array Obj) => cd_f (grow (redrawn V dq) os) (Nat.le_trans hn (bq dq os).size) (FT.In.keep (Below.keptTo (bq dq os) hn) _ hi))
    have Qda := Lib.hid (fun (dq : Nat) (os : Array Obj) => cd_a (grow (redrawn V dq) os) (Nat.le_trans hn (bq dq os).size) (FT.In.keep (Below.keptTo (bq dq os) hn) _ ha3))
    have Qdb := Lib.hid (fun (dq : Nat) (os : Array Obj) => cd_b (grow (redrawn V dq) os) (Nat.le_trans hn (bq dq os).size) (FT.In.keep (Below.keptTo (bq dq os) hn) _ hb3))
    have Hcf := Lib.hid cc_f
    have Hca := Lib.hid cc_a
    have Hcb := Lib.hid cc_b
    have f0 := (cell_of_box_1 BX).1
    have a0 := (cell_of_box_1 BA).1
    have b0 := (cell_of_box_1 BB).1
    have f0R := cell_regrown f0
    have a0R := cell_regrown a0
    have b0R := cell_regrown b0
    have HA := Lib.hid (And.intro hi (And.intro ha3 (And.intro hb3 (And.intro he hn))))
    clear hs9 hq hat hbk hwf hsz hnil hmb hrow hsp hdp hbsp hbk2 hsz2 hwm hwa hwb hta htb hla hlb hck hSa hSb hDa hDb hDm hca hcb hcf cs_f cs_a cs_b cd_f cd_a cd_b cc_f cc_a cc_b es_f es_a es_b ed_f ed_a ed_b hck2 bq hi ha3 hb3 he hn
    refine wp_region_quiet_below (by kernel_rfl) (by kernel_rfl) ?_
    repeat (go_big_quiet_step (first
      | (go_at_call_of 17 (Value.agg #[Value.slice ma (List.length ml) mc]); exact Calls.regrown_of (Qsf.out _ _))
      | (go_at_call_of 17 (Value.agg #[Value.slice ma at' mc]); exact Calls.regrown_of (Qsa.out _ _))
      | (go_at_call 17; exact Calls.regrown_of (Qsb.out _ _))
      | (go_at_call_of 18 (Value.agg #[Value.slice ma (List.length ml) mc]); exact Calls.regrown_of (Qdf.out _ _))
      | (go_at_call_of 18 (Value.agg #[Value.slice ma at' mc]); exact Calls.regrown_of (Qda.out _ _))
      | (go_at_call 18; exact Calls.regrown_of (Qdb.out _ _))))
    refine wpQuiet_nil ?_
    intro _ hw'
    obtain ⟨⟨dq, osq⟩, hw''⟩ := hw'
    subst hw''
    have hbq := below_regrown V dq osq
    obtain ⟨hi, ha3, hb3, he, hn⟩ := HA.out
    replace BX := block_kept BX hbq
    replace BA := block_kept BA hbq
    replace BB := block_kept BB hbq
    replace hi := FT.In.keep (Below.keptTo hbq hn) _ hi
    replace ha3 := FT.In.keep (Below.keptTo hbq hn) _ ha3
    replace hb3 := FT.In.keep (Below.keptTo hbq hn) _ hb3
    replace he := he.keep hbq
    replace hB := hB.trans (hbq.mono hB.size)
    replace hn := Nat.le_trans hn hbq.size
    clear HA f0 a0 b0 f0R a0R b0R hbq Qsf Qsa Qsb Qdf Qda Qdb
    generalize grow (redrawn V dq) osq = V1 at *
    have f0 := (cell_of_box_1 BX).1
    have a0 := (cell_of_box_1 BA).1
    have b0 := (cell_of_box_1 BB).1
    have HA := Lib.hid (And.intro hi (And.intro hb3 (And.intro ha3 (And.intro he hn))))
    clear hi ha3 hb3 he hn
    go_wp2_with fail
    obtain ⟨hi, hb3, ha3, he, hn⟩ := HA.out
    refine (Hca.out _ hn he ha3).mono ?_
    rintro e V2 ⟨rfl, hb⟩
    clear f0 a0 b0 HA
    replace BX := block_kept BX hb
    replace BB := block_kept BB hb
    replace hi := FT.In.keep (Below.keptTo hb hn) _ hi
    replace hb3 := FT.In.keep (Below.keptTo hb hn) _ hb3
    replace he := he.keep hb
    replace hB := hB.trans (hb.mono hB.size)
    replace hn := Nat.le_trans hn hb.size
    clear hb ha3 BA
    obtain ⟨pa, hpa⟩ : ∃ p, (ca == 0) = p := ⟨_, rfl⟩
    obtain ⟨pb, hpb⟩ : ∃ p, (cb == 0) = p := ⟨_, rfl⟩
    obtain ⟨pf, hpf⟩ : ∃ p, (cf == 0) = p := ⟨_, rfl⟩
    have hck3 := HCK.out
    rw [hpa, hpb, hpf] at hck3
    obtain ⟨lq, hlq⟩ : ∃ l, decide (64 < ml.length) = l := ⟨_, rfl⟩
    rw [hlq] at hck3
    have e3 : decide ((64 : Int) < (ml.length : Int)) = lq := by rw [← hlq]; exact decide_eq_decide.2 (by omega)
    have HCK3 := Lib.hid hck3
    clear hck3 hlq
    cases pa with
    | false =>
      have f0 := (cell_of_box_1 BX).1
      cases lq with
      | true =>
        go_wp2
        go_ret
        exact ⟨rfl, hB⟩
      | false =>
        have hp := HCK3.out rfl
        subst hp
        have HA := Lib.hid (And.intro hi (And.intro he hn))
        clear hi he hn
        go_wp2_with fail
        obtain ⟨hi, he, hn⟩ := HA.out
        refine (Hcf.out _ hn he hi).mono ?_
        rintro e V4 ⟨rfl, hb⟩
        replace hB := hB.trans (hb.mono hB.size)
        clear hi he hn HA f0
        go_wp2
        go_ret
        exact ⟨rfl, hB⟩
    | true =>
      have b0 := (cell_of_box_1 BB).1
      have HA := Lib.hid (And.intro hi (And.intro hb3 (And.intro he hn)))
      clear hi hb3 he hn
      go_wp2_with fail
      obtain ⟨hi, hb3, he, hn⟩ := HA.out
      refine (Hcb.out _ hn he hb3).mono ?_
      rintro e V3 ⟨rfl, hb⟩
      clear b0 HA
      replace BX := block_kept BX hb
      replace hi := FT.In.keep (Below.keptTo hb hn) _ hi
      replace he := he.keep hb
      replace hB := hB.trans (hb.mono hB.size)
      replace hn := Nat.le_trans hn hb.size
      clear hb hb3 BB
      cases pb with
      | false =>
        have f0 := (cell_of_box_1 BX).1
        cases lq with
        | true =>
          go_wp2
          go_ret
          exact ⟨rfl, hB⟩
        | false =>
          have hp := HCK3.out rfl
          subst hp
          have HA := Lib.hid (And.intro hi (And.intro he hn))
          clear hi he hn
          go_wp2_with fail
          obtain ⟨hi, he, hn⟩ := HA.out
          refine (Hcf.out _ hn he hi).mono ?_
          rintro e V4 ⟨rfl, hb⟩
          replace hB := hB.trans (hb.mono hB.size)
          clear hi he hn HA f0
          go_wp2
          go_ret
          exact ⟨rfl, hB⟩
      | true =>
        have f0 := (cell_of_box_1 BX).1
        cases lq with
        | true =>
          go_wp2
          go_ret
          exact ⟨rfl, hB⟩
        | false =>
          have hp := HCK3.out rfl
          subst hp
          have HA := Lib.hid (And.intro hi (And.intro he hn))
          clear hi he hn
          go_wp2_with fail
          obtain ⟨hi, he, hn⟩ := HA.out
          refine (Hcf.out _ hn he hi).mono ?_
          rintro e V4 ⟨rfl, hb⟩
          replace hB := hB.trans (hb.mono hB.size)
          clear hi he hn HA f0
          go_wp2
          go_ret
          exact ⟨rfl, hB⟩

/-! ### The row's step -/
set_option maxRecDepth 100000 in
theorem contract (H : Type) (enc : TypeId × Value → H) (W : World) (base : Nat) (args : Array Value) (ds gs : List (DataW H)) (before : List MemPlace)
    (hval0 : ∀ (j : Nat) t v, Tryd.f5.params[j]? = some t → args[j]? = some v → Value.okWide Tryd.prog W .any base t v)
    (hW : DataW.Whole enc Tryd.prog Tryd.f5.params.toList Rows.astModulesSpec.vars false W args.toList ds gs before) (hbk : Rows.uptoBulkAll (ds ++ gs) ≤ 1048576) (hL : laidMetH Tryd.prog LD W) (hsh : W.ShapedOpen Tryd.prog) :
    Calls Tryd.prog 5 args W fun e W' => ∃ v, e = .returned v ∧ Rows.astModulesSpec.post enc Tryd.prog Tryd.f5 false true false false W args v W' := by
  have hval : ∀ (j : Nat) t v, Tryd.f5.params[j]? = some t → args[j]? = some v → Value.okWide Tryd.prog W .any base t v := hval0
  have hW' := hW
  obtain ⟨p, q, hA0, hV, rfl, hfz, hnd⟩ := hW
  have hA : DataW.TrodAll enc Tryd.prog W 0 (fun _ => true) true Tryd.f5.params.toList args.toList ds p := hA0
  rw [Tryd.params5] at hA hval
  obtain ⟨v0, vs0, d0, ds0, p0, q0, hargs, rfl, rfl, h0, r0⟩ := trodAll_cons hA
  obtain ⟨v1, vs1, d1, ds1, p1, q1, rfl, rfl, rfl, h1, r1⟩ := trodAll_cons r0
  obtain ⟨rfl, rfl, rfl⟩ := trodAll_nil r1
  obtain rfl : args = #[v0, v1] := by cases args; simp_all
  obtain ⟨rfl, rfl⟩ := trodVars_none hV
  have he := env_of hL hsh
  simp only [List.append_nil, Rows.uptoBulkAll] at hbk
  have k0 : ∀ (W' : World), Below W.heap.size W W' → DataW.Trod enc Tryd.prog W' 0 (fun b => decide (b < W.heap.size)) true 41 v0 d0 p0 := fun W' hn => Below.trod laidOut (by kernel_rfl) (of_decide_eq_true (by kernel_rfl)) h0 hn (fun x hx => by simpa using hW'.lt x (by simp [hx]))
  have k1 : ∀ (W' : World), Below W.heap.size W W' → DataW.Trod enc Tryd.prog W' 0 (fun b => decide (b < W.heap.size)) true 3 v1 d1 p1 := fun W' hn => Below.trod laidOut (by kernel_rfl) (of_decide_eq_true (by kernel_rfl)) h1 hn (fun x hx => by simpa using hW'.lt x (by simp [hx]))
  obtain ⟨t0, rfl, i0, w0, b0, m0, n0⟩ := ft_of (hval 0 41 v0 rfl rfl) h0
  obtain ⟨x1, rfl, _, _, wf1⟩ := open_int Tryd.underlying3 (hval 1 3 v1 rfl rfl) h1
  clear hA0 hval0
  simp only [List.append_nil] at hW'
  refine (walk t0 x1 (by omega) w0 W he i0 m0 n0).mono fun e W' ⟨hr, bel⟩ => ?_
  subst hr
  exact ⟨_, rfl, _, _, _, [], _, [], hW', trodAll_mk1 (shut_bool Tryd.underlying4 _), (trodAll_cons_mk (k0 _ bel) (trodAll_cons_mk (k1 _ bel) trodAll_mk0)), rfl, bel.frame _, fun h => by cases h⟩
theorem reads (os : Os) {H : Type} (enc : TypeId × Value → H) : ∃ places, DataW.whole enc Tryd.prog ((World.doorLaid Tryd.prog 55 os).forCall (fun _ _ => 0) ⟨#[], #[.agg #[.slice none 0 0], .int .i64 0], []⟩).memory Tryd.f5.params.toList Rows.astModulesSpec.vars false #[.agg #[.slice none 0 0], .int .i64 0].toList 8 = some ([.agg [.nil], .lit (.int .i64 0)], [], places) :=
  ⟨[], by kernel_rfl⟩
set_option maxRecDepth 100000 in
theorem lifted (os : Os) (started : os.Started) (H : Type) (enc : TypeId × Value → H) (F : Stop.Interp) :
    ReturnsInHanded {} Tryd.checked os 5 .any ((Rows.OpenSpec.upto Rows.astModulesSpec).preRow enc Tryd.prog Tryd.f5 Rows.astModulesUptoRow.domain false Rows.astModulesUptoRow.laid) (((Rows.OpenSpec.upto Rows.astModulesSpec).at F).post enc Tryd.prog Tryd.f5 false true false false) := by
  obtain ⟨places, hx⟩ := reads os enc
  refine returnsInHanded_of_row (C := Tryd.checked) (s := Rows.OpenSpec.upto Rows.astModulesSpec) own started (by kernel_rfl) Tryd.func5
    (witness_row_at (enc := enc) (C := Tryd.checked) false (World.doorLaid Tryd.prog 55 os) #[.agg #[.slice none 0 0], .int .i64 0] rfl (by kernel_rfl) (by kernel_rfl) (by kernel_rfl)
      (OpenSpec.preRow_of_cond 8 hx (by kernel_rfl) (fun k hk => by cases hk; kernel_rfl) (by kernel_rfl) (door_met os _))) ?_
  intro W base args ds gs before hval hW _ hcond _ hL hsh _
  have hbk : Rows.uptoBulkAll (ds ++ gs) ≤ 1048576 := of_decide_eq_true (hcond _ rfl)
  exact contract H enc W base args ds gs before hval hW hbk hL hsh
theorem over : Rows.AstModulesUptoSaid :=
  OpenClaim.holds_of_cond 5 Tryd.f5 rfl rfl rfl rfl rfl rfl rfl ⟨rfl, rfl, rfl, rfl, rfl⟩ rfl rfl rfl rfl rfl (by kernel_rfl) Tryd.func5 (by kernel_rfl)
    (of_decide_eq_true (by kernel_rfl)) (by unfold Func.isWrapper; first | (rw [if_pos (by decide +kernel)]; kernel_rfl) | (rw [if_neg (by decide +kernel)]; exact ⟨rfl, rfl⟩))
    (fun os started H enc _ F => by rw [OpenClaim.pre_eq_preRow]; exact lifted os started H enc F)
/-- The given statement. -/
theorem proved : Rows.AstModulesUptoCardSaid :=
  Claim7.holds_tied_plain_at .later [] _ _ _ _
    over (fun _ h => by cases h) (by kernel_rfl) (fun _ h => by cases h) astModulesUpto_row_tie rfl ⟨rfl, rfl⟩ (by kernel_rfl) rfl
    (fun f fn hf hfn => by
      obtain rfl : f = 5 := Option.some.inj ((show Tryd.prog.funcNamed "filigree/filigreelaw03.AstModules" = some 5 by kernel_rfl).symm.trans hf) |>.symm
      obtain rfl : fn = Tryd.f5 := (Option.some.inj (Tryd.func5.symm.trans hfn)).symm
      exact ⟨by kernel_rfl, fun j t ht => by
        rw [Tryd.params5] at ht
        have hm : t ∈ [41, 3] := by simpa using Array.mem_of_getElem? ht
        have hall : ([41, 3].all fun u => !Tryd.prog.wantsStandIn u) = true := by kernel_rfl
        exact (show Tryd.prog.wantsStandIn t = false by simpa using List.all_eq_true.1 hall t hm)⟩)
    (by kernel_rfl)
#print axioms proved
end Go.Proofs.YtppgfedakcmgcaaDoor.astModules
