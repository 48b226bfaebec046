/-
  AsO, in one text.
-/
import Derived.Test.YtiipjbafdhijlaaGreatDoorZAN
namespace Go.Proofs.YtiipjbafdhijlaaGreatDoor
open Go Go.RowKit
set_option linter.unusedVariables false
set_option linter.unusedSimpArgs false
open Go.Sort
set_option maxHeartbeats 4000000 in
set_option maxRecDepth 9000000 in
theorem allS_any (p : ST → Bool) (n0 : Nat) (l : List ST) (hll : l.length ≤ 12000000) (hc : ∀ x ∈ l, ∀ w, n0 ≤ w.heap.size → EnvA w → x.In n0 w → Calls Tryz.prog 157 #[x.val] w fun e w' => e = .returned (.bool (p x)) ∧ Below w.heap.size w w') (a : Option Addr) (c : Nat) (w : World) (hn0 : n0 ≤ w.heap.size) (he : EnvA w) (hin : InRow 4 ST.cells (ST.In n0 w) n0 w l a) :
  Calls Tryz.prog 142 #[.slice a l.length c, .func (.func 157) #[] #[]] w fun e w' => e = .returned (.bool (l.all p)) ∧ Below w.heap.size w w' := by
 go_enter Tryz.func142, Tryz.ntmps142
 go_wp2
 go_loopw [9] (fun u wr => ∃ k : Nat, u = .int .i64 k ∧ k ≤ l.length ∧ (l.take k).all p = true ∧ Below w.heap.size w wr) (fun u _ => l.length - (intOf u).toNat)
 case atStart => exact ⟨0, rfl, Nat.zero_le _, rfl, Below.refl _ _⟩
 case round =>
  obtain ⟨k, rfl, hk, hal, hb0⟩ := hrel
  have HA := Lib.hid hal
  clear hal
  by_cases hlt : k < l.length
  ·have d1 : decide (k < l.length) = true := by simpa using hlt
   have d2 : decide ((k : Int) < (l.length : Int)) = true := by rw [decide_eq_true_eq]; omega
   have x1 : (k : Int) < (l.length : Int) := by omega
   obtain ⟨b, o, rfl, hb, hr, hx⟩ := hin.kept (Below.keptTo hb0 hn0) hlt
   have HT := Lib.hid (all_take p l k hlt)
   have HS := Lib.hid (all_stop p l k hlt)
   have hcx := hc l[k] (List.getElem_mem hlt)
   have hxin := hx.keep (Below.keptTo hb0 hn0)
   have her := he.keep hb0
   have zz := hb0.size
   generalize p l[k] = bp at *
   generalize hgx : l[k] = x at *
   obtain ⟨op, nm, xa, xc, xl, sa, sc, sl⟩ := x
   have c0 := fun (o' : Obj) => hcx (wr.alloc o') (by simp; omega) (her.alloc o') (hxin.keep (Below.keptTo ((Below.refl _ _).alloc (Nat.le_refl _) o') (by omega)))
   have r0 : wr.cell? ⟨b, o + k * 4, none⟩ = some (.int .i64 op) := hr 0 _ rfl
   have r1 : wr.cell? ⟨b, o + k * 4 + 1, none⟩ = some (.string (bs nm)) := hr 1 _ rfl
   have r2 : wr.cell? ⟨b, o + k * 4 + 2, none⟩ = some (.slice xa xl.length xc) := hr 2 _ rfl
   have r3 : wr.cell? ⟨b, o + k * 4 + 3, none⟩ = some (.slice sa sl.length sc) := hr 3 _ rfl
   simp only [ST.val, ST.cells] at c0
   clear hin hc hcx hr hx hxin hgx he her
   cases bp with
   | true =>
    clear HS
    go_wp2_with fail
    refine (c0 _).mono ?_
    clear c0
    rintro e W1 ⟨rfl, hb1⟩
    have hb2 := hb0.trans (((Below.refl _ _).alloc (Nat.le_refl _) _).trans (hb1.mono (by simp)) |>.mono zz)
    go_wp2
    go_roundw
    case rel => exact ⟨k + 1, by simp; first | done | rfl | omega, by omega, by rw [HT.out, HA.out]; rfl, hb2⟩
    case measure => simp [intOf]; omega
   | false =>
    have HE : Hid (l.all p = false) := Lib.hid (HS.out rfl)
    clear HS HT
    go_wp2_with fail
    refine (c0 _).mono ?_
    clear c0
    rintro e W1 ⟨rfl, hb1⟩
    have hb2 := hb0.trans (((Below.refl _ _).alloc (Nat.le_refl _) _).trans (hb1.mono (by simp)) |>.mono zz)
    go_wp2
    go_ret
    exact ⟨by rw [HE.out]; rfl, hb2⟩
  ·have d1 : decide (k < l.length) = false := by simpa using hlt
   have d2 : decide ((k : Int) < (l.length : Int)) = false := by rw [decide_eq_false_iff_not]; omega
   have hkl : k = l.length := by omega
   have HE : Hid (l.all p = true) := Lib.hid (by have := HA.out; rw [hkl, List.take_length] at this; exact this)
   clear hkl
   go_wp2
   go_ret
   exact ⟨by rw [HE.out]; rfl, hb0⟩
set_option maxHeartbeats 4000000 in
set_option maxRecDepth 9000000 in
theorem allStand_any (p : ST → Bool) (n0 : Nat) (l : List ST) (hll : l.length ≤ 12000000) (hc : ∀ x ∈ l, ∀ w, n0 ≤ w.heap.size → EnvA w → x.In n0 w → Calls Tryz.prog 143 #[x.val] w fun e w' => e = .returned (.bool (p x)) ∧ Below w.heap.size w w') (a : Option Addr) (c : Nat) (w : World) (hn0 : n0 ≤ w.heap.size) (he : EnvA w) (hin : InRow 4 ST.cells (ST.In n0 w) n0 w l a) :
  Calls Tryz.prog 142 #[.slice a l.length c, .func (.func 143) #[] #[]] w fun e w' => e = .returned (.bool (l.all p)) ∧ Below w.heap.size w w' := by
 go_enter Tryz.func142, Tryz.ntmps142
 go_wp2
 go_loopw [9] (fun u wr => ∃ k : Nat, u = .int .i64 k ∧ k ≤ l.length ∧ (l.take k).all p = true ∧ Below w.heap.size w wr) (fun u _ => l.length - (intOf u).toNat)
 case atStart => exact ⟨0, rfl, Nat.zero_le _, rfl, Below.refl _ _⟩
 case round =>
  obtain ⟨k, rfl, hk, hal, hb0⟩ := hrel
  have HA := Lib.hid hal
  clear hal
  by_cases hlt : k < l.length
  ·have d1 : decide (k < l.length) = true := by simpa using hlt
   have d2 : decide ((k : Int) < (l.length : Int)) = true := by rw [decide_eq_true_eq]; omega
   have x1 : (k : Int) < (l.length : Int) := by omega
   obtain ⟨b, o, rfl, hb, hr, hx⟩ := hin.kept (Below.keptTo hb0 hn0) hlt
   have HT := Lib.hid (all_take p l k hlt)
   have HS := Lib.hid (all_stop p l k hlt)
   have hcx := hc l[k] (List.getElem_mem hlt)
   have hxin := hx.keep (Below.keptTo hb0 hn0)
   have her := he.keep hb0
   have zz := hb0.size
   generalize p l[k] = bp at *
   generalize hgx : l[k] = x at *
   obtain ⟨op, nm, xa, xc, xl, sa, sc, sl⟩ := x
   have c0 := fun (o' : Obj) => hcx (wr.alloc o') (by simp; omega) (her.alloc o') (hxin.keep (Below.keptTo ((Below.refl _ _).alloc (Nat.le_refl _) o') (by omega)))
   have r0 : wr.cell? ⟨b, o + k * 4, none⟩ = some (.int .i64 op) := hr 0 _ rfl
   have r1 : wr.cell? ⟨b, o + k * 4 + 1, none⟩ = some (.string (bs nm)) := hr 1 _ rfl
   have r2 : wr.cell? ⟨b, o + k * 4 + 2, none⟩ = some (.slice xa xl.length xc) := hr 2 _ rfl
   have r3 : wr.cell? ⟨b, o + k * 4 + 3, none⟩ = some (.slice sa sl.length sc) := hr 3 _ rfl
   simp only [ST.val, ST.cells] at c0
   clear hin hc hcx hr hx hxin hgx he her
   cases bp with
   | true =>
    clear HS
    go_wp2_with fail
    refine (c0 _).mono ?_
    clear c0
    rintro e W1 ⟨rfl, hb1⟩
    have hb2 := hb0.trans (((Below.refl _ _).alloc (Nat.le_refl _) _).trans (hb1.mono (by simp)) |>.mono zz)
    go_wp2
    go_roundw
    case rel => exact ⟨k + 1, by simp; first | done | rfl | omega, by omega, by rw [HT.out, HA.out]; rfl, hb2⟩
    case measure => simp [intOf]; omega
   | false =>
    have HE : Hid (l.all p = false) := Lib.hid (HS.out rfl)
    clear HS HT
    go_wp2_with fail
    refine (c0 _).mono ?_
    clear c0
    rintro e W1 ⟨rfl, hb1⟩
    have hb2 := hb0.trans (((Below.refl _ _).alloc (Nat.le_refl _) _).trans (hb1.mono (by simp)) |>.mono zz)
    go_wp2
    go_ret
    exact ⟨by rw [HE.out]; rfl, hb2⟩
  ·have d1 : decide (k < l.length) = false := by simpa using hlt
   have d2 : decide ((k : Int) < (l.length : Int)) = false := by rw [decide_eq_false_iff_not]; omega
   have hkl : k = l.length := by omega
   have HE : Hid (l.all p = true) := Lib.hid (by have := HA.out; rw [hkl, List.take_length] at this; exact this)
   clear hkl
   go_wp2
   go_ret
   exact ⟨by rw [HE.out]; rfl, hb0⟩
theorem mayS_op (x : ST) (h : mayS x = true) : 1 ≤ x.op ∧ x.op < 7 := by
 obtain ⟨op, nm, xa, xc, xl, sa, sc, sl⟩ := x
 rw [mayS] at h
 simp only [Bool.and_eq_true] at h
 have := h.1
 unfold amongB at this
 simpa [ST.op] using this
theorem ks_pair (k : Nat) (h1 : 1 ≤ k) (h2 : k < 7) : ((ks k).2.2.2.2.2.2.1 = 0 ∧ (ks k).2.2.2.2.2.2.2 = 0) ∨ ((ks k).2.2.2.2.2.2.1 = 32 ∧ (ks k).2.2.2.2.2.2.2 = 36) ∨ ((ks k).2.2.2.2.2.2.1 = 16 ∧ (ks k).2.2.2.2.2.2.2 = 16) ∨ ((ks k).2.2.2.2.2.2.1 = 110 ∧ (ks k).2.2.2.2.2.2.2 = 110) := by
 have : k = 1 ∨ k = 2 ∨ k = 3 ∨ k = 4 ∨ k = 5 ∨ k = 6 := by omega
 rcases this with rfl | rfl | rfl | rfl | rfl | rfl <;> simp [ks]
theorem ks_target (k : Nat) (h1 : 1 ≤ k) (h2 : k < 7) (h : (ks k).2.1 = true) : k ≠ 3 ∧ (ks k).2.2.1 = 2 ∧ (ks k).2.2.2.2.1 = false := by
 have : k = 1 ∨ k = 2 ∨ k = 3 ∨ k = 4 ∨ k = 5 ∨ k = 6 := by omega
 rcases this with rfl | rfl | rfl | rfl | rfl | rfl <;> simp_all [ks]
theorem ki_target (k : Nat) (h1 : 1 ≤ k) (h2 : k < 11) (h : (ki k).2.2.1 = true) : (ki k).2.2.2.1 = 2 := by
 have : k = 1 ∨ k = 2 ∨ k = 3 ∨ k = 4 ∨ k = 5 ∨ k = 6 ∨ k = 7 ∨ k = 8 ∨ k = 9 ∨ k = 10 := by omega
 rcases this with rfl | rfl | rfl | rfl | rfl | rfl | rfl | rfl | rfl | rfl <;> simp_all [ki]
theorem head_true (l : List XT) (h : 0 < l.length) : headB true l = hasB l[0].op := by
 cases l with
 | nil => simp at h
 | cons x r => rfl
theorem hasName_call (x : XT) (b : Bool) (h : hasB x.op = b) (w : World) (he : EnvA w) : Calls Tryz.prog 140 #[x.val] w fun e w' => e = .returned (.bool b) ∧ Below w.heap.size w w' := h ▸ hasName_any x w he
set_option maxHeartbeats 16000000 in
set_option maxRecDepth 9000000 in
theorem mayS_any : ∀ x : ST, x.bk ≤ 4500000 → x.Wf → ∀ (n0 : Nat) (w : World), n0 ≤ w.heap.size → EnvA w → x.In n0 w → Calls Tryz.prog 157 #[x.val] w fun e w' => e = .returned (.bool (mayS x)) ∧ Below w.heap.size w w' := by
 refine ST.ind ?_
 intro op nm xa xc xl sa sc sl ih hbk hwf n0 w hn0 he hin
 rw [ST.In_mk] at hin
 obtain ⟨hin1, hin2⟩ := hin
 rw [ST.Wf, XT.wfL_iff, ST.wfL_iff] at hwf
 obtain ⟨hwx, hws⟩ := hwf
 simp only [ST.bk] at hbk
 have hlx := XT.bkL_len xl
 have hls := ST.bkL_len sl
 have hm := fun w => among_any op 7 w
 have hallx := fun (w' : World) h1 h2 h3 => allX_any mayX n0 xl (by omega) (fun y hy w2 g1 g2 g3 => mayX_any y (by have := XT.bkL_mem hy; omega) (hwx y hy) n0 w2 g1 g2 g3) xa xc w' h1 h2 h3
 have halls := fun (w' : World) h1 h2 h3 => allS_any mayS n0 sl (by omega) (fun y hy w2 g1 g2 g3 => ih y hy (by have := ST.bkL_mem hy; omega) (hws y hy) n0 w2 g1 g2 g3) sa sc w' h1 h2 h3
 have hlab := fun (w' : World) h1 h2 => labelsFit_any n0 sl (by omega) (fun x hx => by
  have h1 := ST.bkL_mem hx
  obtain ⟨o1, n1, x1, x2, x3, s1, s2, s3⟩ := x
  have h2 := XT.bkL_len x3
  simp only [ST.xl, ST.bk] at *
  omega) sa sc w' h1 h2
 have HI : Hid (mayS (.mk op nm xa xc xl sa sc sl) = (amongB op 7 && (nameB nm (ks op.toNat).1 && (countB xl.length (ks op.toNat).2.2.1 (ks op.toNat).2.2.2.2.1 && (xl.all mayX && (headB (ks op.toNat).2.1 xl && (countB sl.length (ks op.toNat).2.2.2.1 (ks op.toNat).2.2.2.2.2.1 && (sl.all mayS && (kindsK (ks op.toNat).2.2.2.2.2.2.2 (ks op.toNat).2.2.2.2.2.2.1 sl && (!(op == 3) || labelsK sl)))))))))) := Lib.hid (by rw [mayS, maySL_all])
 generalize mayS (.mk op nm xa xc xl sa sc sl) = R at *
 clear ih hwx hws
 simp only [ST.val, ST.cells]
 cases hb : amongB op 7 with
 | false =>
  rw [hb] at hm
  replace HI : Hid (R = false) := Lib.hid (by rw [HI.out, hb]; rfl)
  clear hb he hallx halls hlab hin1 hin2
  go_enter Tryz.func157, Tryz.ntmps157
  go_wp2_with fail
  refine (hm _).mono ?_
  rintro e w1 ⟨rfl, rfl⟩
  go_wp2
  go_ret
  exact ⟨by rw [HI.out]; rfl, (Below.refl _ _).alloc (Nat.le_refl _) _⟩
 | true =>
  rw [hb] at hm
  have hr : 1 ≤ op ∧ op < 7 := by unfold amongB at hb; simpa using hb
  obtain ⟨k, rfl⟩ : ∃ k : Nat, op = (k : Int) := ⟨op.toNat, by omega⟩
  replace HI : Hid (R = (nameB nm (ks k).1 && (countB xl.length (ks k).2.2.1 (ks k).2.2.2.2.1 && (xl.all mayX && (headB (ks k).2.1 xl && (countB sl.length (ks k).2.2.2.1 (ks k).2.2.2.2.2.1 && (sl.all mayS && (kindsK (ks k).2.2.2.2.2.2.2 (ks k).2.2.2.2.2.2.1 sl && (!((k : Int) == 3) || labelsK sl))))))))) := Lib.hid (by rw [HI.out, hb, Int.toNat_natCast]; rfl)
  have hpair := ks_pair k (by omega) (by omega)
  have htg := ks_target k (by omega) (by omega)
  have hX := (he.alloc (.cells #[.int .i64 (k : Int), .string (bs nm), .slice xa xl.length xc, .slice sa sl.length sc] 134)).sk k (by omega)
  have c0 := hX 0 _ rfl
  have c1 := hX 1 _ rfl
  have c2 := hX 2 _ rfl
  have c3 := hX 3 _ rfl
  have c4 := hX 4 _ rfl
  have c5 := hX 5 _ rfl
  have c6 := hX 6 _ rfl
  have c7 := hX 7 _ rfl
  simp only [Nat.add_zero] at c0
  obtain ⟨kn, kt, kx0, kl0, mX, mL, f, o, hk⟩ : ∃ a b c d e g i j, ks k = (a, b, c, d, e, g, i, j) := ⟨_, _, _, _, _, _, _, _, rfl⟩
  rw [hk] at c0 c1 c2 c3 c4 c5 c6 c7 HI hpair htg
  simp only at c0 c1 c2 c3 c4 c5 c6 c7 HI hpair htg
  have q1 : (k : Int) < 7 := hr.2
  have q2 : k < 7 := by omega
  have HPR := Lib.hid hpair
  clear hb hr hX hk hpair
  have hnf := fun (w' : World) h1 => nameFits_any nm kn (by omega) w' h1
  have hcx := fun w => countFits_any (xl.length : Int) kx0 mX w
  have hcs := fun w => countFits_any (sl.length : Int) kl0 mL w
  have hkf := fun hop (w' : World) h1 h2 => kindsFit_any kn kt kx0 kl0 mX mL f o HPR.out n0 sl (by omega) hop sa sc w' h1 h2
  obtain ⟨b1, hb1⟩ : ∃ b, nameB nm kn = b := ⟨_, rfl⟩
  obtain ⟨b2, hb2⟩ : ∃ b, countB (xl.length : Int) kx0 mX = b := ⟨_, rfl⟩
  obtain ⟨b3, hb3⟩ : ∃ b, xl.all mayX = b := ⟨_, rfl⟩
  obtain ⟨b4, hb4⟩ : ∃ b, headB kt xl = b := ⟨_, rfl⟩
  obtain ⟨b5, hb5⟩ : ∃ b, countB (sl.length : Int) kl0 mL = b := ⟨_, rfl⟩
  obtain ⟨b6, hb6⟩ : ∃ b, sl.all mayS = b := ⟨_, rfl⟩
  obtain ⟨b7, hb7⟩ : ∃ b, kindsK o f sl = b := ⟨_, rfl⟩
  obtain ⟨b8, hb8⟩ : ∃ b, labelsK sl = b := ⟨_, rfl⟩
  rw [hb1, hb2, hb3, hb4, hb5, hb6, hb7, hb8] at HI
  rw [hb1] at hnf
  rw [hb2] at hcx
  rw [hb3] at hallx
  rw [hb5] at hcs
  rw [hb6] at halls
  rw [hb7] at hkf
  rw [hb8] at hlab
  have hops : b6 = true → ∀ x ∈ sl, 1 ≤ x.op ∧ x.op < 7 := fun h x hx => mayS_op x (by rw [h, List.all_eq_true] at hb6; exact hb6 x hx)
  have hgt : kt = true → b2 = true → 0 < xl.length := fun h1 h2 => by
   obtain ⟨_, e1, e2⟩ := htg h1
   rw [h2, e1, e2] at hb2
   unfold countB at hb2
   simp at hb2
   omega
  have HOPS := Lib.hid hops
  have HGT := Lib.hid hgt
  have HB4 := Lib.hid hb4
  have HTG := Lib.hid (fun h => (htg h).1)
  clear hb1 hb2 hb3 hb4 hb5 hb6 hb7 hb8 hlx hls hbk hops hgt htg
  cases kt with
  | true =>
   have hk3 : ((k : Int) == 3) = false := by have := HTG.out rfl; rw [beq_eq_false_iff_ne]; omega
   have hk3b : ((k : Int) != 3) = true := by have := HTG.out rfl; rw [bne_iff_ne]; omega
   replace HI : Hid (R = (b1 && (b2 && (b3 && (b4 && (b5 && (b6 && (b7)))))))) := Lib.hid (by rw [HI.out, hk3, Bool.not_false, Bool.true_or, Bool.and_true])
   clear hlab
   go_enter Tryz.func157, Tryz.ntmps157
   go_wp2_with fail
   refine (hm _).mono ?_
   rintro e w1 ⟨rfl, rfl⟩
   have BX : (w.alloc (.cells #[.int .i64 (k : Int), .string (bs nm), .slice xa xl.length xc, .slice sa sl.length sc] 134)).heap[w.heap.size]? = some (.cells #[.int .i64 (k : Int), .string (bs nm), .slice xa xl.length xc, .slice sa sl.length sc] 134) := World.alloc_heap_new w _
   have hB : Below w.heap.size w (w.alloc (.cells #[.int .i64 (k : Int), .string (bs nm), .slice xa xl.length xc, .slice sa sl.length sc] 134)) := (Below.refl _ _).alloc (Nat.le_refl _) _
   have he1 := he.alloc (.cells #[.int .i64 (k : Int), .string (bs nm), .slice xa xl.length xc, .slice sa sl.length sc] 134)
   have hi1 := hin1.keep (Below.keptTo hB hn0) (fun x _ => XT.In.keep (Below.keptTo hB hn0) x)
   have hi2 := hin2.keep (Below.keptTo hB hn0) (fun x _ => ST.In.keep (Below.keptTo hB hn0) x)
   clear he hin1 hin2 hm
   generalize w.alloc (.cells #[.int .i64 (k : Int), .string (bs nm), .slice xa xl.length xc, .slice sa sl.length sc] 134) = w1 at *
   obtain ⟨x0, x1, x2, x3⟩ := open4 BX
   go_upto_region 4 with (fail)
   have BK : (w1.alloc (.cells #[.bool kn, .bool true, .int .i64 kx0, .int .i64 kl0, .bool mX, .bool mL, .int .u64 (f : Int), .int .u64 (o : Int)] 194)).heap[w1.heap.size]? = some (.cells #[.bool kn, .bool true, .int .i64 kx0, .int .i64 kl0, .bool mX, .bool mL, .int .u64 (f : Int), .int .u64 (o : Int)] 194) := World.alloc_heap_new w1 _
   have BX2 := block_alloc BX (.cells #[.bool kn, .bool true, .int .i64 kx0, .int .i64 kl0, .bool mX, .bool mL, .int .u64 (f : Int), .int .u64 (o : Int)] 194)
   have hz1 := hB.size
   have hB2 := hB.alloc hz1 (.cells #[.bool kn, .bool true, .int .i64 kx0, .int .i64 kl0, .bool mX, .bool mL, .int .u64 (f : Int), .int .u64 (o : Int)] 194)
   have he2 := he1.alloc (.cells #[.bool kn, .bool true, .int .i64 kx0, .int .i64 kl0, .bool mX, .bool mL, .int .u64 (f : Int), .int .u64 (o : Int)] 194)
   have k1 : Below w1.heap.size w1 (w1.alloc (.cells #[.bool kn, .bool true, .int .i64 kx0, .int .i64 kl0, .bool mX, .bool mL, .int .u64 (f : Int), .int .u64 (o : Int)] 194)) := (Below.refl _ _).alloc (Nat.le_refl _) _
   replace hi1 := hi1.keep (Below.keptTo k1 (by omega)) (fun x _ => XT.In.keep (Below.keptTo k1 (by omega)) x)
   replace hi2 := hi2.keep (Below.keptTo k1 (by omega)) (fun x _ => ST.In.keep (Below.keptTo k1 (by omega)) x)
   have hne : w1.heap.size ≠ w.heap.size := by have := (Array.getElem?_eq_some_iff.1 BX).1; omega
   clear x0 x1 x2 x3 c0 c1 c2 c3 c4 c5 c6 c7 he1 BX hB k1
   generalize w1.alloc (.cells #[.bool kn, .bool true, .int .i64 kx0, .int .i64 kl0, .bool mX, .bool mL, .int .u64 (f : Int), .int .u64 (o : Int)] 194) = w2 at *
   generalize w1.heap.size = gk at *
   have hn1 : n0 ≤ w2.heap.size := by have := hB2.size; omega
   obtain ⟨x0, x1, x2, x3⟩ := open4 BX2
   obtain ⟨y0, y1, y2, y3, y4, y5, y6, y7⟩ := open8 BK
   go_wp2_with fail
   refine (hnf _ he2).mono ?_
   rintro e1 w1 ⟨rfl, hb⟩
   clear x0 x1 x2 x3 y0 y1 y2 y3 y4 y5 y6 y7
   replace BX2 := block_kept BX2 hb
   replace BK := block_kept BK hb
   have hk9 := Below.keptTo hb hn1
   replace hi1 := hi1.keep hk9 (fun x _ => XT.In.keep hk9 x)
   replace hi2 := hi2.keep hk9 (fun x _ => ST.In.keep hk9 x)
   replace he2 := he2.keep hb
   replace hn1 := Nat.le_trans hn1 hb.size
   clear hk9
   replace hB2 := hB2.trans (hb.mono hB2.size)
   clear hb
   cases b1 with
   | false =>
    obtain ⟨x0, x1, x2, x3⟩ := open4 BX2
    obtain ⟨y0, y1, y2, y3, y4, y5, y6, y7⟩ := open8 BK
    go_wp2
    go_ret
    exact ⟨by rw [HI.out]; rfl, hB2⟩
   | true =>
    obtain ⟨x0, x1, x2, x3⟩ := open4 BX2
    obtain ⟨y0, y1, y2, y3, y4, y5, y6, y7⟩ := open8 BK
    go_wp2_with fail
    refine (hcx _).mono ?_
    rintro e1 w1 ⟨rfl, rfl⟩
    cases b2 with
    | false =>
     go_wp2
     go_ret
     exact ⟨by rw [HI.out]; rfl, hB2⟩
    | true =>
     go_wp2_with fail
     refine (hallx _ hn1 he2 hi1).mono ?_
     rintro e1 w1 ⟨rfl, hb⟩
     clear x0 x1 x2 x3 y0 y1 y2 y3 y4 y5 y6 y7
     replace BX2 := block_kept BX2 hb
     replace BK := block_kept BK hb
     have hk9 := Below.keptTo hb hn1
     replace hi1 := hi1.keep hk9 (fun x _ => XT.In.keep hk9 x)
     replace hi2 := hi2.keep hk9 (fun x _ => ST.In.keep hk9 x)
     replace he2 := he2.keep hb
     replace hn1 := Nat.le_trans hn1 hb.size
     clear hk9
     replace hB2 := hB2.trans (hb.mono hB2.size)
     clear hb
     cases b3 with
     | false =>
      obtain ⟨x0, x1, x2, x3⟩ := open4 BX2
      obtain ⟨y0, y1, y2, y3, y4, y5, y6, y7⟩ := open8 BK
      go_wp2
      go_ret
      exact ⟨by rw [HI.out]; rfl, hB2⟩
     | true =>
      have h0 := HGT.out (by simp) (by simp)
      obtain ⟨hb0, ho0, hxa, hbl, hr0, _⟩ := hi1.at h0
      subst hxa
      have hb4 := HB4.out
      rw [head_true xl h0] at hb4
      have hhd := hasName_call xl[0] b4 hb4
      have HB5 := Lib.hid hb4
      clear hb4
      generalize hgy : xl[0] = y at *
      clear hgy
      obtain ⟨yop, ynm, yn, yw, yv, ya, yc, yl⟩ := y
      simp only [XT.val, XT.cells] at hhd
      have g0 := hr0 0 _ rfl
      have g1 := hr0 1 _ rfl
      have g2 := hr0 2 _ rfl
      have g3 := hr0 3 _ rfl
      have g4 := hr0 4 _ rfl
      have g5 := hr0 5 _ rfl
      simp only [Nat.zero_mul, Nat.add_zero] at g0 g1 g2 g3 g4 g5
      clear hr0
      obtain ⟨x0, x1, x2, x3⟩ := open4 BX2
      obtain ⟨y0, y1, y2, y3, y4, y5, y6, y7⟩ := open8 BK
      go_wp2_with fail
      refine (hhd _ he2).mono ?_
      rintro e1 w1 ⟨rfl, hb⟩
      clear x0 x1 x2 x3 y0 y1 y2 y3 y4 y5 y6 y7
      replace BX2 := block_kept BX2 hb
      replace BK := block_kept BK hb
      have hk9 := Below.keptTo hb hn1
      replace hi1 := hi1.keep hk9 (fun x _ => XT.In.keep hk9 x)
      replace hi2 := hi2.keep hk9 (fun x _ => ST.In.keep hk9 x)
      replace he2 := he2.keep hb
      replace hn1 := Nat.le_trans hn1 hb.size
      clear hk9
      replace hB2 := hB2.trans (hb.mono hB2.size)
      clear hb
      cases b4 with
      | false =>
       obtain ⟨x0, x1, x2, x3⟩ := open4 BX2
       obtain ⟨y0, y1, y2, y3, y4, y5, y6, y7⟩ := open8 BK
       go_wp2
       go_ret
       exact ⟨by rw [HI.out]; rfl, hB2⟩
      | true =>
       clear g0 g1 g2 g3 g4 g5
       obtain ⟨x0, x1, x2, x3⟩ := open4 BX2
       obtain ⟨y0, y1, y2, y3, y4, y5, y6, y7⟩ := open8 BK
       go_wp2_with fail
       refine (hcs _).mono ?_
       rintro e1 w1 ⟨rfl, rfl⟩
       cases b5 with
       | false =>
        go_wp2
        go_ret
        exact ⟨by rw [HI.out]; rfl, hB2⟩
       | true =>
        go_wp2_with fail
        refine (halls _ hn1 he2 hi2).mono ?_
        rintro e1 w1 ⟨rfl, hb⟩
        clear x0 x1 x2 x3 y0 y1 y2 y3 y4 y5 y6 y7
        replace BX2 := block_kept BX2 hb
        replace BK := block_kept BK hb
        have hk9 := Below.keptTo hb hn1
        replace hi1 := hi1.keep hk9 (fun x _ => XT.In.keep hk9 x)
        replace hi2 := hi2.keep hk9 (fun x _ => ST.In.keep hk9 x)
        replace he2 := he2.keep hb
        replace hn1 := Nat.le_trans hn1 hb.size
        clear hk9
        replace hB2 := hB2.trans (hb.mono hB2.size)
        clear hb
        cases b6 with
        | false =>
         obtain ⟨x0, x1, x2, x3⟩ := open4 BX2
         obtain ⟨y0, y1, y2, y3, y4, y5, y6, y7⟩ := open8 BK
         go_wp2
         go_ret
         exact ⟨by rw [HI.out]; rfl, hB2⟩
        | true =>
         have hop := HOPS.out (by simp)
         obtain ⟨x0, x1, x2, x3⟩ := open4 BX2
         obtain ⟨y0, y1, y2, y3, y4, y5, y6, y7⟩ := open8 BK
         go_wp2_with fail
         refine (hkf hop _ hn1 hi2).mono ?_
         rintro e1 w1 ⟨rfl, hb⟩
         clear x0 x1 x2 x3 y0 y1 y2 y3 y4 y5 y6 y7
         replace BX2 := block_kept BX2 hb
         replace BK := block_kept BK hb
         have hk9 := Below.keptTo hb hn1
         replace hi1 := hi1.keep hk9 (fun x _ => XT.In.keep hk9 x)
         replace hi2 := hi2.keep hk9 (fun x _ => ST.In.keep hk9 x)
         replace he2 := he2.keep hb
         replace hn1 := Nat.le_trans hn1 hb.size
         clear hk9
         replace hB2 := hB2.trans (hb.mono hB2.size)
         clear hb
         cases b7 with
         | false =>
          obtain ⟨x0, x1, x2, x3⟩ := open4 BX2
          obtain ⟨y0, y1, y2, y3, y4, y5, y6, y7⟩ := open8 BK
          go_wp2
          go_ret
          exact ⟨by rw [HI.out]; rfl, hB2⟩
         | true =>
          obtain ⟨x0, x1, x2, x3⟩ := open4 BX2
          obtain ⟨y0, y1, y2, y3, y4, y5, y6, y7⟩ := open8 BK
          go_wp2
          go_ret
          exact ⟨by rw [HI.out]; rfl, hB2⟩
  | false =>
   have hh4 : b4 = true := by rw [← HB4.out]; rfl
   subst hh4
   clear HTG HGT HB4
   by_cases hkk : k = 3
   ·have hk3 : ((k : Int) == 3) = true := by rw [hkk]; rfl
    have hk3b : ((k : Int) != 3) = false := by rw [hkk]; rfl
    replace HI : Hid (R = (b1 && (b2 && (b3 && (b5 && (b6 && (b7 && (b8)))))))) := Lib.hid (by rw [HI.out, hk3, Bool.not_true, Bool.false_or, Bool.true_and])
    clear hkk
    go_enter Tryz.func157, Tryz.ntmps157
    go_wp2_with fail
    refine (hm _).mono ?_
    rintro e w1 ⟨rfl, rfl⟩
    have BX : (w.alloc (.cells #[.int .i64 (k : Int), .string (bs nm), .slice xa xl.length xc, .slice sa sl.length sc] 134)).heap[w.heap.size]? = some (.cells #[.int .i64 (k : Int), .string (bs nm), .slice xa xl.length xc, .slice sa sl.length sc] 134) := World.alloc_heap_new w _
    have hB : Below w.heap.size w (w.alloc (.cells #[.int .i64 (k : Int), .string (bs nm), .slice xa xl.length xc, .slice sa sl.length sc] 134)) := (Below.refl _ _).alloc (Nat.le_refl _) _
    have he1 := he.alloc (.cells #[.int .i64 (k : Int), .string (bs nm), .slice xa xl.length xc, .slice sa sl.length sc] 134)
    have hi1 := hin1.keep (Below.keptTo hB hn0) (fun x _ => XT.In.keep (Below.keptTo hB hn0) x)
    have hi2 := hin2.keep (Below.keptTo hB hn0) (fun x _ => ST.In.keep (Below.keptTo hB hn0) x)
    clear he hin1 hin2 hm
    generalize w.alloc (.cells #[.int .i64 (k : Int), .string (bs nm), .slice xa xl.length xc, .slice sa sl.length sc] 134) = w1 at *
    obtain ⟨x0, x1, x2, x3⟩ := open4 BX
    go_upto_region 4 with (fail)
    have BK : (w1.alloc (.cells #[.bool kn, .bool false, .int .i64 kx0, .int .i64 kl0, .bool mX, .bool mL, .int .u64 (f : Int), .int .u64 (o : Int)] 194)).heap[w1.heap.size]? = some (.cells #[.bool kn, .bool false, .int .i64 kx0, .int .i64 kl0, .bool mX, .bool mL, .int .u64 (f : Int), .int .u64 (o : Int)] 194) := World.alloc_heap_new w1 _
    have BX2 := block_alloc BX (.cells #[.bool kn, .bool false, .int .i64 kx0, .int .i64 kl0, .bool mX, .bool mL, .int .u64 (f : Int), .int .u64 (o : Int)] 194)
    have hz1 := hB.size
    have hB2 := hB.alloc hz1 (.cells #[.bool kn, .bool false, .int .i64 kx0, .int .i64 kl0, .bool mX, .bool mL, .int .u64 (f : Int), .int .u64 (o : Int)] 194)
    have he2 := he1.alloc (.cells #[.bool kn, .bool false, .int .i64 kx0, .int .i64 kl0, .bool mX, .bool mL, .int .u64 (f : Int), .int .u64 (o : Int)] 194)
    have k1 : Below w1.heap.size w1 (w1.alloc (.cells #[.bool kn, .bool false, .int .i64 kx0, .int .i64 kl0, .bool mX, .bool mL, .int .u64 (f : Int), .int .u64 (o : Int)] 194)) := (Below.refl _ _).alloc (Nat.le_refl _) _
    replace hi1 := hi1.keep (Below.keptTo k1 (by omega)) (fun x _ => XT.In.keep (Below.keptTo k1 (by omega)) x)
    replace hi2 := hi2.keep (Below.keptTo k1 (by omega)) (fun x _ => ST.In.keep (Below.keptTo k1 (by omega)) x)
    have hne : w1.heap.size ≠ w.heap.size := by have := (Array.getElem?_eq_some_iff.1 BX).1; omega
    clear x0 x1 x2 x3 c0 c1 c2 c3 c4 c5 c6 c7 he1 BX hB k1
    generalize w1.alloc (.cells #[.bool kn, .bool false, .int .i64 kx0, .int .i64 kl0, .bool mX, .bool mL, .int .u64 (f : Int), .int .u64 (o : Int)] 194) = w2 at *
    generalize w1.heap.size = gk at *
    have hn1 : n0 ≤ w2.heap.size := by have := hB2.size; omega
    obtain ⟨x0, x1, x2, x3⟩ := open4 BX2
    obtain ⟨y0, y1, y2, y3, y4, y5, y6, y7⟩ := open8 BK
    go_wp2_with fail
    refine (hnf _ he2).mono ?_
    rintro e1 w1 ⟨rfl, hb⟩
    clear x0 x1 x2 x3 y0 y1 y2 y3 y4 y5 y6 y7
    replace BX2 := block_kept BX2 hb
    replace BK := block_kept BK hb
    have hk9 := Below.keptTo hb hn1
    replace hi1 := hi1.keep hk9 (fun x _ => XT.In.keep hk9 x)
    replace hi2 := hi2.keep hk9 (fun x _ => ST.In.keep hk9 x)
    replace he2 := he2.keep hb
    replace hn1 := Nat.le_trans hn1 hb.size
    clear hk9
    replace hB2 := hB2.trans (hb.mono hB2.size)
    clear hb
    cases b1 with
    | false =>
     obtain ⟨x0, x1, x2, x3⟩ := open4 BX2
     obtain ⟨y0, y1, y2, y3, y4, y5, y6, y7⟩ := open8 BK
     go_wp2
     go_ret
     exact ⟨by rw [HI.out]; rfl, hB2⟩
    | true =>
     obtain ⟨x0, x1, x2, x3⟩ := open4 BX2
     obtain ⟨y0, y1, y2, y3, y4, y5, y6, y7⟩ := open8 BK
     go_wp2_with fail
     refine (hcx _).mono ?_
     rintro e1 w1 ⟨rfl, rfl⟩
     cases b2 with
     | false =>
      go_wp2
      go_ret
      exact ⟨by rw [HI.out]; rfl, hB2⟩
     | true =>
      go_wp2_with fail
      refine (hallx _ hn1 he2 hi1).mono ?_
      rintro e1 w1 ⟨rfl, hb⟩
      clear x0 x1 x2 x3 y0 y1 y2 y3 y4 y5 y6 y7
      replace BX2 := block_kept BX2 hb
      replace BK := block_kept BK hb
      have hk9 := Below.keptTo hb hn1
      replace hi1 := hi1.keep hk9 (fun x _ => XT.In.keep hk9 x)
      replace hi2 := hi2.keep hk9 (fun x _ => ST.In.keep hk9 x)
      replace he2 := he2.keep hb
      replace hn1 := Nat.le_trans hn1 hb.size
      clear hk9
      replace hB2 := hB2.trans (hb.mono hB2.size)
      clear hb
      cases b3 with
      | false =>
       obtain ⟨x0, x1, x2, x3⟩ := open4 BX2
       obtain ⟨y0, y1, y2, y3, y4, y5, y6, y7⟩ := open8 BK
       go_wp2
       go_ret
       exact ⟨by rw [HI.out]; rfl, hB2⟩
      | true =>
       obtain ⟨x0, x1, x2, x3⟩ := open4 BX2
       obtain ⟨y0, y1, y2, y3, y4, y5, y6, y7⟩ := open8 BK
       go_wp2_with fail
       refine (hcs _).mono ?_
       rintro e1 w1 ⟨rfl, rfl⟩
       cases b5 with
       | false =>
        go_wp2
        go_ret
        exact ⟨by rw [HI.out]; rfl, hB2⟩
       | true =>
        go_wp2_with fail
        refine (halls _ hn1 he2 hi2).mono ?_
        rintro e1 w1 ⟨rfl, hb⟩
        clear x0 x1 x2 x3 y0 y1 y2 y3 y4 y5 y6 y7
        replace BX2 := block_kept BX2 hb
        replace BK := block_kept BK hb
        have hk9 := Below.keptTo hb hn1
        replace hi1 := hi1.keep hk9 (fun x _ => XT.In.keep hk9 x)
        replace hi2 := hi2.keep hk9 (fun x _ => ST.In.keep hk9 x)
        replace he2 := he2.keep hb
        replace hn1 := Nat.le_trans hn1 hb.size
        clear hk9
        replace hB2 := hB2.trans (hb.mono hB2.size)
        clear hb
        cases b6 with
        | false =>
         obtain ⟨x0, x1, x2, x3⟩ := open4 BX2
         obtain ⟨y0, y1, y2, y3, y4, y5, y6, y7⟩ := open8 BK
         go_wp2
         go_ret
         exact ⟨by rw [HI.out]; rfl, hB2⟩
        | true =>
         have hop := HOPS.out (by simp)
         obtain ⟨x0, x1, x2, x3⟩ := open4 BX2
         obtain ⟨y0, y1, y2, y3, y4, y5, y6, y7⟩ := open8 BK
         go_wp2_with fail
         refine (hkf hop _ hn1 hi2).mono ?_
         rintro e1 w1 ⟨rfl, hb⟩
         clear x0 x1 x2 x3 y0 y1 y2 y3 y4 y5 y6 y7
         replace BX2 := block_kept BX2 hb
         replace BK := block_kept BK hb
         have hk9 := Below.keptTo hb hn1
         replace hi1 := hi1.keep hk9 (fun x _ => XT.In.keep hk9 x)
         replace hi2 := hi2.keep hk9 (fun x _ => ST.In.keep hk9 x)
         replace he2 := he2.keep hb
         replace hn1 := Nat.le_trans hn1 hb.size
         clear hk9
         replace hB2 := hB2.trans (hb.mono hB2.size)
         clear hb
         cases b7 with
         | false =>
          obtain ⟨x0, x1, x2, x3⟩ := open4 BX2
          obtain ⟨y0, y1, y2, y3, y4, y5, y6, y7⟩ := open8 BK
          go_wp2
          go_ret
          exact ⟨by rw [HI.out]; rfl, hB2⟩
         | true =>
          obtain ⟨x0, x1, x2, x3⟩ := open4 BX2
          obtain ⟨y0, y1, y2, y3, y4, y5, y6, y7⟩ := open8 BK
          go_wp2_with fail
          refine (hlab _ hn1 hi2).mono ?_
          rintro e1 w1 ⟨rfl, hb⟩
          clear x0 x1 x2 x3 y0 y1 y2 y3 y4 y5 y6 y7
          replace BX2 := block_kept BX2 hb
          replace BK := block_kept BK hb
          have hk9 := Below.keptTo hb hn1
          replace hi1 := hi1.keep hk9 (fun x _ => XT.In.keep hk9 x)
          replace hi2 := hi2.keep hk9 (fun x _ => ST.In.keep hk9 x)
          replace he2 := he2.keep hb
          replace hn1 := Nat.le_trans hn1 hb.size
          clear hk9
          replace hB2 := hB2.trans (hb.mono hB2.size)
          clear hb
          obtain ⟨x0, x1, x2, x3⟩ := open4 BX2
          obtain ⟨y0, y1, y2, y3, y4, y5, y6, y7⟩ := open8 BK
          go_wp2
          go_ret
          exact ⟨by rw [HI.out]; rfl, hB2⟩
   ·have hk3 : ((k : Int) == 3) = false := by rw [beq_eq_false_iff_ne]; omega
    have hk3b : ((k : Int) != 3) = true := by rw [bne_iff_ne]; omega
    replace HI : Hid (R = (b1 && (b2 && (b3 && (b5 && (b6 && (b7))))))) := Lib.hid (by rw [HI.out, hk3, Bool.not_false, Bool.true_or, Bool.and_true, Bool.true_and])
    clear hkk hlab
    go_enter Tryz.func157, Tryz.ntmps157
    go_wp2_with fail
    refine (hm _).mono ?_
    rintro e w1 ⟨rfl, rfl⟩
    have BX : (w.alloc (.cells #[.int .i64 (k : Int), .string (bs nm), .slice xa xl.length xc, .slice sa sl.length sc] 134)).heap[w.heap.size]? = some (.cells #[.int .i64 (k : Int), .string (bs nm), .slice xa xl.length xc, .slice sa sl.length sc] 134) := World.alloc_heap_new w _
    have hB : Below w.heap.size w (w.alloc (.cells #[.int .i64 (k : Int), .string (bs nm), .slice xa xl.length xc, .slice sa sl.length sc] 134)) := (Below.refl _ _).alloc (Nat.le_refl _) _
    have he1 := he.alloc (.cells #[.int .i64 (k : Int), .string (bs nm), .slice xa xl.length xc, .slice sa sl.length sc] 134)
    have hi1 := hin1.keep (Below.keptTo hB hn0) (fun x _ => XT.In.keep (Below.keptTo hB hn0) x)
    have hi2 := hin2.keep (Below.keptTo hB hn0) (fun x _ => ST.In.keep (Below.keptTo hB hn0) x)
    clear he hin1 hin2 hm
    generalize w.alloc (.cells #[.int .i64 (k : Int), .string (bs nm), .slice xa xl.length xc, .slice sa sl.length sc] 134) = w1 at *
    obtain ⟨x0, x1, x2, x3⟩ := open4 BX
    go_upto_region 4 with (fail)
    have BK : (w1.alloc (.cells #[.bool kn, .bool false, .int .i64 kx0, .int .i64 kl0, .bool mX, .bool mL, .int .u64 (f : Int), .int .u64 (o : Int)] 194)).heap[w1.heap.size]? = some (.cells #[.bool kn, .bool false, .int .i64 kx0, .int .i64 kl0, .bool mX, .bool mL, .int .u64 (f : Int), .int .u64 (o : Int)] 194) := World.alloc_heap_new w1 _
    have BX2 := block_alloc BX (.cells #[.bool kn, .bool false, .int .i64 kx0, .int .i64 kl0, .bool mX, .bool mL, .int .u64 (f : Int), .int .u64 (o : Int)] 194)
    have hz1 := hB.size
    have hB2 := hB.alloc hz1 (.cells #[.bool kn, .bool false, .int .i64 kx0, .int .i64 kl0, .bool mX, .bool mL, .int .u64 (f : Int), .int .u64 (o : Int)] 194)
    have he2 := he1.alloc (.cells #[.bool kn, .bool false, .int .i64 kx0, .int .i64 kl0, .bool mX, .bool mL, .int .u64 (f : Int), .int .u64 (o : Int)] 194)
    have k1 : Below w1.heap.size w1 (w1.alloc (.cells #[.bool kn, .bool false, .int .i64 kx0, .int .i64 kl0, .bool mX, .bool mL, .int .u64 (f : Int), .int .u64 (o : Int)] 194)) := (Below.refl _ _).alloc (Nat.le_refl _) _
    replace hi1 := hi1.keep (Below.keptTo k1 (by omega)) (fun x _ => XT.In.keep (Below.keptTo k1 (by omega)) x)
    replace hi2 := hi2.keep (Below.keptTo k1 (by omega)) (fun x _ => ST.In.keep (Below.keptTo k1 (by omega)) x)
    have hne : w1.heap.size ≠ w.heap.size := by have := (Array.getElem?_eq_some_iff.1 BX).1; omega
    clear x0 x1 x2 x3 c0 c1 c2 c3 c4 c5 c6 c7 he1 BX hB k1
    generalize w1.alloc (.cells #[.bool kn, .bool false, .int .i64 kx0, .int .i64 kl0, .bool mX, .bool mL, .int .u64 (f : Int), .int .u64 (o : Int)] 194) = w2 at *
    generalize w1.heap.size = gk at *
    have hn1 : n0 ≤ w2.heap.size := by have := hB2.size; omega
    obtain ⟨x0, x1, x2, x3⟩ := open4 BX2
    obtain ⟨y0, y1, y2, y3, y4, y5, y6, y7⟩ := open8 BK
    go_wp2_with fail
    refine (hnf _ he2).mono ?_
    rintro e1 w1 ⟨rfl, hb⟩
    clear x0 x1 x2 x3 y0 y1 y2 y3 y4 y5 y6 y7
    replace BX2 := block_kept BX2 hb
    replace BK := block_kept BK hb
    have hk9 := Below.keptTo hb hn1
    replace hi1 := hi1.keep hk9 (fun x _ => XT.In.keep hk9 x)
    replace hi2 := hi2.keep hk9 (fun x _ => ST.In.keep hk9 x)
    replace he2 := he2.keep hb
    replace hn1 := Nat.le_trans hn1 hb.size
    clear hk9
    replace hB2 := hB2.trans (hb.mono hB2.size)
    clear hb
    cases b1 with
    | false =>
     obtain ⟨x0, x1, x2, x3⟩ := open4 BX2
     obtain ⟨y0, y1, y2, y3, y4, y5, y6, y7⟩ := open8 BK
     go_wp2
     go_ret
     exact ⟨by rw [HI.out]; rfl, hB2⟩
    | true =>
     obtain ⟨x0, x1, x2, x3⟩ := open4 BX2
     obtain ⟨y0, y1, y2, y3, y4, y5, y6, y7⟩ := open8 BK
     go_wp2_with fail
     refine (hcx _).mono ?_
     rintro e1 w1 ⟨rfl, rfl⟩
     cases b2 with
     | false =>
      go_wp2
      go_ret
      exact ⟨by rw [HI.out]; rfl, hB2⟩
     | true =>
      go_wp2_with fail
      refine (hallx _ hn1 he2 hi1).mono ?_
      rintro e1 w1 ⟨rfl, hb⟩
      clear x0 x1 x2 x3 y0 y1 y2 y3 y4 y5 y6 y7
      replace BX2 := block_kept BX2 hb
      replace BK := block_kept BK hb
      have hk9 := Below.keptTo hb hn1
      replace hi1 := hi1.keep hk9 (fun x _ => XT.In.keep hk9 x)
      replace hi2 := hi2.keep hk9 (fun x _ => ST.In.keep hk9 x)
      replace he2 := he2.keep hb
      replace hn1 := Nat.le_trans hn1 hb.size
      clear hk9
      replace hB2 := hB2.trans (hb.mono hB2.size)
      clear hb
      cases b3 with
      | false =>
       obtain ⟨x0, x1, x2, x3⟩ := open4 BX2
       obtain ⟨y0, y1, y2, y3, y4, y5, y6, y7⟩ := open8 BK
       go_wp2
       go_ret
       exact ⟨by rw [HI.out]; rfl, hB2⟩
      | true =>
       obtain ⟨x0, x1, x2, x3⟩ := open4 BX2
       obtain ⟨y0, y1, y2, y3, y4, y5, y6, y7⟩ := open8 BK
       go_wp2_with fail
       refine (hcs _).mono ?_
       rintro e1 w1 ⟨rfl, rfl⟩
       cases b5 with
       | false =>
        go_wp2
        go_ret
        exact ⟨by rw [HI.out]; rfl, hB2⟩
       | true =>
        go_wp2_with fail
        refine (halls _ hn1 he2 hi2).mono ?_
        rintro e1 w1 ⟨rfl, hb⟩
        clear x0 x1 x2 x3 y0 y1 y2 y3 y4 y5 y6 y7
        replace BX2 := block_kept BX2 hb
        replace BK := block_kept BK hb
        have hk9 := Below.keptTo hb hn1
        replace hi1 := hi1.keep hk9 (fun x _ => XT.In.keep hk9 x)
        replace hi2 := hi2.keep hk9 (fun x _ => ST.In.keep hk9 x)
        replace he2 := he2.keep hb
        replace hn1 := Nat.le_trans hn1 hb.size
        clear hk9
        replace hB2 := hB2.trans (hb.mono hB2.size)
        clear hb
        cases b6 with
        | false =>
         obtain ⟨x0, x1, x2, x3⟩ := open4 BX2
         obtain ⟨y0, y1, y2, y3, y4, y5, y6, y7⟩ := open8 BK
         go_wp2
         go_ret
         exact ⟨by rw [HI.out]; rfl, hB2⟩
        | true =>
         have hop := HOPS.out (by simp)
         obtain ⟨x0, x1, x2, x3⟩ := open4 BX2
         obtain ⟨y0, y1, y2, y3, y4, y5, y6, y7⟩ := open8 BK
         go_wp2_with fail
         refine (hkf hop _ hn1 hi2).mono ?_
         rintro e1 w1 ⟨rfl, hb⟩
         clear x0 x1 x2 x3 y0 y1 y2 y3 y4 y5 y6 y7
         replace BX2 := block_kept BX2 hb
         replace BK := block_kept BK hb
         have hk9 := Below.keptTo hb hn1
         replace hi1 := hi1.keep hk9 (fun x _ => XT.In.keep hk9 x)
         replace hi2 := hi2.keep hk9 (fun x _ => ST.In.keep hk9 x)
         replace he2 := he2.keep hb
         replace hn1 := Nat.le_trans hn1 hb.size
         clear hk9
         replace hB2 := hB2.trans (hb.mono hB2.size)
         clear hb
         cases b7 with
         | false =>
          obtain ⟨x0, x1, x2, x3⟩ := open4 BX2
          obtain ⟨y0, y1, y2, y3, y4, y5, y6, y7⟩ := open8 BK
          go_wp2
          go_ret
          exact ⟨by rw [HI.out]; rfl, hB2⟩
         | true =>
          obtain ⟨x0, x1, x2, x3⟩ := open4 BX2
          obtain ⟨y0, y1, y2, y3, y4, y5, y6, y7⟩ := open8 BK
          go_wp2
          go_ret
          exact ⟨by rw [HI.out]; rfl, hB2⟩
set_option maxHeartbeats 4000000 in
theorem stand_any (x : ST) (hbk : x.bk ≤ 4500000) (hwf : x.Wf) (n0 : Nat) (w : World) (hn0 : n0 ≤ w.heap.size) (he : EnvA w) (hx : x.In n0 w) : Calls Tryz.prog 143 #[x.val] w fun e w' => e = .returned (.bool (standS x)) ∧ Below w.heap.size w w' := by
 have hb0 := fun (o : Obj) => (Below.refl w.heap.size w).alloc (Nat.le_refl _) o
 have hm := fun (o : Obj) => mayS_any x hbk hwf n0 (w.alloc o) (by simp; omega) (he.alloc o) (hx.keep (Below.keptTo (hb0 o) hn0))
 have HI : Hid (standS x = (!(x.op == 4) && mayS x)) := Lib.hid rfl
 generalize standS x = R at *
 generalize mayS x = b at *
 clear hx hwf hbk he
 obtain ⟨op, nm, xa, xc, xl, sa, sc, sl⟩ := x
 simp only [ST.val, ST.cells, ST.op] at hm HI ⊢
 by_cases h4 : op = 4
 ·have e1 : (op != 4) = false := by rw [h4]; rfl
  have HE : Hid (R = false) := Lib.hid (by rw [HI.out, h4]; rfl)
  subst h4
  clear hm
  go_enter Tryz.func143, Tryz.ntmps143
  go_wp2
  go_ret
  exact ⟨by rw [HE.out]; rfl, hb0 _⟩
 ·have e1 : (op != 4) = true := by rw [bne_iff_ne]; exact h4
  have e2 : (op == 4) = false := by rw [beq_eq_false_iff_ne]; exact h4
  have HE : Hid (R = b) := Lib.hid (by rw [HI.out, e2]; rfl)
  clear h4
  go_enter Tryz.func143, Tryz.ntmps143
  go_wp2_with fail
  refine (hm _).mono ?_
  rintro e1 w1 ⟨rfl, hb⟩
  go_wp2
  go_ret
  exact ⟨by rw [HE.out]; rfl, (hb0 _).trans (hb.mono (by simp))⟩
end Go.Proofs.YtiipjbafdhijlaaGreatDoor
