/-
  AsM, in one text.
-/
import Derived.Test.YtiipjbafdhijlaaGreatDoorZAK
import Derived.Test.YtiipjbafdhijlaaGreatDoorZAW
import Derived.Deep.DeepCutAuto
namespace Go.Proofs.YtiipjbafdhijlaaGreatDoor
open Go Go.RowKit
set_option linter.unusedVariables false
set_option linter.unusedSimpArgs false
open Go.Sort
theorem all_take {α : Type} (p : α → Bool) (l : List α) (k : Nat) (h : k < l.length) : (l.take (k + 1)).all p = ((l.take k).all p && p l[k]) := by
 rw [List.take_succ_eq_append_getElem h, List.all_append]; simp
theorem all_stop {α : Type} (p : α → Bool) (l : List α) (k : Nat) (h : k < l.length) (hp : p l[k] = false) : l.all p = false := by
 rw [List.all_eq_false]; exact ⟨l[k], List.getElem_mem h, by rw [hp]; decide⟩
set_option maxHeartbeats 4000000 in
set_option maxRecDepth 9000000 in
theorem allX_any (p : XT → Bool) (n0 : Nat) (l : List XT) (hll : l.length ≤ 12000000) (hc : ∀ x ∈ l, ∀ w, n0 ≤ w.heap.size → EnvA w → x.In n0 w → Calls Tryz.prog 136 #[x.val] w fun e w' => e = .returned (.bool (p x)) ∧ Below w.heap.size w w') (a : Option Addr) (c : Nat) (w : World) (hn0 : n0 ≤ w.heap.size) (he : EnvA w) (hin : InRow 6 XT.cells (XT.In n0 w) n0 w l a) :
  Calls Tryz.prog 139 #[.slice a l.length c, .func (.func 136) #[] #[]] w fun e w' => e = .returned (.bool (l.all p)) ∧ Below w.heap.size w w' := by
 go_enter Tryz.func139, Tryz.ntmps139
 go_wp2
 go_loopw [9] (fun u wr => ∃ k : Nat, u = .int .i64 k ∧ k ≤ l.length ∧ (l.take k).all p = true ∧ Below w.heap.size w wr) (fun u _ => l.length - (intOf u).toNat)
 case atStart => exact ⟨0, rfl, Nat.zero_le _, rfl, Below.refl _ _⟩
 case round =>
  obtain ⟨k, rfl, hk, hal, hb0⟩ := hrel
  have HA := Lib.hid hal
  clear hal
  by_cases hlt : k < l.length
  ·have d1 : decide (k < l.length) = true := by simpa using hlt
   have d2 : decide ((k : Int) < (l.length : Int)) = true := by rw [decide_eq_true_eq]; omega
   have x1 : (k : Int) < (l.length : Int) := by omega
   obtain ⟨b, o, rfl, hb, hr, hx⟩ := hin.kept (Below.keptTo hb0 hn0) hlt
   have HT := Lib.hid (all_take p l k hlt)
   have HS := Lib.hid (all_stop p l k hlt)
   have hcx := hc l[k] (List.getElem_mem hlt)
   have hxin := hx.keep (Below.keptTo hb0 hn0)
   have her := he.keep hb0
   have zz := hb0.size
   generalize p l[k] = bp at *
   generalize hgx : l[k] = x at *
   obtain ⟨op, nm, xn, wd, v, xa, xc, xl⟩ := x
   have c0 := fun (o' : Obj) => hcx (wr.alloc o') (by simp; omega) (her.alloc o') (hxin.keep (Below.keptTo ((Below.refl _ _).alloc (Nat.le_refl _) o') (by omega)))
   have r0 : wr.cell? ⟨b, o + k * 6, none⟩ = some (.int .i64 op) := hr 0 _ rfl
   have r1 : wr.cell? ⟨b, o + k * 6 + 1, none⟩ = some (.string (bs nm)) := hr 1 _ rfl
   have r2 : wr.cell? ⟨b, o + k * 6 + 2, none⟩ = some (.int .i64 xn) := hr 2 _ rfl
   have r3 : wr.cell? ⟨b, o + k * 6 + 3, none⟩ = some (.int .i64 wd) := hr 3 _ rfl
   have r4 : wr.cell? ⟨b, o + k * 6 + 4, none⟩ = some (.int .u64 (v : Int)) := hr 4 _ rfl
   have r5 : wr.cell? ⟨b, o + k * 6 + 5, none⟩ = some (.slice xa xl.length xc) := hr 5 _ rfl
   simp only [XT.val, XT.cells] at c0
   clear hin hc hcx hr hx hxin hgx he her
   cases bp with
   | true =>
    clear HS
    go_wp2_with fail
    refine (c0 _).mono ?_
    clear c0
    rintro e W1 ⟨rfl, hb1⟩
    have hb2 := hb0.trans (((Below.refl _ _).alloc (Nat.le_refl _) _).trans (hb1.mono (by simp)) |>.mono zz)
    go_wp2
    go_roundw
    case rel => exact ⟨k + 1, by simp; first | done | rfl | omega, by omega, by rw [HT.out, HA.out]; rfl, hb2⟩
    case measure => simp [intOf]; omega
   | false =>
    have HE : Hid (l.all p = false) := Lib.hid (HS.out rfl)
    clear HS HT
    go_wp2_with fail
    refine (c0 _).mono ?_
    clear c0
    rintro e W1 ⟨rfl, hb1⟩
    have hb2 := hb0.trans (((Below.refl _ _).alloc (Nat.le_refl _) _).trans (hb1.mono (by simp)) |>.mono zz)
    go_wp2
    go_ret
    exact ⟨by rw [HE.out]; rfl, hb2⟩
  ·have d1 : decide (k < l.length) = false := by simpa using hlt
   have d2 : decide ((k : Int) < (l.length : Int)) = false := by rw [decide_eq_false_iff_not]; omega
   have hkl : k = l.length := by omega
   have HE : Hid (l.all p = true) := Lib.hid (by have := HA.out; rw [hkl, List.take_length] at this; exact this)
   clear hkl
   go_wp2
   go_ret
   exact ⟨by rw [HE.out]; rfl, hb0⟩
theorem open5 {w : World} {g : Nat} {v0 v1 v2 v3 v4 : Value} {t : TypeId} (h : w.heap[g]? = some (.cells #[v0, v1, v2, v3, v4] t (0, 0))) : w.cell? ⟨g, 0, none⟩ = some v0 ∧ w.cell? ⟨g, 1, none⟩ = some v1 ∧ w.cell? ⟨g, 2, none⟩ = some v2 ∧ w.cell? ⟨g, 3, none⟩ = some v3 ∧ w.cell? ⟨g, 4, none⟩ = some v4 := by
 simp [World.cell?, h]
theorem open6 {w : World} {g : Nat} {v0 v1 v2 v3 v4 v5 : Value} {t : TypeId} (h : w.heap[g]? = some (.cells #[v0, v1, v2, v3, v4, v5] t (0, 0))) : w.cell? ⟨g, 0, none⟩ = some v0 ∧ w.cell? ⟨g, 1, none⟩ = some v1 ∧ w.cell? ⟨g, 2, none⟩ = some v2 ∧ w.cell? ⟨g, 3, none⟩ = some v3 ∧ w.cell? ⟨g, 4, none⟩ = some v4 ∧ w.cell? ⟨g, 5, none⟩ = some v5 := by
 simp [World.cell?, h]
theorem open4 {w : World} {g : Nat} {v0 v1 v2 v3 : Value} {t : TypeId} (h : w.heap[g]? = some (.cells #[v0, v1, v2, v3] t (0, 0))) : w.cell? ⟨g, 0, none⟩ = some v0 ∧ w.cell? ⟨g, 1, none⟩ = some v1 ∧ w.cell? ⟨g, 2, none⟩ = some v2 ∧ w.cell? ⟨g, 3, none⟩ = some v3 := by
 simp [World.cell?, h]
theorem open8 {w : World} {g : Nat} {v0 v1 v2 v3 v4 v5 v6 v7 : Value} {t : TypeId} (h : w.heap[g]? = some (.cells #[v0, v1, v2, v3, v4, v5, v6, v7] t (0, 0))) : w.cell? ⟨g, 0, none⟩ = some v0 ∧ w.cell? ⟨g, 1, none⟩ = some v1 ∧ w.cell? ⟨g, 2, none⟩ = some v2 ∧ w.cell? ⟨g, 3, none⟩ = some v3 ∧ w.cell? ⟨g, 4, none⟩ = some v4 ∧ w.cell? ⟨g, 5, none⟩ = some v5 ∧ w.cell? ⟨g, 6, none⟩ = some v6 ∧ w.cell? ⟨g, 7, none⟩ = some v7 := by
 simp [World.cell?, h]
theorem open9 {w : World} {g : Nat} {v0 v1 v2 v3 v4 v5 v6 v7 v8 : Value} {t : TypeId} (h : w.heap[g]? = some (.cells #[v0, v1, v2, v3, v4, v5, v6, v7, v8] t (0, 0))) : w.cell? ⟨g, 0, none⟩ = some v0 ∧ w.cell? ⟨g, 1, none⟩ = some v1 ∧ w.cell? ⟨g, 2, none⟩ = some v2 ∧ w.cell? ⟨g, 3, none⟩ = some v3 ∧ w.cell? ⟨g, 4, none⟩ = some v4 ∧ w.cell? ⟨g, 5, none⟩ = some v5 ∧ w.cell? ⟨g, 6, none⟩ = some v6 ∧ w.cell? ⟨g, 7, none⟩ = some v7 ∧ w.cell? ⟨g, 8, none⟩ = some v8 := by
 simp [World.cell?, h]
theorem block_kept {w w' : World} {g : Nat} {o : Obj} (h : w.heap[g]? = some o) (hb : Below w.heap.size w w') : w'.heap[g]? = some o := (hb.block g (Array.getElem?_eq_some_iff.1 h).1).trans h
theorem block_alloc {w : World} {g : Nat} {o : Obj} (h : w.heap[g]? = some o) (x : Obj) : (w.alloc x).heap[g]? = some o := block_kept h ((Below.refl _ _).alloc (Nat.le_refl _) x)
set_option maxHeartbeats 8000000 in
set_option maxRecDepth 9000000 in
theorem mayX_any : ∀ x : XT, x.bk ≤ 4500000 → x.Wf → ∀ (n0 : Nat) (w : World), n0 ≤ w.heap.size → EnvA w → x.In n0 w → Calls Tryz.prog 136 #[x.val] w fun e w' => e = .returned (.bool (mayX x)) ∧ Below w.heap.size w w' := by
 refine XT.ind ?_
 intro op nm xn wd v xa xc xl ih hbk hwf n0 w hn0 he hin
 rw [XT.In_mk] at hin
 rw [XT.wf_mk] at hwf
 obtain ⟨hv, hwl⟩ := hwf
 simp only [XT.bk] at hbk
 have hlen := XT.bkL_len xl
 have hm := fun w => among_any op 11 w
 have hall := fun (w' : World) h1 h2 h3 => allX_any mayX n0 xl (by omega) (fun y hy w2 g1 g2 g3 => ih y hy (by have := XT.bkL_mem hy; omega) (hwl y hy) n0 w2 g1 g2 g3) xa xc w' h1 h2 h3
 have hnum := fun (w' : World) h1 => numberFits_any op nm xn wd v xa xc xl hv w' h1
 have HV := Lib.hid hv
 have HI : Hid (mayX (.mk op nm xn wd v xa xc xl) = (amongB op 11 && (nameB nm (kx op.toNat).1 && (numB op wd v && (decide ((kx op.toNat).2.2.2.1 ≤ xn) && (decide (xn ≤ (kx op.toNat).2.2.2.2) && (countB xl.length (kx op.toNat).2.1 (kx op.toNat).2.2.1 && xl.all mayX))))))) := Lib.hid (by rw [mayX, mayXL_all])
 generalize mayX (.mk op nm xn wd v xa xc xl) = R at *
 clear ih hv hwl
 simp only [XT.val, XT.cells] at hnum ⊢
 cases hb : amongB op 11 with
 | false =>
  rw [hb] at hm
  replace HI : Hid (R = false) := Lib.hid (by rw [HI.out, hb]; rfl)
  clear hb he hall hnum hin
  go_enter Tryz.func136, Tryz.ntmps136
  go_wp2_with fail
  refine (hm _).mono ?_
  rintro e w1 ⟨rfl, rfl⟩
  go_wp2
  go_ret
  exact ⟨by rw [HI.out]; rfl, (Below.refl _ _).alloc (Nat.le_refl _) _⟩
 | true =>
  rw [hb] at hm
  have hr : 1 ≤ op ∧ op < 11 := by unfold amongB at hb; simpa using hb
  obtain ⟨k, rfl⟩ : ∃ k : Nat, op = (k : Int) := ⟨op.toNat, by omega⟩
  replace HI : Hid (R = (nameB nm (kx k).1 && (numB (k : Int) wd v && (decide ((kx k).2.2.2.1 ≤ xn) && (decide (xn ≤ (kx k).2.2.2.2) && (countB xl.length (kx k).2.1 (kx k).2.2.1 && xl.all mayX)))))) := Lib.hid (by rw [HI.out, hb, Int.toNat_natCast]; rfl)
  have hX := (he.alloc (.cells #[.int .i64 (k : Int), .string (bs nm), .int .i64 xn, .int .i64 wd, .int .u64 (v : Int), .slice xa xl.length xc] 54)).xk k (by omega)
  have c0 := hX 0 _ rfl
  have c1 := hX 1 _ rfl
  have c2 := hX 2 _ rfl
  have c3 := hX 3 _ rfl
  have c4 := hX 4 _ rfl
  simp only [Nat.add_zero] at c0
  obtain ⟨kn, kp, km, kf, kl, hk⟩ : ∃ a b c d e, kx k = (a, b, c, d, e) := ⟨_, _, _, _, _, rfl⟩
  rw [hk] at c0 c1 c2 c3 c4 HI
  simp only at c0 c1 c2 c3 c4 HI
  have q1 : (k : Int) < 11 := hr.2
  have q2 : k < 11 := by omega
  clear hb hr hX hk
  have hnf := fun (w' : World) h1 => nameFits_any nm kn (by omega) w' h1
  have hcf := fun w => countFits_any (xl.length : Int) kp km w
  obtain ⟨b1, hb1⟩ : ∃ b, nameB nm kn = b := ⟨_, rfl⟩
  obtain ⟨b2, hb2⟩ : ∃ b, numB (k : Int) wd v = b := ⟨_, rfl⟩
  obtain ⟨b3, hb3⟩ : ∃ b, decide (kf ≤ xn) = b := ⟨_, rfl⟩
  obtain ⟨b4, hb4⟩ : ∃ b, decide (xn ≤ kl) = b := ⟨_, rfl⟩
  obtain ⟨b5, hb5⟩ : ∃ b, countB (xl.length : Int) kp km = b := ⟨_, rfl⟩
  obtain ⟨b6, hb6⟩ : ∃ b, xl.all mayX = b := ⟨_, rfl⟩
  rw [hb1] at hnf HI
  rw [hb2] at hnum HI
  rw [hb3, hb4] at HI
  rw [hb5] at hcf HI
  rw [hb6] at hall HI
  have HBB := Lib.hid (And.intro hb1 (And.intro hb2 (And.intro hb5 hb6)))
  clear hb1 hb2 hb5 hb6 hlen hbk
  go_enter Tryz.func136, Tryz.ntmps136
  go_wp2_with fail
  refine (hm _).mono ?_
  rintro e w1 ⟨rfl, rfl⟩
  have BX : (w.alloc (.cells #[.int .i64 (k : Int), .string (bs nm), .int .i64 xn, .int .i64 wd, .int .u64 (v : Int), .slice xa xl.length xc] 54)).heap[w.heap.size]? = some (.cells #[.int .i64 (k : Int), .string (bs nm), .int .i64 xn, .int .i64 wd, .int .u64 (v : Int), .slice xa xl.length xc] 54) := World.alloc_heap_new w _
  have hB : Below w.heap.size w (w.alloc (.cells #[.int .i64 (k : Int), .string (bs nm), .int .i64 xn, .int .i64 wd, .int .u64 (v : Int), .slice xa xl.length xc] 54)) := (Below.refl _ _).alloc (Nat.le_refl _) _
  have he1 := he.alloc (.cells #[.int .i64 (k : Int), .string (bs nm), .int .i64 xn, .int .i64 wd, .int .u64 (v : Int), .slice xa xl.length xc] 54)
  have hin1 := hin.keep (Below.keptTo hB hn0) (fun x _ => XT.In.keep (Below.keptTo hB hn0) x)
  clear he hin hm
  generalize w.alloc (.cells #[.int .i64 (k : Int), .string (bs nm), .int .i64 xn, .int .i64 wd, .int .u64 (v : Int), .slice xa xl.length xc] 54) = w1 at *
  obtain ⟨x0, x1, x2, x3, x4, x5⟩ := open6 BX
  go_upto_region 4 with (fail)
  have BK : (w1.alloc (.cells #[.bool kn, .int .i64 kp, .bool km, .int .i64 kf, .int .i64 kl] 188)).heap[w1.heap.size]? = some (.cells #[.bool kn, .int .i64 kp, .bool km, .int .i64 kf, .int .i64 kl] 188) := World.alloc_heap_new w1 _
  have BX2 := block_alloc BX (.cells #[.bool kn, .int .i64 kp, .bool km, .int .i64 kf, .int .i64 kl] 188)
  have hz1 := hB.size
  have hB2 := hB.alloc hz1 (.cells #[.bool kn, .int .i64 kp, .bool km, .int .i64 kf, .int .i64 kl] 188)
  have he2 := he1.alloc (.cells #[.bool kn, .int .i64 kp, .bool km, .int .i64 kf, .int .i64 kl] 188)
  have k1 : Below w1.heap.size w1 (w1.alloc (.cells #[.bool kn, .int .i64 kp, .bool km, .int .i64 kf, .int .i64 kl] 188)) := (Below.refl _ _).alloc (Nat.le_refl _) _
  have hin2 := hin1.keep (Below.keptTo k1 (by omega)) (fun x _ => XT.In.keep (Below.keptTo k1 (by omega)) x)
  have hne : w1.heap.size ≠ w.heap.size := by have := (Array.getElem?_eq_some_iff.1 BX).1; omega
  clear x0 x1 x2 x3 x4 x5 c0 c1 c2 c3 c4 he1 hin1 BX hB k1
  generalize w1.alloc (.cells #[.bool kn, .int .i64 kp, .bool km, .int .i64 kf, .int .i64 kl] 188) = w2 at *
  generalize w1.heap.size = gk at *
  have hn1 : n0 ≤ w2.heap.size := by have := hB2.size; omega
  obtain ⟨x0, x1, x2, x3, x4, x5⟩ := open6 BX2
  obtain ⟨y0, y1, y2, y3, y4⟩ := open5 BK
  go_wp2_with fail
  refine (hnf _ he2).mono ?_
  rintro e1 w1 ⟨rfl, hb⟩
  clear x0 x1 x2 x3 x4 x5 y0 y1 y2 y3 y4
  replace BX2 := block_kept BX2 hb
  replace BK := block_kept BK hb
  have hk9 := Below.keptTo hb hn1
  replace hin2 := hin2.keep hk9 (fun x _ => XT.In.keep hk9 x)
  replace he2 := he2.keep hb
  replace hn1 := Nat.le_trans hn1 hb.size
  clear hk9
  replace hB2 := hB2.trans (hb.mono hB2.size)
  clear hb
  cases b1 with
  | false =>
   obtain ⟨x0, x1, x2, x3, x4, x5⟩ := open6 BX2
   obtain ⟨y0, y1, y2, y3, y4⟩ := open5 BK
   go_wp2
   go_ret
   exact ⟨by rw [HI.out]; rfl, hB2⟩
  | true =>
   obtain ⟨x0, x1, x2, x3, x4, x5⟩ := open6 BX2
   obtain ⟨y0, y1, y2, y3, y4⟩ := open5 BK
   go_wp2_with fail
   refine (hnum _ he2).mono ?_
   rintro e1 w1 ⟨rfl, hb⟩
   clear x0 x1 x2 x3 x4 x5 y0 y1 y2 y3 y4
   replace BX2 := block_kept BX2 hb
   replace BK := block_kept BK hb
   have hk9 := Below.keptTo hb hn1
   replace hin2 := hin2.keep hk9 (fun x _ => XT.In.keep hk9 x)
   replace he2 := he2.keep hb
   replace hn1 := Nat.le_trans hn1 hb.size
   clear hk9
   replace hB2 := hB2.trans (hb.mono hB2.size)
   clear hb
   cases b2 with
   | false =>
    obtain ⟨x0, x1, x2, x3, x4, x5⟩ := open6 BX2
    obtain ⟨y0, y1, y2, y3, y4⟩ := open5 BK
    go_wp2
    go_ret
    exact ⟨by rw [HI.out]; rfl, hB2⟩
   | true =>
    cases b3 with
    | false =>
     obtain ⟨x0, x1, x2, x3, x4, x5⟩ := open6 BX2
     obtain ⟨y0, y1, y2, y3, y4⟩ := open5 BK
     go_wp2
     go_ret
     exact ⟨by rw [HI.out]; rfl, hB2⟩
    | true =>
     cases b4 with
     | false =>
      obtain ⟨x0, x1, x2, x3, x4, x5⟩ := open6 BX2
      obtain ⟨y0, y1, y2, y3, y4⟩ := open5 BK
      go_wp2
      go_ret
      exact ⟨by rw [HI.out]; rfl, hB2⟩
     | true =>
      obtain ⟨x0, x1, x2, x3, x4, x5⟩ := open6 BX2
      obtain ⟨y0, y1, y2, y3, y4⟩ := open5 BK
      go_wp2_with fail
      refine (hcf _).mono ?_
      rintro e1 w1 ⟨rfl, rfl⟩
      cases b5 with
      | false =>
       go_wp2
       go_ret
       exact ⟨by rw [HI.out]; rfl, hB2⟩
      | true =>
       go_wp2_with fail
       refine (hall _ hn1 he2 hin2).mono ?_
       rintro e1 w1 ⟨rfl, hb⟩
       clear x0 x1 x2 x3 x4 x5 y0 y1 y2 y3 y4
       replace BX2 := block_kept BX2 hb
       replace BK := block_kept BK hb
       have hk9 := Below.keptTo hb hn1
       replace hin2 := hin2.keep hk9 (fun x _ => XT.In.keep hk9 x)
       replace he2 := he2.keep hb
       replace hn1 := Nat.le_trans hn1 hb.size
       clear hk9
       replace hB2 := hB2.trans (hb.mono hB2.size)
       clear hb
       obtain ⟨x0, x1, x2, x3, x4, x5⟩ := open6 BX2
       obtain ⟨y0, y1, y2, y3, y4⟩ := open5 BK
       go_wp2
       go_ret
       exact ⟨by rw [HI.out]; rfl, hB2⟩
end Go.Proofs.YtiipjbafdhijlaaGreatDoor
