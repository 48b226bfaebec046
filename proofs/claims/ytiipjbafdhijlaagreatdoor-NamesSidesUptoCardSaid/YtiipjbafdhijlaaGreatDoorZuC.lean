/-
  NuC, in one text.
-/
import Derived.Test.YtiipjbafdhijlaaGreatDoorZuB
import Derived.Deep.RegionHeld3
import Derived.Deep.DeepCutAuto
import Derived.RegionTactic
import Derived.Deep.RegionLaw
namespace Go.Proofs.YtiipjbafdhijlaaGreatDoor
open Go Go.RowKit
set_option linter.unusedVariables false
set_option linter.unusedSimpArgs false
open Go.Sort
/-- A row of texts appended, at a step of a region. -/
theorem step_append_strs9 {w : World} {ops : Array Oper} {o : Oper} {a : Act} {K : Act → World → Prop} {Q : Exit → Act → World → Prop} {E : Prop} (hw : Region.wanted o (yielded ops a.tmps) = true) (s x : Operand)
  (ho : o.op = .call { callee := .builtin .append, args := #[s, x], argTypes := #[29, 29] })
  (base : Nat) (v : Value) (n : Nat) (xs : List Value) (hs : a.eval s = v) (hown : w.ownsRow base 9 1 v n xs)
  (ad : Option Addr) (l : List Bytes) (c : Nat) (hx : a.eval x = .slice ad l.length c) (hc : ad = none → c = 0) (hl : LiesS w ad l) (hn : n + l.length ≤ 12000000) (hbase : base ≤ w.heap.size)
  (h : ∀ v' w', w'.ownsRow base 9 1 v' (n + l.length) (xs ++ strs l) → w.grownBy w' v.ownBlock → K (a.put o.dst v') w') :
  if Region.wanted o (yielded ops a.tmps) = true then Oper.wp Tryz.prog o a w K Q else E := by
 rw [if_pos hw]
 obtain ⟨i0, hi0, hz0, hz1, hz2⟩ := info_parts info_str7
 cases ad with
 | none =>
  have hl0 : l = [] := by
   rcases hl with hl | ⟨b, o, h, _⟩
   ·exact hl
   ·cases h
  subst hl0
  rw [hc rfl] at hx
  have hrun := run_append_owned_none (P := Tryz.prog) (w := w) base 29 o.type 9 i0 1 Tryz.underlying29 hi0 v n xs hown
  have hk := h v w (by simpa [strs] using hown) ⟨rfl, rfl, rfl, Nat.le_refl _, fun _ _ _ => rfl⟩
  unfold Oper.wp
  simp [execOp, ho, resolve, invoke, builtin, hs, hx, hrun, Result.andThen]
  exact hk
 | some ad =>
  have hnews : ∀ j u, (strs l)[j]? = some u → w.cell? (ad.add j) = some u := by
   rcases hl with hl | ⟨b, o, h, h2⟩
   ·subst hl; intro j u hu; simp [strs] at hu
   ·have h3 := Option.some.inj h
    subst h3
    intro j u hu
    rw [strs, List.getElem?_map] at hu
    by_cases hj : j < l.length
    ·rw [List.getElem?_eq_getElem hj] at hu
     rw [Addr.add_mid, ← Option.some.inj hu]
     exact h2 j hj
    ·rw [List.getElem?_eq_none (by omega)] at hu; cases hu
  exact wp_append_own w s x 29 ho base 9 i0 _ 1 16 Tryz.underlying29 hi0 hz0 hz1 hz2 rfl (by decide) v n xs hs hown ad l.length c (strs l) hx (by simp [strs]) hnews (strs_one7 l) (by simp only [maxLen]; omega) (by omega) hbase (fun v' w' h1 h2 _ => h v' w' h1 h2)
theorem innL_drop (ar : List Bytes) (l : List IT) (k : Nat) (h : k < l.length) : innL ar (l.drop k) = (innI ar l[k] && innL ar (l.drop (k + 1))) := by
 rw [← List.getElem_cons_drop h, innL]
theorem grow9 {w w5 : World} {t : TypeId} (hg : (w.alloc (.cells #[] t)).grownBy w5 (some w.heap.size)) : Below w.heap.size w w5 := ((Below.refl _ _).alloc (Nat.le_refl _) _).grown hg (by simp) (fun k e => by cases e; exact Nat.le_refl _)
theorem sq_mono {a b : Nat} (h : a ≤ b) : a * (a + 1) ≤ b * (b + 1) := Nat.mul_le_mul h (by omega)
theorem inn_low {w6 w7 w8 : World} {v7 : Value} {n : Nat} {xs : List Value} (hb : Below w6.heap.size w6 w7) (own : w7.ownsRow w6.heap.size 9 1 v7 n xs) (hg : w7.grownBy w8 v7.ownBlock) : Below w6.heap.size w6 w8 := hb.trans ((Below.refl _ _).grown hg hb.size (fun k e => (own.lt k e).1))
theorem inn_app {wr w6 w7 w8 : World} {v7 : Value} {ar OL N : List Bytes} {a8 : Option Addr} {c8 : Nat} (hr : Below wr.heap.size wr w6) (hb : Below w6.heap.size w6 w7) (own : w7.ownsRow w6.heap.size 9 1 v7 ar.length (strs ar)) (own8 : w8.ownsRow w6.heap.size 9 1 (.slice a8 (ar.length + OL.length) c8) (ar.length + OL.length) (strs ar ++ strs OL)) (hg : w7.grownBy w8 v7.ownBlock) (hN : ar ++ OL = N) (hNl : N.length = ar.length + OL.length) : Below wr.heap.size wr w8 ∧ TV w8 (.slice a8 (ar.length + OL.length) c8) N := by
 refine ⟨hr.trans ((inn_low hb own hg).mono hr.size), ?_⟩
 have e2 : strs N = strs ar ++ strs OL := by rw [← hN]; simp [strs]
 refine TV.own (base := w6.heap.size) ?_
 rw [hNl, e2]
 exact own8
/-- Are the scopes within items right? -/
def InC (l : List IT) : Prop := ∀ (n0 : Nat) (ar : List Bytes) (a : Option Addr) (c : Nat) (a2 : Option Addr) (c2 : Nat) (w : World), 2 * ar.length + IT.szL l * (IT.szL l + 1) ≤ 18000000 → IT.szL l ≤ 4500000 → n0 ≤ w.heap.size → (a = none → c = 0) → LiesS w a ar → InRow 9 IT.cells (IT.In n0 w) n0 w l a2 → Calls Tryz.prog 57 #[.slice a2 l.length c2, .slice a ar.length c] w fun e w' => e = .returned (.bool (innL ar l)) ∧ Below w.heap.size w w'
set_option maxHeartbeats 16000000 in
set_option maxRecDepth 100000 in
theorem inC_of (l : List IT) (hc : ∀ x ∈ l, InC x.l7 ∧ InC x.e7) : InC l := by
 intro n0 ar a c a2 c2 w hsz hsz2 hn0 hcn hl hin
 have hll := szL_len7 l
 obtain ⟨F, hF⟩ : ∃ F, innL ar l = F := ⟨_, rfl⟩
 rw [hF]
 have HF := Lib.hid hF
 have HI := Lib.hid hin
 have HC := Lib.hid hc
 have HL := Lib.hid (And.intro hcn hl)
 have HSZ := Lib.hid (And.intro hsz hsz2)
 have hsl : IT.szL l ≤ 4500000 := hsz2
 clear hF hin hc hl hsz hsz2
 go_enter Tryz.func57, Tryz.ntmps57
 go_wp2
 go_loopg [5] l.length (fun g u wr => ∃ k : Nat, u = .int .i64 k ∧ k + g = l.length ∧ innL ar (l.drop k) = F ∧ Below w.heap.size w wr)
 case atStart => exact ⟨0, rfl, by omega, by rw [List.drop_zero]; exact HF.out, Below.refl _ _⟩
 case round =>
  obtain ⟨k, rfl, hk, hdr, hbw⟩ := hrel
  clear HF
  have HD := Lib.hid hdr
  have HB := Lib.hid hbw
  clear hdr
  by_cases hlt : k < l.length
  ·have d1 : decide (k < l.length) = true := by simpa using hlt
   have d2 : decide ((k : Int) < (l.length : Int)) = true := by rw [decide_eq_true_eq]; omega
   have x1 : (k : Int) < (l.length : Int) := by omega
   have hkt : KeptTo n0 w wr := Below.keptTo hbw hn0
   obtain ⟨b, o, rfl, hb, hr, hx⟩ := InRow.at (InRow.keep hkt (fun x _ h => IT.In.keep hkt x h) HI.out) hlt
   have hsa := szL_at7 l k hlt
   have hdk := innL_drop ar l k hlt
   have hc0 := HC.out l[k] (List.getElem_mem hlt)
   obtain ⟨x, hxg⟩ : ∃ x, l[k] = x := ⟨_, rfl⟩
   rw [hxg] at hr hx hsa hc0 hdk
   have hkb : k < 12000000 := by omega
   have hxz : x.sz ≤ IT.szL l := by omega
   have hq2 := sq_mono hxz
   have hsq : 2 * ar.length + x.sz * (x.sz + 1) ≤ 18000000 := by have := HSZ.out.1; omega
   obtain ⟨op2, nm2, nf2, xa2, xc2, xl2, sa2, sc2, sl2, la2, lc2, ll2, ea2, ec2, el2, pa2, pc2, pl2, ba2, bc2, bl2⟩ := x
   rw [innI] at hdk
   rw [IT.In_mk] at hx
   simp only [IT.sz] at hsq hxz
   simp only [IT.l7, IT.e7] at hc0
   have r0 : wr.cell? ⟨b, o + k * 9, none⟩ = some (.int .i64 op2) := hr 0 _ rfl
   have r1 : wr.cell? ⟨b, o + k * 9 + 1, none⟩ = some (.string (bs nm2)) := hr 1 _ rfl
   have r2 : wr.cell? ⟨b, o + k * 9 + 2, none⟩ = some (.string (bs nf2)) := hr 2 _ rfl
   have r3 : wr.cell? ⟨b, o + k * 9 + 3, none⟩ = some (.slice xa2 xl2.length xc2) := hr 3 _ rfl
   have r4 : wr.cell? ⟨b, o + k * 9 + 4, none⟩ = some (.slice sa2 sl2.length sc2) := hr 4 _ rfl
   have r5 : wr.cell? ⟨b, o + k * 9 + 5, none⟩ = some (.slice la2 ll2.length lc2) := hr 5 _ rfl
   have r6 : wr.cell? ⟨b, o + k * 9 + 6, none⟩ = some (.slice ea2 el2.length ec2) := hr 6 _ rfl
   have r7 : wr.cell? ⟨b, o + k * 9 + 7, none⟩ = some (.slice pa2 pl2.length pc2) := hr 7 _ rfl
   have r8 : wr.cell? ⟨b, o + k * 9 + 8, none⟩ = some (.slice ba2 bl2.length bc2) := hr 8 _ rfl
   have hzl : IT.szL ll2 + 1 ≤ 4500000 := by omega
   have hzs : ST.szL sl2 ≤ 4500000 := by omega
   have hal : ar.length ≤ 9000000 := by omega
   have hsls : ar.length + ST.szL sl2 ≤ 9000000 := by
    have h9 : ST.szL sl2 * 1 ≤ (1 + XT.szL xl2 + ST.szL sl2 + IT.szL ll2 + IT.szL el2 + BT.szL pl2 + BT.szL bl2) * ((1 + XT.szL xl2 + ST.szL sl2 + IT.szL ll2 + IT.szL el2 + BT.szL pl2 + BT.szL bl2) + 1) := Nat.mul_le_mul (by omega) (by omega)
    have h8 : 2 * ST.szL sl2 ≤ (1 + XT.szL xl2 + ST.szL sl2 + IT.szL ll2 + IT.szL el2 + BT.szL pl2 + BT.szL bl2) * ((1 + XT.szL xl2 + ST.szL sl2 + IT.szL ll2 + IT.szL el2 + BT.szL pl2 + BT.szL bl2) + 1) := by
     rcases Nat.eq_zero_or_pos (ST.szL sl2) with h | h
     ·omega
     ·have h7 : ST.szL sl2 * 2 ≤ (1 + XT.szL xl2 + ST.szL sl2 + IT.szL ll2 + IT.szL el2 + BT.szL pl2 + BT.szL bl2) * ((1 + XT.szL xl2 + ST.szL sl2 + IT.szL ll2 + IT.szL el2 + BT.szL pl2 + BT.szL bl2) + 1) := Nat.mul_le_mul (by omega) (by omega)
      omega
    omega
   have hlq : ∀ m : Nat, m + 1 ≤ (1 + XT.szL xl2 + ST.szL sl2 + IT.szL ll2 + IT.szL el2 + BT.szL pl2 + BT.szL bl2) → 2 * ar.length + m * (m + 1) ≤ 18000000 ∧ 2 * (ar.length + (m + 1)) + m * (m + 1) ≤ 18000000 := fun m hm => by
    have h9 : (m + 1) * (m + 1 + 1) ≤ (1 + XT.szL xl2 + ST.szL sl2 + IT.szL ll2 + IT.szL el2 + BT.szL pl2 + BT.szL bl2) * ((1 + XT.szL xl2 + ST.szL sl2 + IT.szL ll2 + IT.szL el2 + BT.szL pl2 + BT.szL bl2) + 1) := sq_mono hm
    have h8 : (m + 1) * (m + 1 + 1) = m * (m + 1) + 2 * (m + 1) := by
     rw [Nat.succ_mul, Nat.mul_add m (m + 1) 1]; omega
    omega
   have hq0 := hlq (IT.szL ll2) (by omega)
   have hq1 := hlq (IT.szL el2) (by omega)
   have q0 : ∀ (V : World) (N : List Bytes) (a : Option Addr) (c : Nat), (N.length = ar.length ∨ N.length ≤ ar.length + (IT.szL ll2 + 1)) → Below wr.heap.size wr V → (a = none → c = 0) → LiesS V a N → Calls Tryz.prog 57 #[.slice la2 ll2.length lc2, .slice a N.length c] V fun e w' => e = .returned (.bool (innL N ll2)) ∧ Below V.heap.size V w' := fun V N a c hN hV h1 h2 =>
    hc0.1 n0 N a c la2 lc2 V (by omega) (by omega) (by have := hbw.size; have := hV.size; omega) h1 h2 (InRow.keep (Below.keptTo hV (by have := hbw.size; omega)) (fun x _ h => IT.In.keep (Below.keptTo hV (by have := hbw.size; omega)) x h) hx.2.2.1)
   have q1 : ∀ (V : World) (a : Option Addr) (c : Nat), Below wr.heap.size wr V → (a = none → c = 0) → LiesS V a ar → Calls Tryz.prog 57 #[.slice ea2 el2.length ec2, .slice a ar.length c] V fun e w' => e = .returned (.bool (innL ar el2)) ∧ Below V.heap.size V w' := fun V a c hV h1 h2 =>
    hc0.2 n0 ar a c ea2 ec2 V (by omega) (by omega) (by have := hbw.size; have := hV.size; omega) h1 h2 (InRow.keep (Below.keptTo hV (by have := hbw.size; omega)) (fun x _ h => IT.In.keep (Below.keptTo hV (by have := hbw.size; omega)) x h) hx.2.2.2.1)
   have q2 : ∀ (V : World) (a : Option Addr) (c : Nat), Below wr.heap.size wr V → (a = none → c = 0) → LiesS V a ar → Calls Tryz.prog 97 #[.slice sa2 sl2.length sc2, .slice a ar.length c] V fun e w' => e = .returned (.bool (stBL ar sl2)) ∧ Below V.heap.size V w' := fun V a c hV h1 h2 =>
    refloops_any sl2 n0 ar a c sa2 sc2 V (by omega) (by have := hbw.size; have := hV.size; omega) h1 h2 (InRow.keep (Below.keptTo hV (by have := hbw.size; omega)) (fun x _ h => ST.In.keep (Below.keptTo hV (by have := hbw.size; omega)) x h) hx.2.1)
   obtain ⟨T, hT⟩ : ∃ T, toldA ([], true) ll2 = T := ⟨_, rfl⟩
   have hTl : T.1.length ≤ IT.szL ll2 := by rw [← hT]; exact toldA_len ll2
   have q3 : ∀ (V : World), Below wr.heap.size wr V → Calls Tryz.prog 41 #[.slice la2 ll2.length lc2] V fun e w' => ∃ v, e = .returned v ∧ ScV w' v T ∧ Below V.heap.size V w' := fun V hV => by
    rw [← hT]
    exact reftold7_any ll2 n0 la2 lc2 V (by omega) (by have := hbw.size; have := hV.size; omega) (InRow.keep (Below.keptTo hV (by have := hbw.size; omega)) (fun x _ h => IT.In.keep (Below.keptTo hV (by have := hbw.size; omega)) x h) hx.2.2.1)
   have HQ0 := Lib.hid hq0
   have HQ := Lib.hid (And.intro q0 (And.intro q1 (And.intro q2 q3)))
   rw [hT] at hdk
   have HK := Lib.hid hdk
   have HHL := Lib.hid (fun (V : World) (hV : Below wr.heap.size wr V) => lies_keep7 (lies_keep7 HL.out.2 hbw) hV)
   obtain ⟨gx, hgx⟩ : ∃ gx, wr.heap.size = gx := ⟨_, rfl⟩
   obtain ⟨wa, hwa⟩ : ∃ wa, wr.alloc (.cells #[.int .i64 op2, .string (bs nm2), .string (bs nf2), .slice xa2 xl2.length xc2, .slice sa2 sl2.length sc2, .slice la2 ll2.length lc2, .slice ea2 el2.length ec2, .slice pa2 pl2.length pc2, .slice ba2 bl2.length bc2] 48) = wa := ⟨_, rfl⟩
   have hba : Below wr.heap.size wr wa := by rw [← hwa]; exact (Below.refl _ _).alloc (Nat.le_refl _) _
   have BX : wa.heap[gx]? = some (.cells #[.int .i64 op2, .string (bs nm2), .string (bs nf2), .slice xa2 xl2.length xc2, .slice sa2 sl2.length sc2, .slice la2 ll2.length lc2, .slice ea2 el2.length ec2, .slice pa2 pl2.length pc2, .slice ba2 bl2.length bc2] 48 (0, 0)) := by rw [← hwa, ← hgx]; exact World.alloc_heap_new wr _
   have z4 : wa.cell? ⟨gx, 4, none⟩ = some (.slice sa2 sl2.length sc2) := by simp [World.cell?, BX]
   have q := HQ.out.2.2.1 wa a c hba hcn (HHL.out wa hba)
   obtain ⟨S, hS⟩ : ∃ S, stBL ar sl2 = S := ⟨_, rfl⟩
   rw [hS] at q
   have HS := Lib.hid hS
   have HBX := Lib.hid (And.intro BX hba)
   have HTL := Lib.hid hTl
   clear hr hx hsa hc0 hxg q0 q1 q2 q3 hbw hkt hdk hT hq0 hq1 hlq hq2 hS BX hba hsq hxz hsls
   go_wp2_with fail
   (try rw [hwa])
   refine q.mono ?_
   clear q hwa z4 r0 r1 r2 r3 r4 r5 r6 r7 r8
   rintro e w1 ⟨rfl, hb1⟩
   have BX1 := Lib.hid (block_kept HBX.out.1 hb1)
   have HB1 := Lib.hid (HBX.out.2.trans (hb1.mono HBX.out.2.size))
   have hg1 : gx < w1.heap.size := (Array.getElem?_eq_some_iff.1 BX1.out).1
   clear hb1 HBX
   cases S with
   | false =>
    have HE : Hid (F = false) := Lib.hid (by rw [← HD.out, HK.out, HS.out]; rfl)
    clear HK HD
    go_wp2
    go_ret
    exact ⟨ret_bool HE.out.symm, HB.out.trans (HB1.out.mono HB.out.size)⟩
   | true =>
    have z0 : w1.cell? ⟨gx, 0, none⟩ = some (.int .i64 op2) := by simp [World.cell?, BX1.out]
    by_cases h8 : op2 = 8
    ·subst h8
     have HK8 : Hid (innL ar (l.drop k) = ((innL ar ll2 && innL ar el2) && innL ar (l.drop (k + 1)))) := Lib.hid (by rw [HK.out, HS.out]; simp)
     have z5 : w1.cell? ⟨gx, 5, none⟩ = some (.slice la2 ll2.length lc2) := by simp [World.cell?, BX1.out]
     have q := HQ.out.1 w1 ar a c (.inl rfl) HB1.out hcn (HHL.out w1 HB1.out)
     obtain ⟨S1, hS1⟩ : ∃ S, innL ar ll2 = S := ⟨_, rfl⟩
     rw [hS1] at q
     have HS1 := Lib.hid hS1
     clear hS1
     go_wp2_with fail
     refine q.mono ?_
     clear q z0 z5
     rintro e w2 ⟨rfl, hb2⟩
     have BX2 := Lib.hid (block_kept BX1.out hb2)
     have HB2 := Lib.hid (HB1.out.trans (hb2.mono HB1.out.size))
     clear hb2
     cases S1 with
     | false =>
      have HE : Hid (F = false) := Lib.hid (by rw [← HD.out, HK8.out, HS1.out]; rfl)
      clear HK HD HK8
      go_wp2
      go_ret
      exact ⟨ret_bool HE.out.symm, HB.out.trans (HB2.out.mono HB.out.size)⟩
     | true =>
      have z6 : w2.cell? ⟨gx, 6, none⟩ = some (.slice ea2 el2.length ec2) := by simp [World.cell?, BX2.out]
      have q := HQ.out.2.1 w2 a c HB2.out hcn (HHL.out w2 HB2.out)
      obtain ⟨S2, hS2⟩ : ∃ S, innL ar el2 = S := ⟨_, rfl⟩
      rw [hS2] at q
      have HS2 := Lib.hid hS2
      clear hS2
      go_wp2_with fail
      refine q.mono ?_
      clear q z6
      rintro e w3 ⟨rfl, hb3⟩
      have HB3 := Lib.hid (HB2.out.trans (hb3.mono HB2.out.size))
      have BX3 := Lib.hid (block_kept BX2.out hb3)
      have z0 : w3.cell? ⟨gx, 0, none⟩ = some (.int .i64 8) := by simp [World.cell?, BX3.out]
      clear hb3
      cases S2 with
      | false =>
       have HE : Hid (F = false) := Lib.hid (by rw [← HD.out, HK8.out, HS1.out, HS2.out]; rfl)
       clear HK HD HK8
       go_wp2
       go_ret
       exact ⟨ret_bool HE.out.symm, HB.out.trans (HB3.out.mono HB.out.size)⟩
      | true =>
       have HE : Hid (innL ar (l.drop (k + 1)) = F) := Lib.hid (by rw [← HD.out, HK8.out, HS1.out, HS2.out]; rfl)
       clear HK HD HK8
       go_wp2
       obtain ⟨gg, rfl⟩ : ∃ gg, gk = gg + 1 := ⟨gk - 1, by omega⟩
       go_roundg gg
       case rel => exact ⟨k + 1, rfl, by omega, HE.out, HB.out.trans (HB3.out.mono HB.out.size)⟩
       case measure => omega
    ·have h8b : (op2 == 8) = false := by simpa using h8
     by_cases h9 : op2 = 9
     ·subst h9
      obtain ⟨TL, tO⟩ := T
      have hTl2 : TL.length ≤ IT.szL ll2 := HTL.out
      have z5 : w1.cell? ⟨gx, 5, none⟩ = some (.slice la2 ll2.length lc2) := by simp [World.cell?, BX1.out]
      have q := HQ.out.2.2.2 w1 HB1.out
      go_wp2_with fail
      refine q.mono ?_
      clear q z0 z5
      rintro e w2 ⟨v, rfl, ⟨at2, ct2, rfl, hct2, hlt2⟩, hb2⟩
      simp only at hlt2
      have BX2 := block_kept BX1.out hb2
      have HB2 := Lib.hid (HB1.out.trans (hb2.mono HB1.out.size))
      obtain ⟨g7, hg7⟩ : ∃ g7, w2.heap.size = g7 := ⟨_, rfl⟩
      obtain ⟨w3, hw3⟩ : ∃ w3, w2.alloc (.cells #[.slice at2 TL.length ct2, .bool tO] 42) = w3 := ⟨_, rfl⟩
      have hba3 : Below w2.heap.size w2 w3 := by rw [← hw3]; exact (Below.refl _ _).alloc (Nat.le_refl _) _
      have BT3 : w3.heap[g7]? = some (.cells #[.slice at2 TL.length ct2, .bool tO] 42 (0, 0)) := by rw [← hw3, ← hg7]; exact World.alloc_heap_new w2 _
      obtain ⟨y0, y1, -, -⟩ := scope_cells BT3
      have BX3 := block_kept BX2 hba3
      have z2 : w3.cell? ⟨gx, 2, none⟩ = some (.string (bs nf2)) := by simp [World.cell?, BX3]
      have q := reftell_any TL tO nf2 (by omega) at2 ct2 hct2 w3 (lies_keep7 hlt2 hba3)
      obtain ⟨⟨OL, oO⟩, hO⟩ : ∃ O, tell1 (TL, tO) nf2 = O := ⟨_, rfl⟩
      rw [hO] at q
      have hOl : OL.length = TL.length + 1 := by have h := congrArg (fun p => p.1.length) hO; simp [tell1] at h; exact h.symm
      have HO := Lib.hid hO
      have HOl := Lib.hid hOl
      have hOb : OL.length ≤ 6000000 := by omega
      have hao : ar.length + OL.length ≤ 9000000 := by have := HQ0.out.2; omega
      clear hOl
      have HB3 := Lib.hid (HB2.out.trans (hba3.mono HB2.out.size))
      have HX3 := Lib.hid BX3
      clear hb2 hba3 BT3 BX2 BX3 hO hlt2 hct2 HB2
      go_wp2_with fail
      (try rw [hw3])
      refine q.mono ?_
      clear q hw3 y0 y1 z2
      rintro e w4 ⟨v, rfl, ⟨ao, co, rfl, hco, hlo⟩, hb4⟩
      simp only at hlo
      have BX4 := block_kept HX3.out hb4
      have HB4 := Lib.hid (HB3.out.trans (hb4.mono HB3.out.size))
      obtain ⟨g8, hg8⟩ : ∃ g8, w4.heap.size = g8 := ⟨_, rfl⟩
      obtain ⟨w5, hw5⟩ : ∃ w5, w4.alloc (.cells #[.slice ao OL.length co, .bool oO] 42) = w5 := ⟨_, rfl⟩
      have hba5 : Below w4.heap.size w4 w5 := by rw [← hw5]; exact (Below.refl _ _).alloc (Nat.le_refl _) _
      have BO5 : w5.heap[g8]? = some (.cells #[.slice ao OL.length co, .bool oO] 42 (0, 0)) := by rw [← hw5, ← hg8]; exact World.alloc_heap_new w4 _
      have BX5 := block_kept BX4 hba5
      have z5 : w5.cell? ⟨gx, 5, none⟩ = some (.slice la2 ll2.length lc2) := by simp [World.cell?, BX5]
      obtain ⟨y0, y1, -, -⟩ := scope_cells BO5
      have hlo5 := lies_keep7 hlo hba5
      have HB5 := Lib.hid (HB4.out.trans (hba5.mono HB4.out.size))
      have HXO := Lib.hid (And.intro BX5 (And.intro BO5 hlo5))
      have HK9 : Hid (innL ar (l.drop k) = ((oO && ((OL.all fun n => !ar.contains n) && innL (ar ++ OL) ll2)) && innL ar (l.drop (k + 1)))) := Lib.hid (by rw [HK.out, HS.out, HO.out]; simp)
      clear hb4 hba5 BO5 BX5 BX4 hlo hlo5 HB3 HB4 HX3 HK HO
      have HK := HK9
      clear HK9
      obtain ⟨f8, hf8⟩ : ∃ b, (OL.all fun n => !ar.contains n) = b := ⟨_, rfl⟩
      obtain ⟨N, hN⟩ : ∃ N, ar ++ OL = N := ⟨_, rfl⟩
      have hNl : N.length = ar.length + OL.length := by rw [← hN]; simp
      obtain ⟨SI, hSI⟩ : ∃ S, innL N ll2 = S := ⟨_, rfl⟩
      rw [hf8, hN, hSI] at HK
      have HSI := Lib.hid (And.intro hf8 (And.intro hN (And.intro hNl hSI)))
      clear hf8 hN hNl hSI
      go_upto_region 12 with (fail)
      (try rw [hw5])
      clear hw5
      go_cut [76] from 55 to 76 (fun p wx => p = .bool (!(oO && (f8 && SI))) ∧ Below wr.heap.size wr wx)
      case first =>
       have qa := fun (V : World) (hV : Below w5.heap.size w5 V) => refapart_any OL ar (by omega) (by omega) ao a co c V (lies_keep7 HXO.out.2.2 hV) (HHL.out V (HB5.out.trans (hV.mono HB5.out.size)))
       simp only [HSI.out.1] at qa
       have HQA := Lib.hid qa
       clear qa
       cases oO with
       | false =>
        have y0R := cell_regrown y0
        have y1R := cell_regrown y1
        refine wp_region_quiet_below (by kernel_rfl) (by kernel_rfl) ?_
        repeat (go_big_quiet_step (fail))
        refine wpQuiet_nil ?_
        intro _ hw'
        obtain ⟨⟨dq, osq⟩, hw''⟩ := hw'
        subst hw''
        have HBQ := Lib.hid (HB5.out.trans ((below_regrown w5 dq osq).mono HB5.out.size))
        go_wp2_with fail
        go_meet
        exact ⟨by simp, HBQ.out⟩
       | true =>
        cases f8 with
        | false =>
         have y0R := cell_regrown y0
         have y1R := cell_regrown y1
         have HQR := Lib.hid (fun d os => HQA.out (grow (redrawn w5 d) os) (below_regrown w5 d os))
         refine wp_region_quiet_below (by kernel_rfl) (by kernel_rfl) ?_
         repeat (go_big_quiet_step ((go_at_call 98; exact Calls.regrown_of (HQR.out _ _))))
         refine wpQuiet_nil ?_
         intro _ hw'
         obtain ⟨⟨dq, osq⟩, hw''⟩ := hw'
         subst hw''
         have HBQ := Lib.hid (HB5.out.trans ((below_regrown w5 dq osq).mono HB5.out.size))
         go_wp2_with fail
         go_meet
         exact ⟨by simp, HBQ.out⟩
        | true =>
         have qi : ∀ (V : World) (a : Option Addr) (c : Nat), Below wr.heap.size wr V → TV V (.slice a (ar.length + OL.length) c) N → Calls Tryz.prog 57 #[.slice la2 ll2.length lc2, .slice a (ar.length + OL.length) c] V fun e w' => e = .returned (.bool SI) ∧ Below V.heap.size V w' := fun V a c hV hv => by
          obtain ⟨a9, c9, e9, h1, h2⟩ := hv
          injection e9 with e1 e2 e3
          subst e1; subst e3
          have h9 := HQ.out.1 V N a c (.inr (by have := HSI.out.2.2.1; have := HOl.out; omega)) hV h1 h2
          rw [HSI.out.2.2.1, HSI.out.2.2.2] at h9
          exact h9
         have HQI := Lib.hid qi
         have HN := Lib.hid (And.intro HSI.out.2.1 HSI.out.2.2.1)
         clear qi
         go_region_held3 (fun u1 => u1.cell? ⟨gx, 5, none⟩ = some (.slice la2 ll2.length lc2) ∧ u1.cell? ⟨g8, 0, none⟩ = some (.slice ao OL.length co) ∧ u1.cell? ⟨g8, 1, none⟩ = some (.bool true)) (first | exact ⟨z5, y0, y1⟩ | exact ⟨z5A, y0A, y1A⟩ | (with_reducible exact ⟨z5B _, y0B _, y1B _⟩) | (with_reducible exact ⟨z5C, y0C, y1C⟩) | (with_reducible exact ⟨z5D, y0D, y1D⟩) | (with_reducible exact ⟨z5E, y0E, y1E⟩)) (first
          | (go_at_call 57; refine (HQI.out w8 a8 c8 H8.out.1 H8.out.2).mono ?_; rintro e w9 ⟨rfl, hb9⟩; have HB9 := Lib.hid (H8.out.1.trans (hb9.mono H8.out.1.size)); have z5E := keep_cell hb9 z5D; have y0E := keep_cell hb9 y0D; have y1E := keep_cell hb9 y1D; clear hb9)
          | (refine step_append_strs9 (by rfl) (.tmp 70) (.tmp 72) (by rfl) w6.heap.size v7 ar.length (strs ar) (by rfl) H7.out.1 ao OL co (by rfl) H7.out.2.2.2 H7.out.2.2.1 (by omega) (Nat.le_of_lt H7.out.2.1.1) ?_; intro v8' w8 own8 hg8; obtain ⟨a8, c8, rfl, hc8⟩ := own_shape7 own8; have H8 : Hid (Below wr.heap.size wr w8 ∧ TV w8 (.slice a8 (ar.length + OL.length) c8) N) := Lib.hid (inn_app H7.out.2.1.2.1 H7.out.2.1.2.2 H7.out.1 own8 hg8 HN.out.1 HN.out.2); have z5D := keep_cell (inn_low H7.out.2.1.2.2 H7.out.1 hg8) z5A; have y0D := keep_cell (inn_low H7.out.2.1.2.2 H7.out.1 hg8) y0A; have y1D := keep_cell (inn_low H7.out.2.1.2.2 H7.out.1 hg8) y1A; clear own8 hg8)
          | (refine step_append_strs9 (by rfl) (.tmp 68) (.tmp 69) (by rfl) w6.heap.size (.slice (some ⟨w6.heap.size, 0, none⟩) 0 0) 0 [] (by rfl) (own_empty7 w6) a ar c (by rfl) hcn (lies_keep7 H6.out.2.1 ((Below.refl _ _).alloc (Nat.le_refl _) _)) (by omega) (by simp) ?_; intro v7 w7 own7 hg7; rw [Nat.zero_add, List.nil_append] at own7; have hb7 : Below w6.heap.size w6 w7 := grow9 hg7; have H7 : Hid (w7.ownsRow w6.heap.size 9 1 v7 ar.length (strs ar) ∧ (w6.heap.size < w7.heap.size ∧ Below wr.heap.size wr w6 ∧ Below w6.heap.size w6 w7) ∧ LiesS w7 ao OL ∧ (ao = none → co = 0)) := Lib.hid ⟨own7, ⟨by have := hg7.size; rw [World.size_alloc] at this; omega, H6.out.1, hb7⟩, lies_keep7 H6.out.2.2 hb7, hco⟩; have z5C := keep_cell hb7 z5A; have y0C := keep_cell hb7 y0A; have y1C := keep_cell hb7 y1A; clear own7 hg7 hb7)
          | (go_at_call 98; refine (HQA.out _ (Below.refl _ _).drew).mono ?_; rintro e w6 ⟨rfl, hb6⟩; have hb6' : Below w5.heap.size w5 w6 := (Below.refl _ _).drew.trans hb6; have H6 := Lib.hid (And.intro (HB5.out.trans (hb6'.mono HB5.out.size)) (And.intro (HHL.out w6 (HB5.out.trans (hb6'.mono HB5.out.size))) (lies_keep7 HXO.out.2.2 hb6'))); have z5A := keep_cell hb6' z5; have y0A := keep_cell hb6' y0; have y1A := keep_cell hb6' y1; have z5B := fun O => alloc_cell z5A O; have y0B := fun O => alloc_cell y0A O; have y1B := fun O => alloc_cell y1A O; clear hb6 hb6'))
         all_goals (go_wp2_with fail; go_meet; exact ⟨by simp, HB9.out⟩)
      case rest =>
       obtain ⟨rfl, hbx⟩ := hcut
       generalize wc = w6 at *
       have HB6 := Lib.hid (HB.out.trans (hbx.mono HB.out.size))
       clear hbx y0 y1 z5 HXO HB5
       obtain ⟨S3, hS3⟩ : ∃ S, (oO && (f8 && SI)) = S := ⟨_, rfl⟩
       rw [hS3]
       have HS3 := Lib.hid hS3
       clear hS3
       cases S3 with
       | false =>
        have HE : Hid (F = false) := Lib.hid (by rw [← HD.out, HK.out, HS3.out]; rfl)
        clear HK HD
        go_wp2
        go_ret
        exact ⟨ret_bool HE.out.symm, HB6.out⟩
       | true =>
        have HE : Hid (innL ar (l.drop (k + 1)) = F) := Lib.hid (by rw [← HD.out, HK.out, HS3.out]; rfl)
        clear HK HD
        go_wp2
        obtain ⟨gg, rfl⟩ : ∃ gg, gk = gg + 1 := ⟨gk - 1, by omega⟩
        go_roundg gg
        case rel => exact ⟨k + 1, rfl, by omega, HE.out, HB6.out⟩
        case measure => omega
     ·have h9b : (op2 == 9) = false := by simpa using h9
      have HE : Hid (innL ar (l.drop (k + 1)) = F) := Lib.hid (by rw [← HD.out, HK.out, HS.out, if_neg h8, if_neg h9]; rfl)
      clear HK HD
      go_wp2
      obtain ⟨gg, rfl⟩ : ∃ gg, gk = gg + 1 := ⟨gk - 1, by omega⟩
      go_roundg gg
      case rel => exact ⟨k + 1, rfl, by omega, HE.out, HB.out.trans (HB1.out.mono HB.out.size)⟩
      case measure => omega
  ·have d1 : decide (k < l.length) = false := by simpa using hlt
   have d2 : decide ((k : Int) < (l.length : Int)) = false := by rw [decide_eq_false_iff_not]; omega
   have HE : Hid (F = true) := Lib.hid (by rw [← HD.out, List.drop_eq_nil_of_le (by omega)]; rfl)
   clear HD
   go_wp2
   go_ret
   exact ⟨ret_bool HE.out.symm, hbw⟩
theorem inC_in : ∀ x : IT, InC x.l7 ∧ InC x.e7 := IT.ind fun op nm nf xa xc xl sa sc sl la lc ll ea ec el pa pc pl ba bc bl ih0 ih1 => ⟨inC_of ll ih0, inC_of el ih1⟩
theorem refinner_any (l : List IT) : InC l := inC_of l (fun x _ => inC_in x)
end Go.Proofs.YtiipjbafdhijlaaGreatDoor
