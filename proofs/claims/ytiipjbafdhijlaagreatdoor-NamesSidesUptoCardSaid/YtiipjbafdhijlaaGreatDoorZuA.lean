/-
  NuA, in one text.
-/
import Derived.Test.YtiipjbafdhijlaaGreatDoorZtP
namespace Go.Proofs.YtiipjbafdhijlaaGreatDoor
open Go Go.RowKit
set_option linter.unusedVariables false
set_option linter.unusedSimpArgs false
open Go.Sort
theorem scope_cells {w : World} {g : Nat} {a : Option Addr} {n c : Nat} {b : Bool} (h : w.heap[g]? = some (.cells #[.slice a n c, .bool b] 42 (0, 0))) : w.cell? ⟨g, 0, none⟩ = some (.slice a n c) ∧ w.cell? ⟨g, 1, none⟩ = some (.bool b) ∧ w.frozen? ⟨g, 0, none⟩ = false ∧ w.frozen? ⟨g, 1, none⟩ = false := by
 simp [World.cell?, World.frozen?, h]
theorem scope_store {w : World} {g : Nat} {v0 v1 v v' : Value} (h : w.heap[g]? = some (.cells #[v0, v1] 42 (0, 0))) : ((w.setCell ⟨g, 0, none⟩ v).setCell ⟨g, 1, none⟩ v').heap[g]? = some (.cells #[v, v'] 42 (0, 0)) := by
 simp [World.setCell, Array.getElem?_modify, h]
theorem scope_off (w : World) (g : Nat) (v v' : Value) (b : Nat) (hb : b ≠ g) : ((w.setCell ⟨g, 0, none⟩ v).setCell ⟨g, 1, none⟩ v').heap[b]? = w.heap[b]? :=
 (Below.heap_setCell _ ⟨g, 1, none⟩ v' b hb).trans (Below.heap_setCell w ⟨g, 0, none⟩ v b hb)
theorem lies_off {w w' : World} {g : Nat} {a0 : Option Addr} {n0 c0 : Nat} {b0 : Bool} {l : List Bytes} {a : Option Addr} (hg : w.heap[g]? = some (.cells #[.slice a0 n0 c0, .bool b0] 42 (0, 0))) (hk : ∀ b, b ≠ g → w'.heap[b]? = w.heap[b]?) (h : LiesS w a l) : LiesS w' a l := by
 rcases h with h | ⟨b, o, h1, h2⟩
 ·exact .inl h
 ·refine .inr ⟨b, o, h1, fun i hi => ?_⟩
  have h3 := h2 i hi
  have hne : b ≠ g := fun e => by
   subst e
   simp only [World.cell?, hg] at h3
   generalize o + i = m at h3
   match m, h3 with
   | 0, h3 => simp at h3
   | 1, h3 => simp at h3
   | m + 2, h3 => simp at h3
  rw [World.cell?_of_block (w := w) (hk b hne)]
  exact h3
/-- A scope in a variable. -/
structure ScAt (w : World) (g : Nat) (s : List Bytes × Bool) : Prop where
 ex : ∃ a c, w.heap[g]? = some (.cells #[.slice a s.1.length c, .bool s.2] 42 (0, 0)) ∧ (a = none → c = 0) ∧ LiesS w a s.1
theorem ScAt.lt {w : World} {g : Nat} {s : List Bytes × Bool} (h : ScAt w g s) : g < w.heap.size := by
 obtain ⟨a, c, h1, _⟩ := h.ex
 exact (Array.getElem?_eq_some_iff.1 h1).1
theorem ScAt.keep {w w' : World} {g : Nat} {s : List Bytes × Bool} (h : ScAt w g s) (hb : Below w.heap.size w w') : ScAt w' g s := by
 obtain ⟨a, c, h1, h2, h3⟩ := h.ex
 exact ⟨a, c, (hb.block g (Array.getElem?_eq_some_iff.1 h1).1).trans h1, h2, lies_keep7 h3 hb⟩
theorem ScAt.off {w w' : World} {g g' : Nat} {s : List Bytes × Bool} {a0 : Option Addr} {n0 c0 : Nat} {b0 : Bool} (h : ScAt w g s) (hne : g ≠ g') (hg : w.heap[g']? = some (.cells #[.slice a0 n0 c0, .bool b0] 42 (0, 0))) (hk : ∀ b, b ≠ g' → w'.heap[b]? = w.heap[b]?) : ScAt w' g s := by
 obtain ⟨a, c, h1, h2, h3⟩ := h.ex
 exact ⟨a, c, (hk g hne).trans h1, h2, lies_off hg hk h3⟩
theorem ScV.off {w w' : World} {v : Value} {g' : Nat} {s : List Bytes × Bool} {a0 : Option Addr} {n0 c0 : Nat} {b0 : Bool} (h : ScV w v s) (hg : w.heap[g']? = some (.cells #[.slice a0 n0 c0, .bool b0] 42 (0, 0))) (hk : ∀ b, b ≠ g' → w'.heap[b]? = w.heap[b]?) : ScV w' v s := by
 obtain ⟨a, c, h1, h2, h3⟩ := h
 exact ⟨a, c, h1, h2, lies_off hg hk h3⟩
/-- A scope is stored. -/
theorem ScAt.put {w : World} {g : Nat} {a0 a : Option Addr} {n0 c0 n c : Nat} {b0 b : Bool} {s : List Bytes × Bool} (hs : ScV w (.agg #[.slice a n c, .bool b]) s) (hg : w.heap[g]? = some (.cells #[.slice a0 n0 c0, .bool b0] 42 (0, 0))) : ScAt ((w.setCell ⟨g, 0, none⟩ (.slice a n c)).setCell ⟨g, 1, none⟩ (.bool b)) g s := by
 obtain ⟨a', c', h1, h2, h3⟩ := hs
 have h4 : (.slice a n c : Value) = .slice a' s.1.length c' ∧ (.bool b : Value) = .bool s.2 := by
  injection h1 with h1
  simpa using h1
 obtain ⟨h5, h6⟩ := h4
 rw [h5, h6]
 exact ⟨a', c', scope_store hg, h2, lies_off hg (scope_off w g _ _) h3⟩
theorem stBL_drop (ar : List Bytes) (l : List ST) (k : Nat) (h : k < l.length) : stBL ar (l.drop k) = (stB ar l[k] && stBL ar (l.drop (k + 1))) := by
 rw [← List.getElem_cons_drop h, stBL]
/-- Are the scopes of statements right? -/
def LoC (l : List ST) : Prop := ∀ (n0 : Nat) (out : List Bytes) (a : Option Addr) (c : Nat) (a2 : Option Addr) (c2 : Nat) (w : World), out.length + ST.szL l ≤ 9000000 → n0 ≤ w.heap.size → (a = none → c = 0) → LiesS w a out → InRow 4 ST.cells (ST.In n0 w) n0 w l a2 → Calls Tryz.prog 97 #[.slice a2 l.length c2, .slice a out.length c] w fun e w' => e = .returned (.bool (stBL out l)) ∧ Below w.heap.size w w'
set_option maxHeartbeats 8000000 in
set_option maxRecDepth 100000 in
theorem loC_of (l : List ST) (hc : ∀ x ∈ l, LoC x.l7) : LoC l := by
 intro n0 out a c a2 c2 w hsz hn0 hcn hl hin
 have hll := ST.szL_len7 l
 obtain ⟨F, hF⟩ : ∃ F, stBL out l = F := ⟨_, rfl⟩
 rw [hF]
 have HF := Lib.hid hF
 have HI := Lib.hid hin
 have HC := Lib.hid hc
 have HL := Lib.hid (And.intro hcn hl)
 have HSZ := Lib.hid hsz
 clear hF hin hc hl hsz
 go_enter Tryz.func97, Tryz.ntmps97
 go_wp2
 go_loopg [5] l.length (fun g u wr => ∃ k : Nat, u = .int .i64 k ∧ k + g = l.length ∧ stBL out (l.drop k) = F ∧ Below w.heap.size w wr)
 case atStart => exact ⟨0, rfl, by omega, by rw [List.drop_zero]; exact HF.out, Below.refl _ _⟩
 case round =>
  obtain ⟨k, rfl, hk, hdr, hbw⟩ := hrel
  clear HF
  have HD := Lib.hid hdr
  have HB := Lib.hid hbw
  clear hdr
  by_cases hlt : k < l.length
  ·have d1 : decide (k < l.length) = true := by simpa using hlt
   have d2 : decide ((k : Int) < (l.length : Int)) = true := by rw [decide_eq_true_eq]; omega
   have x1 : (k : Int) < (l.length : Int) := by omega
   have hkt : KeptTo n0 w wr := Below.keptTo hbw hn0
   obtain ⟨b, o, rfl, hb, hr, hx⟩ := InRow.at (InRow.keep hkt (fun x _ h => ST.In.keep hkt x h) HI.out) hlt
   have hsa := ST.szL_at7 l k hlt
   have hdk := stBL_drop out l k hlt
   have hc0 := HC.out l[k] (List.getElem_mem hlt)
   obtain ⟨x, hxg⟩ : ∃ x, l[k] = x := ⟨_, rfl⟩
   rw [hxg] at hr hx hsa hc0 hdk
   have hxl : out.length + x.sz ≤ 9000000 := by have := HSZ.out; omega
   have hkb : k < 12000000 := by have := HSZ.out; omega
   obtain ⟨op2, nm2, xa2, xc2, xl2, sa2, sc2, sl2⟩ := x
   rw [stB] at hdk
   rw [ST.In_mk] at hx
   simp only [ST.sz] at hxl
   simp only [ST.l7] at hc0
   have r0 : wr.cell? ⟨b, o + k * 4, none⟩ = some (.int .i64 op2) := hr 0 _ rfl
   have r1 : wr.cell? ⟨b, o + k * 4 + 1, none⟩ = some (.string (bs nm2)) := hr 1 _ rfl
   have r3 : wr.cell? ⟨b, o + k * 4 + 3, none⟩ = some (.slice sa2 sl2.length sc2) := hr 3 _ rfl
   have q0 : ∀ (V : World) (N1 : List Bytes) (a : Option Addr) (c : Nat), N1.length ≤ out.length + 1 → Below wr.heap.size wr V → (a = none → c = 0) → LiesS V a N1 → Calls Tryz.prog 97 #[.slice sa2 sl2.length sc2, .slice a N1.length c] V fun e w' => e = .returned (.bool (stBL N1 sl2)) ∧ Below V.heap.size V w' := fun V N1 a c h0 hV h1 h2 =>
    hc0 n0 N1 a c sa2 sc2 V (by omega) (by have := hbw.size; have := hV.size; omega) h1 h2 (InRow.keep (Below.keptTo hV (by have := hbw.size; omega)) (fun x _ h => ST.In.keep (Below.keptTo hV (by have := hbw.size; omega)) x h) hx.2)
   have HQ := Lib.hid q0
   have HK := Lib.hid hdk
   have hlw := lies_keep7 HL.out.2 hbw
   clear hr hx hsa hc0 hxg q0 hbw hkt hdk
   by_cases h6 : op2 = 6
   ·subst h6
    have q := amongS_any a c out nm2 (by omega) wr hlw
    obtain ⟨KK, hKK⟩ : ∃ KK, out.contains nm2 = KK := ⟨_, rfl⟩
    rw [hKK] at q
    have HKK := Lib.hid hKK
    clear hKK
    go_wp2_with fail
    refine q.mono ?_
    clear q
    rintro e w1 ⟨rfl, n, hw1⟩
    have hb1 : Below wr.heap.size wr w1 := by rw [hw1]; exact below_drewN (Below.refl _ _) n
    clear hw1
    cases KK with
    | true =>
     have HE : Hid (F = false) := Lib.hid (by rw [← HD.out, HK.out, if_pos trivial, HKK.out]; rfl)
     have HB1 := Lib.hid (HB.out.trans (hb1.mono HB.out.size))
     clear HK HD hb1 r0 r1 r3
     go_wp2
     go_ret
     exact ⟨ret_bool HE.out.symm, HB1.out⟩
    | false =>
     have q := refmore_any out nm2 (by omega) a c hcn w1 (lies_keep7 hlw hb1)
     have hmr : more1 out nm2 = out ++ [nm2] := by unfold more1; rw [if_neg (by rw [HKK.out]; decide)]
     rw [hmr] at q
     obtain ⟨N1, hN1⟩ : ∃ N, out ++ [nm2] = N := ⟨_, rfl⟩
     rw [hN1] at q
     have hN1l : N1.length ≤ out.length + 1 := by rw [← hN1]; simp
     have HN1 := Lib.hid hN1
     have HB1 := Lib.hid hb1
     replace r0 := keep_cell hb1 r0
     replace r1 := keep_cell hb1 r1
     replace r3 := keep_cell hb1 r3
     clear hN1 hmr hb1
     go_wp2_with fail
     refine q.mono ?_
     clear q
     rintro e w2 ⟨v, rfl, ⟨a7, c7, rfl, hc7, hl7⟩, hb2⟩
     have hb3 : Below wr.heap.size wr w2 := HB1.out.trans (hb2.mono HB1.out.size)
     replace r3 := keep_cell hb2 r3
     have q := HQ.out w2 N1 a7 c7 hN1l hb3 hc7 hl7
     obtain ⟨S, hS⟩ : ∃ S, stBL N1 sl2 = S := ⟨_, rfl⟩
     rw [hS] at q
     have HS := Lib.hid (show stBL (out ++ [nm2]) sl2 = S by rw [HN1.out]; exact hS)
     have HB3 := Lib.hid hb3
     clear hS r0 r1 hb2 hb3 hc7 hl7
     go_wp2_with fail
     refine q.mono ?_
     clear q
     rintro e w3 ⟨rfl, hb4⟩
     have HB4 := Lib.hid (HB.out.trans ((HB3.out.trans (hb4.mono HB3.out.size)).mono HB.out.size))
     clear hb4 r3
     cases S with
     | false =>
      have HE : Hid (F = false) := Lib.hid (by rw [← HD.out, HK.out, if_pos trivial, HKK.out, HS.out]; rfl)
      clear HK HD
      go_wp2
      go_ret
      exact ⟨ret_bool HE.out.symm, HB4.out⟩
     | true =>
      have HE : Hid (stBL out (l.drop (k + 1)) = F) := Lib.hid (by rw [← HD.out, HK.out, if_pos trivial, HKK.out, HS.out]; rfl)
      clear HK HD
      go_wp2
      cases gk with
      | zero => omega
      | succ gg =>
       go_roundg gg
       case rel => exact ⟨k + 1, rfl, by omega, HE.out, HB4.out⟩
       case measure => omega
   ·have h6b : (op2 == 6) = false := by simpa using h6
    have q := HQ.out wr out a c (by omega) (Below.refl _ _) hcn hlw
    obtain ⟨S, hS⟩ : ∃ S, stBL out sl2 = S := ⟨_, rfl⟩
    rw [hS] at q
    have HS := Lib.hid hS
    clear hS
    go_wp2_with fail
    refine q.mono ?_
    clear q
    rintro e w3 ⟨rfl, hb4⟩
    have HB4 := Lib.hid (HB.out.trans (hb4.mono HB.out.size))
    clear hb4 r0 r1 r3
    cases S with
    | false =>
     have HE : Hid (F = false) := Lib.hid (by rw [← HD.out, HK.out, if_neg h6, HS.out]; rfl)
     clear HK HD
     go_wp2
     go_ret
     exact ⟨ret_bool HE.out.symm, HB4.out⟩
    | true =>
     have HE : Hid (stBL out (l.drop (k + 1)) = F) := Lib.hid (by rw [← HD.out, HK.out, if_neg h6, HS.out]; rfl)
     clear HK HD
     go_wp2
     cases gk with
     | zero => omega
     | succ gg =>
      go_roundg gg
      case rel => exact ⟨k + 1, rfl, by omega, HE.out, HB4.out⟩
      case measure => omega
  ·have d1 : decide (k < l.length) = false := by simpa using hlt
   have d2 : decide ((k : Int) < (l.length : Int)) = false := by rw [decide_eq_false_iff_not]; omega
   have HE : Hid (F = true) := Lib.hid (by rw [← HD.out, List.drop_eq_nil_of_le (by omega)]; rfl)
   clear HD
   go_wp2
   go_ret
   exact ⟨ret_bool HE.out.symm, hbw⟩
theorem loC_in : ∀ x : ST, LoC x.l7 := ST.ind fun op nm xa xc xl sa sc sl ih => loC_of sl ih
theorem refloops_any (l : List ST) : LoC l := loC_of l (fun x _ => loC_in x)
end Go.Proofs.YtiipjbafdhijlaaGreatDoor
