/-
  NuB, in one text.
-/
import Derived.Test.YtiipjbafdhijlaaGreatDoorZuA
import Derived.Deep.RegionHeld3
import Derived.Deep.DeepCutAuto
import Derived.RegionTactic
import Derived.Deep.RegionLaw
namespace Go.Proofs.YtiipjbafdhijlaaGreatDoor
open Go Go.RowKit
set_option linter.unusedVariables false
set_option linter.unusedSimpArgs false
open Go.Sort
theorem toldA_take : ∀ (l : List IT) (k : Nat) (h : k < l.length) (s : List Bytes × Bool), toldA s (l.take (k + 1)) = (toldI l[k]).1.foldl tell1 ((toldA s (l.take k)).1, (toldA s (l.take k)).2 && (toldI l[k]).2) := by
 intro l
 induction l with
 | nil => intro k h; simp at h
 | cons x r ih =>
  intro k h s
  cases k with
  | zero => simp [toldA]
  | succ j =>
   rw [List.take_succ_cons, List.take_succ_cons, toldA, toldA]
   simp only [List.getElem_cons_succ]
   exact ih j (by simpa using h) _
theorem toldI_len : ∀ x : IT, (toldI x).1.length ≤ x.sz := IT.ind fun op nm nf xa xc xl sa sc sl la lc ll ea ec el pa pc pl ba bc bl ih0 ih1 => by
 have hL : ∀ l : List IT, (∀ x ∈ l, (toldI x).1.length ≤ x.sz) → (toldA ([], true) l).1.length ≤ IT.szL l := by
  intro l
  induction l with
  | nil => intro _; simp [toldA]
  | cons x r ih =>
   intro h
   have h1 := h x (by simp)
   have h2 := ih (fun y hy => h y (by simp [hy]))
   rw [toldA, (toldA_from r _).1, (tell1_fold _ _).1, IT.szL]
   simp only [List.nil_append, List.length_append]
   omega
 have h0 := hL ll ih0
 have h1 := hL el ih1
 rw [toldI, IT.sz]
 split
 ·have h2 := addN_len7 (toldA ([], true) el).1 (toldA ([], true) ll).1
  simp only
  omega
 ·split <;> simp <;> omega
theorem toldA_len (l : List IT) : (toldA ([], true) l).1.length ≤ IT.szL l := by
 induction l with
 | nil => simp [toldA]
 | cons x r ih =>
  rw [toldA, (toldA_from r _).1, (tell1_fold _ _).1, IT.szL]
  have := toldI_len x
  simp only [List.nil_append, List.length_append]
  omega
theorem tell_fold_len (ns : List Bytes) (s : List Bytes × Bool) : (ns.foldl tell1 s).1.length = s.1.length + ns.length := by rw [(tell1_fold ns s).1]; simp
/-- What items tell, so far: in a variable, beside the one for the result. -/
structure ToR (w : World) (g gs : Nat) (T : List Bytes × Bool) (wr : World) : Prop where
 low : Below g w wr
 nx : g < gs
 res : wr.heap[g]? = some (.cells #[.slice none 0 0, .bool false] 42 (0, 0))
 sc : ScAt wr gs T
theorem ToR.keep {w wr w' : World} {g gs : Nat} {T : List Bytes × Bool} (h : ToR w g gs T wr) (hb : Below wr.heap.size wr w') : ToR w g gs T w' :=
 ⟨h.low.trans (hb.mono (by have := h.sc.lt; have := h.nx; omega)), h.nx, (hb.block g (by have := h.sc.lt; have := h.nx; omega)).trans h.res, h.sc.keep hb⟩
theorem ToR.put {w wr : World} {g gs : Nat} {T T' : List Bytes × Bool} {a : Option Addr} {n c : Nat} {b : Bool} (h : ToR w g gs T wr) (hs : ScV wr (.agg #[.slice a n c, .bool b]) T') : ToR w g gs T' ((wr.setCell ⟨gs, 0, none⟩ (.slice a n c)).setCell ⟨gs, 1, none⟩ (.bool b)) := by
 obtain ⟨a0, c0, h1, h2, h3⟩ := h.sc.ex
 have hn := h.nx
 refine ⟨(h.low.setCell (p := ⟨gs, 0, none⟩) (by show g ≤ gs; omega) _).setCell (p := ⟨gs, 1, none⟩) (by show g ≤ gs; omega) _, hn, ?_, ScAt.put hs h1⟩
 rw [scope_off _ _ _ _ _ (by omega)]
 exact h.res
theorem ToR.box {w wr : World} {g gs : Nat} {T : List Bytes × Bool} (h : ToR w g gs T wr) : ∃ a c, wr.heap[gs]? = some (.cells #[.slice a T.1.length c, .bool T.2] 42 (0, 0)) ∧ (a = none → c = 0) ∧ LiesS wr a T.1 := h.sc.ex
theorem ToR.flag {w wr : World} {g gs : Nat} {M : List Bytes} {ok : Bool} (h : ToR w g gs (M, ok) wr) (b : Bool) : ToR w g gs (M, b) (wr.setCell ⟨gs, 1, none⟩ (.bool b)) := by
 obtain ⟨a0, c0, h1, h2, h3⟩ := h.sc.ex
 have hn := h.nx
 refine ⟨h.low.setCell (p := ⟨gs, 1, none⟩) (by show g ≤ gs; omega) _, hn, ?_, ⟨a0, c0, ?_, h2, lies_off h1 (fun b hb => Below.heap_setCell _ ⟨gs, 1, none⟩ _ b hb) h3⟩⟩
 ·rw [Below.heap_setCell _ ⟨gs, 1, none⟩ _ _ (by show g ≠ gs; omega)]
  exact h.res
 ·simp [World.setCell, Array.getElem?_modify, h1]
theorem alloc_at9 {W : World} {b : Nat} {O : Obj} (h : b = W.heap.size) : (W.alloc O).heap[b]? = some O := by subst h; exact World.alloc_heap_new W O
theorem alloc_at1 {W : World} {O' O : Obj} : ((W.alloc O').alloc O).heap[W.heap.size + 1]? = some O := by
 have h := World.alloc_heap_new (W.alloc O') O
 rwa [World.size_alloc] at h
theorem alloc_at2 {W : World} {p q : Addr} {v v' : Value} {O : Obj} : (((W.setCell p v).setCell q v').alloc O).heap[W.heap.size]? = some O := by
 have h := World.alloc_heap_new ((W.setCell p v).setCell q v') O
 rwa [World.size_setCell, World.size_setCell] at h
theorem below_step9 {w v u : World} (h : Below w.heap.size w v) (hb : Below v.heap.size v u) : Below w.heap.size w u := h.trans (hb.mono h.size)
theorem below_alloc9 {w v : World} (h : Below w.heap.size w v) (O : Obj) : Below w.heap.size w (v.alloc O) := h.alloc h.size O
theorem below_store9 {w X : World} {g : Nat} (h : Below w.heap.size w X) (hg : w.heap.size ≤ g) (v v' : Value) : Below w.heap.size w ((X.setCell ⟨g, 0, none⟩ v).setCell ⟨g, 1, none⟩ v') := (h.setCell (p := ⟨g, 0, none⟩) hg _).setCell (p := ⟨g, 1, none⟩) hg _
theorem block_step9 {v u : World} {b : Nat} {O : Obj} (hb : Below v.heap.size v u) (h : v.heap[b]? = some O) : u.heap[b]? = some O := (hb.block b (Array.getElem?_eq_some_iff.1 h).1).trans h
theorem scv_alloc9 {w : World} {v : Value} {s : List Bytes × Bool} (h : ScV w v s) (O : Obj) : ScV (w.alloc O) v s := h.keep ((Below.refl _ _).alloc (Nat.le_refl _) _)
theorem scv_store9 {w : World} {v : Value} {g' : Nat} {s : List Bytes × Bool} {a0 : Option Addr} {n0 c0 : Nat} {b0 : Bool} (h : ScV w v s) (hg : w.heap[g']? = some (.cells #[.slice a0 n0 c0, .bool b0] 42 (0, 0))) (x y : Value) : ScV ((w.setCell ⟨g', 0, none⟩ x).setCell ⟨g', 1, none⟩ y) v s := h.off hg (scope_off _ _ _ _)
theorem far9 {w : World} {g gm i : Nat} {x v v' : Value} (h : w.cell? ⟨g, i, none⟩ = some x) (hne : gm ≠ g) : ((w.setCell ⟨gm, 0, none⟩ v).setCell ⟨gm, 1, none⟩ v').cell? ⟨g, i, none⟩ = some x := by
 rw [World.cell?_of_block (w := w) (scope_off w gm v v' g (fun e => hne e.symm))]; exact h
theorem drew_cell9 {w : World} {p : Addr} {x : Option Value} (h : w.cell? p = x) : w.drew.cell? p = x := h
theorem block_drew9 {w : World} {b : Nat} {x : Option Obj} (h : w.heap[b]? = x) : w.drew.heap[b]? = x := h
theorem below_drew9 {n : Nat} {w v : World} (h : Below n w v) : Below n w v.drew := h.drew
theorem ScAt.of9 {w : World} {g : Nat} {a : Option Addr} {n c : Nat} {b : Bool} {s : List Bytes × Bool} (hs : ScV w (.agg #[.slice a n c, .bool b]) s) (hg : w.heap[g]? = some (.cells #[.slice a n c, .bool b] 42 (0, 0))) : ScAt w g s := by
 obtain ⟨a', c', h1, h2, h3⟩ := hs
 have h4 : (.slice a n c : Value) = .slice a' s.1.length c' ∧ (.bool b : Value) = .bool s.2 := by
  injection h1 with h1
  simpa using h1
 rw [h4.1, h4.2] at hg
 exact ⟨a', c', hg, h2, h3⟩
/-- The names of items. -/
def ToC (l : List IT) : Prop := ∀ (n0 : Nat) (a : Option Addr) (c : Nat) (w : World), IT.szL l ≤ 4500000 → n0 ≤ w.heap.size → InRow 9 IT.cells (IT.In n0 w) n0 w l a → Calls Tryz.prog 41 #[.slice a l.length c] w fun e w' => ∃ v, e = .returned v ∧ ScV w' v (toldA ([], true) l) ∧ Below w.heap.size w w'
set_option maxHeartbeats 16000000 in
set_option maxRecDepth 100000 in
theorem toC_of (l : List IT) (hc : ∀ x ∈ l, ToC x.l7 ∧ ToC x.e7) : ToC l := by
 intro n0 a c w hsz hn0 hin
 have hll := szL_len7 l
 obtain ⟨F, hF⟩ : ∃ F, toldA ([], true) l = F := ⟨_, rfl⟩
 rw [hF]
 obtain ⟨g, hg⟩ : ∃ g, w.heap.size = g := ⟨_, rfl⟩
 obtain ⟨gs, hgs⟩ : ∃ gs, g + 1 = gs := ⟨_, rfl⟩
 obtain ⟨w1, hw1⟩ : ∃ w1, (w.alloc (.cells #[.slice none 0 0, .bool false] 42)).alloc (.cells #[.slice none 0 0, .bool false] 42) = w1 := ⟨_, rfl⟩
 have hb0 : Below g w w1 := by rw [← hw1]; exact ((Below.refl _ _).alloc (by omega) _).alloc (by simp; omega) _
 have bg : w1.heap[g]? = some (.cells #[.slice none 0 0, .bool false] 42 (0, 0)) := by rw [← hw1, ← hg]; exact block_alloc (World.alloc_heap_new w _) _
 have bs1 : w1.heap[gs]? = some (.cells #[.slice none 0 0, .bool false] 42 (0, 0)) := by
  rw [← hw1, ← hgs, ← hg]
  have h9 := World.alloc_heap_new (w.alloc (.cells #[.slice none 0 0, .bool false] 42)) (.cells #[.slice none 0 0, .bool false] 42)
  rwa [World.size_alloc] at h9
 have ht0 : ToR w g gs ([], false) w1 := ⟨hb0, by omega, bg, ⟨none, 0, bs1, fun _ => rfl, .inl rfl⟩⟩
 have ht1 := ht0.put (a := none) (n := 0) (c := 0) (b := true) (T' := ([], true)) ⟨none, 0, rfl, fun _ => rfl, .inl rfl⟩
 obtain ⟨s0, s1, f0, f1⟩ := scope_cells bs1
 have HT0 := Lib.hid ht1
 have HF := Lib.hid hF
 have HI := Lib.hid hin
 have HC := Lib.hid hc
 have HSZ := Lib.hid hsz
 clear hF hin hc hsz hb0 bg bs1 ht0 ht1
 go_enter Tryz.func41, Tryz.ntmps41
 go_wp2_with fail
 (try rw [hw1])
 (try rw [hgs])
 go_loopg [4] l.length (fun gh u wr => ∃ (k : Nat) (T : List Bytes × Bool), u = .int .i64 k ∧ k + gh = l.length ∧ toldA ([], true) (l.take k) = T ∧ ToR w g gs T wr)
 case atStart => exact ⟨0, ([], true), rfl, by omega, by rw [List.take_zero]; rfl, HT0.out⟩
 case round =>
  obtain ⟨k, ⟨M, okM⟩, rfl, hk, hM, hto⟩ := hrel
  clear HT0 s0 s1 f0 f1 hw1
  have HTR := Lib.hid hto
  obtain ⟨aM, cM, bsM, hcM, hlM⟩ := hto.box
  simp only at bsM hlM
  have hbw := hto.low
  by_cases hlt : k < l.length
  ·have d1 : decide (k < l.length) = true := by simpa using hlt
   have d2 : decide ((k : Int) < (l.length : Int)) = true := by rw [decide_eq_true_eq]; omega
   have x1 : (k : Int) < (l.length : Int) := by omega
   have hn0g : n0 ≤ g := by omega
   have hkt : KeptTo n0 w wr := Below.keptTo hbw hn0g
   obtain ⟨b, o, rfl, hb, hr, hx⟩ := InRow.at (InRow.keep hkt (fun x _ h => IT.In.keep hkt x h) HI.out) hlt
   have hnx := toldA_take l k hlt ([], true)
   rw [hM] at hnx
   have hml : M.length ≤ IT.szL (l.take k) := by have h := toldA_len (l.take k); rw [hM] at h; exact h
   have hsa := szL_at7 l k hlt
   have hc0 := HC.out l[k] (List.getElem_mem hlt)
   have hxs := toldI_len l[k]
   obtain ⟨x, hxg⟩ : ∃ x, l[k] = x := ⟨_, rfl⟩
   rw [hxg] at hr hx hnx hsa hc0 hxs
   have hMl : M.length + x.sz ≤ 4500000 := by have := HSZ.out; omega
   have hkb : k < 12000000 := by have := HSZ.out; omega
   obtain ⟨op2, nm2, nf2, xa2, xc2, xl2, sa2, sc2, sl2, la2, lc2, ll2, ea2, ec2, el2, pa2, pc2, pl2, ba2, bc2, bl2⟩ := x
   rw [IT.In_mk] at hx
   simp only [IT.sz] at hMl
   simp only [IT.l7, IT.e7] at hc0
   have r0 : wr.cell? ⟨b, o + k * 9, none⟩ = some (.int .i64 op2) := hr 0 _ rfl
   have r1 : wr.cell? ⟨b, o + k * 9 + 1, none⟩ = some (.string (bs nm2)) := hr 1 _ rfl
   have r2 : wr.cell? ⟨b, o + k * 9 + 2, none⟩ = some (.string (bs nf2)) := hr 2 _ rfl
   have r3 : wr.cell? ⟨b, o + k * 9 + 3, none⟩ = some (.slice xa2 xl2.length xc2) := hr 3 _ rfl
   have r4 : wr.cell? ⟨b, o + k * 9 + 4, none⟩ = some (.slice sa2 sl2.length sc2) := hr 4 _ rfl
   have r5 : wr.cell? ⟨b, o + k * 9 + 5, none⟩ = some (.slice la2 ll2.length lc2) := hr 5 _ rfl
   have r6 : wr.cell? ⟨b, o + k * 9 + 6, none⟩ = some (.slice ea2 el2.length ec2) := hr 6 _ rfl
   have r7 : wr.cell? ⟨b, o + k * 9 + 7, none⟩ = some (.slice pa2 pl2.length pc2) := hr 7 _ rfl
   have r8 : wr.cell? ⟨b, o + k * 9 + 8, none⟩ = some (.slice ba2 bl2.length bc2) := hr 8 _ rfl
   have hzr : g ≤ wr.heap.size := by have := hto.sc.lt; omega
   obtain ⟨A, hA⟩ : ∃ A, toldA ([], true) ll2 = A := ⟨_, rfl⟩
   obtain ⟨B, hB⟩ : ∃ B, toldA ([], true) el2 = B := ⟨_, rfl⟩
   have hAl : A.1.length ≤ IT.szL ll2 := by rw [← hA]; exact toldA_len ll2
   have hBl : B.1.length ≤ IT.szL el2 := by rw [← hB]; exact toldA_len el2
   have q0 : ∀ (V : World), Below wr.heap.size wr V → Calls Tryz.prog 41 #[.slice la2 ll2.length lc2] V fun e w' => ∃ v, e = .returned v ∧ ScV w' v A ∧ Below V.heap.size V w' := fun V hV => by
    rw [← hA]
    exact hc0.1 n0 la2 lc2 V (by omega) (by have := hV.size; omega) (InRow.keep (Below.keptTo hV (by omega)) (fun x _ h => IT.In.keep (Below.keptTo hV (by omega)) x h) hx.2.2.1)
   have q1 : ∀ (V : World), Below wr.heap.size wr V → Calls Tryz.prog 41 #[.slice ea2 el2.length ec2] V fun e w' => ∃ v, e = .returned v ∧ ScV w' v B ∧ Below V.heap.size V w' := fun V hV => by
    rw [← hB]
    exact hc0.2 n0 ea2 ec2 V (by omega) (by have := hV.size; omega) (InRow.keep (Below.keptTo hV (by omega)) (fun x _ h => IT.In.keep (Below.keptTo hV (by omega)) x h) hx.2.2.2.1)
   have HQ := Lib.hid (And.intro q0 q1)
   obtain ⟨gx, hgx⟩ : ∃ gx, wr.heap.size = gx := ⟨_, rfl⟩
   obtain ⟨wa, hwa⟩ : ∃ wa, wr.alloc (.cells #[.int .i64 op2, .string (bs nm2), .string (bs nf2), .slice xa2 xl2.length xc2, .slice sa2 sl2.length sc2, .slice la2 ll2.length lc2, .slice ea2 el2.length ec2, .slice pa2 pl2.length pc2, .slice ba2 bl2.length bc2] 48) = wa := ⟨_, rfl⟩
   have hba : Below wr.heap.size wr wa := by rw [← hwa]; exact (Below.refl _ _).alloc (Nat.le_refl _) _
   have BX : wa.heap[gx]? = some (.cells #[.int .i64 op2, .string (bs nm2), .string (bs nf2), .slice xa2 xl2.length xc2, .slice sa2 sl2.length sc2, .slice la2 ll2.length lc2, .slice ea2 el2.length ec2, .slice pa2 pl2.length pc2, .slice ba2 bl2.length bc2] 48 (0, 0)) := by rw [← hwa, ← hgx]; exact World.alloc_heap_new wr _
   have z0 : wa.cell? ⟨gx, 0, none⟩ = some (.int .i64 op2) := by simp [World.cell?, BX]
   have z1 : wa.cell? ⟨gx, 1, none⟩ = some (.string (bs nm2)) := by simp [World.cell?, BX]
   have HBX := Lib.hid (And.intro BX hba)
   have HTO := Lib.hid (HTR.out.keep hba)
   have HST := Lib.hid (And.intro True.intro (block_kept bsM hba))
   have HAB := Lib.hid (And.intro hA hB)
   have HGX := Lib.hid hgx
   have hgxl : gx < wa.heap.size := (Array.getElem?_eq_some_iff.1 BX).1
   have hgsx : gs ≠ gx := by have := HTR.out.sc.lt; omega
   clear hr hx hsa hc0 hxg q0 q1 hkt hM BX hba hbw hto bsM hA hB HTR hzr HGX
   by_cases h8 : op2 = 8
   ·subst h8
    rw [toldI, if_pos rfl, HAB.out.1, HAB.out.2] at hnx
    have HNX := Lib.hid hnx
    clear hnx hxs HAB
    obtain ⟨gg, rfl⟩ : ∃ gg, gk = gg + 1 := ⟨gk - 1, by omega⟩
    obtain ⟨AL, oA⟩ := A
    obtain ⟨BL, oB⟩ := B
    simp only at hAl hBl
    have z5 : wa.cell? ⟨gx, 5, none⟩ = some (.slice la2 ll2.length lc2) := by simp [World.cell?, HBX.out.1]
    have z6 : wa.cell? ⟨gx, 6, none⟩ = some (.slice ea2 el2.length ec2) := by simp [World.cell?, HBX.out.1]
    clear z1 hlM
    go_upto_region 15 with (fail)
    (try rw [hwa])
    clear hwa r0 r1 r2 r3 r4 r5 r6 r7 r8
    go_cut [6, 7] from 37 to 42 (fun p q wx => ∃ g6 g7 : Nat, p = .pointer (some ⟨g6, 0, none⟩) ∧ q = .pointer (some ⟨g7, 0, none⟩) ∧ Below wa.heap.size wa wx ∧ ScAt wx g6 (AL, oA) ∧ ScAt wx g7 (BL, oB) ∧ wa.heap.size ≤ g6 ∧ wa.heap.size ≤ g7)
    case first =>
     clear HF HI HC HSZ HTO HST HNX hMl hkb hAl hBl d1 d2 x1 hn0 hll hk hml
     (try clear hcM)
     (try clear hn0g)
     go_region_held3 (fun u1 => u1.cell? ⟨gx, 5, none⟩ = some (.slice la2 ll2.length lc2) ∧ u1.cell? ⟨gx, 6, none⟩ = some (.slice ea2 el2.length ec2)) ((refine ⟨?_, ?_⟩ <;> (repeat (first | (with_reducible exact z5) | (with_reducible exact z6) | (with_reducible exact z5A) | (with_reducible exact z6A) | (with_reducible exact z5B) | (with_reducible exact z6B) | (with_reducible refine alloc_cell ?_ _) | (with_reducible refine drew_cell9 ?_) | (with_reducible refine far9 ?_ (by first | omega | (simp only [World.size_alloc, World.size_setCell, World.size_drew]; omega))))))) (first | (go_at_call_of 41 (Value.slice ea2 el2.length ec2); refine (HQ.out.2 _ (HBX.out.2.trans (Below.mono (by repeat (first | (with_reducible exact Below.refl _ _) | (with_reducible exact (Below.refl _ _).drew) | (with_reducible refine below_alloc9 ?_ _) | (with_reducible refine below_drew9 ?_) | (with_reducible refine below_step9 ?_ HbB.out) | (with_reducible refine below_step9 ?_ HbA.out) | (with_reducible refine below_store9 ?_ (by first | omega | (simp only [World.size_alloc, World.size_setCell, World.size_drew]; omega)) _ _))) HBX.out.2.size))).mono ?_; rintro e wB ⟨vB, rfl, hvB, hbB⟩; obtain ⟨aB, cB, rfl, -, -⟩ := id hvB; have HvB := Lib.hid hvB; have HbB := Lib.hid hbB; have hzB := hbB.size; (try simp only [World.size_alloc, World.size_drew] at hzB); have z5B : wB.cell? ⟨gx, 5, none⟩ = some (.slice la2 ll2.length lc2) := keep_cell hbB (by repeat (first | (with_reducible exact z5) | (with_reducible exact z6) | (with_reducible exact z5A) | (with_reducible exact z6A) | (with_reducible exact z5B) | (with_reducible exact z6B) | (with_reducible refine alloc_cell ?_ _) | (with_reducible refine drew_cell9 ?_) | (with_reducible refine far9 ?_ (by first | omega | (simp only [World.size_alloc, World.size_setCell, World.size_drew]; omega))))); have z6B : wB.cell? ⟨gx, 6, none⟩ = some (.slice ea2 el2.length ec2) := keep_cell hbB (by repeat (first | (with_reducible exact z5) | (with_reducible exact z6) | (with_reducible exact z5A) | (with_reducible exact z6A) | (with_reducible exact z5B) | (with_reducible exact z6B) | (with_reducible refine alloc_cell ?_ _) | (with_reducible refine drew_cell9 ?_) | (with_reducible refine far9 ?_ (by first | omega | (simp only [World.size_alloc, World.size_setCell, World.size_drew]; omega))))); clear hvB hbB; (first | (have kB0 : wB.heap[wa.heap.size]? = some (Obj.cells #[.slice none 0 0, .bool false] 42 (0, 0)) := (by first | exact block_step9 HbB.out (kA0) | exact block_step9 HbB.out (block_alloc kA0 _)); have kB0a := (scope_cells kB0).1; have kB0b := (scope_cells kB0).2.1; have kB0c := (scope_cells kB0).2.2.1; have kB0d := (scope_cells kB0).2.2.2; have kB0A := fun O => (scope_cells (block_alloc kB0 O)).1; have kB0B := fun O => (scope_cells (block_alloc kB0 O)).2.1; have kB0C := fun O => (scope_cells (block_alloc kB0 O)).2.2.1; have kB0D := fun O => (scope_cells (block_alloc kB0 O)).2.2.2; have ltB0 := (Array.getElem?_eq_some_iff.1 kB0).1) | skip); (first | (have kB1 : wB.heap[wa.heap.size + 1]? = some (Obj.cells #[.slice none 0 0, .bool false] 42 (0, 0)) := (by first | exact block_step9 HbB.out (kA1)); have kB1a := (scope_cells kB1).1; have kB1b := (scope_cells kB1).2.1; have kB1c := (scope_cells kB1).2.2.1; have kB1d := (scope_cells kB1).2.2.2; have kB1A := fun O => (scope_cells (block_alloc kB1 O)).1; have kB1B := fun O => (scope_cells (block_alloc kB1 O)).2.1; have kB1C := fun O => (scope_cells (block_alloc kB1 O)).2.2.1; have kB1D := fun O => (scope_cells (block_alloc kB1 O)).2.2.2; have ltB1 := (Array.getElem?_eq_some_iff.1 kB1).1) | skip); (first | (have kB2 : wB.heap[wA.heap.size]? = some (Obj.cells #[.slice none 0 0, .bool false] 42 (0, 0)) := (by first | exact block_step9 HbB.out (alloc_at9 rfl) | exact block_step9 HbB.out (block_alloc (alloc_at9 rfl) _)); have kB2a := (scope_cells kB2).1; have kB2b := (scope_cells kB2).2.1; have kB2c := (scope_cells kB2).2.2.1; have kB2d := (scope_cells kB2).2.2.2; have kB2A := fun O => (scope_cells (block_alloc kB2 O)).1; have kB2B := fun O => (scope_cells (block_alloc kB2 O)).2.1; have kB2C := fun O => (scope_cells (block_alloc kB2 O)).2.2.1; have kB2D := fun O => (scope_cells (block_alloc kB2 O)).2.2.2; have ltB2 := (Array.getElem?_eq_some_iff.1 kB2).1) | skip); (first | (have kB3 : wB.heap[wA.heap.size + 1]? = some (Obj.cells #[.slice none 0 0, .bool false] 42 (0, 0)) := (by first | exact block_step9 HbB.out (alloc_at1)); have kB3a := (scope_cells kB3).1; have kB3b := (scope_cells kB3).2.1; have kB3c := (scope_cells kB3).2.2.1; have kB3d := (scope_cells kB3).2.2.2; have kB3A := fun O => (scope_cells (block_alloc kB3 O)).1; have kB3B := fun O => (scope_cells (block_alloc kB3 O)).2.1; have kB3C := fun O => (scope_cells (block_alloc kB3 O)).2.2.1; have kB3D := fun O => (scope_cells (block_alloc kB3 O)).2.2.2; have ltB3 := (Array.getElem?_eq_some_iff.1 kB3).1) | skip); (first | (have hlA := ltA0) | skip); (first | (have hzB0B1 := And.intro ltB0 ltB1; have hnB0B1 : wa.heap.size + 1 ≠ wa.heap.size := (by omega); have pB0B1a := fun v v' => (scope_cells ((scope_off wB (wa.heap.size) v v' (wa.heap.size + 1) hnB0B1).trans kB1)).1; have pB0B1b := fun v v' => (scope_cells ((scope_off wB (wa.heap.size) v v' (wa.heap.size + 1) hnB0B1).trans kB1)).2.1; have pB0B1c := fun v v' => (scope_cells ((scope_off wB (wa.heap.size) v v' (wa.heap.size + 1) hnB0B1).trans kB1)).2.2.1; have pB0B1d := fun v v' => (scope_cells ((scope_off wB (wa.heap.size) v v' (wa.heap.size + 1) hnB0B1).trans kB1)).2.2.2; clear hzB0B1 hnB0B1) | skip); (first | (have hzB1B0 := And.intro ltB1 ltB0; have hnB1B0 : wa.heap.size ≠ wa.heap.size + 1 := (by omega); have pB1B0a := fun v v' => (scope_cells ((scope_off wB (wa.heap.size + 1) v v' (wa.heap.size) hnB1B0).trans kB0)).1; have pB1B0b := fun v v' => (scope_cells ((scope_off wB (wa.heap.size + 1) v v' (wa.heap.size) hnB1B0).trans kB0)).2.1; have pB1B0c := fun v v' => (scope_cells ((scope_off wB (wa.heap.size + 1) v v' (wa.heap.size) hnB1B0).trans kB0)).2.2.1; have pB1B0d := fun v v' => (scope_cells ((scope_off wB (wa.heap.size + 1) v v' (wa.heap.size) hnB1B0).trans kB0)).2.2.2; clear hzB1B0 hnB1B0) | skip); (first | (have hzB0B2 := And.intro ltB0 ltB2; have hnB0B2 : wA.heap.size ≠ wa.heap.size := (by omega); have pB0B2a := fun v v' => (scope_cells ((scope_off wB (wa.heap.size) v v' (wA.heap.size) hnB0B2).trans kB2)).1; have pB0B2b := fun v v' => (scope_cells ((scope_off wB (wa.heap.size) v v' (wA.heap.size) hnB0B2).trans kB2)).2.1; have pB0B2c := fun v v' => (scope_cells ((scope_off wB (wa.heap.size) v v' (wA.heap.size) hnB0B2).trans kB2)).2.2.1; have pB0B2d := fun v v' => (scope_cells ((scope_off wB (wa.heap.size) v v' (wA.heap.size) hnB0B2).trans kB2)).2.2.2; clear hzB0B2 hnB0B2) | skip); (first | (have hzB2B0 := And.intro ltB2 ltB0; have hnB2B0 : wa.heap.size ≠ wA.heap.size := (by omega); have pB2B0a := fun v v' => (scope_cells ((scope_off wB (wA.heap.size) v v' (wa.heap.size) hnB2B0).trans kB0)).1; have pB2B0b := fun v v' => (scope_cells ((scope_off wB (wA.heap.size) v v' (wa.heap.size) hnB2B0).trans kB0)).2.1; have pB2B0c := fun v v' => (scope_cells ((scope_off wB (wA.heap.size) v v' (wa.heap.size) hnB2B0).trans kB0)).2.2.1; have pB2B0d := fun v v' => (scope_cells ((scope_off wB (wA.heap.size) v v' (wa.heap.size) hnB2B0).trans kB0)).2.2.2; clear hzB2B0 hnB2B0) | skip); (first | (have hzB2B3 := And.intro ltB2 ltB3; have hnB2B3 : wA.heap.size + 1 ≠ wA.heap.size := (by omega); have pB2B3a := fun v v' => (scope_cells ((scope_off wB (wA.heap.size) v v' (wA.heap.size + 1) hnB2B3).trans kB3)).1; have pB2B3b := fun v v' => (scope_cells ((scope_off wB (wA.heap.size) v v' (wA.heap.size + 1) hnB2B3).trans kB3)).2.1; have pB2B3c := fun v v' => (scope_cells ((scope_off wB (wA.heap.size) v v' (wA.heap.size + 1) hnB2B3).trans kB3)).2.2.1; have pB2B3d := fun v v' => (scope_cells ((scope_off wB (wA.heap.size) v v' (wA.heap.size + 1) hnB2B3).trans kB3)).2.2.2; clear hzB2B3 hnB2B3) | skip); (first | (have hzB3B2 := And.intro ltB3 ltB2; have hnB3B2 : wA.heap.size ≠ wA.heap.size + 1 := (by omega); have pB3B2a := fun v v' => (scope_cells ((scope_off wB (wA.heap.size + 1) v v' (wA.heap.size) hnB3B2).trans kB2)).1; have pB3B2b := fun v v' => (scope_cells ((scope_off wB (wA.heap.size + 1) v v' (wA.heap.size) hnB3B2).trans kB2)).2.1; have pB3B2c := fun v v' => (scope_cells ((scope_off wB (wA.heap.size + 1) v v' (wA.heap.size) hnB3B2).trans kB2)).2.2.1; have pB3B2d := fun v v' => (scope_cells ((scope_off wB (wA.heap.size + 1) v v' (wA.heap.size) hnB3B2).trans kB2)).2.2.2; clear hzB3B2 hnB3B2) | skip)) | (go_at_call_of 41 (Value.slice la2 ll2.length lc2); refine (HQ.out.1 _ (HBX.out.2.trans (Below.mono (by repeat (first | (with_reducible exact Below.refl _ _) | (with_reducible exact (Below.refl _ _).drew) | (with_reducible refine below_alloc9 ?_ _) | (with_reducible refine below_drew9 ?_) | (with_reducible refine below_step9 ?_ HbB.out) | (with_reducible refine below_step9 ?_ HbA.out) | (with_reducible refine below_store9 ?_ (by first | omega | (simp only [World.size_alloc, World.size_setCell, World.size_drew]; omega)) _ _))) HBX.out.2.size))).mono ?_; rintro e wA ⟨vA, rfl, hvA, hbA⟩; obtain ⟨aA, cA, rfl, -, -⟩ := id hvA; have HvA := Lib.hid hvA; have HbA := Lib.hid hbA; have hzA := hbA.size; (try simp only [World.size_alloc, World.size_drew] at hzA); have z5A : wA.cell? ⟨gx, 5, none⟩ = some (.slice la2 ll2.length lc2) := keep_cell hbA (by repeat (first | (with_reducible exact z5) | (with_reducible exact z6) | (with_reducible exact z5A) | (with_reducible exact z6A) | (with_reducible exact z5B) | (with_reducible exact z6B) | (with_reducible refine alloc_cell ?_ _) | (with_reducible refine drew_cell9 ?_) | (with_reducible refine far9 ?_ (by first | omega | (simp only [World.size_alloc, World.size_setCell, World.size_drew]; omega))))); have z6A : wA.cell? ⟨gx, 6, none⟩ = some (.slice ea2 el2.length ec2) := keep_cell hbA (by repeat (first | (with_reducible exact z5) | (with_reducible exact z6) | (with_reducible exact z5A) | (with_reducible exact z6A) | (with_reducible exact z5B) | (with_reducible exact z6B) | (with_reducible refine alloc_cell ?_ _) | (with_reducible refine drew_cell9 ?_) | (with_reducible refine far9 ?_ (by first | omega | (simp only [World.size_alloc, World.size_setCell, World.size_drew]; omega))))); clear hvA hbA; (first | (have kA0 : wA.heap[wa.heap.size]? = some (Obj.cells #[.slice none 0 0, .bool false] 42 (0, 0)) := (by first | exact block_step9 HbA.out (alloc_at9 rfl) | exact block_step9 HbA.out (block_alloc (alloc_at9 rfl) _)); have kA0a := (scope_cells kA0).1; have kA0b := (scope_cells kA0).2.1; have kA0c := (scope_cells kA0).2.2.1; have kA0d := (scope_cells kA0).2.2.2; have kA0A := fun O => (scope_cells (block_alloc kA0 O)).1; have kA0B := fun O => (scope_cells (block_alloc kA0 O)).2.1; have kA0C := fun O => (scope_cells (block_alloc kA0 O)).2.2.1; have kA0D := fun O => (scope_cells (block_alloc kA0 O)).2.2.2; have ltA0 := (Array.getElem?_eq_some_iff.1 kA0).1) | skip); (first | (have kA1 : wA.heap[wa.heap.size + 1]? = some (Obj.cells #[.slice none 0 0, .bool false] 42 (0, 0)) := (by first | exact block_step9 HbA.out (alloc_at1)); have kA1a := (scope_cells kA1).1; have kA1b := (scope_cells kA1).2.1; have kA1c := (scope_cells kA1).2.2.1; have kA1d := (scope_cells kA1).2.2.2; have kA1A := fun O => (scope_cells (block_alloc kA1 O)).1; have kA1B := fun O => (scope_cells (block_alloc kA1 O)).2.1; have kA1C := fun O => (scope_cells (block_alloc kA1 O)).2.2.1; have kA1D := fun O => (scope_cells (block_alloc kA1 O)).2.2.2; have ltA1 := (Array.getElem?_eq_some_iff.1 kA1).1) | skip)))
     all_goals (
      go_wp2_with fail
      go_meet
      refine ⟨_, _, rfl, rfl, ?_, ScAt.of9 (a := aA) (n := AL.length) (c := cA) (b := oA) ?_ ?_, ScAt.of9 (a := aB) (n := BL.length) (c := cB) (b := oB) ?_ ?_, ?_, ?_⟩
      ·repeat (first | (with_reducible exact Below.refl _ _) | (with_reducible exact (Below.refl _ _).drew) | (with_reducible refine below_alloc9 ?_ _) | (with_reducible refine below_drew9 ?_) | (with_reducible refine below_step9 ?_ HbB.out) | (with_reducible refine below_step9 ?_ HbA.out) | (with_reducible refine below_store9 ?_ (by first | omega | (simp only [World.size_alloc, World.size_setCell, World.size_drew]; omega)) _ _))
      ·repeat (first | (with_reducible exact HvA.out) | (with_reducible exact HvB.out) | (with_reducible refine scv_alloc9 ?_ _) | (with_reducible apply scv_store9) | (with_reducible refine ScV.keep ?_ HbB.out) | (with_reducible refine ScV.keep ?_ HbA.out))
       all_goals (repeat (first | (with_reducible exact alloc_at9 rfl) | (with_reducible exact alloc_at1) | (with_reducible exact alloc_at2) | (with_reducible refine block_alloc ?_ _) | (with_reducible refine block_drew9 ?_) | (with_reducible refine block_step9 HbB.out ?_) | (with_reducible refine block_step9 HbA.out ?_) | (with_reducible refine (scope_off _ _ _ _ _ (by first | omega | (simp only [World.size_alloc, World.size_setCell, World.size_drew]; omega))).trans ?_)))
      ·repeat (first | (with_reducible exact alloc_at9 rfl) | (with_reducible exact alloc_at1) | (with_reducible exact alloc_at2) | (with_reducible refine block_alloc ?_ _) | (with_reducible apply scope_store) | (with_reducible refine block_drew9 ?_) | (with_reducible refine block_step9 HbB.out ?_) | (with_reducible refine block_step9 HbA.out ?_) | (with_reducible refine (scope_off _ _ _ _ _ (by first | omega | (simp only [World.size_alloc, World.size_setCell, World.size_drew]; omega))).trans ?_))
      ·repeat (first | (with_reducible exact HvA.out) | (with_reducible exact HvB.out) | (with_reducible refine scv_alloc9 ?_ _) | (with_reducible apply scv_store9) | (with_reducible refine ScV.keep ?_ HbB.out) | (with_reducible refine ScV.keep ?_ HbA.out))
       all_goals (repeat (first | (with_reducible exact alloc_at9 rfl) | (with_reducible exact alloc_at1) | (with_reducible exact alloc_at2) | (with_reducible refine block_alloc ?_ _) | (with_reducible refine block_drew9 ?_) | (with_reducible refine block_step9 HbB.out ?_) | (with_reducible refine block_step9 HbA.out ?_) | (with_reducible refine (scope_off _ _ _ _ _ (by first | omega | (simp only [World.size_alloc, World.size_setCell, World.size_drew]; omega))).trans ?_)))
      ·repeat (first | (with_reducible exact alloc_at9 rfl) | (with_reducible exact alloc_at1) | (with_reducible exact alloc_at2) | (with_reducible refine block_alloc ?_ _) | (with_reducible apply scope_store) | (with_reducible refine block_drew9 ?_) | (with_reducible refine block_step9 HbB.out ?_) | (with_reducible refine block_step9 HbA.out ?_) | (with_reducible refine (scope_off _ _ _ _ _ (by first | omega | (simp only [World.size_alloc, World.size_setCell, World.size_drew]; omega))).trans ?_))
      ·first | omega | (simp only [World.size_alloc, World.size_setCell, World.size_drew]; omega)
      ·first | omega | (simp only [World.size_alloc, World.size_setCell, World.size_drew]; omega))
    case rest =>
     obtain ⟨g6, g7, rfl, rfl, hbc, hs6, hs7, hg6, hg7⟩ := hcut
     generalize wc = w5 at *
     have HT5 := Lib.hid (HTO.out.keep hbc)
     obtain ⟨a6, c6, b6, hc6, hl6⟩ := hs6.ex
     obtain ⟨a7, c7, b7, hc7, hl7⟩ := hs7.ex
     simp only at b6 hl6 b7 hl7
     have H67 := Lib.hid (And.intro b6 (And.intro b7 hl7))
     have HT0 : Hid (TV w5 (.slice a6 AL.length c6) (addN AL (BL.take 0))) := Lib.hid (by rw [List.take_zero]; exact ⟨a6, c6, rfl, hc6, hl6⟩)
     obtain ⟨y60, y61, -, -⟩ := scope_cells b6
     clear hbc hs6 hs7 b6 b7 hl6 hl7 hc6 z0 z5 z6 HBX HTO HST HQ
     go_wp2_with fail
     clear y60 y61
     go_loopg [8, 9] BL.length (fun gh v u wx => ∃ j : Nat, u = .int .i64 j ∧ j + gh = BL.length ∧ TV wx v (addN AL (BL.take j)) ∧ Below w5.heap.size w5 wx)
     case atStart => exact ⟨0, rfl, by omega, HT0.out, Below.refl _ _⟩
     case round =>
      obtain ⟨j, rfl, hj, htv, hbx⟩ := hrel
      clear HT0
      obtain ⟨aN, cN, rfl, hcN, hlN⟩ := htv
      obtain ⟨N, hN⟩ : ∃ N, addN AL (BL.take j) = N := ⟨_, rfl⟩
      rw [hN] at hlN ⊢
      have b7x := block_kept H67.out.2.1 hbx
      have y70 := (scope_cells b7x).1
      have hNl : N.length ≤ AL.length + BL.length := by rw [← hN]; have h1 := addN_len7 (BL.take j) AL; rw [List.length_take] at h1; omega
      by_cases hlt3 : j < BL.length
      ·have g1 : decide (j < BL.length) = true := by simpa using hlt3
       have g2 : decide ((j : Int) < (BL.length : Int)) = true := by rw [decide_eq_true_eq]; omega
       have x2 : (j : Int) < (BL.length : Int) := by omega
       obtain ⟨b3, o3, rfl, hl3⟩ := (lies_keep7 H67.out.2.2 hbx).resolve_left (by intro h; rw [h] at hlt3; simp at hlt3)
       have y3 := hl3 j hlt3
       have hnj := more_take7 AL BL j hlt3
       rw [hN] at hnj
       obtain ⟨t, ht⟩ : ∃ t, BL[j] = t := ⟨_, rfl⟩
       rw [ht] at y3 hnj
       have q := refmore_any N t (by omega) aN cN hcN wr hlN
       obtain ⟨N1, hN1⟩ : ∃ N9, more1 N t = N9 := ⟨_, rfl⟩
       rw [hN1] at q hnj
       have HNJ := Lib.hid hnj
       have HBX := Lib.hid hbx
       have hjb : j < 12000000 := by omega
       clear hl3 ht hnj hbx hN hlN hcN hN1 b7x
       go_wp2_with fail
       refine q.mono ?_
       clear q
       rintro e w6 ⟨v, rfl, ht3, hb3⟩
       have HFN : Hid (TV w6 v (addN AL (BL.take (j + 1))) ∧ Below w5.heap.size w5 w6) := Lib.hid ⟨by rw [HNJ.out]; exact ht3, HBX.out.trans (hb3.mono HBX.out.size)⟩
       obtain ⟨a3, c3, rfl, -, -⟩ := ht3
       clear hb3 y3 y70
       go_wp2
       obtain ⟨gi, rfl⟩ : ∃ gi, gk = gi + 1 := ⟨gk - 1, by omega⟩
       ·go_roundg gi
        case rel => exact ⟨j + 1, rfl, by omega, HFN.out⟩
        case measure => omega
      ·have g1 : decide (j < BL.length) = false := by simpa using hlt3
       have g2 : decide ((j : Int) < (BL.length : Int)) = false := by rw [decide_eq_false_iff_not]; omega
       have hN2 : addN AL BL = N := by rw [← hN, List.take_of_length_le (by omega)]
       have HNX2 : Hid (toldA ([], true) (l.take (k + 1)) = N.foldl tell1 (M, okM && (oA && oB))) := Lib.hid (by rw [HNX.out, ← hN2])
       have HT6 := Lib.hid (HT5.out.keep hbx)
       have b6x := block_kept H67.out.1 hbx
       obtain ⟨y60, y61, -, -⟩ := scope_cells b6x
       have y71 := (scope_cells b7x).2.1
       obtain ⟨a8, c8, bs8, -, -⟩ := HT6.out.box
       obtain ⟨y80, y81, f80, f81⟩ := scope_cells bs8
       simp only at y80 y81
       have HLN := Lib.hid hlN
       obtain ⟨w7, hw7⟩ : ∃ w7, wr = w7 := ⟨_, rfl⟩
       rw [hw7] at HT6 y60 y61 y70 y71 y80 y81 f80 f81 HLN ⊢
       clear hbx b6x b7x bs8 hN hN2 hlN hcN hw7 HT5 H67 HNX
       go_upto_region 21 with (fail)
       go_cut [68] from 59 to 69 (fun p wx => ToR w g gs (M, okM && (oA && oB)) wx ∧ LiesS wx aN N)
       case first =>
        cases okM <;> cases oA <;> cases oB
        all_goals (go_wp2; go_meet; exact ⟨ToR.flag HT6.out _, lies_off HT6.out.box.choose_spec.choose_spec.1 (fun b hb => Below.heap_setCell _ ⟨gs, 1, none⟩ _ b hb) HLN.out⟩)
       case rest =>
        obtain ⟨hto7, hln7⟩ := hcut
        generalize wc = w8 at *
        have HT7 := Lib.hid hto7
        have HL7 := Lib.hid hln7
        clear hto7 hln7 y60 y61 y70 y71 y80 y81 f80 f81 HT6 HLN
        go_wp2_with fail
        go_loopg [10] N.length (fun gh u wr => ∃ (j : Nat) (T : List Bytes × Bool), u = .int .i64 j ∧ j + gh = N.length ∧ (N.take j).foldl tell1 (M, okM && (oA && oB)) = T ∧ ToR w g gs T wr ∧ LiesS wr aN N)
        case atStart => exact ⟨0, _, rfl, by omega, rfl, HT7.out, HL7.out⟩
        case round =>
         obtain ⟨j, ⟨ML, oM⟩, rfl, hj, hT, hto8, hl8⟩ := hrel
         clear HT7 HL7
         by_cases hlt3 : j < N.length
         ·have g1 : decide (j < N.length) = true := by simpa using hlt3
          have g2 : decide ((j : Int) < (N.length : Int)) = true := by rw [decide_eq_true_eq]; omega
          have x2 : (j : Int) < (N.length : Int) := by omega
          have x3 : (0 : Int) ≤ (j : Int) := by omega
          have hMLl : ML.length ≤ M.length + N.length := by
           have h1 := tell_fold_len (N.take j) (M, okM && (oA && oB))
           rw [hT, List.length_take] at h1
           simp only at h1
           omega
          obtain ⟨b3, o3, rfl, hl3⟩ := id (hl8.resolve_left (by intro h; rw [h] at hlt3; simp at hlt3))
          have y3 := hl3 j hlt3
          have hnj : (N.take (j + 1)).foldl tell1 (M, okM && (oA && oB)) = tell1 (ML, oM) N[j] := by
           rw [List.take_succ_eq_append_getElem hlt3, List.foldl_append, hT]; rfl
          obtain ⟨t, ht⟩ : ∃ t, N[j] = t := ⟨_, rfl⟩
          rw [ht] at y3 hnj
          obtain ⟨a8, c8, bs8, hc8, hlm8⟩ := hto8.box
          simp only at bs8 hlm8
          obtain ⟨y80, y81, f80, f81⟩ := scope_cells bs8
          have q := fun (V : World) (hV : Below wr.heap.size wr V) => reftell_any ML oM t (by omega) a8 c8 hc8 V (lies_keep7 hlm8 hV)
          obtain ⟨TN, hTN⟩ : ∃ T, tell1 (ML, oM) t = T := ⟨_, rfl⟩
          simp only [hTN] at q
          rw [hTN] at hnj
          have HQ := Lib.hid q
          have HNJ := Lib.hid hnj
          have HT8 := Lib.hid hto8
          have HL8 := Lib.hid hl8
          have HB8 := Lib.hid bs8
          have hjb : j < 12000000 := by omega
          clear hl3 ht hnj hT hto8 hl8 bs8 hc8 hlm8 q hTN
          go_upto_region 25 with (fail)
          go_region_with (go_at_call 42; refine (HQ.out _ (Below.refl _ _).drew).mono ?_; rintro e w9 ⟨v, rfl, hv, hb9⟩; obtain ⟨a1, c1, rfl, -, -⟩ := id hv; have hb9' : Below wr.heap.size wr w9 := (Below.refl _ _).drew.trans hb9; have HB9 := Lib.hid hb9'; have HV9 := Lib.hid hv; obtain ⟨y80N, y81N, f80N, f81N⟩ := scope_cells (block_kept HB8.out hb9'); clear hv hb9 hb9')
          all_goals (
           have HFN : Hid (ToR w g gs TN _) := Lib.hid (ToR.put (HT8.out.keep HB9.out) HV9.out)
           have HFL : Hid (LiesS _ (some ⟨b3, o3, none⟩) N) := Lib.hid (lies_off (block_kept HB8.out HB9.out) (scope_off w9 gs (.slice a1 TN.1.length c1) (.bool TN.2)) (lies_keep7 HL8.out HB9.out))
           clear HT8 HL8 HB8 HB9 HV9 HQ
           go_wp2
           obtain ⟨gi, rfl⟩ : ∃ gi, gk = gi + 1 := ⟨gk - 1, by omega⟩
           go_roundg gi
           case rel => exact ⟨j + 1, TN, rfl, by omega, HNJ.out, HFN.out, HFL.out⟩
           case measure => omega)
         ·have g1 : decide (j < N.length) = false := by simpa using hlt3
          have g2 : decide ((j : Int) < (N.length : Int)) = false := by rw [decide_eq_false_iff_not]; omega
          have HNZ : Hid (toldA ([], true) (l.take (k + 1)) = (ML, oM)) := Lib.hid (by rw [HNX2.out, ← hT, List.take_of_length_le (by omega)])
          have HT9 := Lib.hid hto8
          clear hT hto8 hl8
          go_wp2
          ·go_roundg gg
           case rel => exact ⟨k + 1, (ML, oM), rfl, by omega, HNZ.out, HT9.out⟩
           case measure => omega
   ·have h8b : (op2 == 8) = false := by simpa using h8
    by_cases ht : tellsI op2 = true
    ·rw [toldI, if_neg h8, if_pos ht] at hnx
     obtain ⟨TN, hTN⟩ : ∃ T, tell1 (M, okM) nm2 = T := ⟨_, rfl⟩
     have HNT := Lib.hid hTN
     have HNX : Hid (toldA ([], true) (l.take (k + 1)) = TN) := Lib.hid (by rw [hnx, ← hTN]; simp)
     clear hnx hTN hxs HAB
     have ht6 : op2 = 1 ∨ op2 = 2 ∨ op2 = 3 ∨ op2 = 7 ∨ op2 = 9 ∨ op2 = 10 := by
      unfold tellsI at ht
      simpa using ht
     clear ht h8b h8
     rcases ht6 with rfl | rfl | rfl | rfl | rfl | rfl
     ·have q := reftell_any M okM nm2 (by omega) aM cM hcM wa (lies_keep7 hlM HBX.out.2)
      rw [HNT.out] at q
      have y0 : wa.cell? ⟨gs, 0, none⟩ = some (.slice aM M.length cM) := (scope_cells HST.out.2).1
      have y1 : wa.cell? ⟨gs, 1, none⟩ = some (.bool okM) := (scope_cells HST.out.2).2.1
      go_wp2_with fail
      (try rw [hwa])
      refine q.mono ?_
      clear q hwa z0 z1 y0 y1 r0 r1 r2 r3 r4 r5 r6 r7 r8
      rintro e w1 ⟨v, rfl, hv, hb1⟩
      obtain ⟨a1, c1, rfl, -, -⟩ := id hv
      have BS1 := block_kept HST.out.2 hb1
      have HT1 := Lib.hid (ToR.put (HTO.out.keep hb1) hv)
      obtain ⟨s0, s1, f0, f1⟩ := scope_cells BS1
      clear hb1 hv BS1 HTO HST HBX
      go_wp2
      cases gk with
      | zero => omega
      | succ gg =>
       go_roundg gg
       case rel => exact ⟨k + 1, TN, rfl, by omega, HNX.out, HT1.out⟩
       case measure => omega
     ·have q := reftell_any M okM nm2 (by omega) aM cM hcM wa (lies_keep7 hlM HBX.out.2)
      rw [HNT.out] at q
      have y0 : wa.cell? ⟨gs, 0, none⟩ = some (.slice aM M.length cM) := (scope_cells HST.out.2).1
      have y1 : wa.cell? ⟨gs, 1, none⟩ = some (.bool okM) := (scope_cells HST.out.2).2.1
      go_wp2_with fail
      (try rw [hwa])
      refine q.mono ?_
      clear q hwa z0 z1 y0 y1 r0 r1 r2 r3 r4 r5 r6 r7 r8
      rintro e w1 ⟨v, rfl, hv, hb1⟩
      obtain ⟨a1, c1, rfl, -, -⟩ := id hv
      have BS1 := block_kept HST.out.2 hb1
      have HT1 := Lib.hid (ToR.put (HTO.out.keep hb1) hv)
      obtain ⟨s0, s1, f0, f1⟩ := scope_cells BS1
      clear hb1 hv BS1 HTO HST HBX
      go_wp2
      cases gk with
      | zero => omega
      | succ gg =>
       go_roundg gg
       case rel => exact ⟨k + 1, TN, rfl, by omega, HNX.out, HT1.out⟩
       case measure => omega
     ·have q := reftell_any M okM nm2 (by omega) aM cM hcM wa (lies_keep7 hlM HBX.out.2)
      rw [HNT.out] at q
      have y0 : wa.cell? ⟨gs, 0, none⟩ = some (.slice aM M.length cM) := (scope_cells HST.out.2).1
      have y1 : wa.cell? ⟨gs, 1, none⟩ = some (.bool okM) := (scope_cells HST.out.2).2.1
      go_wp2_with fail
      (try rw [hwa])
      refine q.mono ?_
      clear q hwa z0 z1 y0 y1 r0 r1 r2 r3 r4 r5 r6 r7 r8
      rintro e w1 ⟨v, rfl, hv, hb1⟩
      obtain ⟨a1, c1, rfl, -, -⟩ := id hv
      have BS1 := block_kept HST.out.2 hb1
      have HT1 := Lib.hid (ToR.put (HTO.out.keep hb1) hv)
      obtain ⟨s0, s1, f0, f1⟩ := scope_cells BS1
      clear hb1 hv BS1 HTO HST HBX
      go_wp2
      cases gk with
      | zero => omega
      | succ gg =>
       go_roundg gg
       case rel => exact ⟨k + 1, TN, rfl, by omega, HNX.out, HT1.out⟩
       case measure => omega
     ·have q := reftell_any M okM nm2 (by omega) aM cM hcM wa (lies_keep7 hlM HBX.out.2)
      rw [HNT.out] at q
      have y0 : wa.cell? ⟨gs, 0, none⟩ = some (.slice aM M.length cM) := (scope_cells HST.out.2).1
      have y1 : wa.cell? ⟨gs, 1, none⟩ = some (.bool okM) := (scope_cells HST.out.2).2.1
      go_wp2_with fail
      (try rw [hwa])
      refine q.mono ?_
      clear q hwa z0 z1 y0 y1 r0 r1 r2 r3 r4 r5 r6 r7 r8
      rintro e w1 ⟨v, rfl, hv, hb1⟩
      obtain ⟨a1, c1, rfl, -, -⟩ := id hv
      have BS1 := block_kept HST.out.2 hb1
      have HT1 := Lib.hid (ToR.put (HTO.out.keep hb1) hv)
      obtain ⟨s0, s1, f0, f1⟩ := scope_cells BS1
      clear hb1 hv BS1 HTO HST HBX
      go_wp2
      cases gk with
      | zero => omega
      | succ gg =>
       go_roundg gg
       case rel => exact ⟨k + 1, TN, rfl, by omega, HNX.out, HT1.out⟩
       case measure => omega
     ·have q := reftell_any M okM nm2 (by omega) aM cM hcM wa (lies_keep7 hlM HBX.out.2)
      rw [HNT.out] at q
      have y0 : wa.cell? ⟨gs, 0, none⟩ = some (.slice aM M.length cM) := (scope_cells HST.out.2).1
      have y1 : wa.cell? ⟨gs, 1, none⟩ = some (.bool okM) := (scope_cells HST.out.2).2.1
      go_wp2_with fail
      (try rw [hwa])
      refine q.mono ?_
      clear q hwa z0 z1 y0 y1 r0 r1 r2 r3 r4 r5 r6 r7 r8
      rintro e w1 ⟨v, rfl, hv, hb1⟩
      obtain ⟨a1, c1, rfl, -, -⟩ := id hv
      have BS1 := block_kept HST.out.2 hb1
      have HT1 := Lib.hid (ToR.put (HTO.out.keep hb1) hv)
      obtain ⟨s0, s1, f0, f1⟩ := scope_cells BS1
      clear hb1 hv BS1 HTO HST HBX
      go_wp2
      cases gk with
      | zero => omega
      | succ gg =>
       go_roundg gg
       case rel => exact ⟨k + 1, TN, rfl, by omega, HNX.out, HT1.out⟩
       case measure => omega
     ·have q := reftell_any M okM nm2 (by omega) aM cM hcM wa (lies_keep7 hlM HBX.out.2)
      rw [HNT.out] at q
      have y0 : wa.cell? ⟨gs, 0, none⟩ = some (.slice aM M.length cM) := (scope_cells HST.out.2).1
      have y1 : wa.cell? ⟨gs, 1, none⟩ = some (.bool okM) := (scope_cells HST.out.2).2.1
      go_wp2_with fail
      (try rw [hwa])
      refine q.mono ?_
      clear q hwa z0 z1 y0 y1 r0 r1 r2 r3 r4 r5 r6 r7 r8
      rintro e w1 ⟨v, rfl, hv, hb1⟩
      obtain ⟨a1, c1, rfl, -, -⟩ := id hv
      have BS1 := block_kept HST.out.2 hb1
      have HT1 := Lib.hid (ToR.put (HTO.out.keep hb1) hv)
      obtain ⟨s0, s1, f0, f1⟩ := scope_cells BS1
      clear hb1 hv BS1 HTO HST HBX
      go_wp2
      cases gk with
      | zero => omega
      | succ gg =>
       go_roundg gg
       case rel => exact ⟨k + 1, TN, rfl, by omega, HNX.out, HT1.out⟩
       case measure => omega
    ·rw [toldI, if_neg h8, if_neg ht] at hnx
     have HNX : Hid (toldA ([], true) (l.take (k + 1)) = (M, okM)) := Lib.hid (by rw [hnx]; simp)
     unfold tellsI at ht
     simp only [Bool.or_eq_true, beq_iff_eq, not_or] at ht
     obtain ⟨n1, n2, n3, n4, n5, n6⟩ := ht
     have e1 : (op2 == 1) = false := by simpa using n1
     have e2 : (op2 == 2) = false := by simpa using n2
     have e3 : (op2 == 3) = false := by simpa using n3
     have e7 : (op2 == 7) = false := by simpa using n4
     have e9 : (op2 == 9) = false := by simpa using n5
     have e10 : (op2 == 10) = false := by simpa using n6
     clear hnx hxs n1 n2 n3 n4 n5 n6 h8 HAB HQ
     go_wp2_with fail
     (try rw [hwa])
     clear hwa
     go_wp2
     cases gk with
     | zero => omega
     | succ gg =>
      go_roundg gg
      case rel => exact ⟨k + 1, (M, okM), rfl, by omega, HNX.out, HTO.out⟩
      case measure => omega
  ·have d1 : decide (k < l.length) = false := by simpa using hlt
   have d2 : decide ((k : Int) < (l.length : Int)) = false := by rw [decide_eq_false_iff_not]; omega
   obtain rfl : (M, okM) = F := by rw [← HF.out, ← hM, List.take_of_length_le (by omega)]
   obtain ⟨s0, s1, f0, f1⟩ := scope_cells bsM
   obtain ⟨t0, t1, e0, e1⟩ := scope_cells HTR.out.res
   obtain ⟨u, hu⟩ : ∃ u, (wr.setCell ⟨g, 0, none⟩ (.slice aM M.length cM)).setCell ⟨g, 1, none⟩ (.bool okM) = u := ⟨_, rfl⟩
   have hbu : u.heap[g]? = some (.cells #[.slice aM M.length cM, .bool okM] 42 (0, 0)) := by rw [← hu]; exact scope_store HTR.out.res
   obtain ⟨z0, z1, -, -⟩ := scope_cells hbu
   have HE : Hid (ScV u (.agg #[.slice aM M.length cM, .bool okM]) (M, okM) ∧ Below w.heap.size w u) := Lib.hid (by
    rw [← hu, hg]
    exact ⟨⟨aM, cM, rfl, hcM, lies_off HTR.out.res (scope_off _ _ _ _) hlM⟩, (hbw.setCell (p := ⟨g, 0, none⟩) (Nat.le_refl _) _).setCell (p := ⟨g, 1, none⟩) (Nat.le_refl _) _⟩)
   have HU := Lib.hid (And.intro hu (And.intro z0 z1))
   clear hu hbu z0 z1 hlM hcM bsM hbw hto hM HTR
   go_wp2
   obtain ⟨hu, z0, z1⟩ := HU.out
   refine bodyPost_ret (v := .agg #[.slice aM M.length cM, .bool okM]) (by simp [results, Tryz.results41, go_sem, hu, z0, z1]) rfl ?_
   rw [hu]
   have hE := HE.out
   rw [hg] at hE
   exact ⟨_, rfl, hE.1, by first | exact hE.2 | (rw [hg]; exact hE.2)⟩
theorem toC_in : ∀ x : IT, ToC x.l7 ∧ ToC x.e7 := IT.ind fun op nm nf xa xc xl sa sc sl la lc ll ea ec el pa pc pl ba bc bl ih0 ih1 => ⟨toC_of ll ih0, toC_of el ih1⟩
theorem reftold7_any (l : List IT) : ToC l := toC_of l (fun x _ => toC_in x)
end Go.Proofs.YtiipjbafdhijlaaGreatDoor
