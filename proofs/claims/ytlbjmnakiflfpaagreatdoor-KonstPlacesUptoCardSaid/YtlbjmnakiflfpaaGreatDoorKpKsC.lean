/-
  The index of constants; find: the last constant of a name, by Lookup or by the index.
-/
import Derived.Test.YtlbjmnakiflfpaaGreatDoorKpKsB
import Derived.WalkSpells
namespace Go.Proofs.YtlbjmnakiflfpaaGreatDoor
open Go Go.RowKit
set_option linter.unusedVariables false
set_option linter.unusedSimpArgs false
open Go.Maps (Keyed)
open Go.Sort

/-- Block mb is a map of these constants. -/
def IndexN (W : World) (mb n : Nat) (l : List NT) : Prop := ∃ D : DataW Unit, W.ownsMap Tryz.prog 9 (plainElem Tryz.prog 3) mb n D ∧ Maps.IsMap D ∧ ∀ (s : Bytes) (z : DataW Unit), D.atKey (.string s) z = ((findN l s).map fun v => DataW.lit (.int .i64 v)).getD z
def IndexAt (W : World) (mb : Nat) (l : List NT) : Prop := IndexN W mb l.length l
theorem zeroI (w : World) : (zeroValue 3).run Tryz.prog w = .ok (.int .i64 0) w := by kernel_rfl
theorem wfI (v : Int) (h : -9223372036854775808 ≤ v ∧ v ≤ 9223372036854775807) : (Lit.int .i64 v).wf = true := by
  unfold Lit.wf
  rw [Bool.and_eq_true, decide_eq_true_eq, decide_eq_true_eq]
  exact h
theorem indexN_made (w : World) : IndexN (w.alloc (.map #[] 0)) w.heap.size 0 [] := ⟨.map [], World.ownsMap_made w _ _ _, Maps.isMap_empty, fun s z => rfl⟩
theorem IndexN.block {W W' : World} {mb n : Nat} {l : List NT} (h : IndexN W mb n l) (hb : W'.heap[mb]? = W.heap[mb]?) : IndexN W' mb n l := by
  obtain ⟨D, ⟨es, c, h1, h2⟩, hm, hD⟩ := h
  exact ⟨D, ⟨es, c, hb.trans h1, h2⟩, hm, hD⟩
theorem IndexN.lt {W : World} {mb n : Nat} {l : List NT} (h : IndexN W mb n l) : mb < W.heap.size := by
  obtain ⟨D, ho, _⟩ := h
  exact ho.lt
/-- It is no block of cells. -/
theorem IndexN.ne {W : World} {mb n g : Nat} {l : List NT} (h : IndexN W mb n l) {cs : Array Value} {t : TypeId} {q : Nat × Nat} (hg : W.heap[g]? = some (.cells cs t q)) : mb ≠ g := by
  obtain ⟨D, ⟨es, c, h1, h2⟩, _⟩ := h
  intro e
  subst e
  rw [h1] at hg
  cases hg
set_option maxRecDepth 3000000 in
theorem IndexN.put {W : World} {mb n : Nat} {l : List NT} (h : IndexN W mb n l) (hn : n < 4000000) (c : NT) (hs : c.nm.length ≤ 4000000) (hw : c.Wf) : ∃ W', (Instr.mapUpdate 102 (.map (some mb)) (.string (bs c.nm)) (.int .i64 c.v)).run Tryz.prog W = .ok () W' ∧ IndexN W' mb (n + 1) (l ++ [c]) ∧ W.grownBy W' (some mb) := by
  obtain ⟨D, ho, hm, hD⟩ := h
  obtain ⟨W', hrun, ho', hg⟩ := ho.update (Maps.string_keyed Tryz.underlying9) Tryz.underlying102 (by unfold maxLen; omega) (key_str c.nm hs) (plainElem_int Tryz.underlying3 (wfI c.v hw))
  refine ⟨W', hrun, ⟨_, ho', hm.put _ _, fun s z => ?_⟩, hg⟩
  rw [findN_snoc]
  by_cases e : s = c.nm
  · subst e
    rw [Maps.atKey_put_same hm (by simp [WideAt.IsKeyLit])]
    simp
  · rw [Maps.atKey_put_other (by intro h; cases h; exact e rfl), hD]
    have : (c.nm == s) = false := by rw [beq_eq_false_iff_ne]; exact fun h => e h.symm
    rw [this]
    rfl
theorem IndexN.look {W : World} {mb n : Nat} {l : List NT} (h : IndexN W mb n l) (s : Bytes) (hs : s.length ≤ 4000000) : (Instr.lookup 102 (.map (some mb)) (.string (bs s)) true).run Tryz.prog W = .ok (.tuple #[.int .i64 ((findN l s).getD 0), .bool (findN l s).isSome]) W := by
  obtain ⟨D, ho, hm, hD⟩ := h
  obtain ⟨v, ps, hrun, hv⟩ := ho.look_ok (Maps.string_keyed Tryz.underlying9) Tryz.underlying102 (zeroI W) (plainElem_int Tryz.underlying3 (by decide)) (key_str s hs)
  rw [hrun]
  obtain ⟨c, rfl, hc, _⟩ := plainElem_int_inv Tryz.underlying3 hv
  rw [hD] at hc
  cases hf : findN l s with
  | none =>
    rw [hf] at hc
    simp only [Option.map_none, Option.getD_none, Prod.mk.injEq, DataW.lit.injEq, Lit.int.injEq, true_and] at hc
    rw [Maps.has_false_of_atKey (fun z => by rw [hD, hf]; rfl), ← hc.1]
    rfl
  | some v =>
    rw [hf] at hc
    simp only [Option.map_some, Option.getD_some, Prod.mk.injEq, DataW.lit.injEq, Lit.int.injEq, true_and] at hc
    rw [Maps.has_true_of_atKey (fun z => by rw [hD, hf]; rfl), ← hc.1]
    rfl

set_option maxHeartbeats 4000000 in
set_option maxRecDepth 3000000 in
theorem index_any (l : List NT) (hbk : NT.bkL l ≤ 1500000) (a : Option Addr) (c n0 : Nat) (w : World) (hn0 : n0 ≤ w.heap.size) (hin : NRow n0 w l a) :
    Calls Tryz.prog 141 #[.slice a l.length c] w fun e w' => e = .returned (.map (some w.heap.size)) ∧ IndexAt w' w.heap.size l ∧ Below w.heap.size w w' := by
  have hll := NT.bkL_len l
  have hmk : ∀ w, (Instr.makeMap 102 (some (.int .i64 (l.length : Int)))).run Tryz.prog w = .ok (.map (some w.heap.size)) (w.alloc (.map #[] 0)) := fun w => by simp [Instr.makeMap, go_sem]
  have hm0 := indexN_made w
  have hB0 : Below w.heap.size w (w.alloc (.map #[] 0)) := (Below.refl _ _).alloc (Nat.le_refl _) _
  have hz0 : w.heap.size < (w.alloc (.map #[] 0)).heap.size := by simp
  obtain ⟨g, hg⟩ : ∃ g, w.heap.size = g := ⟨_, rfl⟩
  go_enter Tryz.func141, Tryz.ntmps141
  go_wp2
  go_loopw [11] (fun u wr => ∃ k : Nat, u = .int .i64 k ∧ k ≤ l.length ∧ IndexN wr g k (l.take k) ∧ Below g w wr) (fun u _ => l.length - (intOf u).toNat)
  case atStart => exact ⟨0, rfl, Nat.zero_le _, by rw [← hg]; exact hm0, by rw [← hg]; exact hB0⟩
  case round =>
    obtain ⟨k, rfl, hk, hix, hb0⟩ := hrel
    by_cases hlt : k < l.length
    · have d1 : decide (k < l.length) = true := by simpa using hlt
      have d2 : decide ((k : Int) < (l.length : Int)) = true := by rw [decide_eq_true_eq]; omega
      have x1 : (k : Int) < (l.length : Int) := by omega
      obtain ⟨b, o, rfl, hb, hr, hwf⟩ := hin.kept (Below.keptTo hb0 (by omega)) hlt
      have hnl : l[k].nm.length ≤ 4000000 := by have := NT.bkL_mem (List.getElem_mem hlt); simp only [NT.bk] at this; omega
      have HT := Lib.hid (List.take_succ_eq_append_getElem hlt)
      generalize hgx : l[k] = x at *
      have hz := hb0.size
      have hzg := hix.lt
      obtain ⟨w2, hrun, hix2, hgr⟩ := (IndexN.block hix (Below.heap_alloc wr (.cells #[.string (bs x.nm), .int .i64 x.v] 96) g hzg)).put (by omega) x hnl hwf
      have hb2 : Below g w w2 := (hb0.alloc (by omega) (.cells #[.string (bs x.nm), .int .i64 x.v] 96)).grown hgr (by simp; omega) (fun j e => by cases e; exact Nat.le_refl _)
      obtain ⟨nm, v⟩ := x
      have r0 : wr.cell? ⟨b, o + k * 2, none⟩ = some (.string (bs nm)) := hr 0 _ rfl
      have r1 : wr.cell? ⟨b, o + k * 2 + 1, none⟩ = some (.int .i64 v) := hr 1 _ rfl
      have HH := Lib.hid (And.intro hgx hg)
      clear hin hr hgx hix hwf hm0 hB0 hz0 hg
      go_wp2
      go_roundw
      case rel => exact ⟨k + 1, by simp; first | done | rfl | omega, by omega, by rw [HT.out]; exact hix2, hb2⟩
      case measure => simp [intOf]; omega
    · have d1 : decide (k < l.length) = false := by simpa using hlt
      have d2 : decide ((k : Int) < (l.length : Int)) = false := by rw [decide_eq_false_iff_not]; omega
      have HE : Hid (IndexN wr g l.length l) := Lib.hid (by rw [show k = l.length by omega, List.take_length] at hix; exact hix)
      have HG := Lib.hid hg
      clear hlt hix hm0 hB0 hz0 hg
      go_wp2
      go_ret
      exact ⟨by rw [HG.out]; rfl, by rw [HG.out]; exact HE.out, by rw [HG.out]; exact hb0⟩

/-! ### find -/
/-- The finder of constants at work, at block ev: its constants, how many it has asked, its index; what else its block holds. -/
def ConAt (W : World) (ev : Nat) (l : List NT) (a : Option Addr) (c : Nat) (T : TypeId) (rest : List Value) : Prop := ∃ (k : Nat) (vm : Option Nat), W.heap[ev]? = some (.cells (Value.slice a l.length c :: .int .i64 (k : Int) :: .map vm :: rest).toArray T (0, 0)) ∧ k ≤ 8 ∧ ∀ g, vm = some g → IndexAt W g l
theorem ConAt.lt {W : World} {ev : Nat} {l : List NT} {a : Option Addr} {c : Nat} {T : TypeId} {rest : List Value} (h : ConAt W ev l a c T rest) : ev < W.heap.size := by
  obtain ⟨k, vm, h, _⟩ := h
  exact (Array.getElem?_eq_some_iff.1 h).1
theorem ConAt.keep {W W' : World} {ev : Nat} {l : List NT} {a : Option Addr} {c : Nat} {T : TypeId} {rest : List Value} (h : ConAt W ev l a c T rest) (hb : Below W.heap.size W W') : ConAt W' ev l a c T rest := by
  obtain ⟨k, vm, h1, h2, h3⟩ := h
  exact ⟨k, vm, block_kept h1 hb, h2, fun g e => (h3 g e).block (hb.block g (h3 g e).lt)⟩
theorem ConAt.alloc {W : World} {ev : Nat} {l : List NT} {a : Option Addr} {c : Nat} {T : TypeId} {rest : List Value} (h : ConAt W ev l a c T rest) (o : Obj) : ConAt (W.alloc o) ev l a c T rest := h.keep ((Below.refl _ _).alloc (Nat.le_refl _) o)
theorem con_set {W : World} {ev : Nat} {x0 x1 x2 : Value} {rest : List Value} {T : TypeId} (h : W.heap[ev]? = some (.cells (x0 :: x1 :: x2 :: rest).toArray T (0, 0))) (v : Value) :
    (W.setCell ⟨ev, 1, none⟩ v).heap[ev]? = some (.cells (x0 :: v :: x2 :: rest).toArray T (0, 0)) ∧ (W.setCell ⟨ev, 2, none⟩ v).heap[ev]? = some (.cells (x0 :: x1 :: v :: rest).toArray T (0, 0)) := by
  constructor <;> (simp only [World.setCell, Array.getElem?_modify, ↓reduceIte]; rw [h]; simp)
theorem con_open {W : World} {ev : Nat} {x0 x1 x2 : Value} {rest : List Value} {T : TypeId} (h : W.heap[ev]? = some (.cells (x0 :: x1 :: x2 :: rest).toArray T (0, 0))) :
    W.cell? ⟨ev, 0, none⟩ = some x0 ∧ W.cell? ⟨ev, 1, none⟩ = some x1 ∧ W.cell? ⟨ev, 2, none⟩ = some x2 ∧ W.frozen? ⟨ev, 1, none⟩ = false ∧ W.frozen? ⟨ev, 2, none⟩ = false := by
  simp [World.cell?, World.frozen?, h]
set_option maxHeartbeats 4000000 in
set_option maxRecDepth 3000000 in
theorem find_any (H ev n0 : Nat) (hnH : n0 ≤ H) (hH : H ≤ ev) (l : List NT) (hbk : NT.bkL l ≤ 1500000) (s : Bytes) (hs : s.length ≤ 2000000) (a : Option Addr) (c : Nat) (T : TypeId) (rest : List Value) (W : World) (hin : NRow n0 W l a) (hC : ConAt W ev l a c T rest) :
    Calls Tryz.prog 112 #[.pointer (some ⟨ev, 0, none⟩), .string (bs s)] W fun e W' => e = .returned (.tuple #[.int .i64 ((findN l s).getD 0), .bool (findN l s).isSome]) ∧ ConAt W' ev l a c T rest ∧ Kp H ev W W' := by
  have hll := NT.bkL_len l
  have hev := hC.lt
  obtain ⟨k, vm, hE, hk, hv⟩ := hC
  obtain ⟨F, hF⟩ : ∃ F, findN l s = F := ⟨_, rfl⟩
  have HF := Lib.hid hF
  obtain ⟨e0, e1, e2, e3, e4⟩ := con_open hE
  rw [hF]
  by_cases hk8 : k < 8
  · have d1 : decide ((k : Int) < 8) = true := by rw [decide_eq_true_eq]; omega
    have d2 : decide (k < 8) = true := by simpa using hk8
    have hE1 := (con_set hE (.int .i64 ((k : Int) + 1))).1
    have hK1 : Kp H ev W (W.setCell ⟨ev, 1, none⟩ (.int .i64 ((k : Int) + 1))) := (Kp.refl _ _ _).set hH 1 _
    obtain ⟨f0, f1, f2, f3, f4⟩ := con_open hE1
    have hz1 : (W.setCell ⟨ev, 1, none⟩ (.int .i64 ((k : Int) + 1))).heap.size = W.heap.size := by simp [World.setCell]
    have hC1 : ConAt (W.setCell ⟨ev, 1, none⟩ (.int .i64 ((k : Int) + 1))) ev l a c T rest := ⟨k + 1, vm, hE1, by omega, fun g e => (hv g e).block (hK1.same g (hv g e).lt ((hv g e).ne hE))⟩
    have hl := lookup_any l (by omega) s a c n0 (W.setCell ⟨ev, 1, none⟩ (.int .i64 ((k : Int) + 1))) (by omega) (hin.keep (hK1.keptTo hnH))
    rw [hF] at hl
    obtain ⟨v, hvv⟩ : ∃ v, F.getD 0 = v := ⟨_, rfl⟩
    obtain ⟨b, hbb⟩ : ∃ b, F.isSome = b := ⟨_, rfl⟩
    rw [hvv, hbb] at hl ⊢
    have HH := Lib.hid (And.intro hvv hbb)
    clear hin hv hE hE1 hF hk8 hvv hbb
    go_enter Tryz.func112, Tryz.ntmps112
    go_wp2_with fail
    refine hl.mono ?_
    rintro e W2 ⟨rfl, hb⟩
    go_wp2
    go_ret2
    exact ⟨rfl, hC1.keep hb, hK1.trans (Kp.of hb (by omega))⟩
  · have d1 : decide ((k : Int) < 8) = false := by rw [decide_eq_false_iff_not]; omega
    have d2 : decide (k < 8) = false := by simpa using hk8
    have qT : ∀ (w : World) (r : Option Nat), (binOp .eql 102 (.map r) (.map none)).run Tryz.prog w = .ok (.bool r.isNone) w := fun w r => run_eql_map_nil w _ _ _ r Tryz.underlying102
    cases vm with
    | some g =>
      have hlk := (hv g rfl).look s (by omega)
      rw [hF] at hlk
      have hC1 : ConAt W ev l a c T rest := ⟨k, some g, hE, hk, hv⟩
      clear hin hv hE hF hk8
      go_enter Tryz.func112, Tryz.ntmps112
      go_wp2
      go_ret2
      exact ⟨rfl, hC1, Kp.refl _ _ _⟩
    | none =>
      have hix := index_any l hbk a c n0 W (by omega) hin
      clear hin hv hF hk8
      go_enter Tryz.func112, Tryz.ntmps112
      go_wp2_with fail
      refine hix.mono ?_
      rintro e W1 ⟨rfl, hI, hb⟩
      have hE1 := block_kept hE hb
      obtain ⟨f0, f1, f2, f3, f4⟩ := con_open hE1
      have hE2 := (con_set hE1 (.map (some W.heap.size))).2
      have hz1 := hb.size
      have hI2 : IndexAt (W1.setCell ⟨ev, 2, none⟩ (.map (some W.heap.size))) W.heap.size l := hI.block (Below.heap_setCell W1 ⟨ev, 2, none⟩ _ W.heap.size (by show W.heap.size ≠ ev; omega))
      have hlk := hI2.look s (by omega)
      rw [HF.out] at hlk
      obtain ⟨g0, g1, g2, g3, g4⟩ := con_open hE2
      have hK2 : Kp H ev W (W1.setCell ⟨ev, 2, none⟩ (.map (some W.heap.size))) := (Kp.of hb (by omega)).set hH 2 _
      have hC2 : ConAt (W1.setCell ⟨ev, 2, none⟩ (.map (some W.heap.size))) ev l a c T rest := ⟨k, some W.heap.size, hE2, hk, fun g e => by cases e; exact hI2⟩
      clear hI hI2 hE hE1 hE2 hix e0 e1 e2 e3 e4
      go_wp2
      go_ret2
      exact ⟨rfl, hC2, hK2⟩
end Go.Proofs.YtlbjmnakiflfpaaGreatDoor
