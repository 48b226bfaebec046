/-
  NaB, in one text.
-/
import Derived.Test.YtiipjbafdhijlaaGreatDoorZAG
import Derived.Lib.SlMapMerge
import Derived.Deep.LoopGhost
namespace Go.Proofs.YtiipjbafdhijlaaGreatDoor
open Go Go.RowKit
set_option linter.unusedVariables false
set_option linter.unusedSimpArgs false
open Go.Sort
/-- A set of strings: a name is in it just if it has an entry, and that says true. -/
def SetAt (W : World) (mb n : Nat) (names : List Bytes) : Prop := ∃ D : DataW Unit, W.ownsMap Tryz.prog 9 (plainElem Tryz.prog 4) mb n D ∧ ∀ s : Bytes, D.atKey (.string s) (.lit (.bool false)) = .lit (.bool (names.contains s)) ∧ Maps.has D (.string s) = names.contains s
theorem SetAt.seen {W : World} {mb n : Nat} {names : List Bytes} (h : SetAt W mb n names) : SeenAt W mb n names := by
 obtain ⟨D, ho, hD⟩ := h
 exact ⟨D, ho, ho.isMap, fun s => (hD s).1⟩
theorem SetAt.block {W W' : World} {mb n : Nat} {names : List Bytes} (h : SetAt W mb n names) (hb : W'.heap[mb]? = W.heap[mb]?) : SetAt W' mb n names := by
 obtain ⟨D, ⟨es, c, h1, h2⟩, hD⟩ := h
 exact ⟨D, ⟨es, c, hb.trans h1, h2⟩, hD⟩
theorem SetAt.lt {W : World} {mb n : Nat} {names : List Bytes} (h : SetAt W mb n names) : mb < W.heap.size := h.seen.lt
theorem SetAt.more {W : World} {mb n n' : Nat} {names : List Bytes} (h : SetAt W mb n names) (hn : n ≤ n') : SetAt W mb n' names := by
 obtain ⟨D, ho, hD⟩ := h
 exact ⟨D, ho.mono hn, hD⟩
theorem SetAt.same {W : World} {mb n : Nat} {names names' : List Bytes} (h : SetAt W mb n names) (hs : ∀ s, s ∈ names ↔ s ∈ names') : SetAt W mb n names' := by
 obtain ⟨D, ho, hD⟩ := h
 refine ⟨D, ho, fun s => ?_⟩
 have e : names'.contains s = names.contains s := by rw [Bool.eq_iff_iff, List.contains_iff_mem, List.contains_iff_mem]; exact (hs s).symm
 rw [e]; exact hD s
set_option maxRecDepth 100000 in
theorem SetAt.put {W : World} {mb n : Nat} {names : List Bytes} (h : SetAt W mb n names) (hn : n < 12000000) (s : Bytes) (hs : s.length ≤ 12000000) : ∃ W', (Instr.mapUpdate 81 (.map (some mb)) (.string (bs s)) (.bool true)).run Tryz.prog W = .ok () W' ∧ SetAt W' mb (n + 1) (names ++ [s]) ∧ W.grownBy W' (some mb) := by
 obtain ⟨D, ho, hD⟩ := h
 have hm := ho.isMap
 obtain ⟨W', hrun, ho', hg⟩ := ho.update (Maps.string_keyed Tryz.underlying9) Tryz.underlying81 (by unfold maxLen; omega) (key_str s hs) (plainElem_bool Tryz.underlying4 true)
 refine ⟨W', hrun, ⟨_, ho', fun s' => ?_⟩, hg⟩
 by_cases e : s' = s
 ·subst e
  rw [Maps.atKey_put_same hm (by simp [WideAt.IsKeyLit]), Maps.has_put_same hm (by simp [WideAt.IsKeyLit])]
  simp
 ·have hne : (Lit.string s') ≠ (Lit.string s) := by intro h; cases h; exact e rfl
  rw [Maps.atKey_put_other hne, Maps.has_put_other hne, (hD s').1, (hD s').2]
  have : (names ++ [s]).contains s' = names.contains s' := by
   rw [Bool.eq_iff_iff]
   simp [e]
  rw [this]
  exact ⟨rfl, rfl⟩
theorem merge_look {Dd Ds : DataW Unit} (hd : Maps.IsMap Dd) {es : List (Lit × DataW Unit)} (he : Ds = .map es) (hp : es.Pairwise (fun p q => p.1 ≠ q.1)) (hk : ∀ p ∈ es, WideAt.IsKeyLit p.1) (k : Lit) (z : DataW Unit) :
  Maps.has (Lib.mergeD Dd Ds) k = (Maps.has Dd k || Maps.has Ds k) ∧ (Lib.mergeD Dd Ds).atKey k z = if Maps.has Ds k = true then Ds.atKey k z else Dd.atKey k z := by
 subst he
 refine ⟨?_, ?_⟩
 ·show Maps.has (es.foldl (fun D p => D.put p.1 p.2) Dd) k = _
  rw [Maps.has_foldPut k es Dd hd hk, Maps.has_eq]
 ·show (es.foldl (fun D p => D.put p.1 p.2) Dd).atKey k z = _
  rw [Maps.atKey_foldPut k z es Dd hd hk hp]
  cases hf : es.find? (fun p => p.1.sameKey k) with
  | none =>
   have h0 : Maps.has (.map es) k = false := by
    rw [Maps.has_eq]
    exact List.any_eq_false.2 (fun p hp => by simpa using List.find?_eq_none.1 hf p hp)
   simp [h0]
  | some p =>
   have h1 : Maps.has (.map es) k = true := by
    rw [Maps.has_eq]
    exact List.any_eq_true.2 ⟨p, List.mem_of_find?_eq_some hf, List.find?_some (p := fun (q : Lit × DataW Unit) => q.1.sameKey k) hf⟩
   have h2 : (DataW.map es).atKey k z = p.2 := by simp only [DataW.atKey, hf]
   simp [h1, h2]
/-- A scope: its block, its set's block, how many entries the set has, the names. -/
structure Sc where
 b : Nat
 m : Nat
 n : Nat
 ns : List Bytes
def scP : List Sc → Value
 | [] => .pointer none
 | s :: _ => .pointer (some ⟨s.b, 0, none⟩)
/-- Scopes that stand around each other lie there, the innermost first. -/
def Chain (W : World) : List Sc → Prop
 | [] => True
 | s :: r => W.heap[s.b]? = some (.cells #[scP r, .map (some s.m)] 151 (0, 0)) ∧ SetAt W s.m s.n s.ns ∧ Chain W r
def toldIn (l : List Sc) (s : Bytes) : Bool := l.any fun c => c.ns.contains s
theorem Chain.drop {W : World} : ∀ {l : List Sc}, Chain W l → ∀ k, Chain W (l.drop k)
 | [], _, k => by simp [Chain]
 | s :: r, h, 0 => h
 | s :: r, h, k + 1 => by simpa using Chain.drop h.2.2 k
theorem drew_heap (W : World) (n : Nat) : (W.drewN n).heap = W.heap := by
 first | rfl | simp
theorem SetAt.lk {W W' : World} {mb n : Nat} {names : List Bytes} (h : SetAt W mb n names) (hh : W'.heap = W.heap) (s : Bytes) (hs : s.length ≤ 12000000) : (Instr.lookup 81 (.map (some mb)) (.string (bs s)) false).run Tryz.prog W' = .ok (.bool (names.contains s)) W' :=
 (h.block (W' := W') (by rw [hh])).seen.look s hs
theorem Chain.sc {W : World} {l : List Sc} (h : Chain W l) {k : Nat} (hk : k < l.length) : W.heap[l[k].b]? = some (.cells #[scP (l.drop (k + 1)), .map (some l[k].m)] 151 (0, 0)) ∧ SetAt W l[k].m l[k].n l[k].ns ∧ scP (l.drop k) = .pointer (some ⟨l[k].b, 0, none⟩) := by
 have hd := h.drop k
 rw [← List.getElem_cons_drop hk] at hd ⊢
 exact ⟨hd.1, hd.2.1, rfl⟩
set_option maxHeartbeats 4000000 in
set_option maxRecDepth 100000 in
theorem tell_no (W : World) (c : Sc) (r : List Sc) (s : Bytes) (hs : s.length ≤ 12000000) (hn : c.n < 12000000) (h : Chain W (c :: r)) (ht : toldIn (c :: r) s = false) :
  Calls Tryz.prog 86 #[.pointer (some ⟨c.b, 0, none⟩), .string (bs s)] W fun e W' => e = .returned (.tuple #[]) ∧ SetAt W' c.m (c.n + 1) (c.ns ++ [s]) ∧ ∃ n, (W.drewN n).grownBy W' (some c.m) := by
 have hb := h.1
 have hm := h.2.1
 have y1 : W.cell? ⟨c.b, 1, none⟩ = some (.map (some c.m)) := by simp [World.cell?, hb]
 have HM := Lib.hid (And.intro hm y1)
 have HL : Hid (∀ k, (hk : k < (c :: r).length) → W.cell? ⟨((c :: r)[k]).b, 0, none⟩ = some (scP ((c :: r).drop (k + 1))) ∧ W.cell? ⟨((c :: r)[k]).b, 1, none⟩ = some (.map (some ((c :: r)[k]).m)) ∧ (∀ W' : World, W'.heap = W.heap → (Instr.lookup 81 (.map (some ((c :: r)[k]).m)) (.string (bs s)) false).run Tryz.prog W' = .ok (.bool false) W') ∧ scP ((c :: r).drop k) = .pointer (some ⟨((c :: r)[k]).b, 0, none⟩)) := Lib.hid (by
  intro k hk
  obtain ⟨h1, h2, h3⟩ := h.sc hk
  refine ⟨by simp [World.cell?, h1], by simp [World.cell?, h1], fun W' hW => ?_, h3⟩
  have hno : (c :: r)[k].ns.contains s = false := by
   have := List.any_eq_false.1 ht (c :: r)[k] (List.getElem_mem hk)
   simpa using this
  rw [h2.lk hW s hs, hno])
 have hp : Value.pointer (some ⟨c.b, 0, none⟩) = scP (c :: r) := rfl
 rw [hp]
 obtain ⟨L, hLL⟩ : ∃ L, c :: r = L := ⟨_, rfl⟩
 rw [hLL] at HL ⊢
 have HLL := Lib.hid (And.intro hLL hp)
 clear h ht hm hb y1 hLL hp
 go_enter Tryz.func86, Tryz.ntmps86
 go_wp2
 go_loopg [4] L.length (fun g u wr => ∃ k : Nat, u = scP (L.drop k) ∧ k + g = L.length ∧ ∃ n, wr = W.drewN n)
 case atStart => exact ⟨0, by rw [List.drop_zero], by omega, 0, rfl⟩
 case round =>
  obtain ⟨k, rfl, hk, nd, rfl⟩ := hrel
  by_cases hlt : k < L.length
  ·obtain ⟨z0, z1, hlk, hv⟩ := HL.out k hlt
   rw [hv]
   have y0 : ∀ n, (W.drewN n).cell? ⟨L[k].b, 0, none⟩ = some (scP (L.drop (k + 1))) := fun n => z0
   have y1 : ∀ n, (W.drewN n).cell? ⟨L[k].b, 1, none⟩ = some (.map (some L[k].m)) := fun n => z1
   have yl : ∀ n, (Instr.lookup 81 (.map (some L[k].m)) (.string (bs s)) false).run Tryz.prog (W.drewN n) = .ok (.bool false) (W.drewN n) := fun n => hlk _ (drew_heap W n)
   clear z0 z1 hlk hv
   generalize L[k].b = B at *
   generalize L[k].m = M at *
   obtain ⟨U, hU⟩ : ∃ U, scP (L.drop (k + 1)) = U := ⟨_, rfl⟩
   rw [hU] at y0
   have HU := Lib.hid hU
   clear hU
   go_wp2
   cases gk with
   | zero => omega
   | succ gg =>
    go_roundg gg
    case rel => exact ⟨k + 1, HU.out.symm, by omega, nd, rfl⟩
    case measure => omega
  ·have hd : scP (L.drop k) = .pointer none := by rw [List.drop_eq_nil_of_le (by omega)]; rfl
   rw [hd]
   obtain ⟨e1, e2⟩ := HLL.out
   have e3 : scP L = .pointer (some ⟨c.b, 0, none⟩) := by rw [← e1]; exact e2.symm
   rw [e3]
   obtain ⟨hm, z1⟩ := HM.out
   have y1 : (W.drewN nd).cell? ⟨c.b, 1, none⟩ = some (.map (some c.m)) := z1
   obtain ⟨W', hrun, hS, hg⟩ := (hm.block (W' := W.drewN nd) (by rw [drew_heap])).put hn s hs
   have HS := Lib.hid (And.intro hS hg)
   clear hm z1 hS hg hd e1 e2 e3 HLL HM HL hlt hk
   go_wp2
   exact bodyPost_end (results_none rfl _ _ _) rfl ⟨rfl, HS.out.1, nd, HS.out.2⟩
set_option maxHeartbeats 4000000 in
set_option maxRecDepth 100000 in
theorem tell_yes (W : World) (c : Sc) (r : List Sc) (s : Bytes) (hs : s.length ≤ 12000000) (h : Chain W (c :: r)) (ht : toldIn (c :: r) s = true) :
  Calls Tryz.prog 86 #[.pointer (some ⟨c.b, 0, none⟩), .string (bs s)] W fun e W' => e = .panicked [{ v := .iface 27 (.int .i64 70), recovered := false }] ∧ ∃ n, W' = W.drewN n := by
 have HL : Hid (∀ k, (hk : k < (c :: r).length) → W.cell? ⟨((c :: r)[k]).b, 0, none⟩ = some (scP ((c :: r).drop (k + 1))) ∧ W.cell? ⟨((c :: r)[k]).b, 1, none⟩ = some (.map (some ((c :: r)[k]).m)) ∧ (∀ W' : World, W'.heap = W.heap → (Instr.lookup 81 (.map (some ((c :: r)[k]).m)) (.string (bs s)) false).run Tryz.prog W' = .ok (.bool ((c :: r)[k].ns.contains s)) W') ∧ scP ((c :: r).drop k) = .pointer (some ⟨((c :: r)[k]).b, 0, none⟩)) := Lib.hid (by
  intro k hk
  obtain ⟨h1, h2, h3⟩ := h.sc hk
  exact ⟨by simp [World.cell?, h1], by simp [World.cell?, h1], fun W' hW => h2.lk hW s hs, h3⟩)
 have hp : Value.pointer (some ⟨c.b, 0, none⟩) = scP (c :: r) := rfl
 rw [hp]
 obtain ⟨L, hLL⟩ : ∃ L, c :: r = L := ⟨_, rfl⟩
 rw [hLL] at HL ht ⊢
 have hex : ∃ x ∈ L, x.ns.contains s = true := List.any_eq_true.1 ht
 obtain ⟨j, hj, hjt, hjn⟩ : ∃ j, ∃ hj : j < L.length, L[j].ns.contains s = true ∧ ∀ k, (hk : k < j) → (L[k]'(by omega)).ns.contains s = false := by
  have hlt := List.findIdx_lt_length_of_exists hex
  refine ⟨_, hlt, List.findIdx_getElem (w := hlt), fun k hk => ?_⟩
  have := List.not_of_lt_findIdx hk
  simpa using this
 have HJ := Lib.hid (And.intro hjt hjn)
 clear h ht hex hjt hjn hp hLL
 go_enter Tryz.func86, Tryz.ntmps86
 go_wp2
 go_loopg [4] L.length (fun g u wr => ∃ k : Nat, u = scP (L.drop k) ∧ k + g = L.length ∧ k ≤ j ∧ ∃ n, wr = W.drewN n)
 case atStart => exact ⟨0, by rw [List.drop_zero], by omega, by omega, 0, rfl⟩
 case round =>
  obtain ⟨k, rfl, hk, hkj, nd, rfl⟩ := hrel
  have hlt : k < L.length := by omega
  obtain ⟨z0, z1, hlk, hv⟩ := HL.out k hlt
  rw [hv]
  have y0 : ∀ n, (W.drewN n).cell? ⟨L[k].b, 0, none⟩ = some (scP (L.drop (k + 1))) := fun n => z0
  have y1 : ∀ n, (W.drewN n).cell? ⟨L[k].b, 1, none⟩ = some (.map (some L[k].m)) := fun n => z1
  have yl : ∀ n, (Instr.lookup 81 (.map (some L[k].m)) (.string (bs s)) false).run Tryz.prog (W.drewN n) = .ok (.bool (L[k].ns.contains s)) (W.drewN n) := fun n => hlk _ (drew_heap W n)
  clear z0 z1 hlk hv
  by_cases hkj2 : k = j
  ·subst hkj2
   rw [HJ.out.1] at yl
   generalize L[k].b = B at *
   generalize L[k].m = M at *
   clear HL HJ
   go_wp2
   exact ⟨rfl, rfl, nd, rfl⟩
  ·rw [HJ.out.2 k (by omega)] at yl
   generalize L[k].b = B at *
   generalize L[k].m = M at *
   obtain ⟨U, hU⟩ : ∃ U, scP (L.drop (k + 1)) = U := ⟨_, rfl⟩
   rw [hU] at y0
   have HU := Lib.hid hU
   clear hU
   go_wp2
   cases gk with
   | zero => omega
   | succ gg =>
    go_roundg gg
    case rel => exact ⟨k + 1, HU.out.symm, by omega, by omega, nd, rfl⟩
    case measure => omega
theorem Chain.keep {W W' : World} : ∀ {l : List Sc}, Chain W l → Below W.heap.size W W' → Chain W' l
 | [], _, _ => trivial
 | s :: r, h, hb => ⟨block_kept h.1 hb, h.2.1.block (hb.block _ h.2.1.lt), Chain.keep h.2.2 hb⟩
theorem set_made (w : World) : SetAt (w.alloc (.map #[] 0)) w.heap.size 0 [] := ⟨.map [], World.ownsMap_made w _ _ _, fun s => ⟨by rfl, by rfl⟩⟩
set_option maxHeartbeats 4000000 in
set_option maxRecDepth 100000 in
/-- A new scope, with none in it: its set lies in the first new block, the scope in the second. -/
theorem inside_any (W : World) (l : List Sc) (h : Chain W l) :
  Calls Tryz.prog 85 #[scP l] W fun e W' => e = .returned (scP (⟨W.heap.size + 1, W.heap.size, 0, []⟩ :: l)) ∧ Chain W' (⟨W.heap.size + 1, W.heap.size, 0, []⟩ :: l) ∧ Below W.heap.size W W' ∧ W'.heap.size = W.heap.size + 2 := by
 have hs1 := set_made W
 have b1 : Below W.heap.size W (W.alloc (.map #[] 0)) := (Below.refl _ _).alloc (Nat.le_refl _) _
 have b2 := b1.alloc b1.size (.cells #[scP l, .map (some W.heap.size)] 151)
 have hz : ((W.alloc (.map #[] 0)).alloc (.cells #[scP l, .map (some W.heap.size)] 151)).heap.size = W.heap.size + 2 := by simp
 have hB := World.alloc_heap_new (W.alloc (.map #[] 0)) (.cells #[scP l, .map (some W.heap.size)] 151)
 rw [World.size_alloc] at hB
 have hs2 := hs1.block (Below.heap_alloc (W.alloc (.map #[] 0)) (.cells #[scP l, .map (some W.heap.size)] 151) _ hs1.lt)
 have HE : Hid (Chain ((W.alloc (.map #[] 0)).alloc (.cells #[scP l, .map (some W.heap.size)] 151)) (⟨W.heap.size + 1, W.heap.size, 0, []⟩ :: l) ∧ Below W.heap.size W ((W.alloc (.map #[] 0)).alloc (.cells #[scP l, .map (some W.heap.size)] 151)) ∧ ((W.alloc (.map #[] 0)).alloc (.cells #[scP l, .map (some W.heap.size)] 151)).heap.size = W.heap.size + 2) := Lib.hid ⟨⟨hB, hs2, h.keep b2⟩, b2, hz⟩
 obtain ⟨q, hq⟩ : ∃ q, scP l = .pointer q := by
  cases l with
  | nil => exact ⟨_, rfl⟩
  | cons a b => exact ⟨_, rfl⟩
 rw [hq] at HE ⊢
 clear h hs1 b1 b2 hz hB hs2 hq
 have hmm := @run_makeMap Tryz.prog
 go_enter Tryz.func85, Tryz.ntmps85
 go_wp2
 go_ret
 exact ⟨rfl, HE.out⟩
end Go.Proofs.YtiipjbafdhijlaaGreatDoor
namespace Go.Proofs.YtiipjbafdhijlaaGreatDoor
open Go Go.RowKit
set_option linter.unusedVariables false
set_option linter.unusedSimpArgs false
open Go.Sort
theorem ret_boolN {a b : Bool} (h : a = b) : Ending.returned (.bool a) = Ending.returned (.bool b) := by rw [h]
set_option maxHeartbeats 4000000 in
set_option maxRecDepth 100000 in
/-- All of these names are in the set. -/
theorem amongMap_any (a : Option Addr) (p : Nat) (l : List Bytes) (hl : l.length ≤ 1099511627776) (hs : ∀ t ∈ l, t.length ≤ 12000000) (w : World) (mb n : Nat) (names : List Bytes) (hm : SeenAt w mb n names)
  (h1 : l = [] ∨ ∃ b o, a = some ⟨b, o, none⟩ ∧ ∀ i (h : i < l.length), w.cell? ⟨b, o + i, none⟩ = some (.string (bs l[i]))) :
  Calls Tryz.prog 92 #[.map (some mb), .slice a l.length p] w fun e w' => e = .returned (.bool (l.all fun t => names.contains t)) ∧ ∃ n, w' = w.drewN n := by
 obtain ⟨R, hR⟩ : ∃ R, (l.all fun t => names.contains t) = R := ⟨_, rfl⟩
 rw [hR]
 have HR := Lib.hid hR
 have H1 := Lib.hid h1
 have HK : Hid (∀ i, (h : i < l.length) → ∀ W' : World, W'.heap = w.heap → (Instr.lookup 81 (.map (some mb)) (.string (bs l[i])) false).run Tryz.prog W' = .ok (.bool (names.contains l[i])) W') := Lib.hid (fun i h W' hW => (hm.block (W' := W') (by rw [hW])).look _ (hs _ (List.getElem_mem h)))
 clear hR h1 hm hs
 go_enter Tryz.func92, Tryz.ntmps92
 go_wp2
 go_loopg [9] l.length (fun g u wr => ∃ i : Nat, u = .int .i64 i ∧ i + g = l.length ∧ (l.drop i).all (fun t => names.contains t) = R ∧ ∃ n, wr = w.drewN n)
 case atStart => exact ⟨0, rfl, by omega, by rw [List.drop_zero]; exact HR.out, 0, rfl⟩
 case round =>
  obtain ⟨i, rfl, hi, hdr, nd, rfl⟩ := hrel
  have HD := Lib.hid hdr
  clear hdr
  by_cases hlt : i < l.length
  ·have d1 : decide (i < l.length) = true := by simpa using hlt
   have d2 : decide ((i : Int) < (l.length : Int)) = true := by rw [decide_eq_true_eq]; omega
   have HX : Hid ((names.contains l[i] && (l.drop (i + 1)).all fun t => names.contains t) = R) := Lib.hid (by rw [← HD.out, ← List.getElem_cons_drop hlt, List.all_cons])
   obtain ⟨b1, o1, rfl, hL1⟩ := (H1.out).resolve_left (by intro h; rw [h] at hlt; simp at hlt)
   replace hL1 : (w.drewN nd).cell? ⟨b1, o1 + i, none⟩ = some (.string (bs l[i])) := hL1 i hlt
   have hk := fun n => HK.out i hlt (w.drewN n) (drew_heap w n)
   generalize l[i] = t at *
   cases hc : names.contains t with
   | true =>
    rw [hc] at hk
    have HX2 : Hid ((l.drop (i + 1)).all (fun t => names.contains t) = R) := Lib.hid (by rw [← HX.out, hc]; rfl)
    clear HX HD H1 HR HK
    go_wp2
    cases gk with
    | zero => omega
    | succ gg =>
     go_roundg gg
     case rel => exact ⟨i + 1, rfl, by omega, HX2.out, nd, rfl⟩
     case measure => omega
   | false =>
    rw [hc] at hk
    have HE : Hid (R = false) := Lib.hid (by rw [← HX.out, hc]; rfl)
    clear HX HD H1 HR HK
    go_wp2
    go_ret
    exact ⟨ret_boolN HE.out.symm, nd, rfl⟩
  ·have d1 : decide (i < l.length) = false := by simpa using hlt
   have d2 : decide ((i : Int) < (l.length : Int)) = false := by rw [decide_eq_false_iff_not]; omega
   have HE : Hid (R = true) := Lib.hid (by rw [← HD.out, List.drop_eq_nil_of_le (by omega)]; rfl)
   go_wp2
   go_ret
   exact ⟨ret_boolN HE.out.symm, nd, rfl⟩
set_option maxRecDepth 100000 in
theorem isChoice_any (a : Addr) (op : Int) (w : World) (h : w.cell? a = some (.int .i64 op)) : Calls Tryz.prog 158 #[.pointer (some a)] w fun e w' => e = .returned (.bool (op == 8)) ∧ w' = w := by
 obtain ⟨b, o, f⟩ := a
 go_enter Tryz.func158, Tryz.ntmps158
 go_wp2
 go_ret
 exact ⟨rfl, rfl⟩
end Go.Proofs.YtiipjbafdhijlaaGreatDoor
namespace Go.Proofs.YtiipjbafdhijlaaGreatDoor
open Go Go.RowKit
set_option linter.unusedVariables false
set_option linter.unusedSimpArgs false
open Go.Sort
/-- The scope's tell, as a value. -/
def tellF (c : Sc) : Value := .func (.func 86) #[.pointer (some ⟨c.b, 0, none⟩)] #[]
/-- Items of these kinds have a name of their scope. -/
def ownOp (op : Int) : Bool := op == 1 || op == 2 || op == 3 || op == 7 || op == 9 || op == 10
set_option maxHeartbeats 4000000 in
set_option maxRecDepth 100000 in
theorem tellItem_no (W : World) (a : Addr) (op : Int) (c : Sc) (h0 : W.cell? a = some (.int .i64 op)) (hop : ownOp op = false) :
  Calls Tryz.prog 160 #[.pointer (some a), tellF c] W fun e W' => e = .returned (.tuple #[]) ∧ W' = W := by
 obtain ⟨b, o, f⟩ := a
 simp only [ownOp, Bool.or_eq_false_iff] at hop
 obtain ⟨⟨⟨⟨⟨h1, h2⟩, h3⟩, h4⟩, h5⟩, h6⟩ := hop
 unfold tellF
 go_enter Tryz.func160, Tryz.ntmps160
 go_wp2
 exact bodyPost_end (results_none rfl _ _ _) rfl ⟨rfl, rfl⟩
set_option maxHeartbeats 4000000 in
set_option maxRecDepth 100000 in
/-- The item's name is told as tell tells it. -/
theorem tellItem_own (W : World) (b o : Nat) (op : Int) (nm : Bytes) (c : Sc) (R : Ending → World → Prop) (h0 : W.cell? ⟨b, o, none⟩ = some (.int .i64 op)) (h1 : W.cell? ⟨b, o + 1, none⟩ = some (.string (bs nm))) (hop : ownOp op = true)
  (hq : Calls Tryz.prog 86 #[.pointer (some ⟨c.b, 0, none⟩), .string (bs nm)] W fun e W' => (e = .returned (.tuple #[]) ∨ ∃ ch, e = .panicked ch) ∧ R e W') :
  Calls Tryz.prog 160 #[.pointer (some ⟨b, o, none⟩), tellF c] W R := by
 have hop2 : op = 1 ∨ op = 2 ∨ op = 3 ∨ op = 7 ∨ op = 9 ∨ op = 10 := by
  simp only [ownOp, Bool.or_eq_true, beq_iff_eq] at hop
  omega
 clear hop
 unfold tellF
 rcases hop2 with rfl | rfl | rfl | rfl | rfl | rfl
 all_goals
  go_enter Tryz.func160, Tryz.ntmps160
  go_wp2_with fail
  refine hq.mono ?_
  rintro e W' ⟨h2, hR⟩
  rcases h2 with rfl | ⟨ch, rfl⟩
  ·go_wp2_with fail
   exact bodyPost_end (results_none rfl _ _ _) rfl hR
  ·exact ⟨rfl, hR⟩
end Go.Proofs.YtiipjbafdhijlaaGreatDoor
namespace Go.Proofs.YtiipjbafdhijlaaGreatDoor
open Go Go.RowKit
set_option linter.unusedVariables false
set_option linter.unusedSimpArgs false
open Go.Sort
/-- The streams are as they were. -/
def Io (W W' : World) : Prop := W'.os = W.os ∧ W'.tape = W.tape ∧ W'.output = W.output
theorem Io.refl (W : World) : Io W W := ⟨rfl, rfl, rfl⟩
theorem Io.trans {A B C : World} (h : Io A B) (k : Io B C) : Io A C := ⟨k.1.trans h.1, k.2.1.trans h.2.1, k.2.2.trans h.2.2⟩
theorem Io.below {n : Nat} {A B : World} (h : Below n A B) : Io A B := ⟨h.os, h.tape, h.output⟩
theorem Io.grown {A B : World} {row : Option Nat} (h : A.grownBy B row) : Io A B := ⟨h.os, h.tape, h.output⟩
theorem Io.drew (W : World) (n : Nat) : Io W (W.drewN n) := ⟨rfl, rfl, rfl⟩
/-- All blocks but one lie as they lay. -/
structure KeptBut1 (m : Nat) (W W' : World) : Prop where
 size : W.heap.size ≤ W'.heap.size
 block : ∀ i, i < W.heap.size → i ≠ m → W'.heap[i]? = W.heap[i]?
 io : Io W W'
theorem KeptBut1.refl (m : Nat) (W : World) : KeptBut1 m W W := ⟨Nat.le_refl _, fun _ _ _ => rfl, Io.refl _⟩
theorem KeptBut1.trans {m : Nat} {W W1 W2 : World} (h : KeptBut1 m W W1) (k : KeptBut1 m W1 W2) : KeptBut1 m W W2 :=
 ⟨Nat.le_trans h.size k.size, fun i hi hne => (k.block i (Nat.lt_of_lt_of_le hi h.size) hne).trans (h.block i hi hne), h.io.trans k.io⟩
theorem KeptBut1.drew (m : Nat) (W : World) (n : Nat) : KeptBut1 m W (W.drewN n) := ⟨Nat.le_of_eq (by rw [drew_heap]), fun i _ _ => by rw [drew_heap], Io.drew _ _⟩
theorem KeptBut1.grown {m : Nat} {W W' : World} {n : Nat} (h : (W.drewN n).grownBy W' (some m)) : KeptBut1 m W W' := by
 refine ⟨by have := h.size; rw [drew_heap] at this; exact this, fun i hi hne => ?_, (Io.drew W n).trans (Io.grown h)⟩
 have := h.block i (by rw [drew_heap]; exact hi) (fun e => hne (Option.some.inj e))
 rw [drew_heap] at this
 exact this
/-- Scopes whose sets are not that one lie as they lay. -/
theorem Chain.kept1 {W W' : World} {m : Nat} (hk : KeptBut1 m W W') (hm : ∃ D n ns, SetAt W m n ns ∧ D = m) : ∀ {l : List Sc}, Chain W l → m ∉ l.map Sc.m → Chain W' l
 | [], _, _ => trivial
 | s :: r, h, hn => by
  obtain ⟨D, n, ns, hS, _⟩ := hm
  simp only [List.map_cons, List.mem_cons, not_or] at hn
  have hb : s.b ≠ m := by
   intro e
   obtain ⟨D', ⟨es, cc, h1, _⟩, _⟩ := hS
   have hq := h.1
   rw [e, h1] at hq
   cases hq
  exact ⟨(hk.block _ (Array.getElem?_eq_some_iff.1 h.1).1 hb).trans h.1, h.2.1.block (hk.block _ h.2.1.lt (fun e => hn.1 e.symm)), Chain.kept1 hk ⟨D, n, ns, hS, ‹_›⟩ h.2.2 hn.2⟩
/-- The scope with one name more. -/
def Sc.add (c : Sc) (s : Bytes) : Sc := ⟨c.b, c.m, c.n + 1, c.ns ++ [s]⟩
def thrown : List PanicEntry := [{ v := .iface 27 (.int .i64 70), recovered := false }]
/-- What telling leaves: the scope with the name, or what is thrown. -/
def ToldPost (W : World) (c : Sc) (r : List Sc) (o : Option Sc) (e : Ending) (W' : World) : Prop :=
 KeptBut1 c.m W W' ∧ match o with
 | none => e = .panicked thrown
 | some c' => e = .returned (.tuple #[]) ∧ c'.b = c.b ∧ c'.m = c.m ∧ Chain W' (c' :: r)
def tellSc (c : Sc) (r : List Sc) (s : Bytes) : Option Sc := if toldIn (c :: r) s then none else some (c.add s)
theorem tell_any (W : World) (c : Sc) (r : List Sc) (s : Bytes) (hs : s.length ≤ 12000000) (hn : c.n < 12000000) (h : Chain W (c :: r)) (hd : c.m ∉ r.map Sc.m) :
  Calls Tryz.prog 86 #[.pointer (some ⟨c.b, 0, none⟩), .string (bs s)] W fun e W' => ToldPost W c r (tellSc c r s) e W' := by
 cases ht : toldIn (c :: r) s with
 | true =>
  refine (tell_yes W c r s hs h ht).mono ?_
  rintro e W' ⟨rfl, n, rfl⟩
  refine ⟨KeptBut1.drew _ _ _, ?_⟩
  simp [tellSc, ht, thrown]
 | false =>
  refine (tell_no W c r s hs hn h ht).mono ?_
  rintro e W' ⟨rfl, hS, n, hg⟩
  have hk := KeptBut1.grown hg
  have hb : c.b ≠ c.m := by
   intro e
   obtain ⟨D', ⟨es, cc, h1, _⟩, _⟩ := h.2.1
   have hq := h.1
   rw [e, h1] at hq
   cases hq
  rw [show tellSc c r s = some (c.add s) by simp [tellSc, ht]]
  refine ⟨hk, ?_⟩
  exact ⟨rfl, rfl, rfl, (hk.block _ (Array.getElem?_eq_some_iff.1 h.1).1 hb).trans h.1, hS, Chain.kept1 hk ⟨c.m, _, _, h.2.1, rfl⟩ h.2.2 hd⟩
/-- An item's own name told, or nothing. -/
theorem tellItem_any (W : World) (b o : Nat) (op : Int) (nm : Bytes) (c : Sc) (r : List Sc) (h0 : W.cell? ⟨b, o, none⟩ = some (.int .i64 op)) (h1 : W.cell? ⟨b, o + 1, none⟩ = some (.string (bs nm)))
  (hs : nm.length ≤ 12000000) (hn : c.n < 12000000) (h : Chain W (c :: r)) (hd : c.m ∉ r.map Sc.m) :
  Calls Tryz.prog 160 #[.pointer (some ⟨b, o, none⟩), tellF c] W fun e W' => ToldPost W c r (if ownOp op then tellSc c r nm else some c) e W' := by
 cases hop : ownOp op with
 | true =>
  refine tellItem_own W b o op nm c _ h0 h1 hop ((tell_any W c r nm hs hn h hd).mono ?_)
  intro e W' hp
  refine ⟨?_, by simpa using hp⟩
  have h2 := hp.2
  cases hc : tellSc c r nm with
  | none => rw [hc] at h2; exact .inr ⟨_, h2⟩
  | some c' => rw [hc] at h2; exact .inl h2.1
 | false =>
  refine (tellItem_no W ⟨b, o, none⟩ op c h0 hop).mono ?_
  rintro e W' ⟨rfl, rfl⟩
  exact ⟨KeptBut1.refl _ _, rfl, rfl, rfl, h⟩
/-- Names told one after the other. -/
def tellAll (c : Sc) (r : List Sc) : List Bytes → Option Sc
 | [] => some c
 | s :: t => (tellSc c r s).bind fun c' => tellAll c' r t
end Go.Proofs.YtiipjbafdhijlaaGreatDoor
namespace Go.Proofs.YtiipjbafdhijlaaGreatDoor
open Go Go.RowKit
set_option linter.unusedVariables false
set_option linter.unusedSimpArgs false
open Go.Sort
theorem KeptBut1.to {n m : Nat} {W W' : World} (h : KeptBut1 m W W') (hn : n ≤ W.heap.size) (hm : n ≤ m) : KeptTo n W W' := by
 intro b o x hb hx
 rw [World.cell?_of_block (w := W) (h.block b (by omega) (by omega))]
 exact hx
theorem tellAll_snoc (c : Sc) (r : List Sc) (l : List Bytes) (s : Bytes) : tellAll c r (l ++ [s]) = (tellAll c r l).bind fun c' => tellSc c' r s := by
 induction l generalizing c with
 | nil => simp [tellAll]
 | cons t l ih =>
  simp only [List.cons_append, tellAll]
  cases tellSc c r t with
  | none => rfl
  | some c' => exact ih c'
theorem tellAll_none (c : Sc) (r : List Sc) (l m : List Bytes) (h : tellAll c r l = none) : tellAll c r (l ++ m) = none := by
 induction l generalizing c with
 | nil => simp [tellAll] at h
 | cons t l ih =>
  simp only [List.cons_append, tellAll] at h ⊢
  cases ht : tellSc c r t with
  | none => rfl
  | some c' => rw [ht] at h; exact ih c' h
theorem tellAll_n (c : Sc) (r : List Sc) (l : List Bytes) (c' : Sc) (h : tellAll c r l = some c') : c'.n = c.n + l.length ∧ c'.b = c.b ∧ c'.m = c.m := by
 induction l generalizing c with
 | nil => simp only [tellAll, Option.some.injEq] at h; subst h; simp
 | cons t l ih =>
  simp only [tellAll] at h
  cases ht : tellSc c r t with
  | none => rw [ht] at h; cases h
  | some c2 =>
   rw [ht] at h
   have h2 := ih c2 h
   unfold tellSc at ht
   split at ht
   ·cases ht
   ·cases ht
    simp only [Sc.add, List.length_cons] at h2 ⊢
    exact ⟨by omega, h2.2⟩
end Go.Proofs.YtiipjbafdhijlaaGreatDoor
namespace Go.Proofs.YtiipjbafdhijlaaGreatDoor
open Go Go.RowKit
set_option linter.unusedVariables false
set_option linter.unusedSimpArgs false
open Go.Sort
theorem kept_below {m : Nat} {W W' : World} (h : Below W.heap.size W W') : KeptBut1 m W W' := ⟨h.size, fun i hi _ => h.block i hi, Io.below h⟩
set_option maxHeartbeats 4000000 in
set_option maxRecDepth 100000 in
theorem tellHead_any (W : World) (n0 : Nat) (nm : Bytes) (pa ta ia : Option Addr) (pc tc ic il : Nat) (pl : List BT) (tl : List PT) (c : Sc) (r : List Sc) (hn0 : n0 ≤ W.heap.size) (hm : n0 ≤ c.m)
  (hp : InRow 7 BT.cells (BT.In n0 W) n0 W pl pa) (ht : InRow 8 PT.cells (PT.In n0 W) n0 W tl ta)
  (hpl : pl.length ≤ 4500000) (htl : tl.length ≤ 4500000) (hps : ∀ b ∈ pl, b.nm.length ≤ 12000000) (hts : ∀ b ∈ tl, b.nm.length ≤ 12000000) (hn : c.n ≤ 1500000) (h : Chain W (c :: r)) (hd : c.m ∉ r.map Sc.m) :
  Calls Tryz.prog 118 #[.agg #[.string (bs nm), .slice pa pl.length pc, .slice ta tl.length tc, .slice ia il ic], tellF c] W fun e W' => ToldPost W c r (tellAll c r (pl.map BT.nm ++ tl.map PT.nm)) e W' := by
 have hsz := h.2.1.lt
 have HP := Lib.hid hp
 have HT := Lib.hid ht
 have hW0 : Below W.heap.size W (W.alloc (.cells #[.string (bs nm), .slice pa pl.length pc, .slice ta tl.length tc, .slice ia il ic] 39)) := (Below.refl _ _).alloc (Nat.le_refl _) _
 have hB0 := World.alloc_heap_new W (.cells #[.string (bs nm), .slice pa pl.length pc, .slice ta tl.length tc, .slice ia il ic] 39)
 have hz0 : (W.alloc (.cells #[.string (bs nm), .slice pa pl.length pc, .slice ta tl.length tc, .slice ia il ic] 39)).heap.size = W.heap.size + 1 := by simp
 have hC0 := h.keep hW0
 have HD := Lib.hid hd
 clear hp ht h hd
 unfold tellF
 go_enter Tryz.func118, Tryz.ntmps118
 go_wp2_with fail
 generalize W.alloc (.cells #[.string (bs nm), .slice pa pl.length pc, .slice ta tl.length tc, .slice ia il ic] 39) = W0 at *
 go_loopg [11] pl.length (fun g u wr => ∃ (k : Nat) (c' : Sc), u = .int .i64 k ∧ k + g = pl.length ∧ tellAll c r ((pl.map BT.nm).take k) = some c' ∧ Chain wr (c' :: r) ∧ KeptBut1 c.m W0 wr)
 case atStart => exact ⟨0, c, rfl, by omega, by simp [tellAll], hC0, KeptBut1.refl _ _⟩
 case round =>
  obtain ⟨k, c', rfl, hk, htl', hch, hkb⟩ := hrel
  have hcn := tellAll_n _ _ _ _ htl'
  simp only [List.length_take, List.length_map] at hcn
  obtain ⟨hcn, hcb, hcm⟩ := hcn
  by_cases hlt : k < pl.length
  ·have d1 : decide (k < pl.length) = true := by simpa using hlt
   have d2 : decide ((k : Int) < (pl.length : Int)) = true := by rw [decide_eq_true_eq]; omega
   have x1 : (k : Int) < (pl.length : Int) := by omega
   have hkt : KeptTo n0 W wr := KeptTo.trans (Below.keptTo hW0 hn0) (hkb.to (by omega) hm)
   obtain ⟨b, o, rfl, hb, hr, hin⟩ := (HP.out).at hlt
   have hsn := hps _ (List.getElem_mem hlt)
   have HTK : Hid (tellAll c r ((pl.map BT.nm).take (k + 1)) = tellSc c' r pl[k].nm) := Lib.hid (by
    rw [List.take_succ_eq_append_getElem (by simpa using hlt), tellAll_snoc, htl']
    simp)
   have HALL : Hid (tellSc c' r pl[k].nm = none → tellAll c r (pl.map BT.nm ++ tl.map PT.nm) = none) := Lib.hid (fun e => by
    have := tellAll_none c r _ ((pl.map BT.nm).drop (k + 1) ++ tl.map PT.nm) (HTK.out.trans e)
    rwa [← List.append_assoc, List.take_append_drop] at this)
   generalize pl[k] = x at *
   obtain ⟨bn, op, xnm, xn, wd, v, xa, xc, xl⟩ := x
   have r0 : wr.cell? ⟨b, o + k * 7, none⟩ = some (.string (bs bn)) := hkt _ _ _ hb (hr 0 _ rfl)
   have r1 : wr.cell? ⟨b, o + k * 7 + 1, none⟩ = some (.int .i64 op) := hkt _ _ _ hb (hr 1 _ rfl)
   have r2 : wr.cell? ⟨b, o + k * 7 + 2, none⟩ = some (.string (bs xnm)) := hkt _ _ _ hb (hr 2 _ rfl)
   have r3 : wr.cell? ⟨b, o + k * 7 + 3, none⟩ = some (.int .i64 xn) := hkt _ _ _ hb (hr 3 _ rfl)
   have r4 : wr.cell? ⟨b, o + k * 7 + 4, none⟩ = some (.int .i64 wd) := hkt _ _ _ hb (hr 4 _ rfl)
   have r5 : wr.cell? ⟨b, o + k * 7 + 5, none⟩ = some (.int .u64 (v : Int)) := hkt _ _ _ hb (hr 5 _ rfl)
   have r6 : wr.cell? ⟨b, o + k * 7 + 6, none⟩ = some (.slice xa xl.length xc) := hkt _ _ _ hb (hr 6 _ rfl)
   clear hr hin
   have hal : Below wr.heap.size wr (wr.alloc (.cells #[.string (bs bn), .int .i64 op, .string (bs xnm), .int .i64 xn, .int .i64 wd, .int .u64 (v : Int), .slice xa xl.length xc] 78)) := (Below.refl _ _).alloc (Nat.le_refl _) _
   have hq := tell_any _ c' r bn hsn (by omega) (hch.keep hal) (by rw [hcm]; exact HD.out)
   rw [hcb] at hq
   have hk1 : KeptBut1 c.m W0 (wr.alloc (.cells #[.string (bs bn), .int .i64 op, .string (bs xnm), .int .i64 xn, .int .i64 wd, .int .u64 (v : Int), .slice xa xl.length xc] 78)) := hkb.trans (kept_below hal)
   have HK := Lib.hid hk1
   clear hk1 hal hkt htl' hch
   go_wp2_with fail
   refine hq.mono ?_
   rintro e W' ⟨hkk, hpo⟩
   rw [hcm] at hkk
   have hk2 := HK.out.trans hkk
   replace HTK := HTK.out
   replace HALL := HALL.out
   change tellAll c r ((pl.map BT.nm).take (k + 1)) = tellSc c' r bn at HTK
   change tellSc c' r bn = none → _ at HALL
   cases hts' : tellSc c' r bn with
   | none =>
    rw [hts'] at hpo
    subst hpo
    refine ⟨rfl, ?_⟩
    show ToldPost W c r _ _ _
    rw [HALL hts']
    exact ⟨(kept_below hW0).trans hk2, rfl⟩
   | some c2 =>
    rw [hts'] at hpo HTK
    obtain ⟨rfl, h2b, h2m, h2c⟩ := hpo
    have H2 := Lib.hid (And.intro HTK (And.intro h2c hk2))
    clear HTK HALL hkk hk2 h2c HK
    go_wp2_with fail
    cases gk with
    | zero => omega
    | succ gg =>
     go_roundg gg
     case rel => exact ⟨k + 1, c2, rfl, by omega, H2.out.1, H2.out.2.1, H2.out.2.2⟩
     case measure => omega
  ·have d1 : decide (k < pl.length) = false := by simpa using hlt
   have d2 : decide ((k : Int) < (pl.length : Int)) = false := by rw [decide_eq_false_iff_not]; omega
   have htp : tellAll c r (pl.map BT.nm) = some c' := by rw [List.take_of_length_le (by simp; omega)] at htl'; exact htl'
   have hbx := (hkb.block W.heap.size (by omega) (by omega)).trans hB0
   have z2 : wr.cell? ⟨W.heap.size, 2, none⟩ = some (.slice ta tl.length tc) := by simp [World.cell?, hbx]
   clear htl' hlt hcn hk
   go_wp2_with fail
   clear z2 hbx d1 d2
   generalize wr = W1 at *
   obtain ⟨c1, hc1⟩ : ∃ c1, c' = c1 := ⟨_, rfl⟩
   rw [hc1] at htp hch hcb hcm
   clear hc1 c'
   go_loopg [23] tl.length (fun g u wr => ∃ (k : Nat) (c' : Sc), u = .int .i64 k ∧ k + g = tl.length ∧ tellAll c r (pl.map BT.nm ++ (tl.map PT.nm).take k) = some c' ∧ Chain wr (c' :: r) ∧ KeptBut1 c.m W0 wr)
   case atStart => exact ⟨0, c1, rfl, by omega, by simpa using htp, hch, hkb⟩
   case round =>
   clear hch hkb hcb hcm htp
   obtain ⟨k, c', rfl, hk, htl', hch, hkb⟩ := hrel
   have hcn := tellAll_n _ _ _ _ htl'
   simp only [List.length_append, List.length_take, List.length_map] at hcn
   obtain ⟨hcn, hcb, hcm⟩ := hcn
   by_cases hlt : k < tl.length
   ·have d1 : decide (k < tl.length) = true := by simpa using hlt
    have d2 : decide ((k : Int) < (tl.length : Int)) = true := by rw [decide_eq_true_eq]; omega
    have x1 : (k : Int) < (tl.length : Int) := by omega
    have hkt : KeptTo n0 W wr := KeptTo.trans (Below.keptTo hW0 hn0) (hkb.to (by omega) hm)
    obtain ⟨b, o, rfl, hb, hr, hin⟩ := (HT.out).at hlt
    have hsn := hts _ (List.getElem_mem hlt)
    have HTK : Hid (tellAll c r (pl.map BT.nm ++ (tl.map PT.nm).take (k + 1)) = tellSc c' r tl[k].nm) := Lib.hid (by
     rw [List.take_succ_eq_append_getElem (by simpa using hlt), ← List.append_assoc, tellAll_snoc, htl']
     simp)
    have HALL : Hid (tellSc c' r tl[k].nm = none → tellAll c r (pl.map BT.nm ++ tl.map PT.nm) = none) := Lib.hid (fun e => by
     have := tellAll_none c r _ ((tl.map PT.nm).drop (k + 1)) (HTK.out.trans e)
     rwa [List.append_assoc, List.take_append_drop] at this)
    generalize tl[k] = x at *
    obtain ⟨bn, po, op, xnm, xn, wd, v, xa, xc, xl⟩ := x
    have r0 : wr.cell? ⟨b, o + k * 8, none⟩ = some (.string (bs bn)) := hkt _ _ _ hb (hr 0 _ rfl)
    have r1 : wr.cell? ⟨b, o + k * 8 + 1, none⟩ = some (.bool po) := hkt _ _ _ hb (hr 1 _ rfl)
    have r2 : wr.cell? ⟨b, o + k * 8 + 2, none⟩ = some (.int .i64 op) := hkt _ _ _ hb (hr 2 _ rfl)
    have r3 : wr.cell? ⟨b, o + k * 8 + 3, none⟩ = some (.string (bs xnm)) := hkt _ _ _ hb (hr 3 _ rfl)
    have r4 : wr.cell? ⟨b, o + k * 8 + 4, none⟩ = some (.int .i64 xn) := hkt _ _ _ hb (hr 4 _ rfl)
    have r5 : wr.cell? ⟨b, o + k * 8 + 5, none⟩ = some (.int .i64 wd) := hkt _ _ _ hb (hr 5 _ rfl)
    have r6 : wr.cell? ⟨b, o + k * 8 + 6, none⟩ = some (.int .u64 (v : Int)) := hkt _ _ _ hb (hr 6 _ rfl)
    have r7 : wr.cell? ⟨b, o + k * 8 + 7, none⟩ = some (.slice xa xl.length xc) := hkt _ _ _ hb (hr 7 _ rfl)
    clear hr hin
    have hal : Below wr.heap.size wr (wr.alloc (.cells #[.string (bs bn), .bool po, .int .i64 op, .string (bs xnm), .int .i64 xn, .int .i64 wd, .int .u64 (v : Int), .slice xa xl.length xc] 76)) := (Below.refl _ _).alloc (Nat.le_refl _) _
    have hq := tell_any _ c' r bn hsn (by omega) (hch.keep hal) (by rw [hcm]; exact HD.out)
    rw [hcb] at hq
    have HK := Lib.hid (hkb.trans (kept_below (m := c.m) hal))
    clear hal hkt htl' hch
    go_wp2_with fail
    refine hq.mono ?_
    rintro e W' ⟨hkk, hpo⟩
    rw [hcm] at hkk
    have hk2 := HK.out.trans hkk
    replace HTK := HTK.out
    replace HALL := HALL.out
    change tellAll c r (pl.map BT.nm ++ (tl.map PT.nm).take (k + 1)) = tellSc c' r bn at HTK
    change tellSc c' r bn = none → _ at HALL
    cases hts' : tellSc c' r bn with
    | none =>
     rw [hts'] at hpo
     subst hpo
     refine ⟨rfl, ?_⟩
     show ToldPost W c r _ _ _
     rw [HALL hts']
     exact ⟨(kept_below hW0).trans hk2, rfl⟩
    | some c2 =>
     rw [hts'] at hpo HTK
     obtain ⟨rfl, h2b, h2m, h2c⟩ := hpo
     have H2 := Lib.hid (And.intro HTK (And.intro h2c hk2))
     clear HTK HALL hkk hk2 h2c HK
     go_wp2_with fail
     cases gk with
     | zero => omega
     | succ gg =>
      go_roundg gg
      case rel => exact ⟨k + 1, c2, rfl, by omega, H2.out.1, H2.out.2.1, H2.out.2.2⟩
      case measure => omega
   ·have d1 : decide (k < tl.length) = false := by simpa using hlt
    have d2 : decide ((k : Int) < (tl.length : Int)) = false := by rw [decide_eq_false_iff_not]; omega
    have htp : tellAll c r (pl.map BT.nm ++ tl.map PT.nm) = some c' := by rw [List.take_of_length_le (by simp; omega)] at htl'; exact htl'
    have HF : Hid (ToldPost W c r (tellAll c r (pl.map BT.nm ++ tl.map PT.nm)) (.returned (.tuple #[])) wr) := Lib.hid (by
     rw [htp]
     exact ⟨(kept_below hW0).trans hkb, rfl, hcb, hcm, hch⟩)
    clear htl' hlt hch hkb htp
    go_wp2_with fail
    exact bodyPost_end (results_none rfl _ _ _) rfl HF.out
end Go.Proofs.YtiipjbafdhijlaaGreatDoor
