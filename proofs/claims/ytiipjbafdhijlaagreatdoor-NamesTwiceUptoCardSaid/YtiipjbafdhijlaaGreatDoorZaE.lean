/-
  NaE, in one text.
-/
import Derived.Test.YtiipjbafdhijlaaGreatDoorZaC
import Derived.Maps.RangeWalk
import Derived.Maps.OwnSet
import Derived.Laws.IdiomRangeMap
import Derived.Sort.MapsRangeIn
import Derived.BigQuiet
import Derived.Deep.QuietTactic
import Derived.Deep.RegionLaw
import Derived.RegionTactic
import Derived.BigRegion
import Derived.Test.YtiipjbafdhijlaaGreatDoorZAr
namespace Go.Proofs.YtiipjbafdhijlaaGreatDoor
open Go Go.RowKit
set_option linter.unusedVariables false
set_option linter.unusedSimpArgs false
open Go.Maps (Keyed)
open Go.Sort
def R0 (v : Value) : Option (DataW Value × List MemPlace) := some (.held v, [])
def zs : Value := .slice none 0 0
/-- What a key's value is: what was put last. -/
def valU : List (Bytes × Value) → Bytes → Value
 | [], _ => zs
 | p :: r, s => if (r.map Prod.fst).contains s = true then valU r s else if p.1 = s then p.2 else zs
theorem valU_snoc : ∀ (L : List (Bytes × Value)) (k : Bytes) (v : Value) (s : Bytes), valU (L ++ [(k, v)]) s = if k = s then v else valU L s
 | [], k, v, s => by simp [valU]
 | p :: r, k, v, s => by
  rw [List.cons_append, valU, valU_snoc r k v s, valU]
  by_cases e : k = s
  ·simp [e]
  ·have : ((r ++ [(k, v)]).map Prod.fst).contains s = (r.map Prod.fst).contains s := by
    rw [Bool.eq_iff_iff, List.contains_iff_mem, List.contains_iff_mem]
    simp only [List.map_append, List.map_cons, List.map_nil, List.mem_append, List.mem_singleton]
    exact ⟨fun h => h.resolve_right (fun h => e h.symm), .inl⟩
   rw [this, if_neg e, if_neg e]
theorem valU_at : ∀ (L : List (Bytes × Value)), (L.map Prod.fst).Nodup → ∀ i (h : i < L.length), valU L L[i].1 = L[i].2
 | p :: r, hn, 0, h => by
  rw [valU]
  rw [List.map_cons, List.nodup_cons] at hn
  have : (r.map Prod.fst).contains p.1 = false := by
   cases hc : (r.map Prod.fst).contains p.1
   ·rfl
   ·exact absurd (List.contains_iff_mem.1 hc) hn.1
  show (if (r.map Prod.fst).contains p.1 = true then valU r p.1 else if p.1 = p.1 then p.2 else zs) = p.2
  rw [this, if_neg (by simp), if_pos rfl]
 | p :: r, hn, i + 1, h => by
  rw [valU]
  rw [List.map_cons, List.nodup_cons] at hn
  have hi : i < r.length := by simpa using h
  have hm : (r.map Prod.fst).contains r[i].1 = true := List.contains_iff_mem.2 (List.mem_map.2 ⟨r[i], List.getElem_mem hi, rfl⟩)
  simp only [List.getElem_cons_succ]
  rw [if_pos hm]
  exact valU_at r hn.2 i hi
theorem valU_no : ∀ (L : List (Bytes × Value)) (s : Bytes), s ∉ L.map Prod.fst → valU L s = zs
 | [], s, _ => rfl
 | p :: r, s, h => by
  rw [List.map_cons, List.mem_cons, not_or] at h
  have : (r.map Prod.fst).contains s = false := by
   cases hc : (r.map Prod.fst).contains s
   ·rfl
   ·exact absurd (List.contains_iff_mem.1 hc) h.2
  rw [valU, this, if_neg (by simp), if_neg (fun e => h.1 e.symm)]
def UMap (W : World) (mb n : Nat) (L : List (Bytes × Value)) : Prop := ∃ D : DataW Value, W.ownsMap Tryz.prog 9 R0 mb n D ∧ ∀ s : Bytes, D.atKey (.string s) (.held zs) = .held (valU L s) ∧ Maps.has D (.string s) = (L.map Prod.fst).contains s
theorem UMap.block {W W' : World} {mb n : Nat} {L : List (Bytes × Value)} (h : UMap W mb n L) (hb : W'.heap[mb]? = W.heap[mb]?) : UMap W' mb n L := by
 obtain ⟨D, ⟨es, c, h1, h2⟩, hD⟩ := h
 exact ⟨D, ⟨es, c, hb.trans h1, h2⟩, hD⟩
theorem UMap.lt {W : World} {mb n : Nat} {L : List (Bytes × Value)} (h : UMap W mb n L) : mb < W.heap.size := by
 obtain ⟨D, ho, _⟩ := h
 exact ho.lt
theorem umap_made (w : World) : UMap (w.alloc (.map #[] 0)) w.heap.size 0 [] := ⟨.map [], World.ownsMap_made w _ _ _, fun s => ⟨by rfl, by rfl⟩⟩
theorem zeroS (w : World) : (zeroValue 29).run Tryz.prog w = .ok zs w := by kernel_rfl
theorem UMap.look {W : World} {mb n : Nat} {L : List (Bytes × Value)} (h : UMap W mb n L) (s : Bytes) (hs : s.length ≤ 12000000) : (Instr.lookup 64 (.map (some mb)) (.string (bs s)) false).run Tryz.prog W = .ok (valU L s) W := by
 obtain ⟨D, ho, hD⟩ := h
 obtain ⟨v, ps, hrun, hv⟩ := ho.lookup law_str Tryz.underlying64 (zeroS W) (show R0 zs = some (.held zs, []) from rfl) (key_str s hs)
 rw [(hD s).1] at hv
 simp only [R0, Option.some.injEq, Prod.mk.injEq, DataW.held.injEq] at hv
 rw [hrun, hv.1]
theorem UMap.lookOk {W : World} {mb n : Nat} {L : List (Bytes × Value)} (h : UMap W mb n L) (s : Bytes) (hs : s.length ≤ 12000000) : (Instr.lookup 64 (.map (some mb)) (.string (bs s)) true).run Tryz.prog W = .ok (.tuple #[valU L s, .bool ((L.map Prod.fst).contains s)]) W := by
 obtain ⟨D, ho, hD⟩ := h
 obtain ⟨v, ps, hrun, hv⟩ := ho.look_ok law_str Tryz.underlying64 (zeroS W) (show R0 zs = some (.held zs, []) from rfl) (key_str s hs)
 rw [(hD s).1] at hv
 simp only [R0, Option.some.injEq, Prod.mk.injEq, DataW.held.injEq] at hv
 rw [hrun, hv.1, (hD s).2]
set_option maxRecDepth 100000 in
theorem UMap.put {W : World} {mb n : Nat} {L : List (Bytes × Value)} (h : UMap W mb n L) (hn : n < 12000000) (s : Bytes) (hs : s.length ≤ 12000000) (v : Value) : ∃ W', (Instr.mapUpdate 64 (.map (some mb)) (.string (bs s)) v).run Tryz.prog W = .ok () W' ∧ UMap W' mb (n + 1) (L ++ [(s, v)]) ∧ W.grownBy W' (some mb) := by
 obtain ⟨D, ho, hD⟩ := h
 have hm := ho.isMap
 obtain ⟨W', hrun, ho', hg⟩ := ho.update law_str Tryz.underlying64 (by unfold maxLen; omega) (key_str s hs) (show R0 v = some (.held v, []) from rfl)
 refine ⟨W', hrun, ⟨_, ho', fun s' => ?_⟩, hg⟩
 rw [valU_snoc]
 by_cases e : s' = s
 ·subst e
  rw [Maps.atKey_put_same hm (by simp [WideAt.IsKeyLit]), Maps.has_put_same hm (by simp [WideAt.IsKeyLit])]
  simp
 ·have hne : (Lit.string s') ≠ (Lit.string s) := by intro h; cases h; exact e rfl
  rw [Maps.atKey_put_other hne, Maps.has_put_other hne, (hD s').1, (hD s').2, if_neg (fun h => e h.symm)]
  refine ⟨rfl, ?_⟩
  rw [Bool.eq_iff_iff, List.contains_iff_mem, List.contains_iff_mem]
  simp [e]
/-- A row of texts, from a block on. -/
def SRow (lo : Nat) (W : World) (v : Value) (l : List Bytes) : Prop := ∃ a c, v = .slice a l.length c ∧ (l = [] ∨ ∃ b o, a = some ⟨b, o, none⟩ ∧ lo ≤ b ∧ b < W.heap.size ∧ ∀ i (h : i < l.length), W.cell? ⟨b, o + i, none⟩ = some (.string (bs l[i])))
theorem SRow.keep {lo : Nat} {W W' : World} {v : Value} {l : List Bytes} (h : SRow lo W v l) (hz : W.heap.size ≤ W'.heap.size) (hk : ∀ i, lo ≤ i → i < W.heap.size → W'.heap[i]? = W.heap[i]?) : SRow lo W' v l := by
 obtain ⟨a, c, hv, hr⟩ := h
 refine ⟨a, c, hv, hr.imp id ?_⟩
 rintro ⟨b, o, ha, h1, h2, h3⟩
 exact ⟨b, o, ha, h1, Nat.lt_of_lt_of_le h2 hz, fun i hi => by rw [World.cell?_of_block (w := W) (hk b h1 h2)]; exact h3 i hi⟩
theorem SRow.zero (lo : Nat) (W : World) : SRow lo W zs [] := ⟨none, 0, rfl, .inl rfl⟩
theorem srow_of {W : World} {base : Nat} {v : Value} {l : List Bytes} (h : W.ownsRow base 9 1 v l.length (strs l)) : SRow base W v l := by
 rcases h.2 with ⟨rfl, h0⟩ | ⟨q, cap, cur, rfl, hq, hh, _⟩
 ·have : l = [] := List.length_eq_zero_iff.1 h0
  subst this
  exact ⟨none, 0, rfl, .inl rfl⟩
 ·refine ⟨some ⟨q, 0, none⟩, cap, rfl, .inr ⟨q, 0, rfl, hq, (Array.getElem?_eq_some_iff.1 hh).1, fun i hi => ?_⟩⟩
  have hc := h.cells (g := q) rfl i (.string (bs l[i])) (by simp [strs, hi])
  rw [Addr.add_mid] at hc
  exact hc
set_option maxHeartbeats 4000000 in
set_option maxRecDepth 100000 in
theorem misses_any (W : World) (pb mb n : Nat) (ov : Value) (L : List (Bytes × Value)) (hp : W.heap[pb]? = some (.cells #[.map (some mb), ov] 66 (0, 0))) (hu : UMap W mb n L) (s : Bytes) (hs : s.length ≤ 12000000) :
  Calls Tryz.prog 89 #[.pointer (some ⟨pb, 0, none⟩), .string (bs s)] W fun e W' => e = .returned (.bool (!(L.map Prod.fst).contains s)) ∧ W' = W := by
 have hl := hu.lookOk s hs
 have y0 : W.cell? ⟨pb, 0, none⟩ = some (.map (some mb)) := by simp [World.cell?, hp]
 obtain ⟨k, hk⟩ : ∃ k, (L.map Prod.fst).contains s = k := ⟨_, rfl⟩
 obtain ⟨v, hv⟩ : ∃ v, valU L s = v := ⟨_, rfl⟩
 rw [hk, hv] at hl
 rw [hk]
 clear hk hv hp hu
 go_enter Tryz.func89, Tryz.ntmps89
 go_wp2
 go_ret
 exact ⟨rfl, rfl⟩
def missF (pb : Nat) : Value := .func (.func 89) #[.pointer (some ⟨pb, 0, none⟩)] #[]
set_option maxHeartbeats 4000000 in
set_option maxRecDepth 100000 in
theorem indexM_any (W : World) (pb : Nat) (K : Bytes → Bool) (a : Option Addr) (c : Nat) (l : List Bytes) (hll : l.length ≤ 12000000) (hm : ∀ s ∈ l, Calls Tryz.prog 89 #[.pointer (some ⟨pb, 0, none⟩), .string (bs s)] W fun e W' => e = .returned (.bool (K s)) ∧ W' = W)
  (h1 : l = [] ∨ ∃ b o, a = some ⟨b, o, none⟩ ∧ ∀ i (h : i < l.length), W.cell? ⟨b, o + i, none⟩ = some (.string (bs l[i]))) :
  Calls Tryz.prog 100 #[.slice a l.length c, missF pb] W fun e W' => (∃ r : Int, e = .returned (.int .i64 r) ∧ decide (0 ≤ r) = l.any K ∧ r ≤ 12000000) ∧ W' = W := by
 have H1 := Lib.hid (And.intro h1 hm)
 clear h1 hm
 obtain ⟨R, hR⟩ : ∃ R, l.any K = R := ⟨_, rfl⟩
 rw [hR]
 have HR := Lib.hid hR
 clear hR
 unfold missF
 go_enter Tryz.func100, Tryz.ntmps100
 go_wp2
 go_loopg [8] l.length (fun g u wr => ∃ k : Nat, u = .int .i64 k ∧ k + g = l.length ∧ (l.drop k).any K = R ∧ wr = W)
 case atStart => exact ⟨0, rfl, by omega, by rw [List.drop_zero]; exact HR.out, rfl⟩
 case round =>
  obtain ⟨k, rfl, hk, hdr, rfl⟩ := hrel
  have HD := Lib.hid hdr
  clear hdr
  by_cases hlt : k < l.length
  ·have d1 : decide (k < l.length) = true := by simpa using hlt
   have d2 : decide ((k : Int) < (l.length : Int)) = true := by rw [decide_eq_true_eq]; omega
   have x1 : (k : Int) < (l.length : Int) := by omega
   obtain ⟨b1, o1, rfl, hL1⟩ := (H1.out.1).resolve_left (by intro h; rw [h] at hlt; simp at hlt)
   have r0 := hL1 k hlt
   have q := H1.out.2 l[k] (List.getElem_mem hlt)
   have hdk : (l.drop k).any K = (K l[k] || (l.drop (k + 1)).any K) := by rw [← List.getElem_cons_drop hlt, List.any_cons]
   have HK := Lib.hid hdk
   clear hL1 hdk
   generalize l[k] = t at *
   cases hc : K t with
   | true =>
    rw [hc] at q
    have HE : Hid (R = true) := Lib.hid (by rw [← HD.out, HK.out, hc]; rfl)
    clear HK HD H1 HR hc
    go_wp2_with fail
    refine q.mono ?_
    rintro e w' ⟨rfl, rfl⟩
    go_wp2
    go_ret
    exact ⟨⟨_, rfl, by rw [HE.out]; simp, by omega⟩, rfl⟩
   | false =>
    rw [hc] at q
    have HE : Hid ((l.drop (k + 1)).any K = R) := Lib.hid (by rw [← HD.out, HK.out, hc]; rfl)
    clear HK HD HR hc
    go_wp2_with fail
    refine q.mono ?_
    rintro e w' ⟨rfl, rfl⟩
    clear q
    go_wp2
    cases gk with
    | zero => omega
    | succ gg =>
     go_roundg gg
     case rel => exact ⟨k + 1, rfl, by omega, HE.out, rfl⟩
     case measure => omega
  ·have d1 : decide (k < l.length) = false := by simpa using hlt
   have d2 : decide ((k : Int) < (l.length : Int)) = false := by rw [decide_eq_false_iff_not]; omega
   have HE : Hid (R = false) := Lib.hid (by rw [← HD.out, List.drop_eq_nil_of_le (by omega)]; rfl)
   clear HD H1 HR
   go_wp2
   go_ret
   exact ⟨⟨_, rfl, by rw [HE.out]; decide, by omega⟩, rfl⟩
set_option maxHeartbeats 4000000 in
set_option maxRecDepth 100000 in
theorem containsM_any (W : World) (pb : Nat) (K : Bytes → Bool) (a : Option Addr) (c : Nat) (l : List Bytes) (hll : l.length ≤ 12000000) (hm : ∀ s ∈ l, Calls Tryz.prog 89 #[.pointer (some ⟨pb, 0, none⟩), .string (bs s)] W fun e W' => e = .returned (.bool (K s)) ∧ W' = W)
  (h1 : l = [] ∨ ∃ b o, a = some ⟨b, o, none⟩ ∧ ∀ i (h : i < l.length), W.cell? ⟨b, o + i, none⟩ = some (.string (bs l[i]))) :
  Calls Tryz.prog 88 #[.slice a l.length c, missF pb] W fun e W' => e = .returned (.bool (l.any K)) ∧ W' = W := by
 have q := indexM_any W pb K a c l hll hm h1
 clear hm h1
 obtain ⟨R, hR⟩ : ∃ R, l.any K = R := ⟨_, rfl⟩
 rw [hR] at q ⊢
 clear hR
 obtain ⟨fv, hfv⟩ : ∃ fv, missF pb = fv := ⟨_, rfl⟩
 rw [hfv] at q ⊢
 clear hfv
 go_enter Tryz.func88, Tryz.ntmps88
 go_wp2_with fail
 refine q.mono ?_
 rintro e w' ⟨⟨r, rfl, hr, _⟩, rfl⟩
 clear q
 have hr2 : decide ((0 : Int) ≤ r) = R := hr
 go_wp2
 go_ret
 exact ⟨rfl, rfl⟩
end Go.Proofs.YtiipjbafdhijlaaGreatDoor
namespace Go.Proofs.YtiipjbafdhijlaaGreatDoor
open Go Go.RowKit
set_option linter.unusedVariables false
set_option linter.unusedSimpArgs false
open Go.Maps (Keyed)
open Go.Sort
theorem string_key {x : Bytes} {kl : Lit} (h : keyOf Tryz.prog 9 (.string (bs x)) = some kl) : kl = .string x := by
 rw [keyOf_string Tryz.underlying9] at h
 simp only [mapKey, Tryz.underlying9] at h
 split at h
 ·simpa [bs] using h.symm
 ·cases h
set_option maxHeartbeats 8000000 in
set_option maxRecDepth 100000 in
theorem hasAll_any (W : World) (pb mb n lo : Nat) (ov : Value) (L : List (Bytes × Value)) (us : Bytes → List Bytes) (hp : W.heap[pb]? = some (.cells #[.map (some mb), ov] 66 (0, 0))) (hu : UMap W mb n L)
  (hrow : ∀ s, SRow lo W (valU L s) (us s)) (hlen : ∀ s, (us s).length ≤ 12000000 ∧ ∀ t ∈ us s, t.length ≤ 12000000) :
  Calls Tryz.prog 54 #[.pointer (some ⟨pb, 0, none⟩)] W fun e W' => e = .returned (.bool ((L.map Prod.fst).all fun s => (us s).all fun u => (L.map Prod.fst).contains u)) ∧ Below W.heap.size W W' := by
 obtain ⟨keys, hkeys⟩ : ∃ keys, L.map Prod.fst = keys := ⟨_, rfl⟩
 obtain ⟨R, hR⟩ : ∃ R, (keys.all fun s => (us s).all fun u => keys.contains u) = R := ⟨_, rfl⟩
 rw [hkeys, hR]
 obtain ⟨D, ho, hD⟩ := id hu
 have hmb := ho.lt
 have y0 : W.cell? ⟨pb, 0, none⟩ = some (.map (some mb)) := by simp [World.cell?, hp]
 have HH := Lib.hid (And.intro hp (And.intro hu (And.intro hrow (And.intro hlen (And.intro hD (And.intro hkeys hR))))))
 clear hp hu hrow hlen hD hkeys hR
 go_enter Tryz.func54, Tryz.ntmps54
 go_wp2_with (first
  | (at_range; refine wpList_range_own _ rfl _ 64 rfl 9 29 law_str Tryz.underlying64 R0 mb n D rfl ho ?_; intro w0 hrg0 hg0 hs0)
  | go_in)
 go_frame
 go_loopw [10] (fun _ wr => ∃ (left : Lit → Bool) (cnt : Nat), wr.ranges Tryz.prog 9 R0 mb W.heap.size n D left cnt ∧ (∀ s, Maps.has D (.string s) = true → left (.string s) = false → ((us s).all fun u => keys.contains u) = true) ∧ Below W.heap.size W wr) (fun _ wr => wr.rangeLeft mb W.heap.size)
 case atStart => exact ⟨_, _, hrg0, fun s h1 h2 => (by rw [h1] at h2; cases h2), ⟨hg0.os, hg0.tape, hg0.output, hg0.size, fun i hi => hg0.block i hi (by simp)⟩⟩
 case round =>
  obtain ⟨left, cnt, hrg, hinv, hB⟩ := hrel
  have HI := Lib.hid hinv
  clear hinv hrg0 hg0 hs0
  go_wp2_with (first
   | (at_next; refine wpList_next_ranges _ rfl _ rfl 9 law_str R0 (fun x : Bytes => Value.string (bs x)) id (fun key kl h => (by obtain ⟨s, rfl⟩ := Maps.keyOf_string_inv Tryz.underlying9 h; exact ⟨s.data.toList, by rw [← bs_toList]⟩)) (fun v _ _ => ⟨v, rfl⟩) mb W.heap.size n D left cnt rfl hrg ?_ ?_)
   | go_in)
  ·intro hc0 hl0
   obtain ⟨hp, hu, hrow, hlen, hD, hkeys, hR⟩ := HH.out
   have HE : Hid (R = true) := Lib.hid (by
    rw [← hR, List.all_eq_true]
    intro s hs
    refine HI.out s ?_ (hl0 _)
    rw [(hD s).2, hkeys]
    exact List.contains_iff_mem.2 hs)
   clear hp hu hrow hlen hD hkeys hR
   go_wp2
   go_ret
   exact ⟨by rw [HE.out]; first | done | rfl, hB⟩
  ·intro x c kl yd yp w1 cnt1 hkey hlx hv hat hrg1 hlt hg1 hs1 hen
   obtain ⟨hp, hu, hrow, hlen, hD, hkeys, hR⟩ := HH.out
   have hkl := string_key hkey
   subst hkl
   have hy : yd = .held c := by
    have h1 : some ((.held c : DataW Value), ([] : List MemPlace)) = some (yd, yp) := hv
    have h2 := Option.some.inj h1
    exact (congrArg Prod.fst h2).symm
   have hc : c = valU L x := by
    have h1 := hat (.held zs)
    rw [(hD x).1, hy] at h1
    injection h1 with h2
    exact h2.symm
   have hxk : x ∈ keys := by
    have := Maps.has_true_of_atKey hat
    rw [(hD x).2, hkeys] at this
    exact List.contains_iff_mem.1 this
   have hB1 : Below W.heap.size W w1 := hB.grown hg1 hB.size (fun k e => by cases e; exact Nat.le_refl _)
   have hrow1 := (hrow x).keep (W' := w1) hB1.size (fun i _ hi => hB1.block i hi)
   rw [← hc] at hrow1
   obtain ⟨a, cc, rfl, hcell⟩ := hrow1
   have hplt := (Array.getElem?_eq_some_iff.1 hp).1
   have hp1 := (hB1.block pb hplt).trans hp
   have hu1 := hu.block (hB1.block mb hmb)
   have q := containsM_any w1 pb (fun s => !keys.contains s) a cc (us x) (hlen x).1 (fun s hs => by
    have := misses_any w1 pb mb n ov L hp1 hu1 s ((hlen x).2 s hs)
    rw [hkeys] at this
    exact this) (hcell.imp id (fun ⟨b, o, h1, _, _, h4⟩ => ⟨b, o, h1, h4⟩))
   have HS : Hid (∀ s, Maps.has D (.string s) = true → (left (.string s) && !(Lit.string s).sameKey (.string x)) = false → (us x).any (fun s => !keys.contains s) = false → ((us s).all fun u => keys.contains u) = true) := Lib.hid (by
    intro s h1 h2 h3
    rw [Bool.and_eq_false_iff] at h2
    rcases h2 with h2 | h2
    ·exact HI.out s h1 h2
    ·have h4 : (Lit.string s).sameKey (.string x) = true := by simpa using h2
     have h5 := WideAt.sameKey_eq h4
     injection h5 with h6
     subst h6
     rw [List.all_eq_true]
     intro u hu
     rw [List.any_eq_false] at h3
     simpa using h3 u hu)
   have HN : Hid ((us x).any (fun s => !keys.contains s) = true → R = false) := Lib.hid (by
    intro h
    rw [← hR, List.all_eq_false]
    refine ⟨x, hxk, ?_⟩
    obtain ⟨u, hu, h2⟩ := List.any_eq_true.1 h
    intro h3
    have := List.all_eq_true.1 h3 u hu
    rw [this] at h2; cases h2)
   unfold missF at q
   have HG := Lib.hid (And.intro hrg1 (And.intro hlt hB1))
   have hlq : cnt1 < cnt := hlt
   have hleft0 := hrg.left_eq
   have hleft1 := hrg1.left_eq
   have HL := Lib.hid (And.intro hleft0 (And.intro hleft1 hlq))
   clear hp hu hrow hlen hD hkeys hR hkey hlx hv hat hrg1 hlt hg1 hs1 hy hc hxk hB1 hcell hp1 hu1 hlq hleft0 hleft1 hB hrg
   (try dsimp only [id] at hen)
   go_wp2_with fail
   refine q.mono ?_
   clear q
   rintro e w' ⟨rfl, rfl⟩
   cases hany : (us x).any (fun s => !keys.contains s) with
   | true =>
    have HE := Lib.hid (HN.out hany)
    clear hany
    go_wp2
    go_ret
    exact ⟨by rw [HE.out]; first | done | rfl, HG.out.2.2⟩
   | false =>
    have HS2 := Lib.hid (fun s h1 h2 => HS.out s h1 h2 hany)
    clear hany hen
    go_wp2
    go_roundw
    case rel => exact ⟨_, _, HG.out.1, HS2.out, HG.out.2.2⟩
    case measure => rw [HL.out.1, HL.out.2.1]; exact HL.out.2.2
end Go.Proofs.YtiipjbafdhijlaaGreatDoor
namespace Go.Proofs.YtiipjbafdhijlaaGreatDoor
open Go Go.RowKit
set_option linter.unusedVariables false
set_option linter.unusedSimpArgs false
open Go.Sort
/-- The plan as it lies: its map, the rows of what is used, its order. -/
structure PS (W : World) (pb mb n lo : Nat) (ov : Value) (L : List (Bytes × Value)) (us : Bytes → List Bytes) : Prop where
 hp : W.heap[pb]? = some (.cells #[.map (some mb), ov] 66 (0, 0))
 hu : UMap W mb n L
 hrow : ∀ s, SRow lo W (valU L s) (us s)
theorem PS.keep {W W' : World} {pb mb n lo : Nat} {ov : Value} {L : List (Bytes × Value)} {us : Bytes → List Bytes} (h : PS W pb mb n lo ov L us) (hB : Below W.heap.size W W') : PS W' pb mb n lo ov L us :=
 ⟨(hB.block _ (Array.getElem?_eq_some_iff.1 h.hp).1).trans h.hp, h.hu.block (hB.block _ h.hu.lt), fun s => (h.hrow s).keep hB.size (fun i _ hi => hB.block i hi)⟩
set_option maxHeartbeats 8000000 in
set_option maxRecDepth 100000 in
theorem cand_any (W : World) (pb mb n lo pmb pn xb yb : Nat) (ov : Value) (L : List (Bytes × Value)) (us : Bytes → List Bytes) (out : List Bytes) (m : MT) (h : PS W pb mb n lo ov L us) (hs : SetAt W pmb pn out)
  (hx : W.heap[xb]? = some (.cells #[.map (some pmb)] 81 (0, 0))) (hy : W.heap[yb]? = some (.cells #[.pointer (some ⟨pb, 0, none⟩)] 93 (0, 0))) (hnm : m.nm.length ≤ 12000000) (hlen : (us m.nm).length ≤ 12000000 ∧ ∀ t ∈ us m.nm, t.length ≤ 12000000) :
  Calls Tryz.prog 91 #[m.val, .pointer (some ⟨xb, 0, none⟩), .pointer (some ⟨yb, 0, none⟩)] W fun e W' => e = .returned (.bool (!out.contains m.nm && (us m.nm).all fun u => out.contains u)) ∧ Below W.heap.size W W' := by
 obtain ⟨nm, pa, pc, pl, ta, tc, tl, ia, ic, il⟩ := m
 simp only [MT.val, MT.cells]
 simp only at hnm hlen
 obtain ⟨W0, hW0⟩ : ∃ W0, W.alloc (.cells #[.string (bs nm), .slice pa pl.length pc, .slice ta tl.length tc, .slice ia il.length ic] 39) = W0 := ⟨_, rfl⟩
 have hB0 : Below W.heap.size W W0 := by rw [← hW0]; exact (Below.refl _ _).alloc (Nat.le_refl _) _
 have BX := World.alloc_heap_new W (.cells #[.string (bs nm), .slice pa pl.length pc, .slice ta tl.length tc, .slice ia il.length ic] 39)
 rw [hW0] at BX
 have h0 := h.keep hB0
 have hs0 := hs.block (hB0.block _ hs.lt)
 have hx0 := (hB0.block _ (Array.getElem?_eq_some_iff.1 hx).1).trans hx
 have hy0 := (hB0.block _ (Array.getElem?_eq_some_iff.1 hy).1).trans hy
 have z0 : ∀ n, (W0.drewN n).cell? ⟨W.heap.size, 0, none⟩ = some (.string (bs nm)) := fun n => (show W0.cell? _ = _ by simp [World.cell?, BX])
 have zx : ∀ n, (W0.drewN n).cell? ⟨xb, 0, none⟩ = some (.map (some pmb)) := fun n => (cell_of_box_1 hx0).1
 have zy : ∀ n, (W0.drewN n).cell? ⟨yb, 0, none⟩ = some (.pointer (some ⟨pb, 0, none⟩)) := fun n => (cell_of_box_1 hy0).1
 have zp : ∀ n, (W0.drewN n).cell? ⟨pb, 0, none⟩ = some (.map (some mb)) := fun n => (show W0.cell? _ = _ by simp [World.cell?, h0.hp])
 have l1 := fun n => (hs0.block (W' := W0.drewN n) (by rw [drew_heap])).seen.look nm hnm
 have l2 := fun n => (h0.hu.block (W' := W0.drewN n) (by rw [drew_heap])).look nm hnm
 have q : ∀ n, Calls Tryz.prog 92 #[.map (some pmb), valU L nm] (W0.drewN n) fun e w' => e = .returned (.bool ((us nm).all fun t => out.contains t)) ∧ ∃ m, w' = (W0.drewN n).drewN m := by
  intro n
  obtain ⟨a, c, hv, hr⟩ := h0.hrow nm
  rw [hv]
  exact amongMap_any a c (us nm) (by omega) hlen.2 (W0.drewN n) pmb pn out (hs0.block (W' := W0.drewN n) (by rw [drew_heap])).seen (hr.imp id (fun ⟨b, o, e1, _, _, e4⟩ => ⟨b, o, e1, fun i hi => e4 i hi⟩))
 obtain ⟨UV, hUV⟩ : ∃ UV, valU L nm = UV := ⟨_, rfl⟩
 obtain ⟨R2, hR2⟩ : ∃ R2, ((us nm).all fun u => out.contains u) = R2 := ⟨_, rfl⟩
 rw [hUV] at l2 q
 rw [hR2] at q ⊢
 have HB := Lib.hid hB0
 clear hUV hR2 h hs hx hy h0 hs0 hx0 hy0 BX hB0
 have hfin : ∀ k, Below W.heap.size W (W0.drewN k) := fun k => ⟨HB.out.os, HB.out.tape, HB.out.output, HB.out.size, HB.out.block⟩
 have HFN := Lib.hid hfin
 clear hfin
 cases hc : out.contains nm with
 | true =>
  rw [hc] at l1
  clear hc q l2
  go_enter Tryz.func91, Tryz.ntmps91
  go_wp2_with fail
  clear hW0
  go_quiet (fail)
  go_wp2
  go_ret
  exact ⟨rfl, HFN.out _⟩
 | false =>
  rw [hc] at l1
  clear hc
  go_enter Tryz.func91, Tryz.ntmps91
  go_wp2_with fail
  clear hW0
  go_quiet ((go_at_call 92; exact Calls.quiet_of (q _)))
  go_wp2
  go_ret
  exact ⟨rfl, HFN.out _⟩
def candF (xb yb : Nat) : Value := .func (.func 91) #[] #[.pointer (some ⟨xb, 0, none⟩), .pointer (some ⟨yb, 0, none⟩)]
theorem find_take {α : Type} (p : α → Bool) : ∀ (l : List α) (k : Nat) (h : k < l.length), (l.take k).find? p = none → (p l[k] = true → l.find? p = some l[k]) ∧ (p l[k] = false → (l.take (k + 1)).find? p = none)
 | x :: r, 0, h, _ => ⟨fun e => by simp only [List.getElem_cons_zero] at e; simp [List.find?_cons, e], fun e => by simp only [List.getElem_cons_zero] at e; simp [List.find?_cons, e]⟩
 | x :: r, k + 1, h, hn => by
  rw [List.take_succ_cons, List.find?_cons] at hn
  cases hx : p x with
  | true => rw [hx] at hn; cases hn
  | false =>
   rw [hx] at hn
   have ih := find_take p r k (by simpa using h) hn
   simp only [List.getElem_cons_succ]
   refine ⟨fun e => by rw [List.find?_cons, hx]; exact ih.1 e, fun e => by rw [List.take_succ_cons, List.find?_cons, hx]; exact ih.2 e⟩
set_option maxHeartbeats 8000000 in
set_option maxRecDepth 100000 in
theorem indexP_any (W : World) (n0 pb mb n lo pmb pn xb yb : Nat) (ov : Value) (L : List (Bytes × Value)) (us : Bytes → List Bytes) (out : List Bytes) (ma : Option Addr) (mc : Nat) (ml : List MT) (h : PS W pb mb n lo ov L us) (hs : SetAt W pmb pn out)
  (hx : W.heap[xb]? = some (.cells #[.map (some pmb)] 81 (0, 0))) (hy : W.heap[yb]? = some (.cells #[.pointer (some ⟨pb, 0, none⟩)] 93 (0, 0))) (hn0 : n0 ≤ W.heap.size) (hin : InRow 4 MT.cells (MT.In n0 W) n0 W ml ma) (hll : ml.length ≤ 12000000)
  (hnm : ∀ m ∈ ml, m.nm.length ≤ 12000000) (hlen : ∀ s, (us s).length ≤ 12000000 ∧ ∀ t ∈ us s, t.length ≤ 12000000) (P : MT → Bool) (hP : ∀ m ∈ ml, P m = (!out.contains m.nm && (us m.nm).all fun u => out.contains u)) :
  Calls Tryz.prog 90 #[.slice ma ml.length mc, candF xb yb] W fun e W' => ((e = .returned (.int .i64 (-1)) ∧ ml.find? P = none) ∨ ∃ (i : Nat) (hi : i < ml.length), e = .returned (.int .i64 i) ∧ ml.find? P = some ml[i]) ∧ Below W.heap.size W W' := by
 have HH := Lib.hid (And.intro h (And.intro hs (And.intro hx (And.intro hy (And.intro hin (And.intro hnm (And.intro hlen hP)))))))
 clear h hs hx hy hin hnm hlen hP
 unfold candF
 go_enter Tryz.func90, Tryz.ntmps90
 go_wp2
 go_loopg [8] ml.length (fun g u wr => ∃ k : Nat, u = .int .i64 k ∧ k + g = ml.length ∧ (ml.take k).find? P = none ∧ Below W.heap.size W wr)
 case atStart => exact ⟨0, rfl, by omega, rfl, Below.refl _ _⟩
 case round =>
  obtain ⟨k, rfl, hk, hf, hB⟩ := hrel
  have HF := Lib.hid hf
  clear hf
  by_cases hlt : k < ml.length
  ·have d1 : decide (k < ml.length) = true := by simpa using hlt
   have d2 : decide ((k : Int) < (ml.length : Int)) = true := by rw [decide_eq_true_eq]; omega
   have x1 : (k : Int) < (ml.length : Int) := by omega
   obtain ⟨h, hs, hx, hy, hin, hnm, hlen, hP⟩ := HH.out
   have hkt : KeptTo n0 W wr := Below.keptTo hB hn0
   obtain ⟨b, o, rfl, hb, hr, hxin⟩ := hin.at hlt
   have q := cand_any wr pb mb n lo pmb pn xb yb ov L us out ml[k] (h.keep hB) (hs.block (hB.block _ hs.lt)) ((hB.block _ (Array.getElem?_eq_some_iff.1 hx).1).trans hx) ((hB.block _ (Array.getElem?_eq_some_iff.1 hy).1).trans hy) (hnm _ (List.getElem_mem hlt)) (hlen _)
   rw [← hP _ (List.getElem_mem hlt)] at q
   have HT := Lib.hid (find_take P ml k hlt HF.out)
   obtain ⟨PK, hPK⟩ : ∃ PK, P ml[k] = PK := ⟨_, rfl⟩
   rw [hPK] at q HT
   obtain ⟨x, hxg⟩ : ∃ x, ml[k] = x := ⟨_, rfl⟩
   rw [hxg] at q HT hr
   have HX := Lib.hid hxg
   clear h hs hx hy hin hnm hlen hP hxin hPK hxg
   obtain ⟨nm, pa, pc, pl, ta, tc, tl, ia, ic, il⟩ := x
   have r0 : wr.cell? ⟨b, o + k * 4, none⟩ = some (.string (bs nm)) := hkt _ _ _ hb (hr 0 _ rfl)
   have r1 : wr.cell? ⟨b, o + k * 4 + 1, none⟩ = some (.slice pa pl.length pc) := hkt _ _ _ hb (hr 1 _ rfl)
   have r2 : wr.cell? ⟨b, o + k * 4 + 2, none⟩ = some (.slice ta tl.length tc) := hkt _ _ _ hb (hr 2 _ rfl)
   have r3 : wr.cell? ⟨b, o + k * 4 + 3, none⟩ = some (.slice ia il.length ic) := hkt _ _ _ hb (hr 3 _ rfl)
   simp only [MT.val, MT.cells] at q
   cases PK with
   | true =>
    have HE : Hid (ml.find? P = some ml[k]) := Lib.hid (by rw [HX.out]; exact HT.out.1 rfl)
    clear HT HX HF HH hr hkt
    go_wp2_with fail
    refine q.mono ?_
    clear q
    rintro e w' ⟨rfl, hB2⟩
    have hBF := hB.trans (hB2.mono hB.size)
    go_wp2
    go_ret
    exact ⟨.inr ⟨k, hlt, rfl, HE.out⟩, hBF⟩
   | false =>
    have HE : Hid ((ml.take (k + 1)).find? P = none) := Lib.hid (HT.out.2 rfl)
    clear HT HX HF hr hkt
    go_wp2_with fail
    refine q.mono ?_
    clear q
    rintro e w' ⟨rfl, hB2⟩
    have hBF := hB.trans (hB2.mono hB.size)
    go_wp2
    cases gk with
    | zero => omega
    | succ gg =>
     go_roundg gg
     case rel => exact ⟨k + 1, rfl, by omega, HE.out, hBF⟩
     case measure => omega
  ·have d1 : decide (k < ml.length) = false := by simpa using hlt
   have d2 : decide ((k : Int) < (ml.length : Int)) = false := by rw [decide_eq_false_iff_not]; omega
   have HE : Hid (ml.find? P = none) := Lib.hid (by have := HF.out; rwa [List.take_of_length_le (by omega)] at this)
   clear HF HH
   go_wp2
   go_ret
   exact ⟨.inl ⟨rfl, HE.out⟩, hB⟩
end Go.Proofs.YtiipjbafdhijlaaGreatDoor
namespace Go.Proofs.YtiipjbafdhijlaaGreatDoor
open Go Go.RowKit
set_option linter.unusedVariables false
set_option linter.unusedSimpArgs false
open Go.Sort
/-- The order as it lies, behind the plan. -/
def OrdAt (V : World) (base pb mb : Nat) (out : List Bytes) : Prop := ∃ ov, V.heap[pb]? = some (.cells #[.map (some mb), ov] 66 (0, 0)) ∧ V.ownsRow base 9 1 ov out.length (strs out)
set_option maxHeartbeats 16000000 in
set_option maxRecDepth 100000 in
theorem putInOrder_any (W : World) (n0 pb mb n lo : Nat) (L : List (Bytes × Value)) (us : Bytes → List Bytes) (ma : Option Addr) (mc : Nat) (ml : List MT) (h : PS W pb mb n lo (.slice none 0 0) L us)
  (hn0 : n0 ≤ W.heap.size) (hpn : n0 ≤ pb) (hmp : mb < pb) (hlo : pb < lo) (hin : InRow 4 MT.cells (MT.In n0 W) n0 W ml ma) (hll : ml.length ≤ 6000000)
  (hnm : ∀ m ∈ ml, m.nm.length ≤ 12000000) (hlen : ∀ s, (us s).length ≤ 12000000 ∧ ∀ t ∈ us s, t.length ≤ 12000000) (hus : ∀ m ∈ ml, us m.nm = usesM m) :
  Calls Tryz.prog 55 #[.pointer (some ⟨pb, 0, none⟩), .slice ma ml.length mc] W fun e W' => e = .returned (.bool (ordN ml ml.length []).isSome) ∧ KeptBut (fun i => i = pb) W W' ∧ ∀ l, ordN ml ml.length [] = some l → OrdAt W' (W.heap.size + 3) pb mb l := by
 obtain ⟨g, hg⟩ : ∃ g, W.heap.size = g := ⟨_, rfl⟩
 have hplt := (Array.getElem?_eq_some_iff.1 h.hp).1
 rw [hg] at hn0 hplt ⊢
 obtain ⟨W3, hW3⟩ : ∃ W3, ((W.alloc (.cells #[.pointer (some ⟨pb, 0, none⟩)] 93)).alloc (.map #[] 0)).alloc (.cells #[.map (some (g + 1))] 81) = W3 := ⟨_, rfl⟩
 have hz3 : W3.heap.size = g + 3 := by rw [← hW3]; simp [hg]
 have hB3 : Below g W W3 := by rw [← hW3]; exact (((Below.refl _ _).alloc (by omega) _).alloc (by simp; omega) _).alloc (by simp; omega) _
 have BY : W3.heap[g]? = some (.cells #[.pointer (some ⟨pb, 0, none⟩)] 93 (0, 0)) := by
  rw [← hW3, ← hg]; exact alloc_heap_lt _ _ (alloc_heap_lt _ _ (World.alloc_heap_new W _))
 have BXS : SetAt W3 (g + 1) 0 [] ∧ W3.heap[g + 2]? = some (.cells #[.map (some (g + 1))] 81 (0, 0)) := by
  have hw1 : (W.alloc (.cells #[.pointer (some ⟨pb, 0, none⟩)] 93)).heap.size = g + 1 := by simp [hg]
  have h1 := set_made (W.alloc (.cells #[.pointer (some ⟨pb, 0, none⟩)] 93))
  rw [hw1] at h1
  have h2 := World.alloc_heap_new ((W.alloc (.cells #[.pointer (some ⟨pb, 0, none⟩)] 93)).alloc (.map #[] 0)) (.cells #[.map (some (g + 1))] 81)
  simp only [World.size_alloc, hg] at h2
  exact ⟨h1.block (by rw [← hW3]; exact Below.heap_alloc _ _ _ (by simp; omega)), by rw [← hW3]; exact h2⟩
 obtain ⟨OO, hOO⟩ : ∃ OO, ordN ml ml.length [] = OO := ⟨_, rfl⟩
 rw [hOO]
 have hmm := @run_makeMap Tryz.prog
 have HH := Lib.hid (And.intro h (And.intro hin (And.intro hnm (And.intro hlen (And.intro hus (And.intro hB3 (And.intro BY (And.intro BXS hOO))))))))
 clear h hin hnm hlen hus hB3 BY BXS hOO
 go_enter Tryz.func55, Tryz.ntmps55
 go_wp2_with fail
 clear hW3
 go_loopg [11] ml.length (fun gh u wr => ∃ (k : Nat) (out : List Bytes), u = .int .i64 k ∧ k + gh = ml.length ∧ ordN ml gh out = OO ∧ out.length = k ∧ SetAt wr (g + 1) k out ∧ wr.heap[g + 2]? = some (.cells #[.map (some (g + 1))] 81 (0, 0)) ∧ wr.heap[g]? = some (.cells #[.pointer (some ⟨pb, 0, none⟩)] 93 (0, 0)) ∧ OrdAt wr (g + 3) pb mb out ∧ KeptBut (fun i => i = pb) W wr ∧ g + 3 ≤ wr.heap.size)
 case atStart =>
  obtain ⟨h, hin, hnm, hlen, hus, hB3, BY, BXS, hOO⟩ := HH.out
  exact ⟨0, [], rfl, by omega, hOO, rfl, BXS.1, BXS.2, BY, ⟨_, (hB3.block _ (by omega)).trans h.hp, World.ownsRow_nil _ _ _ _⟩, KeptBut.of_below (by rw [hg]; exact hB3), by omega⟩
 case round =>
  obtain ⟨k, out, rfl, hk, hor, hol, hset, hxb, hyb, hord, hkb, hz⟩ := hrel
  have HO := Lib.hid (And.intro hor hol)
  clear hor
  by_cases hlt : k < ml.length
  ·have d1 : decide (k < ml.length) = true := by simpa using hlt
   have d2 : decide ((k : Int) < (ml.length : Int)) = true := by rw [decide_eq_true_eq]; omega
   obtain ⟨h, hin, hnm, hlen, hus, hB3, BY, BXS, hOO⟩ := HH.out
   obtain ⟨ov, hpv, hrow⟩ := hord
   have hps : PS wr pb mb n lo ov L us := ⟨hpv, h.hu.block (hkb.block mb (by omega) (by (try simp only); omega)), fun s => (h.hrow s).keep hkb.size (fun i hi hi2 => hkb.block i hi2 (by (try simp only); omega))⟩
   have hkt : KeptTo n0 W wr := hkb.to (by omega) (fun i hi => by (try simp only); omega)
   have hinr := InRow.keep hkt (fun x _ h => MT.In.keep hkt x h) hin
   have q := indexP_any wr n0 pb mb n lo (g + 1) k (g + 1 + 1) g ov L us out ma mc ml hps hset hxb hyb (by omega) hinr (by omega) hnm hlen (canN out) (fun m hm => by rw [canN, hus m hm])
   unfold candF at q
   have HG := Lib.hid (And.intro hset (And.intro hxb (And.intro hyb (And.intro hpv (And.intro hrow (And.intro hkb (And.intro hinr hps)))))))
   clear h hin hnm hlen hus hB3 BY BXS hOO hset hxb hyb hpv hrow hkb hinr hps hkt
   go_wp2_with fail
   refine q.mono ?_
   clear q
   rintro e V ⟨hres, hBV⟩
   rcases hres with ⟨rfl, hno⟩ | ⟨i, hi, rfl, hyes⟩
   ·have HE : Hid (OO = none) := Lib.hid (by
     have h1 := HO.out.1
     cases gk with
     | zero => omega
     | succ gg =>
      rw [ordN, nextN, hno] at h1
      exact h1.symm)
    have HK := Lib.hid ((HG.out.2.2.2.2.2.1).trans (KeptBut.of_below (p := fun i => i = pb) hBV) (fun _ _ e => e))
    clear hno hBV HG HO
    go_wp2
    go_ret
    exact ⟨by rw [HE.out]; rfl, HK.out, fun l hl => by rw [HE.out] at hl; cases hl⟩
   ·obtain ⟨hset, hxb, hyb, hpv, hrow, hkb, hinr, hps⟩ := HG.out
    have hwz := hBV.size
    have hsV := hset.block (hBV.block _ hset.lt)
    have hxV := (hBV.block _ (by omega)).trans hxb
    have hyV := (hBV.block _ (by omega)).trans hyb
    have hpV := (hBV.block pb (by omega)).trans hpv
    have hrV := below_own_row hrow hBV
    have kV : KeptTo n0 wr V := Below.keptTo hBV (by omega)
    obtain ⟨b, o, rfl, hb, hr, -⟩ := (InRow.keep kV (fun x _ h => MT.In.keep kV x h) hinr).at hi
    have hnl : ml[i].nm.length ≤ 12000000 := HH.out.2.2.1 _ (List.getElem_mem hi)
    have hnext : ∀ gg, gk = gg + 1 → ordN ml gg (out ++ [ml[i].nm]) = OO := fun gg e => by
     have h1 := HO.out.1
     rw [e, ordN, nextN, hyes] at h1
     exact h1
    obtain ⟨x, hxg⟩ : ∃ x, ml[i] = x := ⟨_, rfl⟩
    rw [hxg] at hr hnl hnext
    have HNX := Lib.hid hnext
    have hol := HO.out.2
    obtain ⟨nm, pa, pc, pl, ta, tc, tl, ia, ic, il⟩ := x
    have r0 : V.cell? ⟨b, o + i * 4, none⟩ = some (.string (bs nm)) := hr 0 _ rfl
    simp only at hnl
    have d3 : decide ((i : Int) < 0) = false := by rw [decide_eq_false_iff_not]; omega
    have d4 : decide (i < ml.length) = true := by simpa using hi
    have d5 : decide ((i : Int) < (ml.length : Int)) = true := by rw [decide_eq_true_eq]; omega
    have d6 : (i : Int) < (ml.length : Int) := by omega
    have yx : V.cell? ⟨g + 1 + 1, 0, none⟩ = some (.map (some (g + 1))) := (cell_of_box_1 hxV).1
    obtain ⟨V2, hrun, hS2, hg2⟩ := hsV.put (by omega) nm hnl
    have hnb : ∀ q, ov.ownBlock = some q → g + 3 ≤ q := fun q hq => (hrV.lt q hq).1
    have ho2 : V2.ownsRow (g + 3) 9 1 ov out.length (strs out) := hrV.kept hg2 (by
     rcases hrV.2 with ⟨rfl, _⟩ | ⟨q, cap, cur, rfl, hq, _⟩
     ·exact .inl rfl
     ·right; simp only [Value.ownBlock]; intro e; have := Option.some.inj e; omega)
    have hk2 : ∀ j, j < V.heap.size → j ≠ g + 1 → V2.heap[j]? = V.heap[j]? := fun j hj hn => hg2.block j hj (fun e => hn (Option.some.inj e))
    have hz2 := hg2.size
    have P2 := (hk2 pb (by omega) (by omega)).trans hpV
    have Y2 := (hk2 g (by omega) (by omega)).trans hyV
    have X2 := (hk2 (g + 2) (by omega) (by omega)).trans hxV
    have yy : V2.cell? ⟨g, 0, none⟩ = some (.pointer (some ⟨pb, 0, none⟩)) := (cell_of_box_1 Y2).1
    have yp : V2.cell? ⟨pb, 1, none⟩ = some ov := by simp [World.cell?, P2]
    have yyA := fun O => alloc_cell yy O
    have ypA := fun O => alloc_cell yp O
    have ho2d : V2.drew.ownsRow (g + 3) 9 1 ov out.length (strs out) := ho2
    obtain ⟨i0, hi0, hq0, hq1, hq2⟩ := info_parts info_str
    have hb3a : ∀ x, g + 3 ≤ (V2.drew.alloc x).heap.size := fun x => by rw [World.size_alloc]; show g + 3 ≤ V2.heap.size + 1; omega
    have HK2 := Lib.hid (And.intro hkb (And.intro hBV (And.intro hS2 (And.intro hg2 (And.intro P2 (And.intro Y2 (And.intro X2 (And.intro hk2 hnb))))))))
    have hnb2 := Lib.hid hnb
    have HP2 := Lib.hid P2
    have HY2 := Lib.hid Y2
    have hpz : pb < V2.heap.size := by omega
    clear hset hxb hyb hpv hrow hkb hinr hps hBV hsV hxV hyV hpV hrV kV hr hyes hxg hnext HG hS2 hg2 P2 Y2 X2 hk2 hnb
    go_wp2
    go_region_law (refine step_append_own rfl (.tmp 29) (.tmp 31) 29 rfl (g + 3) 9 i0 (.string ⟨#[]⟩) 1 16 Tryz.underlying29 hi0 hq0 hq1 hq2 rfl (by decide) ov out.length (strs out) (by simp [Act.eval, Act.put]) (ho2d.alloc (.cells #[.string (bs nm)] 9)) ⟨V2.heap.size, 0, none⟩ 1 1 [.string (bs nm)] (by simp [Act.eval, Act.put]) rfl (news_one V2.drew (.string (bs nm)) 9) (ones_str nm) (by unfold maxLen; omega) (by omega) (hb3a _) ?_; intro v5 w5 own5 hg5 _; obtain ⟨g5, cap5, rfl⟩ := own_some own5 (by omega); have hf5 : w5.heap[pb]? = some (.cells #[.map (some mb), ov] 66 (0, 0)) := fb_kept HP2.out hg5 (fun e => by have := hnb2.out pb e.symm; omega); have y5 : w5.cell? ⟨pb, 1, none⟩ = some ov := (by simp [World.cell?, hf5]); have w5f : w5.frozen? ⟨pb, 1, none⟩ = false := (by simp [World.frozen?, hf5]); have hy5 : w5.heap[g]? = some (.cells #[.pointer (some ⟨pb, 0, none⟩)] 93 (0, 0)) := fb_kept HY2.out hg5 (fun e => by have := hnb2.out g e.symm; omega); have yy5 : w5.cell? ⟨g, 0, none⟩ = some (.pointer (some ⟨pb, 0, none⟩)) := (cell_of_box_1 hy5).1)
    all_goals
     obtain ⟨hkb, hBV, hS2, hg2, P2, Y2, X2, hk2, hnb⟩ := HK2.out
     have hg6 : (V2.alloc (.cells #[.string (bs nm)] 9)).grownBy w5 ov.ownBlock := ⟨hg5.os, hg5.tape, hg5.output, hg5.size, hg5.block⟩
     have hz5 : V2.heap.size + 1 ≤ w5.heap.size := by have := hg6.size; rwa [World.size_alloc] at this
     have hk5 : ∀ j, j < V2.heap.size → j < g + 3 → w5.heap[j]? = V2.heap[j]? := fun j hj hj2 => (hg6.block j (by rw [World.size_alloc]; omega) (fun e => by have := hnb j e.symm; omega)).trans (Below.heap_alloc V2 _ j hj)
     have hol2 : (out ++ [nm]).length = out.length + 1 := by simp
     have HFN : Hid (ordN ml (gk - 1) (out ++ [nm]) = OO ∧ (out ++ [nm]).length = k + 1 ∧ SetAt (w5.setCell ⟨pb, 1, none⟩ (.slice (some ⟨g5, 0, none⟩) (k + 1) cap5)) (g + 1) (k + 1) (out ++ [nm]) ∧ (w5.setCell ⟨pb, 1, none⟩ (.slice (some ⟨g5, 0, none⟩) (k + 1) cap5)).heap[g + 2]? = some (.cells #[.map (some (g + 1))] 81 (0, 0)) ∧
       (w5.setCell ⟨pb, 1, none⟩ (.slice (some ⟨g5, 0, none⟩) (k + 1) cap5)).heap[g]? = some (.cells #[.pointer (some ⟨pb, 0, none⟩)] 93 (0, 0)) ∧ OrdAt (w5.setCell ⟨pb, 1, none⟩ (.slice (some ⟨g5, 0, none⟩) (k + 1) cap5)) (g + 3) pb mb (out ++ [nm]) ∧ KeptBut (fun i => i = pb) W (w5.setCell ⟨pb, 1, none⟩ (.slice (some ⟨g5, 0, none⟩) (k + 1) cap5)) ∧ g + 3 ≤ (w5.setCell ⟨pb, 1, none⟩ (.slice (some ⟨g5, 0, none⟩) (k + 1) cap5)).heap.size) := Lib.hid (by
      refine ⟨HNX.out (gk - 1) (by omega), by omega, ?_, ?_, ?_, ⟨.slice (some ⟨g5, 0, none⟩) (k + 1) cap5, ?_, ?_⟩, ?_, by simp; omega⟩
      ·exact hS2.block ((Below.heap_setCell _ _ _ _ (by show g + 1 ≠ pb; omega)).trans (hk5 _ (by omega) (by omega)))
      ·exact (Below.heap_setCell _ _ _ _ (by show g + 2 ≠ pb; omega)).trans ((hk5 _ (by omega) (by omega)).trans X2)
      ·exact (Below.heap_setCell _ _ _ _ (by show g ≠ pb; omega)).trans ((hk5 _ (by omega) (by omega)).trans Y2)
      ·simp [World.setCell, Array.getElem?_modify]
       exact ⟨_, hf5, rfl⟩
      ·have := ownsRow_setCell_below own5 (a := ⟨pb, 1, none⟩) (by show pb < g + 3; omega) (.slice (some ⟨g5, 0, none⟩) (k + 1) cap5)
       rw [show strs (out ++ [nm]) = strs out ++ [.string (bs nm)] by simp [strs], hol2, hol]
       first
        | exact this
        | (rw [hol] at this; exact this)
      ·refine (hkb.trans (KeptBut.of_below (p := fun i => i = pb) hBV) (fun _ _ e => e)).trans (q := fun j => j = g + 1 ∨ j = pb ∨ g + 3 ≤ j) ?_ (fun j hj e => by (try simp only at e ⊢); omega)
       refine ⟨by simp; omega, fun j hj hn => ?_, hg6.os.trans hg2.os, hg6.tape.trans hg2.tape, hg6.output.trans hg2.output⟩
       simp only [not_or] at hn
       exact (Below.heap_setCell _ _ _ _ (by show j ≠ pb; exact hn.2.1)).trans ((hk5 j (by omega) (by omega)).trans (hk2 j hj hn.1)))
     clear hkb hBV hS2 hg2 P2 Y2 X2 hk2 hnb hg6 hz5 hk5 hol2 own5 hg5 hf5 y5 w5f hy5 yy5 HK2 HP2 HY2 hnb2 HNX
     go_wp2
     cases gk with
     | zero => omega
     | succ gg =>
      go_roundg gg
      case rel => exact ⟨k + 1, out ++ [nm], rfl, by omega, HFN.out⟩
      case measure => omega
  ·have d1 : decide (k < ml.length) = false := by simpa using hlt
   have d2 : decide ((k : Int) < (ml.length : Int)) = false := by rw [decide_eq_false_iff_not]; omega
   have HE : Hid (OO = some out) := Lib.hid (by
    have h1 := HO.out.1
    have : gk = 0 := by omega
    subst this
    rw [ordN] at h1
    exact h1.symm)
   have HF := Lib.hid (And.intro hkb hord)
   clear hset hxb hyb hord hkb HO HH
   go_wp2
   go_ret
   exact ⟨by rw [HE.out]; rfl, HF.out.1, fun l hl => by rw [HE.out] at hl; cases hl; exact HF.out.2⟩
end Go.Proofs.YtiipjbafdhijlaaGreatDoor
namespace Go.Proofs.YtiipjbafdhijlaaGreatDoor
open Go Go.RowKit
set_option linter.unusedVariables false
set_option linter.unusedSimpArgs false
open Go.Sort
theorem twice_nodup : ∀ (l : List MT) (seen : List Bytes), twiceB seen l = false → (l.map (·.nm)).Nodup ∧ ∀ m ∈ l, m.nm ∉ seen
 | [], seen, _ => ⟨List.nodup_nil, fun m h => by cases h⟩
 | m :: r, seen, h => by
  rw [twiceB, Bool.or_eq_false_iff, Bool.or_eq_false_iff] at h
  obtain ⟨h1, _, h3⟩ := h
  obtain ⟨i1, i2⟩ := twice_nodup r (seen ++ [m.nm]) h3
  have hm : m.nm ∉ seen := fun hc => by rw [List.contains_iff_mem.2 hc] at h1; cases h1
  refine ⟨List.nodup_cons.2 ⟨fun hc => ?_, i1⟩, fun x hx => ?_⟩
  ·obtain ⟨x, hx, e⟩ := List.mem_map.1 hc
   exact i2 x hx (by rw [e]; simp)
  ·rcases List.mem_cons.1 hx with e | e
   ·subst e; exact hm
   ·exact fun hc => i2 x e (List.mem_append_left _ hc)
theorem usesM_len (m : MT) : (usesM m).length ≤ m.bk ∧ ∀ t ∈ usesM m, t.length ≤ m.bk := by
 have hb : IT.bkL m.il ≤ m.bk := by simp only [MT.bk]; omega
 have h0 := instL_vis 0 0 m.il
 refine ⟨?_, fun t ht => ?_⟩
 ·have h1 : (usesM m).length ≤ (instL m.il).length := by
   show (addN [] (instL m.il)).length ≤ _
   have := addN_len0 (instL m.il) []
   simpa using this
  have h2 := insts_len (visL gnA 0 0 m.il)
  rw [h0] at h2
  have h3 := visL_len gnA 0 0 m.il
  omega
 ·have h1 : t ∈ instL m.il := by
   have := (addN_in (instL m.il) [] t).1 ht
   simpa using this
  rw [← h0, List.mem_flatMap] at h1
  obtain ⟨v, hv, hv2⟩ := h1
  have h2 := visL_bk gnA 0 0 m.il v hv
  obtain ⟨b, o, X⟩ := v
  obtain ⟨op, nm, nf, xa, xc, xl, sa, sc, sl, la, lc, ll, ea, ec, el, pa, pc, pl, ba, bc, bl⟩ := X
  simp only [instV] at hv2
  simp only [IT.bk] at h2
  split at hv2
  ·rw [List.mem_singleton.1 hv2]; omega
  ·cases hv2
theorem usN_len {ml : List MT} {B : Nat} (h : MT.bkL ml ≤ B) (s : Bytes) : (usN ml s).length ≤ B ∧ ∀ t ∈ usN ml s, t.length ≤ B := by
 unfold usN
 cases hf : ml.find? (fun m => m.nm == s) with
 | none => exact ⟨Nat.zero_le _, fun t ht => by cases ht⟩
 | some m =>
  have hm := MT.bkL_mem (List.mem_of_find?_eq_some hf)
  have hu := usesM_len m
  exact ⟨by show (usesM m).length ≤ B; omega, fun t ht => by have := hu.2 t ht; omega⟩
theorem hasAll_is {ml : List MT} (hd : (ml.map (·.nm)).Nodup) : ((ml.map (·.nm)).all fun s => (usN ml s).all fun u => (ml.map (·.nm)).contains u) = hasAllB ml := by
 unfold hasAllB
 rw [List.all_map]
 exact all_same (fun m hm => by simp only [Function.comp]; rw [usN_of hd hm])
def checkP (f : FT) : Int := if checkF f ≠ 0 then checkF f else checkN f.ml
/-- Rows of texts between two blocks. -/
def URow (lo hi : Nat) (W : World) (v : Value) (l : List Bytes) : Prop := ∃ a c, v = .slice a l.length c ∧ (l = [] ∨ ∃ b o, a = some ⟨b, o, none⟩ ∧ lo ≤ b ∧ b < hi ∧ ∀ i (h : i < l.length), W.cell? ⟨b, o + i, none⟩ = some (.string (bs l[i])))
theorem URow.keep {lo hi : Nat} {W W' : World} {v : Value} {l : List Bytes} (h : URow lo hi W v l) (hk : ∀ i, lo ≤ i → i < hi → W'.heap[i]? = W.heap[i]?) : URow lo hi W' v l := by
 obtain ⟨a, c, hv, hr⟩ := h
 refine ⟨a, c, hv, hr.imp id ?_⟩
 rintro ⟨b, o, ha, h1, h2, h3⟩
 exact ⟨b, o, ha, h1, h2, fun i hi => by rw [World.cell?_of_block (w := W) (hk b h1 h2)]; exact h3 i hi⟩
theorem SRow.u {lo : Nat} {W : World} {v : Value} {l : List Bytes} (h : SRow lo W v l) : URow lo W.heap.size W v l := h
/-- The plan of a file, handed back. -/
structure Plan (V : World) (lo hi base mb : Nat) (ov : Value) (ml : List MT) (out : List Bytes) : Prop where
 map : ∃ n L, UMap V mb n L ∧ L.map Prod.fst = ml.map (·.nm) ∧ ∀ s, URow lo hi V (valU L s) (usN ml s)
 ord : V.ownsRow base 9 1 ov out.length (strs out)
 lt : lo ≤ hi ∧ hi ≤ base ∧ mb < lo
 is : ordN ml ml.length [] = some out
theorem Plan.keep {V V' : World} {lo hi base mb : Nat} {ov : Value} {ml : List MT} {out : List Bytes} (h : Plan V lo hi base mb ov ml out) (hz : hi ≤ V.heap.size) (hB : Below V.heap.size V V') : Plan V' lo hi base mb ov ml out := by
 obtain ⟨⟨n, L, h1, h2, h3⟩, ho, hl, hi'⟩ := h
 exact ⟨⟨n, L, h1.block (hB.block _ h1.lt), h2, fun s => (h3 s).keep (fun i _ hi2 => hB.block i (by omega))⟩, below_own_row ho hB, hl, hi'⟩
/-- The map while it is made. -/
structure Umk (V : World) (lo mb k : Nat) (ml : List MT) (L : List (Bytes × Value)) : Prop where
 um : UMap V mb k L
 ks : L.map Prod.fst = (ml.take k).map (·.nm)
 rows : ∀ i (h : i < L.length) (h2 : i < ml.length), SRow lo V L[i].2 (usesM ml[i])
theorem Umk.full {V : World} {lo mb : Nat} {ml : List MT} {L : List (Bytes × Value)} (h : Umk V lo mb ml.length ml L) (hd : (ml.map (·.nm)).Nodup) : L.map Prod.fst = ml.map (·.nm) ∧ ∀ s, SRow lo V (valU L s) (usN ml s) := by
 have hk : L.map Prod.fst = ml.map (·.nm) := by rw [h.ks, List.take_length]
 refine ⟨hk, fun s => ?_⟩
 have hl : L.length = ml.length := by have := congrArg List.length hk; simpa using this
 unfold usN
 cases hf : ml.find? (fun m => m.nm == s) with
 | none =>
  rw [valU_no L s (by
   rw [hk]
   intro hc
   obtain ⟨m, hm, e⟩ := List.mem_map.1 hc
   have := List.find?_eq_none.1 hf m hm
   simp [e] at this)]
  exact SRow.zero _ _
 | some m =>
  have hm := List.mem_of_find?_eq_some hf
  have hs : m.nm = s := by simpa using List.find?_some hf
  obtain ⟨i, hi, rfl⟩ := List.mem_iff_getElem.1 hm
  have h1 := h.rows i (by omega) hi
  have h2 := valU_at L (by rw [hk]; exact hd) i (by omega)
  have h3 : L[i].1 = ml[i].nm := by
   have h4 : (L.map Prod.fst)[i]'(by simp; omega) = (ml.map (·.nm))[i]'(by simp; omega) := by simp only [hk]
   simpa using h4
  rw [← hs, ← h3, h2]
  exact h1
end Go.Proofs.YtiipjbafdhijlaaGreatDoor
