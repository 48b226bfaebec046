/-
  AsW, in one text.
-/
import Derived.RangeFuncNested
import Derived.RangeFuncBound
import Derived.RangeFuncCalls
import Derived.RangeFuncLeaves
import Derived.RangeFuncFrom
import Derived.Shelf.Abstract
import Derived.Shelf.RegionOpen
import Derived.WalkKit
import Derived.OwnWalkIn
import Derived.TacticsInMore
import Derived.LoopNIn
import Derived.LoopIn
import Derived.Test.YtiipjbafdhijlaaGreatDoorZAE
namespace Go.Proofs.YtiipjbafdhijlaaGreatDoor
open Go Go.RowKit Go.Shelf
set_option linter.unusedVariables false
set_option linter.unusedSimpArgs false
attribute [local go_sem] Oper.semAt_some
/-- All cells but those of one block lie as they lay. -/
structure KeepC (B : Nat) (W W' : World) : Prop where
 size : W.heap.size ≤ W'.heap.size
 same : ∀ (b : Nat) (o : Obj), b ≠ B → W.heap[b]? = some o → o.isCells = true → W'.heap[b]? = some o
theorem KeepC.refl (B : Nat) (W : World) : KeepC B W W := ⟨Nat.le_refl _, fun _ _ _ h _ => h⟩
theorem KeepC.trans {B : Nat} {X Y Z : World} (h : KeepC B X Y) (k : KeepC B Y Z) : KeepC B X Z := ⟨Nat.le_trans h.size k.size, fun b o hb ho hc => k.same b o hb (h.same b o hb ho hc) hc⟩
theorem KeepC.alloc {B : Nat} {X Y : World} (h : KeepC B X Y) (o : Obj) : KeepC B X (Y.alloc o) := h.trans ⟨by simp, fun b o' _ hb _ => (Below.heap_alloc Y o b (Array.getElem?_eq_some_iff.1 hb).1).trans hb⟩
theorem KeepC.cell {B : Nat} {X Y : World} (h : KeepC B X Y) {b o : Nat} {v : Value} (hb : b ≠ B) (hv : X.cell? ⟨b, o, none⟩ = some v) : Y.cell? ⟨b, o, none⟩ = some v := by
 obtain ⟨ob, h1, h2⟩ := cells_of_cell hv
 have := h.same b ob hb h1 h2
 rw [← hv]
 exact World.cell?_of_block (a := ⟨b, o, none⟩) (this.trans h1.symm)
theorem KeepC.keptTo {B n : Nat} {X Y : World} (h : KeepC B X Y) (hn : n ≤ B) : KeptTo n X Y := fun b o v hb hv => h.cell (by omega) hv
theorem KeepC.setCell (B : Nat) (W : World) (o : Nat) (v : Value) : KeepC B W (W.setCell ⟨B, o, none⟩ v) := ⟨by simp, fun b ob hb h _ => (Below.heap_setCell W ⟨B, o, none⟩ v b hb).trans h⟩
theorem KeepC.putObj (B : Nat) (W : World) (l : Nat) (o o' : Obj) (h : W.heap[l]? = some o) (hc : o.isCells = false) : KeepC B W (W.putObj l o') := ⟨by simp, fun b ob hb hb2 hc2 => by
 by_cases e : l = b
 ·subst e; rw [h] at hb2; cases hb2; rw [hc] at hc2; cases hc2
 ·exact (World.putObj_heap_other (fun h => e h.symm)).trans hb2⟩
theorem AbidesFrom.alloc {β : Type} {B : Nat} {J : β → World → Prop} (h : AbidesFrom B J) {s : β} {W : World} (o : Obj) (hs : J s W) : J s (W.alloc o) := h s W _ none hs (World.grownBy_alloc W o none) (fun r e => by cases e)
theorem room_of_none {F : Fence} (hd : F.depth = none) (k : Nat) : F.room k := fun d h => by rw [hd] at h; cases h
theorem RoundIn.anyDepth {F : Fence} (hd : F.depth = none) {m m' : Nat} {P : Program} {l : Nat} {f : FuncId} {tmps : Array Value} {assign body : Code} {w : World} {R : Ending → World → Prop}
  (h : RoundIn F m P l f tmps assign body w R) : RoundIn F m' P l f tmps assign body w R := ⟨h.1, fun c cs _ => h.2 c cs (room_of_none hd _)⟩
theorem YieldAt.anyDepth {F : Fence} (hd : F.depth = none) {m : Nat} (m' : Nat) {P : Program} {l : Nat} {args : Array Value} {W : World} {R : Ending → World → Prop} (h : YieldAt F m P l args W R) : YieldAt F m' P l args W R := by
 obtain ⟨fn, tmps, assign, body, hy, hR⟩ := h
 exact ⟨fn, tmps, assign, body, hy, RoundIn.anyDepth hd hR⟩
/-- What a walk over so many nodes leaves: all have come, or a part, a round having said 'no more'. -/
def TravPost (J Jx : List Nat → World → Prop) (B : Nat) (pre ds : List Nat) (W : World) (e : Ending) (W' : World) : Prop :=
 (e = .returned (.bool true) ∧ J (pre ++ ds) W' ∧ KeepC B W W') ∨ (e = .returned (.bool false) ∧ ∃ q, q <+: ds ∧ Jx (pre ++ q) W')
theorem InRow.kept {α : Type} {k : Nat} {cells : α → List Value} {inn : α → Prop} {n : Nat} {W W' : World} {l : List α} {a : Option Addr} (h : InRow k cells inn n W l a) (hk : KeptTo n W W') {i : Nat} (hi : i < l.length) : ∃ b o, a = some ⟨b, o, none⟩ ∧ b < n ∧ RowC W' b (o + i * k) (cells l[i]) ∧ inn l[i] := by
 obtain ⟨b, o, ha, hb, hr, hx⟩ := h.at hi
 exact ⟨b, o, ha, hb, fun j v hv => hk b _ v hb (hr j v hv), hx⟩
theorem take_flat {α : Type} (g : α → List Nat) (l : List α) (k : Nat) (h : k < l.length) : (l.take (k + 1)).flatMap g = (l.take k).flatMap g ++ g l[k] := by
 rw [List.take_succ_eq_append_getElem h, List.flatMap_append]; simp
theorem flat_len {α : Type} (g : α → List Nat) (l : List α) (k : Nat) (h : k < l.length) : ((l.take k).flatMap g).length + (g l[k]).length ≤ (l.flatMap g).length := by
 have h1 : l = l.take (k + 1) ++ l.drop (k + 1) := (List.take_append_drop _ _).symm
 have h2 : (l.flatMap g) = (l.take (k + 1)).flatMap g ++ (l.drop (k + 1)).flatMap g := by rw [← List.flatMap_append, ← h1]
 rw [h2, take_flat g l k h, List.length_append, List.length_append]
 omega
theorem flat_pre {α : Type} (g : α → List Nat) (l : List α) (k : Nat) (h : k < l.length) (q : List Nat) (hq : q <+: g l[k]) : (l.take k).flatMap g ++ q <+: l.flatMap g := by
 have h1 : l = l.take (k + 1) ++ l.drop (k + 1) := (List.take_append_drop _ _).symm
 have h2 : (l.flatMap g) = (l.take (k + 1)).flatMap g ++ (l.drop (k + 1)).flatMap g := by rw [← List.flatMap_append, ← h1]
 rw [h2, take_flat g l k h]
 obtain ⟨r, hr⟩ := hq
 exact ⟨r ++ (l.drop (k + 1)).flatMap g, by rw [← hr]; simp⟩
set_option maxHeartbeats 4000000 in
set_option maxRecDepth 9000000 in
theorem eachX_in (F : Fence) (hd : F.depth = none) (hF : F.fn 152) (hG : F.fn 151) (hro : F.round = none) (B n0 H0 : Nat) (hnB : n0 ≤ B) (N : Nat) (J Jx : List Nat → World → Prop) (hJ : AbidesFrom H0 J) (yv : Value) (d : Nat) (l : List XT) (hll : l.length ≤ 12000000)
  (hc : ∀ x ∈ l, ∀ m pre W, B < W.heap.size → x.In n0 W → J pre W → pre.length + (x.ds d).length ≤ N → CallsIn F m Tryz.prog 151 #[yv, x.val, .int .i64 (d : Int)] W (TravPost J Jx B pre (x.ds d) W)) :
  ∀ (n : Nat) (a : Option Addr) (c : Nat) (pre : List Nat) (W : World), B < W.heap.size → InRow 6 XT.cells (XT.In n0 W) n0 W l a → J pre W → pre.length + (l.flatMap (XT.ds d)).length ≤ N →
   CallsIn F n Tryz.prog 152 #[.slice a l.length c, .int .i64 (d : Int), .func (.func 151) #[yv] #[]] W (TravPost J Jx B pre (l.flatMap (XT.ds d)) W) := by
 intro n a c pre W hB hin hj hN
 have hdd : ∀ k : Nat, (F.depth.isSome = true → 1 ≤ k) := fun k h => by rw [hd] at h; cases h
 refine callsIn_of_wp Tryz.func152 rfl hF ?_ hro
 simp only [Tryz.ntmps152, List.size_toArray, List.length_cons, List.length_nil, Nat.reduceAdd, Nat.reduceSub, Array.replicate_succ, Array.replicate_zero, List.push_toArray, List.append_toArray, List.nil_append, List.cons_append]
 gi_wp2
 gi_loopw [11] (fun u wr => ∃ k : Nat, u = .int .i64 k ∧ k ≤ l.length ∧ J (pre ++ (l.take k).flatMap (XT.ds d)) wr ∧ KeepC B W wr) (fun u _ => l.length - (intOf u).toNat)
 case atStart => exact ⟨0, rfl, Nat.zero_le _, by simpa using hj, KeepC.refl _ _⟩
 case round =>
  obtain ⟨k, rfl, hk, hjk, hkc⟩ := hrel
  have HJ := Lib.hid hjk
  clear hjk
  by_cases hlt : k < l.length
  ·have d1 : decide (k < l.length) = true := by simpa using hlt
   have d2 : decide ((k : Int) < (l.length : Int)) = true := by rw [decide_eq_true_eq]; omega
   have x1 : (k : Int) < (l.length : Int) := by omega
   obtain ⟨b, o, rfl, hb, hr, hx⟩ := hin.kept (hkc.keptTo hnB) hlt
   have hfl := flat_len (XT.ds d) l k hlt
   have HFP := Lib.hid (fun q hq => flat_pre (XT.ds d) l k hlt q hq)
   have HTF := Lib.hid (take_flat (XT.ds d) l k hlt)
   have hcx := hc l[k] (List.getElem_mem hlt)
   have hxin := hx.keep (hkc.keptTo hnB)
   have zz := hkc.size
   generalize hgx : l[k] = x at *
   obtain ⟨op, nm, xn, wd, v, xa, xc, xl⟩ := x
   have c0 := fun (o' : Obj) => hcx (n - 1) (pre ++ (l.take k).flatMap (XT.ds d)) (wr.alloc o') (by simp; omega) (hxin.keep (Below.keptTo ((Below.refl _ _).alloc (Nat.le_refl _) o') (by omega))) (AbidesFrom.alloc hJ o' HJ.out) (by rw [List.length_append]; omega)
   have r0 : wr.cell? ⟨b, o + k * 6, none⟩ = some (.int .i64 op) := hr 0 _ rfl
   have r1 : wr.cell? ⟨b, o + k * 6 + 1, none⟩ = some (.string (bs nm)) := hr 1 _ rfl
   have r2 : wr.cell? ⟨b, o + k * 6 + 2, none⟩ = some (.int .i64 xn) := hr 2 _ rfl
   have r3 : wr.cell? ⟨b, o + k * 6 + 3, none⟩ = some (.int .i64 wd) := hr 3 _ rfl
   have r4 : wr.cell? ⟨b, o + k * 6 + 4, none⟩ = some (.int .u64 (v : Int)) := hr 4 _ rfl
   have r5 : wr.cell? ⟨b, o + k * 6 + 5, none⟩ = some (.slice xa xl.length xc) := hr 5 _ rfl
   simp only [XT.val, XT.cells] at c0
   clear hin hc hcx hr hx hxin hgx
   gi_wp2_with ((try refine ⟨hdd _, ?_⟩); gi_at_call 151; refine (c0 _).mono ?_; clear c0; rintro e W1 (⟨rfl, hj1, hk1⟩ | ⟨rfl, q, hq, hx1⟩))
   ·exact ⟨⟨k + 1, by simp; first | done | rfl | omega, by omega, by rw [HTF.out, ← List.append_assoc]; exact hj1, (hkc.alloc _).trans hk1⟩, by simp [intOf]; omega⟩
   ·go_ret
    exact .inr ⟨rfl, _, HFP.out q hq, by rw [← List.append_assoc]; exact hx1⟩
  ·have d1 : decide (k < l.length) = false := by simpa using hlt
   have d2 : decide ((k : Int) < (l.length : Int)) = false := by rw [decide_eq_false_iff_not]; omega
   have hkl : k = l.length := by omega
   have HE : Hid (J (pre ++ l.flatMap (XT.ds d)) wr) := Lib.hid (by have := HJ.out; rw [hkl, List.take_length] at this; exact this)
   clear hkl
   gi_wp2
   go_ret
   exact .inl ⟨rfl, HE.out, hkc⟩
set_option maxHeartbeats 4000000 in
set_option maxRecDepth 9000000 in
theorem eachS_in (F : Fence) (hd : F.depth = none) (hF : F.fn 153) (hG : F.fn 154) (hro : F.round = none) (B n0 H0 : Nat) (hnB : n0 ≤ B) (N : Nat) (J Jx : List Nat → World → Prop) (hJ : AbidesFrom H0 J) (yv : Value) (d : Nat) (l : List ST) (hll : l.length ≤ 12000000)
  (hc : ∀ x ∈ l, ∀ m pre W, B < W.heap.size → x.In n0 W → J pre W → pre.length + (x.ds d).length ≤ N → CallsIn F m Tryz.prog 154 #[yv, x.val, .int .i64 (d : Int)] W (TravPost J Jx B pre (x.ds d) W)) :
  ∀ (n : Nat) (a : Option Addr) (c : Nat) (pre : List Nat) (W : World), B < W.heap.size → InRow 4 ST.cells (ST.In n0 W) n0 W l a → J pre W → pre.length + (l.flatMap (ST.ds d)).length ≤ N →
   CallsIn F n Tryz.prog 153 #[.slice a l.length c, .int .i64 (d : Int), .func (.func 154) #[yv] #[]] W (TravPost J Jx B pre (l.flatMap (ST.ds d)) W) := by
 intro n a c pre W hB hin hj hN
 have hdd : ∀ k : Nat, (F.depth.isSome = true → 1 ≤ k) := fun k h => by rw [hd] at h; cases h
 refine callsIn_of_wp Tryz.func153 rfl hF ?_ hro
 simp only [Tryz.ntmps153, List.size_toArray, List.length_cons, List.length_nil, Nat.reduceAdd, Nat.reduceSub, Array.replicate_succ, Array.replicate_zero, List.push_toArray, List.append_toArray, List.nil_append, List.cons_append]
 gi_wp2
 gi_loopw [11] (fun u wr => ∃ k : Nat, u = .int .i64 k ∧ k ≤ l.length ∧ J (pre ++ (l.take k).flatMap (ST.ds d)) wr ∧ KeepC B W wr) (fun u _ => l.length - (intOf u).toNat)
 case atStart => exact ⟨0, rfl, Nat.zero_le _, by simpa using hj, KeepC.refl _ _⟩
 case round =>
  obtain ⟨k, rfl, hk, hjk, hkc⟩ := hrel
  have HJ := Lib.hid hjk
  clear hjk
  by_cases hlt : k < l.length
  ·have d1 : decide (k < l.length) = true := by simpa using hlt
   have d2 : decide ((k : Int) < (l.length : Int)) = true := by rw [decide_eq_true_eq]; omega
   have x1 : (k : Int) < (l.length : Int) := by omega
   obtain ⟨b, o, rfl, hb, hr, hx⟩ := hin.kept (hkc.keptTo hnB) hlt
   have hfl := flat_len (ST.ds d) l k hlt
   have HFP := Lib.hid (fun q hq => flat_pre (ST.ds d) l k hlt q hq)
   have HTF := Lib.hid (take_flat (ST.ds d) l k hlt)
   have hcx := hc l[k] (List.getElem_mem hlt)
   have hxin := hx.keep (hkc.keptTo hnB)
   have zz := hkc.size
   generalize hgx : l[k] = x at *
   obtain ⟨op, nm, xa, xc, xl, sa, sc, sl⟩ := x
   have c0 := fun (o' : Obj) => hcx (n - 1) (pre ++ (l.take k).flatMap (ST.ds d)) (wr.alloc o') (by simp; omega) (hxin.keep (Below.keptTo ((Below.refl _ _).alloc (Nat.le_refl _) o') (by omega))) (AbidesFrom.alloc hJ o' HJ.out) (by rw [List.length_append]; omega)
   have r0 : wr.cell? ⟨b, o + k * 4, none⟩ = some (.int .i64 op) := hr 0 _ rfl
   have r1 : wr.cell? ⟨b, o + k * 4 + 1, none⟩ = some (.string (bs nm)) := hr 1 _ rfl
   have r2 : wr.cell? ⟨b, o + k * 4 + 2, none⟩ = some (.slice xa xl.length xc) := hr 2 _ rfl
   have r3 : wr.cell? ⟨b, o + k * 4 + 3, none⟩ = some (.slice sa sl.length sc) := hr 3 _ rfl
   simp only [ST.val, ST.cells] at c0
   clear hin hc hcx hr hx hxin hgx
   gi_wp2_with ((try refine ⟨hdd _, ?_⟩); gi_at_call 154; refine (c0 _).mono ?_; clear c0; rintro e W1 (⟨rfl, hj1, hk1⟩ | ⟨rfl, q, hq, hx1⟩))
   ·exact ⟨⟨k + 1, by simp; first | done | rfl | omega, by omega, by rw [HTF.out, ← List.append_assoc]; exact hj1, (hkc.alloc _).trans hk1⟩, by simp [intOf]; omega⟩
   ·go_ret
    exact .inr ⟨rfl, _, HFP.out q hq, by rw [← List.append_assoc]; exact hx1⟩
  ·have d1 : decide (k < l.length) = false := by simpa using hlt
   have d2 : decide ((k : Int) < (l.length : Int)) = false := by rw [decide_eq_false_iff_not]; omega
   have hkl : k = l.length := by omega
   have HE : Hid (J (pre ++ l.flatMap (ST.ds d)) wr) := Lib.hid (by have := HJ.out; rw [hkl, List.take_length] at this; exact this)
   clear hkl
   gi_wp2
   go_ret
   exact .inl ⟨rfl, HE.out, hkc⟩
set_option maxHeartbeats 4000000 in
set_option maxRecDepth 9000000 in
theorem eachBind_in (F : Fence) (hd : F.depth = none) (hF : F.fn 129) (hG : F.fn 130) (hro : F.round = none) (B n0 H0 : Nat) (hnB : n0 ≤ B) (N : Nat) (J Jx : List Nat → World → Prop) (hJ : AbidesFrom H0 J) (yv : Value) (d : Nat) (l : List BT) (hll : l.length ≤ 12000000)
  (hc : ∀ x ∈ l, ∀ m pre W, B < W.heap.size → x.In n0 W → J pre W → pre.length + (x.ds d).length ≤ N → CallsIn F m Tryz.prog 130 #[yv, x.val, .int .i64 (d : Int)] W (TravPost J Jx B pre (x.ds d) W)) :
  ∀ (n : Nat) (a : Option Addr) (c : Nat) (pre : List Nat) (W : World), B < W.heap.size → InRow 7 BT.cells (BT.In n0 W) n0 W l a → J pre W → pre.length + (l.flatMap (BT.ds d)).length ≤ N →
   CallsIn F n Tryz.prog 129 #[.slice a l.length c, .int .i64 (d : Int), .func (.func 130) #[yv] #[]] W (TravPost J Jx B pre (l.flatMap (BT.ds d)) W) := by
 intro n a c pre W hB hin hj hN
 have hdd : ∀ k : Nat, (F.depth.isSome = true → 1 ≤ k) := fun k h => by rw [hd] at h; cases h
 refine callsIn_of_wp Tryz.func129 rfl hF ?_ hro
 simp only [Tryz.ntmps129, List.size_toArray, List.length_cons, List.length_nil, Nat.reduceAdd, Nat.reduceSub, Array.replicate_succ, Array.replicate_zero, List.push_toArray, List.append_toArray, List.nil_append, List.cons_append]
 gi_wp2
 gi_loopw [11] (fun u wr => ∃ k : Nat, u = .int .i64 k ∧ k ≤ l.length ∧ J (pre ++ (l.take k).flatMap (BT.ds d)) wr ∧ KeepC B W wr) (fun u _ => l.length - (intOf u).toNat)
 case atStart => exact ⟨0, rfl, Nat.zero_le _, by simpa using hj, KeepC.refl _ _⟩
 case round =>
  obtain ⟨k, rfl, hk, hjk, hkc⟩ := hrel
  have HJ := Lib.hid hjk
  clear hjk
  by_cases hlt : k < l.length
  ·have d1 : decide (k < l.length) = true := by simpa using hlt
   have d2 : decide ((k : Int) < (l.length : Int)) = true := by rw [decide_eq_true_eq]; omega
   have x1 : (k : Int) < (l.length : Int) := by omega
   obtain ⟨b, o, rfl, hb, hr, hx⟩ := hin.kept (hkc.keptTo hnB) hlt
   have hfl := flat_len (BT.ds d) l k hlt
   have HFP := Lib.hid (fun q hq => flat_pre (BT.ds d) l k hlt q hq)
   have HTF := Lib.hid (take_flat (BT.ds d) l k hlt)
   have hcx := hc l[k] (List.getElem_mem hlt)
   have hxin := hx.keep (hkc.keptTo hnB)
   have zz := hkc.size
   generalize hgx : l[k] = x at *
   obtain ⟨bn, ⟨op, nm, xn, wd, v, xa, xc, xl⟩⟩ := x
   have c0 := fun (o' : Obj) => hcx (n - 1) (pre ++ (l.take k).flatMap (BT.ds d)) (wr.alloc o') (by simp; omega) (hxin.keep (Below.keptTo ((Below.refl _ _).alloc (Nat.le_refl _) o') (by omega))) (AbidesFrom.alloc hJ o' HJ.out) (by rw [List.length_append]; omega)
   have r0 : wr.cell? ⟨b, o + k * 7, none⟩ = some (.string (bs bn)) := hr 0 _ rfl
   have r1 : wr.cell? ⟨b, o + k * 7 + 1, none⟩ = some (.int .i64 op) := hr 1 _ rfl
   have r2 : wr.cell? ⟨b, o + k * 7 + 2, none⟩ = some (.string (bs nm)) := hr 2 _ rfl
   have r3 : wr.cell? ⟨b, o + k * 7 + 3, none⟩ = some (.int .i64 xn) := hr 3 _ rfl
   have r4 : wr.cell? ⟨b, o + k * 7 + 4, none⟩ = some (.int .i64 wd) := hr 4 _ rfl
   have r5 : wr.cell? ⟨b, o + k * 7 + 5, none⟩ = some (.int .u64 (v : Int)) := hr 5 _ rfl
   have r6 : wr.cell? ⟨b, o + k * 7 + 6, none⟩ = some (.slice xa xl.length xc) := hr 6 _ rfl
   simp only [BT.val, BT.cells, XT.cells] at c0
   clear hin hc hcx hr hx hxin hgx
   gi_wp2_with ((try refine ⟨hdd _, ?_⟩); gi_at_call 130; refine (c0 _).mono ?_; clear c0; rintro e W1 (⟨rfl, hj1, hk1⟩ | ⟨rfl, q, hq, hx1⟩))
   ·exact ⟨⟨k + 1, by simp; first | done | rfl | omega, by omega, by rw [HTF.out, ← List.append_assoc]; exact hj1, (hkc.alloc _).trans hk1⟩, by simp [intOf]; omega⟩
   ·go_ret
    exact .inr ⟨rfl, _, HFP.out q hq, by rw [← List.append_assoc]; exact hx1⟩
  ·have d1 : decide (k < l.length) = false := by simpa using hlt
   have d2 : decide ((k : Int) < (l.length : Int)) = false := by rw [decide_eq_false_iff_not]; omega
   have hkl : k = l.length := by omega
   have HE : Hid (J (pre ++ l.flatMap (BT.ds d)) wr) := Lib.hid (by have := HJ.out; rw [hkl, List.take_length] at this; exact this)
   clear hkl
   gi_wp2
   go_ret
   exact .inl ⟨rfl, HE.out, hkc⟩
set_option maxHeartbeats 4000000 in
set_option maxRecDepth 9000000 in
theorem eachPort_in (F : Fence) (hd : F.depth = none) (hF : F.fn 131) (hG : F.fn 132) (hro : F.round = none) (B n0 H0 : Nat) (hnB : n0 ≤ B) (N : Nat) (J Jx : List Nat → World → Prop) (hJ : AbidesFrom H0 J) (yv : Value) (d : Nat) (l : List PT) (hll : l.length ≤ 12000000)
  (hc : ∀ x ∈ l, ∀ m pre W, B < W.heap.size → x.In n0 W → J pre W → pre.length + (x.ds d).length ≤ N → CallsIn F m Tryz.prog 132 #[yv, x.val, .int .i64 (d : Int)] W (TravPost J Jx B pre (x.ds d) W)) :
  ∀ (n : Nat) (a : Option Addr) (c : Nat) (pre : List Nat) (W : World), B < W.heap.size → InRow 8 PT.cells (PT.In n0 W) n0 W l a → J pre W → pre.length + (l.flatMap (PT.ds d)).length ≤ N →
   CallsIn F n Tryz.prog 131 #[.slice a l.length c, .int .i64 (d : Int), .func (.func 132) #[yv] #[]] W (TravPost J Jx B pre (l.flatMap (PT.ds d)) W) := by
 intro n a c pre W hB hin hj hN
 have hdd : ∀ k : Nat, (F.depth.isSome = true → 1 ≤ k) := fun k h => by rw [hd] at h; cases h
 refine callsIn_of_wp Tryz.func131 rfl hF ?_ hro
 simp only [Tryz.ntmps131, List.size_toArray, List.length_cons, List.length_nil, Nat.reduceAdd, Nat.reduceSub, Array.replicate_succ, Array.replicate_zero, List.push_toArray, List.append_toArray, List.nil_append, List.cons_append]
 gi_wp2
 gi_loopw [11] (fun u wr => ∃ k : Nat, u = .int .i64 k ∧ k ≤ l.length ∧ J (pre ++ (l.take k).flatMap (PT.ds d)) wr ∧ KeepC B W wr) (fun u _ => l.length - (intOf u).toNat)
 case atStart => exact ⟨0, rfl, Nat.zero_le _, by simpa using hj, KeepC.refl _ _⟩
 case round =>
  obtain ⟨k, rfl, hk, hjk, hkc⟩ := hrel
  have HJ := Lib.hid hjk
  clear hjk
  by_cases hlt : k < l.length
  ·have d1 : decide (k < l.length) = true := by simpa using hlt
   have d2 : decide ((k : Int) < (l.length : Int)) = true := by rw [decide_eq_true_eq]; omega
   have x1 : (k : Int) < (l.length : Int) := by omega
   obtain ⟨b, o, rfl, hb, hr, hx⟩ := hin.kept (hkc.keptTo hnB) hlt
   have hfl := flat_len (PT.ds d) l k hlt
   have HFP := Lib.hid (fun q hq => flat_pre (PT.ds d) l k hlt q hq)
   have HTF := Lib.hid (take_flat (PT.ds d) l k hlt)
   have hcx := hc l[k] (List.getElem_mem hlt)
   have hxin := hx.keep (hkc.keptTo hnB)
   have zz := hkc.size
   generalize hgx : l[k] = x at *
   obtain ⟨bn, po, ⟨op, nm, xn, wd, v, xa, xc, xl⟩⟩ := x
   have c0 := fun (o' : Obj) => hcx (n - 1) (pre ++ (l.take k).flatMap (PT.ds d)) (wr.alloc o') (by simp; omega) (hxin.keep (Below.keptTo ((Below.refl _ _).alloc (Nat.le_refl _) o') (by omega))) (AbidesFrom.alloc hJ o' HJ.out) (by rw [List.length_append]; omega)
   have r0 : wr.cell? ⟨b, o + k * 8, none⟩ = some (.string (bs bn)) := hr 0 _ rfl
   have r1 : wr.cell? ⟨b, o + k * 8 + 1, none⟩ = some (.bool po) := hr 1 _ rfl
   have r2 : wr.cell? ⟨b, o + k * 8 + 2, none⟩ = some (.int .i64 op) := hr 2 _ rfl
   have r3 : wr.cell? ⟨b, o + k * 8 + 3, none⟩ = some (.string (bs nm)) := hr 3 _ rfl
   have r4 : wr.cell? ⟨b, o + k * 8 + 4, none⟩ = some (.int .i64 xn) := hr 4 _ rfl
   have r5 : wr.cell? ⟨b, o + k * 8 + 5, none⟩ = some (.int .i64 wd) := hr 5 _ rfl
   have r6 : wr.cell? ⟨b, o + k * 8 + 6, none⟩ = some (.int .u64 (v : Int)) := hr 6 _ rfl
   have r7 : wr.cell? ⟨b, o + k * 8 + 7, none⟩ = some (.slice xa xl.length xc) := hr 7 _ rfl
   simp only [PT.val, PT.cells, XT.cells] at c0
   clear hin hc hcx hr hx hxin hgx
   gi_wp2_with ((try refine ⟨hdd _, ?_⟩); gi_at_call 132; refine (c0 _).mono ?_; clear c0; rintro e W1 (⟨rfl, hj1, hk1⟩ | ⟨rfl, q, hq, hx1⟩))
   ·exact ⟨⟨k + 1, by simp; first | done | rfl | omega, by omega, by rw [HTF.out, ← List.append_assoc]; exact hj1, (hkc.alloc _).trans hk1⟩, by simp [intOf]; omega⟩
   ·go_ret
    exact .inr ⟨rfl, _, HFP.out q hq, by rw [← List.append_assoc]; exact hx1⟩
  ·have d1 : decide (k < l.length) = false := by simpa using hlt
   have d2 : decide ((k : Int) < (l.length : Int)) = false := by rw [decide_eq_false_iff_not]; omega
   have hkl : k = l.length := by omega
   have HE : Hid (J (pre ++ l.flatMap (PT.ds d)) wr) := Lib.hid (by have := HJ.out; rw [hkl, List.take_length] at this; exact this)
   clear hkl
   gi_wp2
   go_ret
   exact .inl ⟨rfl, HE.out, hkc⟩
set_option maxHeartbeats 4000000 in
set_option maxRecDepth 9000000 in
theorem eachItem_in (F : Fence) (hd : F.depth = none) (hF : F.fn 133) (hG : F.fn 134) (hro : F.round = none) (B n0 H0 : Nat) (hnB : n0 ≤ B) (N : Nat) (J Jx : List Nat → World → Prop) (hJ : AbidesFrom H0 J) (yv : Value) (d : Nat) (l : List IT) (hll : l.length ≤ 12000000)
  (hc : ∀ x ∈ l, ∀ m pre W, B < W.heap.size → x.In n0 W → J pre W → pre.length + (x.ds d).length ≤ N → CallsIn F m Tryz.prog 134 #[yv, x.val, .int .i64 (d : Int)] W (TravPost J Jx B pre (x.ds d) W)) :
  ∀ (n : Nat) (a : Option Addr) (c : Nat) (pre : List Nat) (W : World), B < W.heap.size → InRow 9 IT.cells (IT.In n0 W) n0 W l a → J pre W → pre.length + (l.flatMap (IT.ds d)).length ≤ N →
   CallsIn F n Tryz.prog 133 #[.slice a l.length c, .int .i64 (d : Int), .func (.func 134) #[yv] #[]] W (TravPost J Jx B pre (l.flatMap (IT.ds d)) W) := by
 intro n a c pre W hB hin hj hN
 have hdd : ∀ k : Nat, (F.depth.isSome = true → 1 ≤ k) := fun k h => by rw [hd] at h; cases h
 refine callsIn_of_wp Tryz.func133 rfl hF ?_ hro
 simp only [Tryz.ntmps133, List.size_toArray, List.length_cons, List.length_nil, Nat.reduceAdd, Nat.reduceSub, Array.replicate_succ, Array.replicate_zero, List.push_toArray, List.append_toArray, List.nil_append, List.cons_append]
 gi_wp2
 gi_loopw [11] (fun u wr => ∃ k : Nat, u = .int .i64 k ∧ k ≤ l.length ∧ J (pre ++ (l.take k).flatMap (IT.ds d)) wr ∧ KeepC B W wr) (fun u _ => l.length - (intOf u).toNat)
 case atStart => exact ⟨0, rfl, Nat.zero_le _, by simpa using hj, KeepC.refl _ _⟩
 case round =>
  obtain ⟨k, rfl, hk, hjk, hkc⟩ := hrel
  have HJ := Lib.hid hjk
  clear hjk
  by_cases hlt : k < l.length
  ·have d1 : decide (k < l.length) = true := by simpa using hlt
   have d2 : decide ((k : Int) < (l.length : Int)) = true := by rw [decide_eq_true_eq]; omega
   have x1 : (k : Int) < (l.length : Int) := by omega
   obtain ⟨b, o, rfl, hb, hr, hx⟩ := hin.kept (hkc.keptTo hnB) hlt
   have hfl := flat_len (IT.ds d) l k hlt
   have HFP := Lib.hid (fun q hq => flat_pre (IT.ds d) l k hlt q hq)
   have HTF := Lib.hid (take_flat (IT.ds d) l k hlt)
   have hcx := hc l[k] (List.getElem_mem hlt)
   have hxin := hx.keep (hkc.keptTo hnB)
   have zz := hkc.size
   generalize hgx : l[k] = x at *
   obtain ⟨op, nm, nf, xa, xc, xl, sa, sc, sl, la, lc, ll, ea, ec, el, pa, pc, pl, ba, bc, bl⟩ := x
   have c0 := fun (o' : Obj) => hcx (n - 1) (pre ++ (l.take k).flatMap (IT.ds d)) (wr.alloc o') (by simp; omega) (hxin.keep (Below.keptTo ((Below.refl _ _).alloc (Nat.le_refl _) o') (by omega))) (AbidesFrom.alloc hJ o' HJ.out) (by rw [List.length_append]; omega)
   have r0 : wr.cell? ⟨b, o + k * 9, none⟩ = some (.int .i64 op) := hr 0 _ rfl
   have r1 : wr.cell? ⟨b, o + k * 9 + 1, none⟩ = some (.string (bs nm)) := hr 1 _ rfl
   have r2 : wr.cell? ⟨b, o + k * 9 + 2, none⟩ = some (.string (bs nf)) := hr 2 _ rfl
   have r3 : wr.cell? ⟨b, o + k * 9 + 3, none⟩ = some (.slice xa xl.length xc) := hr 3 _ rfl
   have r4 : wr.cell? ⟨b, o + k * 9 + 4, none⟩ = some (.slice sa sl.length sc) := hr 4 _ rfl
   have r5 : wr.cell? ⟨b, o + k * 9 + 5, none⟩ = some (.slice la ll.length lc) := hr 5 _ rfl
   have r6 : wr.cell? ⟨b, o + k * 9 + 6, none⟩ = some (.slice ea el.length ec) := hr 6 _ rfl
   have r7 : wr.cell? ⟨b, o + k * 9 + 7, none⟩ = some (.slice pa pl.length pc) := hr 7 _ rfl
   have r8 : wr.cell? ⟨b, o + k * 9 + 8, none⟩ = some (.slice ba bl.length bc) := hr 8 _ rfl
   simp only [IT.val, IT.cells] at c0
   clear hin hc hcx hr hx hxin hgx
   gi_wp2_with ((try refine ⟨hdd _, ?_⟩); gi_at_call 134; refine (c0 _).mono ?_; clear c0; rintro e W1 (⟨rfl, hj1, hk1⟩ | ⟨rfl, q, hq, hx1⟩))
   ·exact ⟨⟨k + 1, by simp; first | done | rfl | omega, by omega, by rw [HTF.out, ← List.append_assoc]; exact hj1, (hkc.alloc _).trans hk1⟩, by simp [intOf]; omega⟩
   ·go_ret
    exact .inr ⟨rfl, _, HFP.out q hq, by rw [← List.append_assoc]; exact hx1⟩
  ·have d1 : decide (k < l.length) = false := by simpa using hlt
   have d2 : decide ((k : Int) < (l.length : Int)) = false := by rw [decide_eq_false_iff_not]; omega
   have hkl : k = l.length := by omega
   have HE : Hid (J (pre ++ l.flatMap (IT.ds d)) wr) := Lib.hid (by have := HJ.out; rw [hkl, List.take_length] at this; exact this)
   clear hkl
   gi_wp2
   go_ret
   exact .inl ⟨rfl, HE.out, hkc⟩
set_option maxHeartbeats 4000000 in
set_option maxRecDepth 9000000 in
theorem eachModule_in (F : Fence) (hd : F.depth = none) (hF : F.fn 109) (hG : F.fn 110) (hro : F.round = none) (B n0 H0 : Nat) (hnB : n0 ≤ B) (N : Nat) (J Jx : List Nat → World → Prop) (hJ : AbidesFrom H0 J) (yv : Value) (d : Nat) (l : List MT) (hll : l.length ≤ 12000000)
  (hc : ∀ x ∈ l, ∀ m pre W, B < W.heap.size → x.In n0 W → J pre W → pre.length + (x.ds d).length ≤ N → CallsIn F m Tryz.prog 110 #[yv, x.val, .int .i64 (d : Int)] W (TravPost J Jx B pre (x.ds d) W)) :
  ∀ (n : Nat) (a : Option Addr) (c : Nat) (pre : List Nat) (W : World), B < W.heap.size → InRow 4 MT.cells (MT.In n0 W) n0 W l a → J pre W → pre.length + (l.flatMap (MT.ds d)).length ≤ N →
   CallsIn F n Tryz.prog 109 #[.slice a l.length c, .int .i64 (d : Int), .func (.func 110) #[yv] #[]] W (TravPost J Jx B pre (l.flatMap (MT.ds d)) W) := by
 intro n a c pre W hB hin hj hN
 have hdd : ∀ k : Nat, (F.depth.isSome = true → 1 ≤ k) := fun k h => by rw [hd] at h; cases h
 refine callsIn_of_wp Tryz.func109 rfl hF ?_ hro
 simp only [Tryz.ntmps109, List.size_toArray, List.length_cons, List.length_nil, Nat.reduceAdd, Nat.reduceSub, Array.replicate_succ, Array.replicate_zero, List.push_toArray, List.append_toArray, List.nil_append, List.cons_append]
 gi_wp2
 gi_loopw [11] (fun u wr => ∃ k : Nat, u = .int .i64 k ∧ k ≤ l.length ∧ J (pre ++ (l.take k).flatMap (MT.ds d)) wr ∧ KeepC B W wr) (fun u _ => l.length - (intOf u).toNat)
 case atStart => exact ⟨0, rfl, Nat.zero_le _, by simpa using hj, KeepC.refl _ _⟩
 case round =>
  obtain ⟨k, rfl, hk, hjk, hkc⟩ := hrel
  have HJ := Lib.hid hjk
  clear hjk
  by_cases hlt : k < l.length
  ·have d1 : decide (k < l.length) = true := by simpa using hlt
   have d2 : decide ((k : Int) < (l.length : Int)) = true := by rw [decide_eq_true_eq]; omega
   have x1 : (k : Int) < (l.length : Int) := by omega
   obtain ⟨b, o, rfl, hb, hr, hx⟩ := hin.kept (hkc.keptTo hnB) hlt
   have hfl := flat_len (MT.ds d) l k hlt
   have HFP := Lib.hid (fun q hq => flat_pre (MT.ds d) l k hlt q hq)
   have HTF := Lib.hid (take_flat (MT.ds d) l k hlt)
   have hcx := hc l[k] (List.getElem_mem hlt)
   have hxin := hx.keep (hkc.keptTo hnB)
   have zz := hkc.size
   generalize hgx : l[k] = x at *
   obtain ⟨nm, pa, pc, pl, ta, tc, tl, ia, ic, il⟩ := x
   have c0 := fun (o' : Obj) => hcx (n - 1) (pre ++ (l.take k).flatMap (MT.ds d)) (wr.alloc o') (by simp; omega) (hxin.keep (Below.keptTo ((Below.refl _ _).alloc (Nat.le_refl _) o') (by omega))) (AbidesFrom.alloc hJ o' HJ.out) (by rw [List.length_append]; omega)
   have r0 : wr.cell? ⟨b, o + k * 4, none⟩ = some (.string (bs nm)) := hr 0 _ rfl
   have r1 : wr.cell? ⟨b, o + k * 4 + 1, none⟩ = some (.slice pa pl.length pc) := hr 1 _ rfl
   have r2 : wr.cell? ⟨b, o + k * 4 + 2, none⟩ = some (.slice ta tl.length tc) := hr 2 _ rfl
   have r3 : wr.cell? ⟨b, o + k * 4 + 3, none⟩ = some (.slice ia il.length ic) := hr 3 _ rfl
   simp only [MT.val, MT.cells] at c0
   clear hin hc hcx hr hx hxin hgx
   gi_wp2_with ((try refine ⟨hdd _, ?_⟩); gi_at_call 110; refine (c0 _).mono ?_; clear c0; rintro e W1 (⟨rfl, hj1, hk1⟩ | ⟨rfl, q, hq, hx1⟩))
   ·exact ⟨⟨k + 1, by simp; first | done | rfl | omega, by omega, by rw [HTF.out, ← List.append_assoc]; exact hj1, (hkc.alloc _).trans hk1⟩, by simp [intOf]; omega⟩
   ·go_ret
    exact .inr ⟨rfl, _, HFP.out q hq, by rw [← List.append_assoc]; exact hx1⟩
  ·have d1 : decide (k < l.length) = false := by simpa using hlt
   have d2 : decide ((k : Int) < (l.length : Int)) = false := by rw [decide_eq_false_iff_not]; omega
   have hkl : k = l.length := by omega
   have HE : Hid (J (pre ++ l.flatMap (MT.ds d)) wr) := Lib.hid (by have := HJ.out; rw [hkl, List.take_length] at this; exact this)
   clear hkl
   gi_wp2
   go_ret
   exact .inl ⟨rfl, HE.out, hkc⟩
end Go.Proofs.YtiipjbafdhijlaaGreatDoor
