/-
  Maps whose keys are integers, made and looked up within a call: pick, shift, wordwise, comparison, logic.
-/
import Derived.Test.YtemolkkpigkanaaC
namespace Go.Proofs.Ytemolkkpigkanaa
open Go Go.RowKit

theorem set_alloc (w : World) (o o' : Obj) : { w.alloc o with heap := (w.alloc o).heap.setIfInBounds w.heap.size o' } = w.alloc o' := by
  show ({ w with heap := (w.heap.push o).setIfInBounds w.heap.size o' } : World) = { w with heap := w.heap.push o' }
  congr 1
  apply Array.ext_getElem?
  intro i
  rw [Array.getElem?_setIfInBounds, Array.getElem?_push, Array.getElem?_push]
  by_cases h : w.heap.size = i
  · subst h; simp
  · rw [if_neg h]
    simp [show ¬ i = w.heap.size from fun e => h e.symm]

theorem check_int {P : Program} (w : World) (K : TypeId) (hK : P.underlying K = some (.int .i64)) (k : Int) (e : Bool) : (Instr.checkKey e 10000 K (.int .i64 k)).run P w = .ok () w :=
  MapKept.run_checkKey hK (by simp [MapKept.IsKey]) e 9999

theorem find_int {P : Program} (w : World) (K : TypeId) (hK : P.underlying K = some (.int .i64)) (k : Int) (es : List MapEntry) (r : Option (Nat × Value)) (hn : Instr.findNow (.int .i64) (.int .i64 k) es 0 = some r) : (Instr.findKey K (.int .i64 k) es).run P w = .ok r w := by
  simp [Instr.findKey, run_underlying hK, hn]

theorem ins_law {P : Program} (w : World) (T K E : TypeId) (hT : P.underlying T = some (.map K E)) (hK : P.underlying K = some (.int .i64)) (es : Array MapEntry) (c : Nat) (k : Int) (v : Value)
    (hn : Instr.findNow (.int .i64) (.int .i64 k) es.toList 0 = some none) :
    (Instr.mapUpdate T (.map (some w.heap.size)) (.int .i64 k) v).run P (w.alloc (.map es c)) = .ok () (w.alloc (.map (es.push ⟨.int .i64 k, v, c⟩) (c + 1))) := by
  simp [Instr.mapUpdate, run_underlying hT, MapKept.run_getObj_map (heap_alloc_new w (.map es c)), check_int _ K hK, find_int _ K hK k es.toList none hn, MapKept.run_setObj_map _ (heap_alloc_new w (.map es c)), Result.andThen]
  exact set_alloc w _ _

theorem look_yes {P : Program} (w : World) (T K E : TypeId) (hT : P.underlying T = some (.map K E)) (hK : P.underlying K = some (.int .i64)) (b : Nat) (es : Array MapEntry) (c : Nat) (hb : w.heap[b]? = some (.map es c)) (k : Int) (i : Nat) (v : Value)
    (hn : Instr.findNow (.int .i64) (.int .i64 k) es.toList 0 = some (some (i, v))) :
    (Instr.lookup T (.map (some b)) (.int .i64 k) true).run P w = .ok (.tuple #[v, .bool true]) w := by
  simp [Instr.lookup, run_underlying hT, MapKept.run_getObj_map hb, check_int _ K hK, find_int _ K hK k es.toList _ hn, Result.andThen]

theorem look_no {P : Program} (w : World) (T K E : TypeId) (hT : P.underlying T = some (.map K E)) (hK : P.underlying K = some (.int .i64)) (b : Nat) (es : Array MapEntry) (c : Nat) (hb : w.heap[b]? = some (.map es c)) (k : Int) (z : Value) (hz : (zeroValue E).run P w = .ok z w)
    (hn : Instr.findNow (.int .i64) (.int .i64 k) es.toList 0 = some none) :
    (Instr.lookup T (.map (some b)) (.int .i64 k) true).run P w = .ok (.tuple #[z, .bool false]) w := by
  simp [Instr.lookup, run_underlying hT, MapKept.run_getObj_map hb, check_int _ K hK, find_int _ K hK k es.toList _ hn, hz, Result.andThen]


theorem pickw_yes (b : Nat) (es : Array MapEntry) (c : Nat) (k : Int) (i : Nat) (v : Value) (w : World) (hb : w.heap[b]? = some (.map es c)) (hn : Instr.findNow (.int .i64) (.int .i64 k) es.toList 0 = some (some (i, v))) :
    Calls Try.prog 54 #[.int .i64 k, .map (some b)] w fun e w' => e = .returned (.tuple #[v, .bool true]) ∧ w = w' := by
  have hl := look_yes w _ _ _ Try.underlying74 Try.underlying3 b es c hb k i v hn
  clear hn hb
  go_enter Try.func54, Try.ntmps54
  go_wp2
  go_ret2
  exact ⟨rfl, rfl⟩

theorem pickw_no (b : Nat) (es : Array MapEntry) (c : Nat) (k : Int) (w : World) (hb : w.heap[b]? = some (.map es c)) (hn : Instr.findNow (.int .i64) (.int .i64 k) es.toList 0 = some none) :
    Calls Try.prog 54 #[.int .i64 k, .map (some b)] w fun e w' => e = .returned (.tuple #[.nilFunc, .bool false]) ∧ w = w' := by
  have hl := look_no w _ _ _ Try.underlying74 Try.underlying3 b es c hb k .nilFunc (by kernel_rfl) hn
  clear hn hb
  go_enter Try.func54, Try.ntmps54
  go_wp2
  go_ret2
  exact ⟨rfl, rfl⟩

theorem pickb_yes (b : Nat) (es : Array MapEntry) (c : Nat) (k : Int) (i : Nat) (v : Value) (w : World) (hb : w.heap[b]? = some (.map es c)) (hn : Instr.findNow (.int .i64) (.int .i64 k) es.toList 0 = some (some (i, v))) :
    Calls Try.prog 63 #[.int .i64 k, .map (some b)] w fun e w' => e = .returned (.tuple #[v, .bool true]) ∧ w = w' := by
  have hl := look_yes w _ _ _ Try.underlying76 Try.underlying3 b es c hb k i v hn
  clear hn hb
  go_enter Try.func63, Try.ntmps63
  go_wp2
  go_ret2
  exact ⟨rfl, rfl⟩

theorem pickb_no (b : Nat) (es : Array MapEntry) (c : Nat) (k : Int) (w : World) (hb : w.heap[b]? = some (.map es c)) (hn : Instr.findNow (.int .i64) (.int .i64 k) es.toList 0 = some none) :
    Calls Try.prog 63 #[.int .i64 k, .map (some b)] w fun e w' => e = .returned (.tuple #[.nilFunc, .bool false]) ∧ w = w' := by
  have hl := look_no w _ _ _ Try.underlying76 Try.underlying3 b es c hb k .nilFunc (by kernel_rfl) hn
  clear hn hb
  go_enter Try.func63, Try.ntmps63
  go_wp2
  go_ret2
  exact ⟨rfl, rfl⟩

set_option maxHeartbeats 1000000 in
theorem shift_17  (w : World) : Calls Try.prog 40 #[.int .i64 17] w fun e w' => e = .returned (.tuple #[.func (.func 55) #[] #[], .bool true]) ∧ Below w.heap.size w w' := by
  have hm := run_makeMap (P := Try.prog) 74 w
  have i0 := ins_law w _ _ _ Try.underlying74 Try.underlying3 #[] 0 17 (.func (.func 55) #[] #[]) (by rfl)
  have i1 := ins_law w _ _ _ Try.underlying74 Try.underlying3 #[⟨.int .i64 17, .func (.func 55) #[] #[], 0⟩] 1 18 (.func (.func 56) #[] #[]) (by rfl)
  go_enter Try.func40, Try.ntmps40
  go_wp2_with (go_at_call 54; refine (pickw_yes w.heap.size #[⟨.int .i64 17, .func (.func 55) #[] #[], 0⟩, ⟨.int .i64 18, .func (.func 56) #[] #[], 1⟩] 2 17 0 (.func (.func 55) #[] #[]) _ ?_ ?_).mono ?_; (· exact heap_alloc_new w _); (· rfl); rintro e w' ⟨rfl, rfl⟩)
  go_ret2
  exact ⟨rfl, (Below.refl _ _).alloc (Nat.le_refl _) _⟩

set_option maxHeartbeats 1000000 in
theorem shift_18  (w : World) : Calls Try.prog 40 #[.int .i64 18] w fun e w' => e = .returned (.tuple #[.func (.func 56) #[] #[], .bool true]) ∧ Below w.heap.size w w' := by
  have hm := run_makeMap (P := Try.prog) 74 w
  have i0 := ins_law w _ _ _ Try.underlying74 Try.underlying3 #[] 0 17 (.func (.func 55) #[] #[]) (by rfl)
  have i1 := ins_law w _ _ _ Try.underlying74 Try.underlying3 #[⟨.int .i64 17, .func (.func 55) #[] #[], 0⟩] 1 18 (.func (.func 56) #[] #[]) (by rfl)
  go_enter Try.func40, Try.ntmps40
  go_wp2_with (go_at_call 54; refine (pickw_yes w.heap.size #[⟨.int .i64 17, .func (.func 55) #[] #[], 0⟩, ⟨.int .i64 18, .func (.func 56) #[] #[], 1⟩] 2 18 1 (.func (.func 56) #[] #[]) _ ?_ ?_).mono ?_; (· exact heap_alloc_new w _); (· rfl); rintro e w' ⟨rfl, rfl⟩)
  go_ret2
  exact ⟨rfl, (Below.refl _ _).alloc (Nat.le_refl _) _⟩

set_option maxHeartbeats 1000000 in
theorem shift_no (op : Int) (n17 : ¬ op = 17) (n18 : ¬ op = 18) (w : World) : Calls Try.prog 40 #[.int .i64 op] w fun e w' => e = .returned (.tuple #[.nilFunc, .bool false]) ∧ Below w.heap.size w w' := by
  have hm := run_makeMap (P := Try.prog) 74 w
  have i0 := ins_law w _ _ _ Try.underlying74 Try.underlying3 #[] 0 17 (.func (.func 55) #[] #[]) (by rfl)
  have i1 := ins_law w _ _ _ Try.underlying74 Try.underlying3 #[⟨.int .i64 17, .func (.func 55) #[] #[], 0⟩] 1 18 (.func (.func 56) #[] #[]) (by rfl)
  have hn : Instr.findNow (.int .i64) (.int .i64 op) (#[⟨.int .i64 17, .func (.func 55) #[] #[], 0⟩, ⟨.int .i64 18, .func (.func 56) #[] #[], 1⟩] : Array MapEntry).toList 0 = some none := by simp [Instr.findNow, Instr.sameNow, beq_false_of_ne n17, beq_false_of_ne n18]
  have HN := Lib.hid hn
  clear hn n17 n18
  go_enter Try.func40, Try.ntmps40
  go_wp2_with (go_at_call 54; refine (pickw_no w.heap.size #[⟨.int .i64 17, .func (.func 55) #[] #[], 0⟩, ⟨.int .i64 18, .func (.func 56) #[] #[], 1⟩] 2 op _ ?_ ?_).mono ?_; (· exact heap_alloc_new w _); (· exact HN.out); rintro e w' ⟨rfl, rfl⟩)
  go_ret2
  exact ⟨rfl, (Below.refl _ _).alloc (Nat.le_refl _) _⟩

set_option maxHeartbeats 1000000 in
theorem wordwise_11  (w : World) : Calls Try.prog 41 #[.int .i64 11] w fun e w' => e = .returned (.tuple #[.func (.func 57) #[] #[], .bool true]) ∧ Below w.heap.size w w' := by
  have hm := run_makeMap (P := Try.prog) 74 w
  have i0 := ins_law w _ _ _ Try.underlying74 Try.underlying3 #[] 0 11 (.func (.func 57) #[] #[]) (by rfl)
  have i1 := ins_law w _ _ _ Try.underlying74 Try.underlying3 #[⟨.int .i64 11, .func (.func 57) #[] #[], 0⟩] 1 12 (.func (.func 58) #[] #[]) (by rfl)
  have i2 := ins_law w _ _ _ Try.underlying74 Try.underlying3 #[⟨.int .i64 11, .func (.func 57) #[] #[], 0⟩, ⟨.int .i64 12, .func (.func 58) #[] #[], 1⟩] 2 13 (.func (.func 59) #[] #[]) (by rfl)
  have i3 := ins_law w _ _ _ Try.underlying74 Try.underlying3 #[⟨.int .i64 11, .func (.func 57) #[] #[], 0⟩, ⟨.int .i64 12, .func (.func 58) #[] #[], 1⟩, ⟨.int .i64 13, .func (.func 59) #[] #[], 2⟩] 3 14 (.func (.func 60) #[] #[]) (by rfl)
  have i4 := ins_law w _ _ _ Try.underlying74 Try.underlying3 #[⟨.int .i64 11, .func (.func 57) #[] #[], 0⟩, ⟨.int .i64 12, .func (.func 58) #[] #[], 1⟩, ⟨.int .i64 13, .func (.func 59) #[] #[], 2⟩, ⟨.int .i64 14, .func (.func 60) #[] #[], 3⟩] 4 15 (.func (.func 61) #[] #[]) (by rfl)
  have i5 := ins_law w _ _ _ Try.underlying74 Try.underlying3 #[⟨.int .i64 11, .func (.func 57) #[] #[], 0⟩, ⟨.int .i64 12, .func (.func 58) #[] #[], 1⟩, ⟨.int .i64 13, .func (.func 59) #[] #[], 2⟩, ⟨.int .i64 14, .func (.func 60) #[] #[], 3⟩, ⟨.int .i64 15, .func (.func 61) #[] #[], 4⟩] 5 16 (.func (.func 62) #[] #[]) (by rfl)
  go_enter Try.func41, Try.ntmps41
  go_wp2_with (go_at_call 54; refine (pickw_yes w.heap.size #[⟨.int .i64 11, .func (.func 57) #[] #[], 0⟩, ⟨.int .i64 12, .func (.func 58) #[] #[], 1⟩, ⟨.int .i64 13, .func (.func 59) #[] #[], 2⟩, ⟨.int .i64 14, .func (.func 60) #[] #[], 3⟩, ⟨.int .i64 15, .func (.func 61) #[] #[], 4⟩, ⟨.int .i64 16, .func (.func 62) #[] #[], 5⟩] 6 11 0 (.func (.func 57) #[] #[]) _ ?_ ?_).mono ?_; (· exact heap_alloc_new w _); (· rfl); rintro e w' ⟨rfl, rfl⟩)
  go_ret2
  exact ⟨rfl, (Below.refl _ _).alloc (Nat.le_refl _) _⟩

set_option maxHeartbeats 1000000 in
theorem wordwise_12  (w : World) : Calls Try.prog 41 #[.int .i64 12] w fun e w' => e = .returned (.tuple #[.func (.func 58) #[] #[], .bool true]) ∧ Below w.heap.size w w' := by
  have hm := run_makeMap (P := Try.prog) 74 w
  have i0 := ins_law w _ _ _ Try.underlying74 Try.underlying3 #[] 0 11 (.func (.func 57) #[] #[]) (by rfl)
  have i1 := ins_law w _ _ _ Try.underlying74 Try.underlying3 #[⟨.int .i64 11, .func (.func 57) #[] #[], 0⟩] 1 12 (.func (.func 58) #[] #[]) (by rfl)
  have i2 := ins_law w _ _ _ Try.underlying74 Try.underlying3 #[⟨.int .i64 11, .func (.func 57) #[] #[], 0⟩, ⟨.int .i64 12, .func (.func 58) #[] #[], 1⟩] 2 13 (.func (.func 59) #[] #[]) (by rfl)
  have i3 := ins_law w _ _ _ Try.underlying74 Try.underlying3 #[⟨.int .i64 11, .func (.func 57) #[] #[], 0⟩, ⟨.int .i64 12, .func (.func 58) #[] #[], 1⟩, ⟨.int .i64 13, .func (.func 59) #[] #[], 2⟩] 3 14 (.func (.func 60) #[] #[]) (by rfl)
  have i4 := ins_law w _ _ _ Try.underlying74 Try.underlying3 #[⟨.int .i64 11, .func (.func 57) #[] #[], 0⟩, ⟨.int .i64 12, .func (.func 58) #[] #[], 1⟩, ⟨.int .i64 13, .func (.func 59) #[] #[], 2⟩, ⟨.int .i64 14, .func (.func 60) #[] #[], 3⟩] 4 15 (.func (.func 61) #[] #[]) (by rfl)
  have i5 := ins_law w _ _ _ Try.underlying74 Try.underlying3 #[⟨.int .i64 11, .func (.func 57) #[] #[], 0⟩, ⟨.int .i64 12, .func (.func 58) #[] #[], 1⟩, ⟨.int .i64 13, .func (.func 59) #[] #[], 2⟩, ⟨.int .i64 14, .func (.func 60) #[] #[], 3⟩, ⟨.int .i64 15, .func (.func 61) #[] #[], 4⟩] 5 16 (.func (.func 62) #[] #[]) (by rfl)
  go_enter Try.func41, Try.ntmps41
  go_wp2_with (go_at_call 54; refine (pickw_yes w.heap.size #[⟨.int .i64 11, .func (.func 57) #[] #[], 0⟩, ⟨.int .i64 12, .func (.func 58) #[] #[], 1⟩, ⟨.int .i64 13, .func (.func 59) #[] #[], 2⟩, ⟨.int .i64 14, .func (.func 60) #[] #[], 3⟩, ⟨.int .i64 15, .func (.func 61) #[] #[], 4⟩, ⟨.int .i64 16, .func (.func 62) #[] #[], 5⟩] 6 12 1 (.func (.func 58) #[] #[]) _ ?_ ?_).mono ?_; (· exact heap_alloc_new w _); (· rfl); rintro e w' ⟨rfl, rfl⟩)
  go_ret2
  exact ⟨rfl, (Below.refl _ _).alloc (Nat.le_refl _) _⟩

set_option maxHeartbeats 1000000 in
theorem wordwise_13  (w : World) : Calls Try.prog 41 #[.int .i64 13] w fun e w' => e = .returned (.tuple #[.func (.func 59) #[] #[], .bool true]) ∧ Below w.heap.size w w' := by
  have hm := run_makeMap (P := Try.prog) 74 w
  have i0 := ins_law w _ _ _ Try.underlying74 Try.underlying3 #[] 0 11 (.func (.func 57) #[] #[]) (by rfl)
  have i1 := ins_law w _ _ _ Try.underlying74 Try.underlying3 #[⟨.int .i64 11, .func (.func 57) #[] #[], 0⟩] 1 12 (.func (.func 58) #[] #[]) (by rfl)
  have i2 := ins_law w _ _ _ Try.underlying74 Try.underlying3 #[⟨.int .i64 11, .func (.func 57) #[] #[], 0⟩, ⟨.int .i64 12, .func (.func 58) #[] #[], 1⟩] 2 13 (.func (.func 59) #[] #[]) (by rfl)
  have i3 := ins_law w _ _ _ Try.underlying74 Try.underlying3 #[⟨.int .i64 11, .func (.func 57) #[] #[], 0⟩, ⟨.int .i64 12, .func (.func 58) #[] #[], 1⟩, ⟨.int .i64 13, .func (.func 59) #[] #[], 2⟩] 3 14 (.func (.func 60) #[] #[]) (by rfl)
  have i4 := ins_law w _ _ _ Try.underlying74 Try.underlying3 #[⟨.int .i64 11, .func (.func 57) #[] #[], 0⟩, ⟨.int .i64 12, .func (.func 58) #[] #[], 1⟩, ⟨.int .i64 13, .func (.func 59) #[] #[], 2⟩, ⟨.int .i64 14, .func (.func 60) #[] #[], 3⟩] 4 15 (.func (.func 61) #[] #[]) (by rfl)
  have i5 := ins_law w _ _ _ Try.underlying74 Try.underlying3 #[⟨.int .i64 11, .func (.func 57) #[] #[], 0⟩, ⟨.int .i64 12, .func (.func 58) #[] #[], 1⟩, ⟨.int .i64 13, .func (.func 59) #[] #[], 2⟩, ⟨.int .i64 14, .func (.func 60) #[] #[], 3⟩, ⟨.int .i64 15, .func (.func 61) #[] #[], 4⟩] 5 16 (.func (.func 62) #[] #[]) (by rfl)
  go_enter Try.func41, Try.ntmps41
  go_wp2_with (go_at_call 54; refine (pickw_yes w.heap.size #[⟨.int .i64 11, .func (.func 57) #[] #[], 0⟩, ⟨.int .i64 12, .func (.func 58) #[] #[], 1⟩, ⟨.int .i64 13, .func (.func 59) #[] #[], 2⟩, ⟨.int .i64 14, .func (.func 60) #[] #[], 3⟩, ⟨.int .i64 15, .func (.func 61) #[] #[], 4⟩, ⟨.int .i64 16, .func (.func 62) #[] #[], 5⟩] 6 13 2 (.func (.func 59) #[] #[]) _ ?_ ?_).mono ?_; (· exact heap_alloc_new w _); (· rfl); rintro e w' ⟨rfl, rfl⟩)
  go_ret2
  exact ⟨rfl, (Below.refl _ _).alloc (Nat.le_refl _) _⟩

set_option maxHeartbeats 1000000 in
theorem wordwise_14  (w : World) : Calls Try.prog 41 #[.int .i64 14] w fun e w' => e = .returned (.tuple #[.func (.func 60) #[] #[], .bool true]) ∧ Below w.heap.size w w' := by
  have hm := run_makeMap (P := Try.prog) 74 w
  have i0 := ins_law w _ _ _ Try.underlying74 Try.underlying3 #[] 0 11 (.func (.func 57) #[] #[]) (by rfl)
  have i1 := ins_law w _ _ _ Try.underlying74 Try.underlying3 #[⟨.int .i64 11, .func (.func 57) #[] #[], 0⟩] 1 12 (.func (.func 58) #[] #[]) (by rfl)
  have i2 := ins_law w _ _ _ Try.underlying74 Try.underlying3 #[⟨.int .i64 11, .func (.func 57) #[] #[], 0⟩, ⟨.int .i64 12, .func (.func 58) #[] #[], 1⟩] 2 13 (.func (.func 59) #[] #[]) (by rfl)
  have i3 := ins_law w _ _ _ Try.underlying74 Try.underlying3 #[⟨.int .i64 11, .func (.func 57) #[] #[], 0⟩, ⟨.int .i64 12, .func (.func 58) #[] #[], 1⟩, ⟨.int .i64 13, .func (.func 59) #[] #[], 2⟩] 3 14 (.func (.func 60) #[] #[]) (by rfl)
  have i4 := ins_law w _ _ _ Try.underlying74 Try.underlying3 #[⟨.int .i64 11, .func (.func 57) #[] #[], 0⟩, ⟨.int .i64 12, .func (.func 58) #[] #[], 1⟩, ⟨.int .i64 13, .func (.func 59) #[] #[], 2⟩, ⟨.int .i64 14, .func (.func 60) #[] #[], 3⟩] 4 15 (.func (.func 61) #[] #[]) (by rfl)
  have i5 := ins_law w _ _ _ Try.underlying74 Try.underlying3 #[⟨.int .i64 11, .func (.func 57) #[] #[], 0⟩, ⟨.int .i64 12, .func (.func 58) #[] #[], 1⟩, ⟨.int .i64 13, .func (.func 59) #[] #[], 2⟩, ⟨.int .i64 14, .func (.func 60) #[] #[], 3⟩, ⟨.int .i64 15, .func (.func 61) #[] #[], 4⟩] 5 16 (.func (.func 62) #[] #[]) (by rfl)
  go_enter Try.func41, Try.ntmps41
  go_wp2_with (go_at_call 54; refine (pickw_yes w.heap.size #[⟨.int .i64 11, .func (.func 57) #[] #[], 0⟩, ⟨.int .i64 12, .func (.func 58) #[] #[], 1⟩, ⟨.int .i64 13, .func (.func 59) #[] #[], 2⟩, ⟨.int .i64 14, .func (.func 60) #[] #[], 3⟩, ⟨.int .i64 15, .func (.func 61) #[] #[], 4⟩, ⟨.int .i64 16, .func (.func 62) #[] #[], 5⟩] 6 14 3 (.func (.func 60) #[] #[]) _ ?_ ?_).mono ?_; (· exact heap_alloc_new w _); (· rfl); rintro e w' ⟨rfl, rfl⟩)
  go_ret2
  exact ⟨rfl, (Below.refl _ _).alloc (Nat.le_refl _) _⟩

set_option maxHeartbeats 1000000 in
theorem wordwise_15  (w : World) : Calls Try.prog 41 #[.int .i64 15] w fun e w' => e = .returned (.tuple #[.func (.func 61) #[] #[], .bool true]) ∧ Below w.heap.size w w' := by
  have hm := run_makeMap (P := Try.prog) 74 w
  have i0 := ins_law w _ _ _ Try.underlying74 Try.underlying3 #[] 0 11 (.func (.func 57) #[] #[]) (by rfl)
  have i1 := ins_law w _ _ _ Try.underlying74 Try.underlying3 #[⟨.int .i64 11, .func (.func 57) #[] #[], 0⟩] 1 12 (.func (.func 58) #[] #[]) (by rfl)
  have i2 := ins_law w _ _ _ Try.underlying74 Try.underlying3 #[⟨.int .i64 11, .func (.func 57) #[] #[], 0⟩, ⟨.int .i64 12, .func (.func 58) #[] #[], 1⟩] 2 13 (.func (.func 59) #[] #[]) (by rfl)
  have i3 := ins_law w _ _ _ Try.underlying74 Try.underlying3 #[⟨.int .i64 11, .func (.func 57) #[] #[], 0⟩, ⟨.int .i64 12, .func (.func 58) #[] #[], 1⟩, ⟨.int .i64 13, .func (.func 59) #[] #[], 2⟩] 3 14 (.func (.func 60) #[] #[]) (by rfl)
  have i4 := ins_law w _ _ _ Try.underlying74 Try.underlying3 #[⟨.int .i64 11, .func (.func 57) #[] #[], 0⟩, ⟨.int .i64 12, .func (.func 58) #[] #[], 1⟩, ⟨.int .i64 13, .func (.func 59) #[] #[], 2⟩, ⟨.int .i64 14, .func (.func 60) #[] #[], 3⟩] 4 15 (.func (.func 61) #[] #[]) (by rfl)
  have i5 := ins_law w _ _ _ Try.underlying74 Try.underlying3 #[⟨.int .i64 11, .func (.func 57) #[] #[], 0⟩, ⟨.int .i64 12, .func (.func 58) #[] #[], 1⟩, ⟨.int .i64 13, .func (.func 59) #[] #[], 2⟩, ⟨.int .i64 14, .func (.func 60) #[] #[], 3⟩, ⟨.int .i64 15, .func (.func 61) #[] #[], 4⟩] 5 16 (.func (.func 62) #[] #[]) (by rfl)
  go_enter Try.func41, Try.ntmps41
  go_wp2_with (go_at_call 54; refine (pickw_yes w.heap.size #[⟨.int .i64 11, .func (.func 57) #[] #[], 0⟩, ⟨.int .i64 12, .func (.func 58) #[] #[], 1⟩, ⟨.int .i64 13, .func (.func 59) #[] #[], 2⟩, ⟨.int .i64 14, .func (.func 60) #[] #[], 3⟩, ⟨.int .i64 15, .func (.func 61) #[] #[], 4⟩, ⟨.int .i64 16, .func (.func 62) #[] #[], 5⟩] 6 15 4 (.func (.func 61) #[] #[]) _ ?_ ?_).mono ?_; (· exact heap_alloc_new w _); (· rfl); rintro e w' ⟨rfl, rfl⟩)
  go_ret2
  exact ⟨rfl, (Below.refl _ _).alloc (Nat.le_refl _) _⟩

set_option maxHeartbeats 1000000 in
theorem wordwise_16  (w : World) : Calls Try.prog 41 #[.int .i64 16] w fun e w' => e = .returned (.tuple #[.func (.func 62) #[] #[], .bool true]) ∧ Below w.heap.size w w' := by
  have hm := run_makeMap (P := Try.prog) 74 w
  have i0 := ins_law w _ _ _ Try.underlying74 Try.underlying3 #[] 0 11 (.func (.func 57) #[] #[]) (by rfl)
  have i1 := ins_law w _ _ _ Try.underlying74 Try.underlying3 #[⟨.int .i64 11, .func (.func 57) #[] #[], 0⟩] 1 12 (.func (.func 58) #[] #[]) (by rfl)
  have i2 := ins_law w _ _ _ Try.underlying74 Try.underlying3 #[⟨.int .i64 11, .func (.func 57) #[] #[], 0⟩, ⟨.int .i64 12, .func (.func 58) #[] #[], 1⟩] 2 13 (.func (.func 59) #[] #[]) (by rfl)
  have i3 := ins_law w _ _ _ Try.underlying74 Try.underlying3 #[⟨.int .i64 11, .func (.func 57) #[] #[], 0⟩, ⟨.int .i64 12, .func (.func 58) #[] #[], 1⟩, ⟨.int .i64 13, .func (.func 59) #[] #[], 2⟩] 3 14 (.func (.func 60) #[] #[]) (by rfl)
  have i4 := ins_law w _ _ _ Try.underlying74 Try.underlying3 #[⟨.int .i64 11, .func (.func 57) #[] #[], 0⟩, ⟨.int .i64 12, .func (.func 58) #[] #[], 1⟩, ⟨.int .i64 13, .func (.func 59) #[] #[], 2⟩, ⟨.int .i64 14, .func (.func 60) #[] #[], 3⟩] 4 15 (.func (.func 61) #[] #[]) (by rfl)
  have i5 := ins_law w _ _ _ Try.underlying74 Try.underlying3 #[⟨.int .i64 11, .func (.func 57) #[] #[], 0⟩, ⟨.int .i64 12, .func (.func 58) #[] #[], 1⟩, ⟨.int .i64 13, .func (.func 59) #[] #[], 2⟩, ⟨.int .i64 14, .func (.func 60) #[] #[], 3⟩, ⟨.int .i64 15, .func (.func 61) #[] #[], 4⟩] 5 16 (.func (.func 62) #[] #[]) (by rfl)
  go_enter Try.func41, Try.ntmps41
  go_wp2_with (go_at_call 54; refine (pickw_yes w.heap.size #[⟨.int .i64 11, .func (.func 57) #[] #[], 0⟩, ⟨.int .i64 12, .func (.func 58) #[] #[], 1⟩, ⟨.int .i64 13, .func (.func 59) #[] #[], 2⟩, ⟨.int .i64 14, .func (.func 60) #[] #[], 3⟩, ⟨.int .i64 15, .func (.func 61) #[] #[], 4⟩, ⟨.int .i64 16, .func (.func 62) #[] #[], 5⟩] 6 16 5 (.func (.func 62) #[] #[]) _ ?_ ?_).mono ?_; (· exact heap_alloc_new w _); (· rfl); rintro e w' ⟨rfl, rfl⟩)
  go_ret2
  exact ⟨rfl, (Below.refl _ _).alloc (Nat.le_refl _) _⟩

set_option maxHeartbeats 1000000 in
theorem wordwise_no (op : Int) (n11 : ¬ op = 11) (n12 : ¬ op = 12) (n13 : ¬ op = 13) (n14 : ¬ op = 14) (n15 : ¬ op = 15) (n16 : ¬ op = 16) (w : World) : Calls Try.prog 41 #[.int .i64 op] w fun e w' => e = .returned (.tuple #[.nilFunc, .bool false]) ∧ Below w.heap.size w w' := by
  have hm := run_makeMap (P := Try.prog) 74 w
  have i0 := ins_law w _ _ _ Try.underlying74 Try.underlying3 #[] 0 11 (.func (.func 57) #[] #[]) (by rfl)
  have i1 := ins_law w _ _ _ Try.underlying74 Try.underlying3 #[⟨.int .i64 11, .func (.func 57) #[] #[], 0⟩] 1 12 (.func (.func 58) #[] #[]) (by rfl)
  have i2 := ins_law w _ _ _ Try.underlying74 Try.underlying3 #[⟨.int .i64 11, .func (.func 57) #[] #[], 0⟩, ⟨.int .i64 12, .func (.func 58) #[] #[], 1⟩] 2 13 (.func (.func 59) #[] #[]) (by rfl)
  have i3 := ins_law w _ _ _ Try.underlying74 Try.underlying3 #[⟨.int .i64 11, .func (.func 57) #[] #[], 0⟩, ⟨.int .i64 12, .func (.func 58) #[] #[], 1⟩, ⟨.int .i64 13, .func (.func 59) #[] #[], 2⟩] 3 14 (.func (.func 60) #[] #[]) (by rfl)
  have i4 := ins_law w _ _ _ Try.underlying74 Try.underlying3 #[⟨.int .i64 11, .func (.func 57) #[] #[], 0⟩, ⟨.int .i64 12, .func (.func 58) #[] #[], 1⟩, ⟨.int .i64 13, .func (.func 59) #[] #[], 2⟩, ⟨.int .i64 14, .func (.func 60) #[] #[], 3⟩] 4 15 (.func (.func 61) #[] #[]) (by rfl)
  have i5 := ins_law w _ _ _ Try.underlying74 Try.underlying3 #[⟨.int .i64 11, .func (.func 57) #[] #[], 0⟩, ⟨.int .i64 12, .func (.func 58) #[] #[], 1⟩, ⟨.int .i64 13, .func (.func 59) #[] #[], 2⟩, ⟨.int .i64 14, .func (.func 60) #[] #[], 3⟩, ⟨.int .i64 15, .func (.func 61) #[] #[], 4⟩] 5 16 (.func (.func 62) #[] #[]) (by rfl)
  have hn : Instr.findNow (.int .i64) (.int .i64 op) (#[⟨.int .i64 11, .func (.func 57) #[] #[], 0⟩, ⟨.int .i64 12, .func (.func 58) #[] #[], 1⟩, ⟨.int .i64 13, .func (.func 59) #[] #[], 2⟩, ⟨.int .i64 14, .func (.func 60) #[] #[], 3⟩, ⟨.int .i64 15, .func (.func 61) #[] #[], 4⟩, ⟨.int .i64 16, .func (.func 62) #[] #[], 5⟩] : Array MapEntry).toList 0 = some none := by simp [Instr.findNow, Instr.sameNow, beq_false_of_ne n11, beq_false_of_ne n12, beq_false_of_ne n13, beq_false_of_ne n14, beq_false_of_ne n15, beq_false_of_ne n16]
  have HN := Lib.hid hn
  clear hn n11 n12 n13 n14 n15 n16
  go_enter Try.func41, Try.ntmps41
  go_wp2_with (go_at_call 54; refine (pickw_no w.heap.size #[⟨.int .i64 11, .func (.func 57) #[] #[], 0⟩, ⟨.int .i64 12, .func (.func 58) #[] #[], 1⟩, ⟨.int .i64 13, .func (.func 59) #[] #[], 2⟩, ⟨.int .i64 14, .func (.func 60) #[] #[], 3⟩, ⟨.int .i64 15, .func (.func 61) #[] #[], 4⟩, ⟨.int .i64 16, .func (.func 62) #[] #[], 5⟩] 6 op _ ?_ ?_).mono ?_; (· exact heap_alloc_new w _); (· exact HN.out); rintro e w' ⟨rfl, rfl⟩)
  go_ret2
  exact ⟨rfl, (Below.refl _ _).alloc (Nat.le_refl _) _⟩

set_option maxHeartbeats 1000000 in
theorem comparison_19  (w : World) : Calls Try.prog 42 #[.int .i64 19] w fun e w' => e = .returned (.tuple #[.func (.func 64) #[] #[], .bool true]) ∧ Below w.heap.size w w' := by
  have hm := run_makeMap (P := Try.prog) 76 w
  have i0 := ins_law w _ _ _ Try.underlying76 Try.underlying3 #[] 0 19 (.func (.func 64) #[] #[]) (by rfl)
  have i1 := ins_law w _ _ _ Try.underlying76 Try.underlying3 #[⟨.int .i64 19, .func (.func 64) #[] #[], 0⟩] 1 20 (.func (.func 65) #[] #[]) (by rfl)
  have i2 := ins_law w _ _ _ Try.underlying76 Try.underlying3 #[⟨.int .i64 19, .func (.func 64) #[] #[], 0⟩, ⟨.int .i64 20, .func (.func 65) #[] #[], 1⟩] 2 21 (.func (.func 66) #[] #[]) (by rfl)
  have i3 := ins_law w _ _ _ Try.underlying76 Try.underlying3 #[⟨.int .i64 19, .func (.func 64) #[] #[], 0⟩, ⟨.int .i64 20, .func (.func 65) #[] #[], 1⟩, ⟨.int .i64 21, .func (.func 66) #[] #[], 2⟩] 3 22 (.func (.func 67) #[] #[]) (by rfl)
  have i4 := ins_law w _ _ _ Try.underlying76 Try.underlying3 #[⟨.int .i64 19, .func (.func 64) #[] #[], 0⟩, ⟨.int .i64 20, .func (.func 65) #[] #[], 1⟩, ⟨.int .i64 21, .func (.func 66) #[] #[], 2⟩, ⟨.int .i64 22, .func (.func 67) #[] #[], 3⟩] 4 23 (.func (.func 68) #[] #[]) (by rfl)
  have i5 := ins_law w _ _ _ Try.underlying76 Try.underlying3 #[⟨.int .i64 19, .func (.func 64) #[] #[], 0⟩, ⟨.int .i64 20, .func (.func 65) #[] #[], 1⟩, ⟨.int .i64 21, .func (.func 66) #[] #[], 2⟩, ⟨.int .i64 22, .func (.func 67) #[] #[], 3⟩, ⟨.int .i64 23, .func (.func 68) #[] #[], 4⟩] 5 24 (.func (.func 69) #[] #[]) (by rfl)
  go_enter Try.func42, Try.ntmps42
  go_wp2_with (go_at_call 63; refine (pickb_yes w.heap.size #[⟨.int .i64 19, .func (.func 64) #[] #[], 0⟩, ⟨.int .i64 20, .func (.func 65) #[] #[], 1⟩, ⟨.int .i64 21, .func (.func 66) #[] #[], 2⟩, ⟨.int .i64 22, .func (.func 67) #[] #[], 3⟩, ⟨.int .i64 23, .func (.func 68) #[] #[], 4⟩, ⟨.int .i64 24, .func (.func 69) #[] #[], 5⟩] 6 19 0 (.func (.func 64) #[] #[]) _ ?_ ?_).mono ?_; (· exact heap_alloc_new w _); (· rfl); rintro e w' ⟨rfl, rfl⟩)
  go_ret2
  exact ⟨rfl, (Below.refl _ _).alloc (Nat.le_refl _) _⟩

set_option maxHeartbeats 1000000 in
theorem comparison_20  (w : World) : Calls Try.prog 42 #[.int .i64 20] w fun e w' => e = .returned (.tuple #[.func (.func 65) #[] #[], .bool true]) ∧ Below w.heap.size w w' := by
  have hm := run_makeMap (P := Try.prog) 76 w
  have i0 := ins_law w _ _ _ Try.underlying76 Try.underlying3 #[] 0 19 (.func (.func 64) #[] #[]) (by rfl)
  have i1 := ins_law w _ _ _ Try.underlying76 Try.underlying3 #[⟨.int .i64 19, .func (.func 64) #[] #[], 0⟩] 1 20 (.func (.func 65) #[] #[]) (by rfl)
  have i2 := ins_law w _ _ _ Try.underlying76 Try.underlying3 #[⟨.int .i64 19, .func (.func 64) #[] #[], 0⟩, ⟨.int .i64 20, .func (.func 65) #[] #[], 1⟩] 2 21 (.func (.func 66) #[] #[]) (by rfl)
  have i3 := ins_law w _ _ _ Try.underlying76 Try.underlying3 #[⟨.int .i64 19, .func (.func 64) #[] #[], 0⟩, ⟨.int .i64 20, .func (.func 65) #[] #[], 1⟩, ⟨.int .i64 21, .func (.func 66) #[] #[], 2⟩] 3 22 (.func (.func 67) #[] #[]) (by rfl)
  have i4 := ins_law w _ _ _ Try.underlying76 Try.underlying3 #[⟨.int .i64 19, .func (.func 64) #[] #[], 0⟩, ⟨.int .i64 20, .func (.func 65) #[] #[], 1⟩, ⟨.int .i64 21, .func (.func 66) #[] #[], 2⟩, ⟨.int .i64 22, .func (.func 67) #[] #[], 3⟩] 4 23 (.func (.func 68) #[] #[]) (by rfl)
  have i5 := ins_law w _ _ _ Try.underlying76 Try.underlying3 #[⟨.int .i64 19, .func (.func 64) #[] #[], 0⟩, ⟨.int .i64 20, .func (.func 65) #[] #[], 1⟩, ⟨.int .i64 21, .func (.func 66) #[] #[], 2⟩, ⟨.int .i64 22, .func (.func 67) #[] #[], 3⟩, ⟨.int .i64 23, .func (.func 68) #[] #[], 4⟩] 5 24 (.func (.func 69) #[] #[]) (by rfl)
  go_enter Try.func42, Try.ntmps42
  go_wp2_with (go_at_call 63; refine (pickb_yes w.heap.size #[⟨.int .i64 19, .func (.func 64) #[] #[], 0⟩, ⟨.int .i64 20, .func (.func 65) #[] #[], 1⟩, ⟨.int .i64 21, .func (.func 66) #[] #[], 2⟩, ⟨.int .i64 22, .func (.func 67) #[] #[], 3⟩, ⟨.int .i64 23, .func (.func 68) #[] #[], 4⟩, ⟨.int .i64 24, .func (.func 69) #[] #[], 5⟩] 6 20 1 (.func (.func 65) #[] #[]) _ ?_ ?_).mono ?_; (· exact heap_alloc_new w _); (· rfl); rintro e w' ⟨rfl, rfl⟩)
  go_ret2
  exact ⟨rfl, (Below.refl _ _).alloc (Nat.le_refl _) _⟩

set_option maxHeartbeats 1000000 in
theorem comparison_21  (w : World) : Calls Try.prog 42 #[.int .i64 21] w fun e w' => e = .returned (.tuple #[.func (.func 66) #[] #[], .bool true]) ∧ Below w.heap.size w w' := by
  have hm := run_makeMap (P := Try.prog) 76 w
  have i0 := ins_law w _ _ _ Try.underlying76 Try.underlying3 #[] 0 19 (.func (.func 64) #[] #[]) (by rfl)
  have i1 := ins_law w _ _ _ Try.underlying76 Try.underlying3 #[⟨.int .i64 19, .func (.func 64) #[] #[], 0⟩] 1 20 (.func (.func 65) #[] #[]) (by rfl)
  have i2 := ins_law w _ _ _ Try.underlying76 Try.underlying3 #[⟨.int .i64 19, .func (.func 64) #[] #[], 0⟩, ⟨.int .i64 20, .func (.func 65) #[] #[], 1⟩] 2 21 (.func (.func 66) #[] #[]) (by rfl)
  have i3 := ins_law w _ _ _ Try.underlying76 Try.underlying3 #[⟨.int .i64 19, .func (.func 64) #[] #[], 0⟩, ⟨.int .i64 20, .func (.func 65) #[] #[], 1⟩, ⟨.int .i64 21, .func (.func 66) #[] #[], 2⟩] 3 22 (.func (.func 67) #[] #[]) (by rfl)
  have i4 := ins_law w _ _ _ Try.underlying76 Try.underlying3 #[⟨.int .i64 19, .func (.func 64) #[] #[], 0⟩, ⟨.int .i64 20, .func (.func 65) #[] #[], 1⟩, ⟨.int .i64 21, .func (.func 66) #[] #[], 2⟩, ⟨.int .i64 22, .func (.func 67) #[] #[], 3⟩] 4 23 (.func (.func 68) #[] #[]) (by rfl)
  have i5 := ins_law w _ _ _ Try.underlying76 Try.underlying3 #[⟨.int .i64 19, .func (.func 64) #[] #[], 0⟩, ⟨.int .i64 20, .func (.func 65) #[] #[], 1⟩, ⟨.int .i64 21, .func (.func 66) #[] #[], 2⟩, ⟨.int .i64 22, .func (.func 67) #[] #[], 3⟩, ⟨.int .i64 23, .func (.func 68) #[] #[], 4⟩] 5 24 (.func (.func 69) #[] #[]) (by rfl)
  go_enter Try.func42, Try.ntmps42
  go_wp2_with (go_at_call 63; refine (pickb_yes w.heap.size #[⟨.int .i64 19, .func (.func 64) #[] #[], 0⟩, ⟨.int .i64 20, .func (.func 65) #[] #[], 1⟩, ⟨.int .i64 21, .func (.func 66) #[] #[], 2⟩, ⟨.int .i64 22, .func (.func 67) #[] #[], 3⟩, ⟨.int .i64 23, .func (.func 68) #[] #[], 4⟩, ⟨.int .i64 24, .func (.func 69) #[] #[], 5⟩] 6 21 2 (.func (.func 66) #[] #[]) _ ?_ ?_).mono ?_; (· exact heap_alloc_new w _); (· rfl); rintro e w' ⟨rfl, rfl⟩)
  go_ret2
  exact ⟨rfl, (Below.refl _ _).alloc (Nat.le_refl _) _⟩

set_option maxHeartbeats 1000000 in
theorem comparison_22  (w : World) : Calls Try.prog 42 #[.int .i64 22] w fun e w' => e = .returned (.tuple #[.func (.func 67) #[] #[], .bool true]) ∧ Below w.heap.size w w' := by
  have hm := run_makeMap (P := Try.prog) 76 w
  have i0 := ins_law w _ _ _ Try.underlying76 Try.underlying3 #[] 0 19 (.func (.func 64) #[] #[]) (by rfl)
  have i1 := ins_law w _ _ _ Try.underlying76 Try.underlying3 #[⟨.int .i64 19, .func (.func 64) #[] #[], 0⟩] 1 20 (.func (.func 65) #[] #[]) (by rfl)
  have i2 := ins_law w _ _ _ Try.underlying76 Try.underlying3 #[⟨.int .i64 19, .func (.func 64) #[] #[], 0⟩, ⟨.int .i64 20, .func (.func 65) #[] #[], 1⟩] 2 21 (.func (.func 66) #[] #[]) (by rfl)
  have i3 := ins_law w _ _ _ Try.underlying76 Try.underlying3 #[⟨.int .i64 19, .func (.func 64) #[] #[], 0⟩, ⟨.int .i64 20, .func (.func 65) #[] #[], 1⟩, ⟨.int .i64 21, .func (.func 66) #[] #[], 2⟩] 3 22 (.func (.func 67) #[] #[]) (by rfl)
  have i4 := ins_law w _ _ _ Try.underlying76 Try.underlying3 #[⟨.int .i64 19, .func (.func 64) #[] #[], 0⟩, ⟨.int .i64 20, .func (.func 65) #[] #[], 1⟩, ⟨.int .i64 21, .func (.func 66) #[] #[], 2⟩, ⟨.int .i64 22, .func (.func 67) #[] #[], 3⟩] 4 23 (.func (.func 68) #[] #[]) (by rfl)
  have i5 := ins_law w _ _ _ Try.underlying76 Try.underlying3 #[⟨.int .i64 19, .func (.func 64) #[] #[], 0⟩, ⟨.int .i64 20, .func (.func 65) #[] #[], 1⟩, ⟨.int .i64 21, .func (.func 66) #[] #[], 2⟩, ⟨.int .i64 22, .func (.func 67) #[] #[], 3⟩, ⟨.int .i64 23, .func (.func 68) #[] #[], 4⟩] 5 24 (.func (.func 69) #[] #[]) (by rfl)
  go_enter Try.func42, Try.ntmps42
  go_wp2_with (go_at_call 63; refine (pickb_yes w.heap.size #[⟨.int .i64 19, .func (.func 64) #[] #[], 0⟩, ⟨.int .i64 20, .func (.func 65) #[] #[], 1⟩, ⟨.int .i64 21, .func (.func 66) #[] #[], 2⟩, ⟨.int .i64 22, .func (.func 67) #[] #[], 3⟩, ⟨.int .i64 23, .func (.func 68) #[] #[], 4⟩, ⟨.int .i64 24, .func (.func 69) #[] #[], 5⟩] 6 22 3 (.func (.func 67) #[] #[]) _ ?_ ?_).mono ?_; (· exact heap_alloc_new w _); (· rfl); rintro e w' ⟨rfl, rfl⟩)
  go_ret2
  exact ⟨rfl, (Below.refl _ _).alloc (Nat.le_refl _) _⟩

set_option maxHeartbeats 1000000 in
theorem comparison_23  (w : World) : Calls Try.prog 42 #[.int .i64 23] w fun e w' => e = .returned (.tuple #[.func (.func 68) #[] #[], .bool true]) ∧ Below w.heap.size w w' := by
  have hm := run_makeMap (P := Try.prog) 76 w
  have i0 := ins_law w _ _ _ Try.underlying76 Try.underlying3 #[] 0 19 (.func (.func 64) #[] #[]) (by rfl)
  have i1 := ins_law w _ _ _ Try.underlying76 Try.underlying3 #[⟨.int .i64 19, .func (.func 64) #[] #[], 0⟩] 1 20 (.func (.func 65) #[] #[]) (by rfl)
  have i2 := ins_law w _ _ _ Try.underlying76 Try.underlying3 #[⟨.int .i64 19, .func (.func 64) #[] #[], 0⟩, ⟨.int .i64 20, .func (.func 65) #[] #[], 1⟩] 2 21 (.func (.func 66) #[] #[]) (by rfl)
  have i3 := ins_law w _ _ _ Try.underlying76 Try.underlying3 #[⟨.int .i64 19, .func (.func 64) #[] #[], 0⟩, ⟨.int .i64 20, .func (.func 65) #[] #[], 1⟩, ⟨.int .i64 21, .func (.func 66) #[] #[], 2⟩] 3 22 (.func (.func 67) #[] #[]) (by rfl)
  have i4 := ins_law w _ _ _ Try.underlying76 Try.underlying3 #[⟨.int .i64 19, .func (.func 64) #[] #[], 0⟩, ⟨.int .i64 20, .func (.func 65) #[] #[], 1⟩, ⟨.int .i64 21, .func (.func 66) #[] #[], 2⟩, ⟨.int .i64 22, .func (.func 67) #[] #[], 3⟩] 4 23 (.func (.func 68) #[] #[]) (by rfl)
  have i5 := ins_law w _ _ _ Try.underlying76 Try.underlying3 #[⟨.int .i64 19, .func (.func 64) #[] #[], 0⟩, ⟨.int .i64 20, .func (.func 65) #[] #[], 1⟩, ⟨.int .i64 21, .func (.func 66) #[] #[], 2⟩, ⟨.int .i64 22, .func (.func 67) #[] #[], 3⟩, ⟨.int .i64 23, .func (.func 68) #[] #[], 4⟩] 5 24 (.func (.func 69) #[] #[]) (by rfl)
  go_enter Try.func42, Try.ntmps42
  go_wp2_with (go_at_call 63; refine (pickb_yes w.heap.size #[⟨.int .i64 19, .func (.func 64) #[] #[], 0⟩, ⟨.int .i64 20, .func (.func 65) #[] #[], 1⟩, ⟨.int .i64 21, .func (.func 66) #[] #[], 2⟩, ⟨.int .i64 22, .func (.func 67) #[] #[], 3⟩, ⟨.int .i64 23, .func (.func 68) #[] #[], 4⟩, ⟨.int .i64 24, .func (.func 69) #[] #[], 5⟩] 6 23 4 (.func (.func 68) #[] #[]) _ ?_ ?_).mono ?_; (· exact heap_alloc_new w _); (· rfl); rintro e w' ⟨rfl, rfl⟩)
  go_ret2
  exact ⟨rfl, (Below.refl _ _).alloc (Nat.le_refl _) _⟩

set_option maxHeartbeats 1000000 in
theorem comparison_24  (w : World) : Calls Try.prog 42 #[.int .i64 24] w fun e w' => e = .returned (.tuple #[.func (.func 69) #[] #[], .bool true]) ∧ Below w.heap.size w w' := by
  have hm := run_makeMap (P := Try.prog) 76 w
  have i0 := ins_law w _ _ _ Try.underlying76 Try.underlying3 #[] 0 19 (.func (.func 64) #[] #[]) (by rfl)
  have i1 := ins_law w _ _ _ Try.underlying76 Try.underlying3 #[⟨.int .i64 19, .func (.func 64) #[] #[], 0⟩] 1 20 (.func (.func 65) #[] #[]) (by rfl)
  have i2 := ins_law w _ _ _ Try.underlying76 Try.underlying3 #[⟨.int .i64 19, .func (.func 64) #[] #[], 0⟩, ⟨.int .i64 20, .func (.func 65) #[] #[], 1⟩] 2 21 (.func (.func 66) #[] #[]) (by rfl)
  have i3 := ins_law w _ _ _ Try.underlying76 Try.underlying3 #[⟨.int .i64 19, .func (.func 64) #[] #[], 0⟩, ⟨.int .i64 20, .func (.func 65) #[] #[], 1⟩, ⟨.int .i64 21, .func (.func 66) #[] #[], 2⟩] 3 22 (.func (.func 67) #[] #[]) (by rfl)
  have i4 := ins_law w _ _ _ Try.underlying76 Try.underlying3 #[⟨.int .i64 19, .func (.func 64) #[] #[], 0⟩, ⟨.int .i64 20, .func (.func 65) #[] #[], 1⟩, ⟨.int .i64 21, .func (.func 66) #[] #[], 2⟩, ⟨.int .i64 22, .func (.func 67) #[] #[], 3⟩] 4 23 (.func (.func 68) #[] #[]) (by rfl)
  have i5 := ins_law w _ _ _ Try.underlying76 Try.underlying3 #[⟨.int .i64 19, .func (.func 64) #[] #[], 0⟩, ⟨.int .i64 20, .func (.func 65) #[] #[], 1⟩, ⟨.int .i64 21, .func (.func 66) #[] #[], 2⟩, ⟨.int .i64 22, .func (.func 67) #[] #[], 3⟩, ⟨.int .i64 23, .func (.func 68) #[] #[], 4⟩] 5 24 (.func (.func 69) #[] #[]) (by rfl)
  go_enter Try.func42, Try.ntmps42
  go_wp2_with (go_at_call 63; refine (pickb_yes w.heap.size #[⟨.int .i64 19, .func (.func 64) #[] #[], 0⟩, ⟨.int .i64 20, .func (.func 65) #[] #[], 1⟩, ⟨.int .i64 21, .func (.func 66) #[] #[], 2⟩, ⟨.int .i64 22, .func (.func 67) #[] #[], 3⟩, ⟨.int .i64 23, .func (.func 68) #[] #[], 4⟩, ⟨.int .i64 24, .func (.func 69) #[] #[], 5⟩] 6 24 5 (.func (.func 69) #[] #[]) _ ?_ ?_).mono ?_; (· exact heap_alloc_new w _); (· rfl); rintro e w' ⟨rfl, rfl⟩)
  go_ret2
  exact ⟨rfl, (Below.refl _ _).alloc (Nat.le_refl _) _⟩

set_option maxHeartbeats 1000000 in
theorem comparison_no (op : Int) (n19 : ¬ op = 19) (n20 : ¬ op = 20) (n21 : ¬ op = 21) (n22 : ¬ op = 22) (n23 : ¬ op = 23) (n24 : ¬ op = 24) (w : World) : Calls Try.prog 42 #[.int .i64 op] w fun e w' => e = .returned (.tuple #[.nilFunc, .bool false]) ∧ Below w.heap.size w w' := by
  have hm := run_makeMap (P := Try.prog) 76 w
  have i0 := ins_law w _ _ _ Try.underlying76 Try.underlying3 #[] 0 19 (.func (.func 64) #[] #[]) (by rfl)
  have i1 := ins_law w _ _ _ Try.underlying76 Try.underlying3 #[⟨.int .i64 19, .func (.func 64) #[] #[], 0⟩] 1 20 (.func (.func 65) #[] #[]) (by rfl)
  have i2 := ins_law w _ _ _ Try.underlying76 Try.underlying3 #[⟨.int .i64 19, .func (.func 64) #[] #[], 0⟩, ⟨.int .i64 20, .func (.func 65) #[] #[], 1⟩] 2 21 (.func (.func 66) #[] #[]) (by rfl)
  have i3 := ins_law w _ _ _ Try.underlying76 Try.underlying3 #[⟨.int .i64 19, .func (.func 64) #[] #[], 0⟩, ⟨.int .i64 20, .func (.func 65) #[] #[], 1⟩, ⟨.int .i64 21, .func (.func 66) #[] #[], 2⟩] 3 22 (.func (.func 67) #[] #[]) (by rfl)
  have i4 := ins_law w _ _ _ Try.underlying76 Try.underlying3 #[⟨.int .i64 19, .func (.func 64) #[] #[], 0⟩, ⟨.int .i64 20, .func (.func 65) #[] #[], 1⟩, ⟨.int .i64 21, .func (.func 66) #[] #[], 2⟩, ⟨.int .i64 22, .func (.func 67) #[] #[], 3⟩] 4 23 (.func (.func 68) #[] #[]) (by rfl)
  have i5 := ins_law w _ _ _ Try.underlying76 Try.underlying3 #[⟨.int .i64 19, .func (.func 64) #[] #[], 0⟩, ⟨.int .i64 20, .func (.func 65) #[] #[], 1⟩, ⟨.int .i64 21, .func (.func 66) #[] #[], 2⟩, ⟨.int .i64 22, .func (.func 67) #[] #[], 3⟩, ⟨.int .i64 23, .func (.func 68) #[] #[], 4⟩] 5 24 (.func (.func 69) #[] #[]) (by rfl)
  have hn : Instr.findNow (.int .i64) (.int .i64 op) (#[⟨.int .i64 19, .func (.func 64) #[] #[], 0⟩, ⟨.int .i64 20, .func (.func 65) #[] #[], 1⟩, ⟨.int .i64 21, .func (.func 66) #[] #[], 2⟩, ⟨.int .i64 22, .func (.func 67) #[] #[], 3⟩, ⟨.int .i64 23, .func (.func 68) #[] #[], 4⟩, ⟨.int .i64 24, .func (.func 69) #[] #[], 5⟩] : Array MapEntry).toList 0 = some none := by simp [Instr.findNow, Instr.sameNow, beq_false_of_ne n19, beq_false_of_ne n20, beq_false_of_ne n21, beq_false_of_ne n22, beq_false_of_ne n23, beq_false_of_ne n24]
  have HN := Lib.hid hn
  clear hn n19 n20 n21 n22 n23 n24
  go_enter Try.func42, Try.ntmps42
  go_wp2_with (go_at_call 63; refine (pickb_no w.heap.size #[⟨.int .i64 19, .func (.func 64) #[] #[], 0⟩, ⟨.int .i64 20, .func (.func 65) #[] #[], 1⟩, ⟨.int .i64 21, .func (.func 66) #[] #[], 2⟩, ⟨.int .i64 22, .func (.func 67) #[] #[], 3⟩, ⟨.int .i64 23, .func (.func 68) #[] #[], 4⟩, ⟨.int .i64 24, .func (.func 69) #[] #[], 5⟩] 6 op _ ?_ ?_).mono ?_; (· exact heap_alloc_new w _); (· exact HN.out); rintro e w' ⟨rfl, rfl⟩)
  go_ret2
  exact ⟨rfl, (Below.refl _ _).alloc (Nat.le_refl _) _⟩

set_option maxHeartbeats 1000000 in
theorem logic_25  (w : World) : Calls Try.prog 43 #[.int .i64 25] w fun e w' => e = .returned (.tuple #[.func (.func 70) #[] #[], .bool true]) ∧ Below w.heap.size w w' := by
  have hm := run_makeMap (P := Try.prog) 76 w
  have i0 := ins_law w _ _ _ Try.underlying76 Try.underlying3 #[] 0 25 (.func (.func 70) #[] #[]) (by rfl)
  have i1 := ins_law w _ _ _ Try.underlying76 Try.underlying3 #[⟨.int .i64 25, .func (.func 70) #[] #[], 0⟩] 1 26 (.func (.func 71) #[] #[]) (by rfl)
  go_enter Try.func43, Try.ntmps43
  go_wp2_with (go_at_call 63; refine (pickb_yes w.heap.size #[⟨.int .i64 25, .func (.func 70) #[] #[], 0⟩, ⟨.int .i64 26, .func (.func 71) #[] #[], 1⟩] 2 25 0 (.func (.func 70) #[] #[]) _ ?_ ?_).mono ?_; (· exact heap_alloc_new w _); (· rfl); rintro e w' ⟨rfl, rfl⟩)
  go_ret2
  exact ⟨rfl, (Below.refl _ _).alloc (Nat.le_refl _) _⟩

set_option maxHeartbeats 1000000 in
theorem logic_26  (w : World) : Calls Try.prog 43 #[.int .i64 26] w fun e w' => e = .returned (.tuple #[.func (.func 71) #[] #[], .bool true]) ∧ Below w.heap.size w w' := by
  have hm := run_makeMap (P := Try.prog) 76 w
  have i0 := ins_law w _ _ _ Try.underlying76 Try.underlying3 #[] 0 25 (.func (.func 70) #[] #[]) (by rfl)
  have i1 := ins_law w _ _ _ Try.underlying76 Try.underlying3 #[⟨.int .i64 25, .func (.func 70) #[] #[], 0⟩] 1 26 (.func (.func 71) #[] #[]) (by rfl)
  go_enter Try.func43, Try.ntmps43
  go_wp2_with (go_at_call 63; refine (pickb_yes w.heap.size #[⟨.int .i64 25, .func (.func 70) #[] #[], 0⟩, ⟨.int .i64 26, .func (.func 71) #[] #[], 1⟩] 2 26 1 (.func (.func 71) #[] #[]) _ ?_ ?_).mono ?_; (· exact heap_alloc_new w _); (· rfl); rintro e w' ⟨rfl, rfl⟩)
  go_ret2
  exact ⟨rfl, (Below.refl _ _).alloc (Nat.le_refl _) _⟩

set_option maxHeartbeats 1000000 in
theorem logic_no (op : Int) (n25 : ¬ op = 25) (n26 : ¬ op = 26) (w : World) : Calls Try.prog 43 #[.int .i64 op] w fun e w' => e = .returned (.tuple #[.nilFunc, .bool false]) ∧ Below w.heap.size w w' := by
  have hm := run_makeMap (P := Try.prog) 76 w
  have i0 := ins_law w _ _ _ Try.underlying76 Try.underlying3 #[] 0 25 (.func (.func 70) #[] #[]) (by rfl)
  have i1 := ins_law w _ _ _ Try.underlying76 Try.underlying3 #[⟨.int .i64 25, .func (.func 70) #[] #[], 0⟩] 1 26 (.func (.func 71) #[] #[]) (by rfl)
  have hn : Instr.findNow (.int .i64) (.int .i64 op) (#[⟨.int .i64 25, .func (.func 70) #[] #[], 0⟩, ⟨.int .i64 26, .func (.func 71) #[] #[], 1⟩] : Array MapEntry).toList 0 = some none := by simp [Instr.findNow, Instr.sameNow, beq_false_of_ne n25, beq_false_of_ne n26]
  have HN := Lib.hid hn
  clear hn n25 n26
  go_enter Try.func43, Try.ntmps43
  go_wp2_with (go_at_call 63; refine (pickb_no w.heap.size #[⟨.int .i64 25, .func (.func 70) #[] #[], 0⟩, ⟨.int .i64 26, .func (.func 71) #[] #[], 1⟩] 2 op _ ?_ ?_).mono ?_; (· exact heap_alloc_new w _); (· exact HN.out); rintro e w' ⟨rfl, rfl⟩)
  go_ret2
  exact ⟨rfl, (Below.refl _ _).alloc (Nat.le_refl _) _⟩
end Go.Proofs.Ytemolkkpigkanaa
