/-
  What two constants make: the closures; small contracts.
-/
import Derived.Test.YtlbjmnakiflfpaaGreatDoorKpKsC
import Derived.WalkLawsBesides
namespace Go.Proofs.YtlbjmnakiflfpaaGreatDoor
open Go Go.RowKit
set_option linter.unusedVariables false
set_option linter.unusedSimpArgs false
open Go.Sort
theorem truth_any (b : Bool) (w : World) : Calls Tryz.prog 153 #[.bool b] w fun e w' => e = .returned (.int .i64 (kTruth b)) ∧ w = w' := by
  cases b
  all_goals
    go_enter Tryz.func153, Tryz.ntmps153
    go_wp2
    go_ret
    exact ⟨rfl, rfl⟩
theorem kmay_any (v : Int) (w : World) : Calls Tryz.prog 113 #[.int .i64 v] w fun e w' => e = .returned (.bool (kMay v)) ∧ w = w' := by
  have HI : Hid (kMay v = (decide (0 ≤ v) && decide (v ≤ 2147483647))) := Lib.hid rfl
  generalize kMay v = R at *
  by_cases h1 : 0 ≤ v
  · have d1 : decide (0 ≤ v) = true := by simpa using h1
    obtain ⟨c, hc⟩ : ∃ c, decide (v ≤ 2147483647) = c := ⟨_, rfl⟩
    have HE : Hid (R = c) := Lib.hid (by rw [HI.out, d1, hc]; rfl)
    go_enter Tryz.func113, Tryz.ntmps113
    go_wp2
    go_ret
    exact ⟨by rw [HE.out]; rfl, rfl⟩
  · have d1 : decide (0 ≤ v) = false := by simpa using h1
    have HE : Hid (R = false) := Lib.hid (by rw [HI.out, d1]; rfl)
    go_enter Tryz.func113, Tryz.ntmps113
    go_wp2
    go_ret
    exact ⟨by rw [HE.out]; rfl, rfl⟩
theorem constant_any (v : Int) (w : World) : Calls Tryz.prog 163 #[.int .i64 v] w fun e w' => e = .returned (.tuple #[.int .i64 (kConst v).1, .int .i64 (kConst v).2]) ∧ w = w' := by
  have hm := kmay_any v
  have HI : Hid (kConst v = if kMay v = true then (v, 0) else (0, 62)) := Lib.hid rfl
  generalize kConst v = R at *
  generalize kMay v = b at *
  cases b with
  | true =>
    have HE : Hid (R = (v, 0)) := Lib.hid (by rw [HI.out]; rfl)
    go_enter Tryz.func163, Tryz.ntmps163
    go_wp2_with fail
    refine (hm _).mono ?_
    rintro e w1 ⟨rfl, rfl⟩
    go_wp2
    go_ret2
    exact ⟨by rw [HE.out]; rfl, rfl⟩
  | false =>
    have HE : Hid (R = (0, 62)) := Lib.hid (by rw [HI.out]; rfl)
    go_enter Tryz.func163, Tryz.ntmps163
    go_wp2_with fail
    refine (hm _).mono ?_
    rintro e w1 ⟨rfl, rfl⟩
    go_wp2
    go_ret2
    exact ⟨by rw [HE.out]; rfl, rfl⟩
theorem knumber_any (v : Nat) (hv : v < 18446744073709551616) (w : World) : Calls Tryz.prog 131 #[.int .u64 (v : Int)] w fun e w' => e = .returned (.tuple #[.int .i64 (kNum v).1, .int .i64 (kNum v).2]) ∧ w = w' := by
  have HI : Hid (kNum v = if v ≤ 2147483647 then ((v : Int), 0) else (0, 62)) := Lib.hid rfl
  generalize kNum v = R at *
  by_cases h1 : v ≤ 2147483647
  · have d1 : decide (2147483647 < (v : Int)) = false := by rw [decide_eq_false_iff_not]; omega
    have d2 : decide (2147483647 < v) = false := by rw [decide_eq_false_iff_not]; omega
    have x1 : (v : Int) ≤ 2147483647 := by omega
    have HE : Hid (R = ((v : Int), 0)) := Lib.hid (by rw [HI.out, if_pos h1])
    clear hv
    go_enter Tryz.func131, Tryz.ntmps131
    go_wp2
    go_ret2
    exact ⟨by rw [HE.out]; rfl, rfl⟩
  · have d1 : decide (2147483647 < (v : Int)) = true := by rw [decide_eq_true_eq]; omega
    have d2 : decide (2147483647 < v) = true := by rw [decide_eq_true_eq]; omega
    have HE : Hid (R = (0, 62)) := Lib.hid (by rw [HI.out, if_neg h1])
    clear hv
    go_enter Tryz.func131, Tryz.ntmps131
    go_wp2
    go_ret2
    exact ⟨by rw [HE.out]; rfl, rfl⟩
/-! ### The closures -/
theorem set_alloc (w : World) (o o' : Obj) : { w.alloc o with heap := (w.alloc o).heap.setIfInBounds w.heap.size o' } = w.alloc o' := by
  show ({ w with heap := (w.heap.push o).setIfInBounds w.heap.size o' } : World) = { w with heap := w.heap.push o' }
  congr 1
  apply Array.ext_getElem?
  intro i
  rw [Array.getElem?_setIfInBounds, Array.getElem?_push, Array.getElem?_push]
  by_cases h : w.heap.size = i
  · subst h; simp
  · rw [if_neg h]
    simp [show ¬ i = w.heap.size from fun e => h e.symm]

theorem check_int {P : Program} (w : World) (K : TypeId) (hK : P.underlying K = some (.int .i64)) (k : Int) (e : Bool) : (Instr.checkKey e 10000 K (.int .i64 k)).run P w = .ok () w :=
  MapKept.run_checkKey hK (by simp [MapKept.IsKey]) e 9999

theorem find_int {P : Program} (w : World) (K : TypeId) (hK : P.underlying K = some (.int .i64)) (k : Int) (es : List MapEntry) (r : Option (Nat × Value)) (hn : Instr.findNow (.int .i64) (.int .i64 k) es 0 = some r) : (Instr.findKey K (.int .i64 k) es).run P w = .ok r w := by
  simp [Instr.findKey, run_underlying hK, hn]

theorem ins_law {P : Program} (w : World) (T K E : TypeId) (hT : P.underlying T = some (.map K E)) (hK : P.underlying K = some (.int .i64)) (es : Array MapEntry) (c : Nat) (k : Int) (v : Value)
    (hn : Instr.findNow (.int .i64) (.int .i64 k) es.toList 0 = some none) :
    (Instr.mapUpdate T (.map (some w.heap.size)) (.int .i64 k) v).run P (w.alloc (.map es c)) = .ok () (w.alloc (.map (es.push ⟨.int .i64 k, v, c⟩) (c + 1))) := by
  simp [Instr.mapUpdate, run_underlying hT, MapKept.run_getObj_map (heap_alloc_new w (.map es c)), check_int _ K hK, find_int _ K hK k es.toList none hn, MapKept.run_setObj_map _ (heap_alloc_new w (.map es c)), Result.andThen]
  exact set_alloc w _ _

theorem look_yes {P : Program} (w : World) (T K E : TypeId) (hT : P.underlying T = some (.map K E)) (hK : P.underlying K = some (.int .i64)) (b : Nat) (es : Array MapEntry) (c : Nat) (hb : w.heap[b]? = some (.map es c)) (k : Int) (i : Nat) (v : Value)
    (hn : Instr.findNow (.int .i64) (.int .i64 k) es.toList 0 = some (some (i, v))) :
    (Instr.lookup T (.map (some b)) (.int .i64 k) true).run P w = .ok (.tuple #[v, .bool true]) w := by
  simp [Instr.lookup, run_underlying hT, MapKept.run_getObj_map hb, check_int _ K hK, find_int _ K hK k es.toList _ hn, Result.andThen]

theorem look_no {P : Program} (w : World) (T K E : TypeId) (hT : P.underlying T = some (.map K E)) (hK : P.underlying K = some (.int .i64)) (b : Nat) (es : Array MapEntry) (c : Nat) (hb : w.heap[b]? = some (.map es c)) (k : Int) (z : Value) (hz : (zeroValue E).run P w = .ok z w)
    (hn : Instr.findNow (.int .i64) (.int .i64 k) es.toList 0 = some none) :
    (Instr.lookup T (.map (some b)) (.int .i64 k) true).run P w = .ok (.tuple #[z, .bool false]) w := by
  simp [Instr.lookup, run_underlying hT, MapKept.run_getObj_map hb, check_int _ K hK, find_int _ K hK k es.toList _ hn, hz, Result.andThen]


theorem pow_le_31 (m : Nat) (h : m ≤ 31) : (2 : Int) ^ m ≤ 2147483648 := by
  have h1 : (2 : Nat) ^ m ≤ 2 ^ 31 := Nat.pow_le_pow_right (by decide) h
  have h2 : ((2 ^ m : Nat) : Int) ≤ ((2 ^ 31 : Nat) : Int) := Int.ofNat_le.2 h1
  simpa using h2
theorem two_pos (m : Nat) : (0 : Int) < 2 ^ m := Int.pow_pos (by decide)
theorem shl_in (a b : Int) (h1 : 0 ≤ a) (h2 : a ≤ 2147483647) (h3 : 0 ≤ b) : 0 ≤ a * 2 ^ (min b 31).toNat ∧ a * 2 ^ (min b 31).toNat ≤ 2147483647 * 2147483648 := by
  have q := pow_le_31 (min b 31).toNat (by omega)
  have p := two_pos (min b 31).toNat
  exact ⟨Int.mul_nonneg h1 (Int.le_of_lt p), Int.mul_le_mul h2 q (Int.le_of_lt p) (by decide)⟩
theorem shr_in (a b : Int) (h1 : 0 ≤ a) (h2 : a ≤ 2147483647) : a / 2 ^ min b.toNat 64 = a / 2 ^ b.toNat := by
  by_cases h : b.toNat ≤ 64
  · rw [Nat.min_eq_left h]
  · have e1 : ∀ m : Nat, 31 ≤ m → a / 2 ^ m = 0 := fun m hm => by
      refine Int.ediv_eq_zero_of_lt h1 ?_
      have h3 : (2 : Nat) ^ 31 ≤ 2 ^ m := Nat.pow_le_pow_right (by decide) hm
      have h4 : ((2 ^ 31 : Nat) : Int) ≤ ((2 ^ m : Nat) : Int) := Int.ofNat_le.2 h3
      simp only [Int.natCast_pow] at h4
      have h5 : (2147483648 : Int) ≤ 2 ^ m := by simpa using h4
      omega
    rw [e1 _ (by omega), e1 _ (by omega)]

set_option maxHeartbeats 1000000 in
theorem pr14 (a b : Int) (h1 : 0 ≤ a) (h2 : a ≤ 2147483647) (h3 : 0 ≤ b) (h4 : b ≤ 2147483647) (w : World) : Calls Tryz.prog 149 #[.int .i64 a, .int .i64 b] w fun e w' => e = .returned (.int .i64 (kTwo 14 a b)) ∧ w = w' := by
  have HI : Hid (kTwo 14 a b = a + b) := Lib.hid (by simp [kTwo])
  generalize hR : kTwo 14 a b = R at *
  clear hR
  go_enter Tryz.func149, Tryz.ntmps149
  go_wp2
  go_ret
  exact ⟨by rw [HI.out]; rfl, rfl⟩

set_option maxHeartbeats 1000000 in
theorem pr15 (a b : Int) (h1 : 0 ≤ a) (h2 : a ≤ 2147483647) (h3 : 0 ≤ b) (h4 : b ≤ 2147483647) (w : World) : Calls Tryz.prog 150 #[.int .i64 a, .int .i64 b] w fun e w' => e = .returned (.int .i64 (kTwo 15 a b)) ∧ w = w' := by
  have HI : Hid (kTwo 15 a b = a - b) := Lib.hid (by simp [kTwo])
  generalize hR : kTwo 15 a b = R at *
  clear hR
  go_enter Tryz.func150, Tryz.ntmps150
  go_wp2
  go_ret
  exact ⟨by rw [HI.out]; rfl, rfl⟩

set_option maxHeartbeats 1000000 in
theorem pr16 (a b : Int) (h1 : 0 ≤ a) (h2 : a ≤ 2147483647) (h3 : 0 ≤ b) (h4 : b ≤ 2147483647) (w : World) : Calls Tryz.prog 151 #[.int .i64 a, .int .i64 b] w fun e w' => e = .returned (.int .i64 (kTwo 16 a b)) ∧ w = w' := by
  have HI : Hid (kTwo 16 a b = a * b) := Lib.hid (by simp [kTwo])
  have q1 : 0 ≤ a * b := Int.mul_nonneg h1 h3
  have q2 : a * b ≤ 2147483647 * 2147483647 := Int.mul_le_mul h2 h4 h3 (by decide)
  generalize hR : kTwo 16 a b = R at *
  clear hR
  go_enter Tryz.func151, Tryz.ntmps151
  go_wp2
  go_ret
  exact ⟨by rw [HI.out]; rfl, rfl⟩

set_option maxHeartbeats 1000000 in
theorem pr17 (a b : Int) (h1 : 0 ≤ a) (h2 : a ≤ 2147483647) (h3 : 0 ≤ b) (h4 : b ≤ 2147483647) (w : World) : Calls Tryz.prog 161 #[.int .i64 a, .int .i64 b] w fun e w' => e = .returned (.int .i64 (kTwo 17 a b)) ∧ w = w' := by
  have HI : Hid (kTwo 17 a b = a * 2 ^ (min b 31).toNat) := Lib.hid (by simp [kTwo])
  have hsh := shl_in a b h1 h2 h3
  have HW : Hid (wrap64 (a * 2 ^ (min b 31).toNat) = a * 2 ^ (min b 31).toNat) := Lib.hid (by obtain ⟨g1, g2⟩ := hsh; generalize a * 2 ^ (min b 31).toNat = z at *; unfold wrap64; omega)
  clear hsh
  generalize hR : kTwo 17 a b = R at *
  clear hR
  go_enter Tryz.func161, Tryz.ntmps161
  go_wp2
  go_ret
  exact ⟨by rw [HI.out]; exact congrArg (fun z => Ending.returned (.int .i64 z)) HW.out, rfl⟩

set_option maxHeartbeats 1000000 in
theorem pr18 (a b : Int) (h1 : 0 ≤ a) (h2 : a ≤ 2147483647) (h3 : 0 ≤ b) (h4 : b ≤ 2147483647) (w : World) : Calls Tryz.prog 162 #[.int .i64 a, .int .i64 b] w fun e w' => e = .returned (.int .i64 (kTwo 18 a b)) ∧ w = w' := by
  have HI : Hid (kTwo 18 a b = a / 2 ^ b.toNat) := Lib.hid (by simp [kTwo])
  have HW := Lib.hid (shr_in a b h1 h2)
  generalize hR : kTwo 18 a b = R at *
  clear hR
  go_enter Tryz.func162, Tryz.ntmps162
  go_wp2
  go_ret
  exact ⟨by rw [HI.out]; exact congrArg (fun z => Ending.returned (.int .i64 z)) HW.out, rfl⟩

set_option maxHeartbeats 1000000 in
theorem pr19 (a b : Int) (h1 : 0 ≤ a) (h2 : a ≤ 2147483647) (h3 : 0 ≤ b) (h4 : b ≤ 2147483647) (w : World) : Calls Tryz.prog 152 #[.int .i64 a, .int .i64 b] w fun e w' => e = .returned (.int .i64 (kTwo 19 a b)) ∧ w = w' := by
  have HI : Hid (kTwo 19 a b = kTruth (a == b)) := Lib.hid (by simp [kTwo])
  generalize hR : kTwo 19 a b = R at *
  clear hR
  obtain ⟨c, hc⟩ : ∃ c, (a == b) = c := ⟨_, rfl⟩
  rw [hc] at HI
  go_enter Tryz.func152, Tryz.ntmps152
  go_wp2_with fail
  refine (truth_any c _).mono ?_
  rintro e w1 ⟨rfl, rfl⟩
  go_wp2
  go_ret
  exact ⟨by rw [HI.out]; rfl, rfl⟩

set_option maxHeartbeats 1000000 in
theorem pr20 (a b : Int) (h1 : 0 ≤ a) (h2 : a ≤ 2147483647) (h3 : 0 ≤ b) (h4 : b ≤ 2147483647) (w : World) : Calls Tryz.prog 154 #[.int .i64 a, .int .i64 b] w fun e w' => e = .returned (.int .i64 (kTwo 20 a b)) ∧ w = w' := by
  have HI : Hid (kTwo 20 a b = kTruth (a != b)) := Lib.hid (by simp [kTwo])
  generalize hR : kTwo 20 a b = R at *
  clear hR
  obtain ⟨c, hc⟩ : ∃ c, (a != b) = c := ⟨_, rfl⟩
  rw [hc] at HI
  go_enter Tryz.func154, Tryz.ntmps154
  go_wp2_with fail
  refine (truth_any c _).mono ?_
  rintro e w1 ⟨rfl, rfl⟩
  go_wp2
  go_ret
  exact ⟨by rw [HI.out]; rfl, rfl⟩

set_option maxHeartbeats 1000000 in
theorem pr21 (a b : Int) (h1 : 0 ≤ a) (h2 : a ≤ 2147483647) (h3 : 0 ≤ b) (h4 : b ≤ 2147483647) (w : World) : Calls Tryz.prog 155 #[.int .i64 a, .int .i64 b] w fun e w' => e = .returned (.int .i64 (kTwo 21 a b)) ∧ w = w' := by
  have HI : Hid (kTwo 21 a b = kTruth (decide (a < b))) := Lib.hid (by simp [kTwo])
  generalize hR : kTwo 21 a b = R at *
  clear hR
  obtain ⟨c, hc⟩ : ∃ c, decide (a < b) = c := ⟨_, rfl⟩
  rw [hc] at HI
  go_enter Tryz.func155, Tryz.ntmps155
  go_wp2_with fail
  refine (truth_any c _).mono ?_
  rintro e w1 ⟨rfl, rfl⟩
  go_wp2
  go_ret
  exact ⟨by rw [HI.out]; rfl, rfl⟩

set_option maxHeartbeats 1000000 in
theorem pr22 (a b : Int) (h1 : 0 ≤ a) (h2 : a ≤ 2147483647) (h3 : 0 ≤ b) (h4 : b ≤ 2147483647) (w : World) : Calls Tryz.prog 156 #[.int .i64 a, .int .i64 b] w fun e w' => e = .returned (.int .i64 (kTwo 22 a b)) ∧ w = w' := by
  have HI : Hid (kTwo 22 a b = kTruth (decide (a ≤ b))) := Lib.hid (by simp [kTwo])
  generalize hR : kTwo 22 a b = R at *
  clear hR
  obtain ⟨c, hc⟩ : ∃ c, decide (a ≤ b) = c := ⟨_, rfl⟩
  rw [hc] at HI
  go_enter Tryz.func156, Tryz.ntmps156
  go_wp2_with fail
  refine (truth_any c _).mono ?_
  rintro e w1 ⟨rfl, rfl⟩
  go_wp2
  go_ret
  exact ⟨by rw [HI.out]; rfl, rfl⟩

set_option maxHeartbeats 1000000 in
theorem pr23 (a b : Int) (h1 : 0 ≤ a) (h2 : a ≤ 2147483647) (h3 : 0 ≤ b) (h4 : b ≤ 2147483647) (w : World) : Calls Tryz.prog 157 #[.int .i64 a, .int .i64 b] w fun e w' => e = .returned (.int .i64 (kTwo 23 a b)) ∧ w = w' := by
  have HI : Hid (kTwo 23 a b = kTruth (decide (b < a))) := Lib.hid (by simp [kTwo])
  generalize hR : kTwo 23 a b = R at *
  clear hR
  obtain ⟨c, hc⟩ : ∃ c, decide (b < a) = c := ⟨_, rfl⟩
  rw [hc] at HI
  go_enter Tryz.func157, Tryz.ntmps157
  go_wp2_with fail
  refine (truth_any c _).mono ?_
  rintro e w1 ⟨rfl, rfl⟩
  go_wp2
  go_ret
  exact ⟨by rw [HI.out]; rfl, rfl⟩

set_option maxHeartbeats 1000000 in
theorem pr24 (a b : Int) (h1 : 0 ≤ a) (h2 : a ≤ 2147483647) (h3 : 0 ≤ b) (h4 : b ≤ 2147483647) (w : World) : Calls Tryz.prog 158 #[.int .i64 a, .int .i64 b] w fun e w' => e = .returned (.int .i64 (kTwo 24 a b)) ∧ w = w' := by
  have HI : Hid (kTwo 24 a b = kTruth (decide (b ≤ a))) := Lib.hid (by simp [kTwo])
  generalize hR : kTwo 24 a b = R at *
  clear hR
  obtain ⟨c, hc⟩ : ∃ c, decide (b ≤ a) = c := ⟨_, rfl⟩
  rw [hc] at HI
  go_enter Tryz.func158, Tryz.ntmps158
  go_wp2_with fail
  refine (truth_any c _).mono ?_
  rintro e w1 ⟨rfl, rfl⟩
  go_wp2
  go_ret
  exact ⟨by rw [HI.out]; rfl, rfl⟩

set_option maxHeartbeats 1000000 in
theorem pr25 (a b : Int) (h1 : 0 ≤ a) (h2 : a ≤ 2147483647) (h3 : 0 ≤ b) (h4 : b ≤ 2147483647) (w : World) : Calls Tryz.prog 159 #[.int .i64 a, .int .i64 b] w fun e w' => e = .returned (.int .i64 (kTwo 25 a b)) ∧ w = w' := by
  have HI : Hid (kTwo 25 a b = kTruth (a != 0 && b != 0)) := Lib.hid (by simp [kTwo])
  generalize hR : kTwo 25 a b = R at *
  clear hR
  obtain ⟨c, hc⟩ : ∃ c, (a != 0) = c := ⟨_, rfl⟩
  obtain ⟨d, hd⟩ : ∃ d, (b != 0) = d := ⟨_, rfl⟩
  rw [hc, hd] at HI
  cases c
  all_goals
    go_enter Tryz.func159, Tryz.ntmps159
    go_wp2_with fail
    refine (truth_any _ _).mono ?_
    rintro e w1 ⟨rfl, rfl⟩
    go_wp2
    go_ret
    exact ⟨by rw [HI.out]; rfl, rfl⟩

set_option maxHeartbeats 1000000 in
theorem pr26 (a b : Int) (h1 : 0 ≤ a) (h2 : a ≤ 2147483647) (h3 : 0 ≤ b) (h4 : b ≤ 2147483647) (w : World) : Calls Tryz.prog 160 #[.int .i64 a, .int .i64 b] w fun e w' => e = .returned (.int .i64 (kTwo 26 a b)) ∧ w = w' := by
  have HI : Hid (kTwo 26 a b = kTruth (a != 0 || b != 0)) := Lib.hid (by simp [kTwo])
  generalize hR : kTwo 26 a b = R at *
  clear hR
  obtain ⟨c, hc⟩ : ∃ c, (a != 0) = c := ⟨_, rfl⟩
  obtain ⟨d, hd⟩ : ∃ d, (b != 0) = d := ⟨_, rfl⟩
  rw [hc, hd] at HI
  cases c
  all_goals
    go_enter Tryz.func160, Tryz.ntmps160
    go_wp2_with fail
    refine (truth_any _ _).mono ?_
    rintro e w1 ⟨rfl, rfl⟩
    go_wp2
    go_ret
    exact ⟨by rw [HI.out]; rfl, rfl⟩

/-- The map of what two make. -/
def pairTab : Array MapEntry := #[⟨.int .i64 14, .func (.func 149) #[] #[], 0⟩, ⟨.int .i64 15, .func (.func 150) #[] #[], 1⟩, ⟨.int .i64 16, .func (.func 151) #[] #[], 2⟩, ⟨.int .i64 19, .func (.func 152) #[] #[], 3⟩, ⟨.int .i64 20, .func (.func 154) #[] #[], 4⟩, ⟨.int .i64 21, .func (.func 155) #[] #[], 5⟩, ⟨.int .i64 22, .func (.func 156) #[] #[], 6⟩, ⟨.int .i64 23, .func (.func 157) #[] #[], 7⟩, ⟨.int .i64 24, .func (.func 158) #[] #[], 8⟩, ⟨.int .i64 25, .func (.func 159) #[] #[], 9⟩, ⟨.int .i64 26, .func (.func 160) #[] #[], 10⟩, ⟨.int .i64 17, .func (.func 161) #[] #[], 11⟩, ⟨.int .i64 18, .func (.func 162) #[] #[], 12⟩]
theorem pair_yes {n : Int} (F : Nat) (i : Nat) (hn : Instr.findNow (.int .i64) (.int .i64 n) pairTab.toList 0 = some (some (i, .func (.func F) #[] #[]))) (b : Nat) (w : World) (hb : w.heap[b]? = some (.map pairTab 13)) : (Instr.lookup 165 (.map (some b)) (.int .i64 n) true).run Tryz.prog w = .ok (.tuple #[.func (.func F) #[] #[], .bool true]) w :=
  look_yes w _ _ _ Tryz.underlying165 Tryz.underlying3 b _ _ hb n i _ hn
theorem pair_no {n : Int} (h : ¬ (14 ≤ n ∧ n ≤ 26)) (b : Nat) (w : World) (hb : w.heap[b]? = some (.map pairTab 13)) : (Instr.lookup 165 (.map (some b)) (.int .i64 n) true).run Tryz.prog w = .ok (.tuple #[.nilFunc, .bool false]) w := by
  refine look_no w _ _ _ Tryz.underlying165 Tryz.underlying3 b _ _ hb n .nilFunc (by kernel_rfl) ?_
  simp [pairTab, Instr.findNow, Instr.sameNow, beq_false_of_ne (show ¬ n = 14 by omega), beq_false_of_ne (show ¬ n = 15 by omega), beq_false_of_ne (show ¬ n = 16 by omega), beq_false_of_ne (show ¬ n = 19 by omega), beq_false_of_ne (show ¬ n = 20 by omega), beq_false_of_ne (show ¬ n = 21 by omega), beq_false_of_ne (show ¬ n = 22 by omega), beq_false_of_ne (show ¬ n = 23 by omega), beq_false_of_ne (show ¬ n = 24 by omega), beq_false_of_ne (show ¬ n = 25 by omega), beq_false_of_ne (show ¬ n = 26 by omega), beq_false_of_ne (show ¬ n = 17 by omega), beq_false_of_ne (show ¬ n = 18 by omega)]
/-- What operation n makes of two: a function of the map. -/
theorem pair_fn (n : Int) (h : 14 ≤ n ∧ n ≤ 26) : ∃ F : Nat, (∀ (b : Nat) (w : World), w.heap[b]? = some (.map pairTab 13) → (Instr.lookup 165 (.map (some b)) (.int .i64 n) true).run Tryz.prog w = .ok (.tuple #[.func (.func F) #[] #[], .bool true]) w) ∧ (∀ args w, (callFunc F args).run Tryz.prog w = .ok (.enter F args) w) ∧ ∀ (a b : Int), 0 ≤ a → a ≤ 2147483647 → 0 ≤ b → b ≤ 2147483647 → ∀ w, Calls Tryz.prog F #[.int .i64 a, .int .i64 b] w fun e w' => e = .returned (.int .i64 (kTwo n a b)) ∧ w = w' := by
  have hc : n = 14 ∨ n = 15 ∨ n = 16 ∨ n = 19 ∨ n = 20 ∨ n = 21 ∨ n = 22 ∨ n = 23 ∨ n = 24 ∨ n = 25 ∨ n = 26 ∨ n = 17 ∨ n = 18 := by omega
  rcases hc with rfl | rfl | rfl | rfl | rfl | rfl | rfl | rfl | rfl | rfl | rfl | rfl | rfl
  · exact ⟨149, fun b w hb => pair_yes _ 0 (by rfl) b w hb, enters_of Tryz.func149 (by kernel_rfl) rfl, fun a b h1 h2 h3 h4 w => pr14 a b h1 h2 h3 h4 w⟩
  · exact ⟨150, fun b w hb => pair_yes _ 1 (by rfl) b w hb, enters_of Tryz.func150 (by kernel_rfl) rfl, fun a b h1 h2 h3 h4 w => pr15 a b h1 h2 h3 h4 w⟩
  · exact ⟨151, fun b w hb => pair_yes _ 2 (by rfl) b w hb, enters_of Tryz.func151 (by kernel_rfl) rfl, fun a b h1 h2 h3 h4 w => pr16 a b h1 h2 h3 h4 w⟩
  · exact ⟨152, fun b w hb => pair_yes _ 3 (by rfl) b w hb, enters_of Tryz.func152 (by kernel_rfl) rfl, fun a b h1 h2 h3 h4 w => pr19 a b h1 h2 h3 h4 w⟩
  · exact ⟨154, fun b w hb => pair_yes _ 4 (by rfl) b w hb, enters_of Tryz.func154 (by kernel_rfl) rfl, fun a b h1 h2 h3 h4 w => pr20 a b h1 h2 h3 h4 w⟩
  · exact ⟨155, fun b w hb => pair_yes _ 5 (by rfl) b w hb, enters_of Tryz.func155 (by kernel_rfl) rfl, fun a b h1 h2 h3 h4 w => pr21 a b h1 h2 h3 h4 w⟩
  · exact ⟨156, fun b w hb => pair_yes _ 6 (by rfl) b w hb, enters_of Tryz.func156 (by kernel_rfl) rfl, fun a b h1 h2 h3 h4 w => pr22 a b h1 h2 h3 h4 w⟩
  · exact ⟨157, fun b w hb => pair_yes _ 7 (by rfl) b w hb, enters_of Tryz.func157 (by kernel_rfl) rfl, fun a b h1 h2 h3 h4 w => pr23 a b h1 h2 h3 h4 w⟩
  · exact ⟨158, fun b w hb => pair_yes _ 8 (by rfl) b w hb, enters_of Tryz.func158 (by kernel_rfl) rfl, fun a b h1 h2 h3 h4 w => pr24 a b h1 h2 h3 h4 w⟩
  · exact ⟨159, fun b w hb => pair_yes _ 9 (by rfl) b w hb, enters_of Tryz.func159 (by kernel_rfl) rfl, fun a b h1 h2 h3 h4 w => pr25 a b h1 h2 h3 h4 w⟩
  · exact ⟨160, fun b w hb => pair_yes _ 10 (by rfl) b w hb, enters_of Tryz.func160 (by kernel_rfl) rfl, fun a b h1 h2 h3 h4 w => pr26 a b h1 h2 h3 h4 w⟩
  · exact ⟨161, fun b w hb => pair_yes _ 11 (by rfl) b w hb, enters_of Tryz.func161 (by kernel_rfl) rfl, fun a b h1 h2 h3 h4 w => pr17 a b h1 h2 h3 h4 w⟩
  · exact ⟨162, fun b w hb => pair_yes _ 12 (by rfl) b w hb, enters_of Tryz.func162 (by kernel_rfl) rfl, fun a b h1 h2 h3 h4 w => pr18 a b h1 h2 h3 h4 w⟩

set_option maxHeartbeats 2000000 in
theorem pairs_any (w : World) : Calls Tryz.prog 130 #[] w fun e w' => e = .returned (.map (some w.heap.size)) ∧ w' = w.alloc (.map pairTab 13) := by
  have hm := run_makeMap (P := Tryz.prog) 165 w
  have i0 := ins_law w _ _ _ Tryz.underlying165 Tryz.underlying3 #[] 0 14 (.func (.func 149) #[] #[]) (by rfl)
  have i1 := ins_law w _ _ _ Tryz.underlying165 Tryz.underlying3 #[⟨.int .i64 14, .func (.func 149) #[] #[], 0⟩] 1 15 (.func (.func 150) #[] #[]) (by rfl)
  have i2 := ins_law w _ _ _ Tryz.underlying165 Tryz.underlying3 #[⟨.int .i64 14, .func (.func 149) #[] #[], 0⟩, ⟨.int .i64 15, .func (.func 150) #[] #[], 1⟩] 2 16 (.func (.func 151) #[] #[]) (by rfl)
  have i3 := ins_law w _ _ _ Tryz.underlying165 Tryz.underlying3 #[⟨.int .i64 14, .func (.func 149) #[] #[], 0⟩, ⟨.int .i64 15, .func (.func 150) #[] #[], 1⟩, ⟨.int .i64 16, .func (.func 151) #[] #[], 2⟩] 3 19 (.func (.func 152) #[] #[]) (by rfl)
  have i4 := ins_law w _ _ _ Tryz.underlying165 Tryz.underlying3 #[⟨.int .i64 14, .func (.func 149) #[] #[], 0⟩, ⟨.int .i64 15, .func (.func 150) #[] #[], 1⟩, ⟨.int .i64 16, .func (.func 151) #[] #[], 2⟩, ⟨.int .i64 19, .func (.func 152) #[] #[], 3⟩] 4 20 (.func (.func 154) #[] #[]) (by rfl)
  have i5 := ins_law w _ _ _ Tryz.underlying165 Tryz.underlying3 #[⟨.int .i64 14, .func (.func 149) #[] #[], 0⟩, ⟨.int .i64 15, .func (.func 150) #[] #[], 1⟩, ⟨.int .i64 16, .func (.func 151) #[] #[], 2⟩, ⟨.int .i64 19, .func (.func 152) #[] #[], 3⟩, ⟨.int .i64 20, .func (.func 154) #[] #[], 4⟩] 5 21 (.func (.func 155) #[] #[]) (by rfl)
  have i6 := ins_law w _ _ _ Tryz.underlying165 Tryz.underlying3 #[⟨.int .i64 14, .func (.func 149) #[] #[], 0⟩, ⟨.int .i64 15, .func (.func 150) #[] #[], 1⟩, ⟨.int .i64 16, .func (.func 151) #[] #[], 2⟩, ⟨.int .i64 19, .func (.func 152) #[] #[], 3⟩, ⟨.int .i64 20, .func (.func 154) #[] #[], 4⟩, ⟨.int .i64 21, .func (.func 155) #[] #[], 5⟩] 6 22 (.func (.func 156) #[] #[]) (by rfl)
  have i7 := ins_law w _ _ _ Tryz.underlying165 Tryz.underlying3 #[⟨.int .i64 14, .func (.func 149) #[] #[], 0⟩, ⟨.int .i64 15, .func (.func 150) #[] #[], 1⟩, ⟨.int .i64 16, .func (.func 151) #[] #[], 2⟩, ⟨.int .i64 19, .func (.func 152) #[] #[], 3⟩, ⟨.int .i64 20, .func (.func 154) #[] #[], 4⟩, ⟨.int .i64 21, .func (.func 155) #[] #[], 5⟩, ⟨.int .i64 22, .func (.func 156) #[] #[], 6⟩] 7 23 (.func (.func 157) #[] #[]) (by rfl)
  have i8 := ins_law w _ _ _ Tryz.underlying165 Tryz.underlying3 #[⟨.int .i64 14, .func (.func 149) #[] #[], 0⟩, ⟨.int .i64 15, .func (.func 150) #[] #[], 1⟩, ⟨.int .i64 16, .func (.func 151) #[] #[], 2⟩, ⟨.int .i64 19, .func (.func 152) #[] #[], 3⟩, ⟨.int .i64 20, .func (.func 154) #[] #[], 4⟩, ⟨.int .i64 21, .func (.func 155) #[] #[], 5⟩, ⟨.int .i64 22, .func (.func 156) #[] #[], 6⟩, ⟨.int .i64 23, .func (.func 157) #[] #[], 7⟩] 8 24 (.func (.func 158) #[] #[]) (by rfl)
  have i9 := ins_law w _ _ _ Tryz.underlying165 Tryz.underlying3 #[⟨.int .i64 14, .func (.func 149) #[] #[], 0⟩, ⟨.int .i64 15, .func (.func 150) #[] #[], 1⟩, ⟨.int .i64 16, .func (.func 151) #[] #[], 2⟩, ⟨.int .i64 19, .func (.func 152) #[] #[], 3⟩, ⟨.int .i64 20, .func (.func 154) #[] #[], 4⟩, ⟨.int .i64 21, .func (.func 155) #[] #[], 5⟩, ⟨.int .i64 22, .func (.func 156) #[] #[], 6⟩, ⟨.int .i64 23, .func (.func 157) #[] #[], 7⟩, ⟨.int .i64 24, .func (.func 158) #[] #[], 8⟩] 9 25 (.func (.func 159) #[] #[]) (by rfl)
  have i10 := ins_law w _ _ _ Tryz.underlying165 Tryz.underlying3 #[⟨.int .i64 14, .func (.func 149) #[] #[], 0⟩, ⟨.int .i64 15, .func (.func 150) #[] #[], 1⟩, ⟨.int .i64 16, .func (.func 151) #[] #[], 2⟩, ⟨.int .i64 19, .func (.func 152) #[] #[], 3⟩, ⟨.int .i64 20, .func (.func 154) #[] #[], 4⟩, ⟨.int .i64 21, .func (.func 155) #[] #[], 5⟩, ⟨.int .i64 22, .func (.func 156) #[] #[], 6⟩, ⟨.int .i64 23, .func (.func 157) #[] #[], 7⟩, ⟨.int .i64 24, .func (.func 158) #[] #[], 8⟩, ⟨.int .i64 25, .func (.func 159) #[] #[], 9⟩] 10 26 (.func (.func 160) #[] #[]) (by rfl)
  have i11 := ins_law w _ _ _ Tryz.underlying165 Tryz.underlying3 #[⟨.int .i64 14, .func (.func 149) #[] #[], 0⟩, ⟨.int .i64 15, .func (.func 150) #[] #[], 1⟩, ⟨.int .i64 16, .func (.func 151) #[] #[], 2⟩, ⟨.int .i64 19, .func (.func 152) #[] #[], 3⟩, ⟨.int .i64 20, .func (.func 154) #[] #[], 4⟩, ⟨.int .i64 21, .func (.func 155) #[] #[], 5⟩, ⟨.int .i64 22, .func (.func 156) #[] #[], 6⟩, ⟨.int .i64 23, .func (.func 157) #[] #[], 7⟩, ⟨.int .i64 24, .func (.func 158) #[] #[], 8⟩, ⟨.int .i64 25, .func (.func 159) #[] #[], 9⟩, ⟨.int .i64 26, .func (.func 160) #[] #[], 10⟩] 11 17 (.func (.func 161) #[] #[]) (by rfl)
  have i12 := ins_law w _ _ _ Tryz.underlying165 Tryz.underlying3 #[⟨.int .i64 14, .func (.func 149) #[] #[], 0⟩, ⟨.int .i64 15, .func (.func 150) #[] #[], 1⟩, ⟨.int .i64 16, .func (.func 151) #[] #[], 2⟩, ⟨.int .i64 19, .func (.func 152) #[] #[], 3⟩, ⟨.int .i64 20, .func (.func 154) #[] #[], 4⟩, ⟨.int .i64 21, .func (.func 155) #[] #[], 5⟩, ⟨.int .i64 22, .func (.func 156) #[] #[], 6⟩, ⟨.int .i64 23, .func (.func 157) #[] #[], 7⟩, ⟨.int .i64 24, .func (.func 158) #[] #[], 8⟩, ⟨.int .i64 25, .func (.func 159) #[] #[], 9⟩, ⟨.int .i64 26, .func (.func 160) #[] #[], 10⟩, ⟨.int .i64 17, .func (.func 161) #[] #[], 11⟩] 12 18 (.func (.func 162) #[] #[]) (by rfl)
  go_enter Tryz.func130, Tryz.ntmps130
  go_wp2
  go_ret
  exact ⟨rfl, rfl⟩

theorem newEv_any (a : Option Addr) (len c : Nat) (w : World) : Calls Tryz.prog 107 #[.slice a len c] w fun e w' => e = .returned (.pointer (some ⟨w.heap.size + 1, 0, none⟩)) ∧ w' = (w.alloc (.map pairTab 13)).alloc (.cells #[.slice a len c, .int .i64 0, .map none, .map (some w.heap.size)] 168) := by
  go_enter Tryz.func107, Tryz.ntmps107
  go_wp2_with fail
  refine (pairs_any _).mono ?_
  rintro e w1 ⟨rfl, rfl⟩
  go_wp2
  go_ret
  exact ⟨by simp, rfl⟩
end Go.Proofs.YtlbjmnakiflfpaaGreatDoor
