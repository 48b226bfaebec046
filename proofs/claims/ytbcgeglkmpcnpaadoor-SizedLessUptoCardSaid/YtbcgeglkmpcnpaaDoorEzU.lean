/-
  sized: signals that may be: each name once (a map of names).
-/
import Derived.Test.YtbcgeglkmpcnpaaDoorEzE
import Derived.Maps.OwnSet
import Derived.Maps.Views
import Derived.Lib.SlMapMerge
namespace Go.Proofs.YtbcgeglkmpcnpaaDoor
open Go Go.RowKit
set_option linter.unusedVariables false
set_option linter.unusedSimpArgs false
open Go.Maps (Keyed)
open Go.Sort

theorem plainElem_bool_inv {H : Type} {P : Program} {e : TypeId} (he : P.underlying e = some .bool) {v : Value} {c : Bool} {ps : List MemPlace} (h : plainElem (H := H) P e v = some (.lit (.bool c), ps)) : v = .bool c := by
  unfold plainElem at h
  rw [he] at h
  split at h
  · simp only [Option.some.injEq, Prod.mk.injEq, DataW.lit.injEq, Lit.bool.injEq] at h; rw [h.1]
  · simp at *
  · simp at *
  · cases h
/-- Block mb is the set of these names. -/
def SeenAt (W : World) (mb n : Nat) (names : List Bytes) : Prop := ∃ D : DataW Unit, W.ownsMap Tryd.prog 9 (plainElem Tryd.prog 4) mb n D ∧ Maps.IsMap D ∧ ∀ s : Bytes, D.atKey (.string s) (.lit (.bool false)) = .lit (.bool (names.contains s))
theorem zeroB (w : World) : (zeroValue 4).run Tryd.prog w = .ok (.bool false) w := by kernel_rfl
theorem key_str (s : Bytes) (hs : s.length ≤ 12000000) : keyOf Tryd.prog 9 (.string (bs s)) = some (.string s) := by
  have := Go.WideMaps.keyOf_string_mk Tryd.underlying9 (s := bs s) (by rw [bs_size]; unfold maxLen; omega)
  simpa [bs] using this
theorem SeenAt.look {W : World} {mb n : Nat} {names : List Bytes} (h : SeenAt W mb n names) (s : Bytes) (hs : s.length ≤ 12000000) : (Instr.lookup 82 (.map (some mb)) (.string (bs s)) false).run Tryd.prog W = .ok (.bool (names.contains s)) W := by
  obtain ⟨D, ho, hm, hD⟩ := h
  obtain ⟨v, ps, hrun, hv⟩ := ho.lookup (Maps.string_keyed Tryd.underlying9) Tryd.underlying82 (zeroB W) (plainElem_bool Tryd.underlying4 false) (key_str s hs)
  rw [hD] at hv
  rw [hrun, plainElem_bool_inv Tryd.underlying4 hv]
set_option maxRecDepth 100000 in
theorem SeenAt.put {W : World} {mb n : Nat} {names : List Bytes} (h : SeenAt W mb n names) (hn : n < 12000000) (s : Bytes) (hs : s.length ≤ 12000000) : ∃ W', (Instr.mapUpdate 82 (.map (some mb)) (.string (bs s)) (.bool true)).run Tryd.prog W = .ok () W' ∧ SeenAt W' mb (n + 1) (names ++ [s]) ∧ W.grownBy W' (some mb) := by
  obtain ⟨D, ho, hm, hD⟩ := h
  obtain ⟨W', hrun, ho', hg⟩ := ho.update (Maps.string_keyed Tryd.underlying9) Tryd.underlying82 (by unfold maxLen; omega) (key_str s hs) (plainElem_bool Tryd.underlying4 true)
  refine ⟨W', hrun, ⟨_, ho', hm.put _ _, fun s' => ?_⟩, hg⟩
  by_cases e : s' = s
  · subst e
    rw [Maps.atKey_put_same hm (by simp [WideAt.IsKeyLit])]
    simp
  · rw [Maps.atKey_put_other (by intro h; cases h; exact e rfl), hD]
    congr 2
    rw [Bool.eq_iff_iff]
    simp [e]
theorem SeenAt.kept {W W' : World} {mb n : Nat} {names : List Bytes} (h : SeenAt W mb n names) {row : Option Nat} (hg : W.grownBy W' row) (hne : some mb ≠ row) : SeenAt W' mb n names := by
  obtain ⟨D, ho, hm, hD⟩ := h
  exact ⟨D, ho.kept hg hne, hm, hD⟩
theorem SeenAt.lt {W : World} {mb n : Nat} {names : List Bytes} (h : SeenAt W mb n names) : mb < W.heap.size := by
  obtain ⟨D, ho, _⟩ := h
  exact ho.lt
theorem SeenAt.block {W W' : World} {mb n : Nat} {names : List Bytes} (h : SeenAt W mb n names) (hb : W'.heap[mb]? = W.heap[mb]?) : SeenAt W' mb n names := by
  obtain ⟨D, ⟨es, c, h1, h2⟩, hm, hD⟩ := h
  exact ⟨D, ⟨es, c, hb.trans h1, h2⟩, hm, hD⟩

theorem seen_made (w : World) : SeenAt (w.alloc (.map #[] 0)) w.heap.size 0 [] := ⟨.map [], World.ownsMap_made w _ _ _, Maps.isMap_empty, fun s => by rfl⟩
/-- May signals be, behind these names? -/
def sigsMayF : List Bytes → List GT → Bool
  | _, [] => true
  | seen, g :: r => !(g.nm == []) && (!(seen.contains g.nm) && (sigMay g && sigsMayF (seen ++ [g.nm]) r))
def sigsMay (l : List GT) : Bool := sigsMayF [] l
theorem sigsMayF_drop (l : List GT) (k : Nat) (h : k < l.length) (seen : List Bytes) : sigsMayF seen (l.drop k) = (!(l[k].nm == []) && (!(seen.contains l[k].nm) && (sigMay l[k] && sigsMayF (seen ++ [l[k].nm]) (l.drop (k + 1))))) := by
  rw [← List.getElem_cons_drop h]; rfl
theorem sigsMayF_mem : ∀ (l : List GT) (seen : List Bytes), sigsMayF seen l = true → ∀ g ∈ l, sigMay g = true
  | [], _, _, g, hg => by cases hg
  | x :: r, seen, h, g, hg => by
    simp only [sigsMayF, Bool.and_eq_true] at h
    rcases List.mem_cons.1 hg with e | e
    · rw [e]; exact h.2.2.1
    · exact sigsMayF_mem r _ h.2.2.2 g e
theorem sigsMay_wd {l : List GT} (h : sigsMay l = true) : ∀ g ∈ l, g.wd ≤ 64 := fun g hg => by
  have h1 := sigsMayF_mem l [] h g hg
  unfold sigMay at h1
  simp only [Bool.and_eq_true] at h1
  have h2 := h1.1
  simp [isW] at h2
  exact h2.2
set_option maxHeartbeats 4000000 in
set_option maxRecDepth 100000 in
theorem mayBeSignals_any (n0 : Nat) (gl : List GT) (hll : gl.length ≤ 9000000) (hnl : ∀ g ∈ gl, g.nm.length ≤ 12000000) (ga : Option Addr) (gc : Nat) (w : World) (hn0 : n0 ≤ w.heap.size) (hin : GsIn n0 w gl ga) :
    Calls Tryd.prog 26 #[.slice ga gl.length gc] w fun e w' => e = .returned (.bool (sigsMay gl)) ∧ Below w.heap.size w w' := by
  have hmk : ∀ w, (Instr.makeMap 82 (some (.int .i64 (gl.length : Int)))).run Tryd.prog w = .ok (.map (some w.heap.size)) (w.alloc (.map #[] 0)) := fun w => by simp [Instr.makeMap, go_sem]
  have hm0 := seen_made w
  have hB0 : Below w.heap.size w (w.alloc (.map #[] 0)) := (Below.refl _ _).alloc (Nat.le_refl _) _
  have hz0 : w.heap.size < (w.alloc (.map #[] 0)).heap.size := by simp
  obtain ⟨g, hg⟩ : ∃ g, w.heap.size = g := ⟨_, rfl⟩
  obtain ⟨R, hR⟩ : ∃ R, sigsMay gl = R := ⟨_, rfl⟩
  rw [hR]
  go_enter Tryd.func26, Tryd.ntmps26
  go_wp2
  go_loopw [11] (fun u wr => ∃ (k : Nat) (seen : List Bytes), u = .int .i64 k ∧ k ≤ gl.length ∧ SeenAt wr g k seen ∧ sigsMayF seen (gl.drop k) = R ∧ Below g w wr ∧ g < wr.heap.size) (fun u _ => gl.length - (intOf u).toNat)
  case atStart => exact ⟨0, [], rfl, Nat.zero_le _, by rw [← hg]; exact hm0, by rw [List.drop_zero]; exact hR, by rw [← hg]; exact hB0, by rw [← hg]; exact hz0⟩
  case round =>
    obtain ⟨k, seen, rfl, hk, hix, hre, hb0, hzg⟩ := hrel
    by_cases hlt : k < gl.length
    · have d1 : decide (k < gl.length) = true := by simpa using hlt
      have d2 : decide ((k : Int) < (gl.length : Int)) = true := by rw [decide_eq_true_eq]; omega
      have x1 : (k : Int) < (gl.length : Int) := by omega
      obtain ⟨b, o, rfl, hb, hr, _⟩ := hin.kept (Below.keptTo hb0 (by omega)) hlt
      have hnl1 := hnl gl[k] (List.getElem_mem hlt)
      rw [sigsMayF_drop gl k hlt] at hre
      have hz := hb0.size
      generalize hgx : gl[k] = x at *
      obtain ⟨nm, wd, kd, ini⟩ := x
      obtain ⟨sg, hsg⟩ : ∃ sg, sigMay ⟨nm, wd, kd, ini⟩ = sg := ⟨_, rfl⟩
      simp only [hsg] at hre
      have r0 : wr.cell? ⟨b, o + k * 4, none⟩ = some (.string (bs nm)) := hr 0 _ rfl
      have r1 : wr.cell? ⟨b, o + k * 4 + 1, none⟩ = some (.int .i64 wd) := hr 1 _ rfl
      have r2 : wr.cell? ⟨b, o + k * 4 + 2, none⟩ = some (.int .i64 kd) := hr 2 _ rfl
      have r3 : wr.cell? ⟨b, o + k * 4 + 3, none⟩ = some (.int .u64 (ini : Int)) := hr 3 _ rfl
      have hB1 : Below g w (wr.alloc (.cells #[.string (bs nm), .int .i64 wd, .int .i64 kd, .int .u64 (ini : Int)] 71)) := hb0.alloc (by omega) _
      have hix1 := hix.block (Below.heap_alloc wr (.cells #[.string (bs nm), .int .i64 wd, .int .i64 kd, .int .u64 (ini : Int)] 71) g hzg)
      have hlk := hix1.look nm hnl1
      have HG := Lib.hid hg
      have HBB := Lib.hid hB1
      obtain ⟨cs, hcs⟩ : ∃ cs, seen.contains nm = cs := ⟨_, rfl⟩
      simp only [hcs] at hlk hre
      have hcm := mayBeSignal_any nm wd kd ini (wr.alloc (.cells #[.string (bs nm), .int .i64 wd, .int .i64 kd, .int .u64 (ini : Int)] 71))
      rw [hsg] at hcm
      have HX := Lib.hid (And.intro hix1 (And.intro hzg (And.intro hz hnl1)))
      have hnb := World.alloc_heap_new wr (.cells #[.string (bs nm), .int .i64 wd, .int .i64 kd, .int .u64 (ini : Int)] 71)
      have HNB := Lib.hid hnb
      clear hin hr hgx hix hix1 hm0 hB0 hz0 hg hR hB1 hcs hsg hnl hnl1 hnb
      by_cases t0 : nm = []
      · subst t0
        have HR : Hid (R = false) := Lib.hid (by rw [← hre]; rfl)
        clear hre hcm hlk
        have e0 : (([] : Bytes) == []) = true := rfl
        have e1 : (([] : Bytes).isEmpty) = true := rfl
        go_wp2
        go_ret
        exact ⟨by rw [HR.out]; rfl, by have h := HBB.out; rw [HG.out]; exact h⟩
      · have e0 : (nm == []) = false := by rw [beq_eq_false_iff_ne]; exact t0
        have e1 : nm.isEmpty = false := by cases nm with | nil => exact absurd rfl t0 | cons _ _ => rfl
        rw [e0] at hre
        cases cs with
        | true =>
          have HR : Hid (R = false) := Lib.hid (by rw [← hre]; rfl)
          clear hre hcm t0
          go_wp2
          go_ret
          exact ⟨by rw [HR.out]; rfl, by have h := HBB.out; rw [HG.out]; exact h⟩
        | false =>
          cases sg with
          | false =>
            have HR : Hid (R = false) := Lib.hid (by rw [← hre]; rfl)
            clear hre t0
            go_wp2_with fail
            refine hcm.mono ?_
            clear hcm
            rintro e W1 ⟨rfl, hb1⟩
            go_wp2
            go_ret
            exact ⟨by rw [HR.out]; rfl, by rw [HG.out]; exact HBB.out.trans (hb1.mono (by simp; have := HX.out.2.1; omega))⟩
          | true =>
            have HR : Hid (sigsMayF (seen ++ [nm]) (gl.drop (k + 1)) = R) := Lib.hid (by rw [← hre]; simp)
            clear hre t0
            go_wp2_with fail
            refine hcm.mono ?_
            clear hcm
            rintro e W1 ⟨rfl, hb1⟩
            obtain ⟨w2, hrun, hix2, hgr⟩ := (HX.out.1.block (hb1.block g (by simp; have := HX.out.2.1; omega))).put (by omega) nm HX.out.2.2.2
            have hb2 := HBB.out.trans (hb1.mono (by simp; have := HX.out.2.1; omega))
            have hb3 : Below g w w2 := hb2.grown hgr (by have := hb1.size; simp at this; have := HX.out.2.1; omega) (fun j e => by cases e; exact Nat.le_refl _)
            have q0 : W1.cell? ⟨wr.heap.size, 0, none⟩ = some (.string (bs nm)) := by
              have h := block_kept HNB.out hb1
              simp [World.cell?, h]
            have HZ : Hid (g < w2.heap.size) := Lib.hid hix2.lt
            have HI := Lib.hid hix2
            have HB3 := Lib.hid hb3
            clear hb1 hb2 hix2 hb3 hgr
            go_wp2
            go_roundw
            case rel => exact ⟨k + 1, seen ++ [nm], by simp; first | done | rfl | omega, by omega, HI.out, HR.out, HB3.out, HZ.out⟩
            case measure => simp [intOf]; omega
    · have d1 : decide (k < gl.length) = false := by simpa using hlt
      have d2 : decide ((k : Int) < (gl.length : Int)) = false := by rw [decide_eq_false_iff_not]; omega
      have HE : Hid (R = true) := Lib.hid (by rw [show k = gl.length by omega, List.drop_length] at hre; rw [← hre]; rfl)
      have HG := Lib.hid hg
      clear hlt hix hm0 hB0 hz0 hg hre hR
      go_wp2
      go_ret
      exact ⟨by rw [HE.out]; rfl, by rw [HG.out]; exact hb0⟩
end Go.Proofs.YtbcgeglkmpcnpaaDoor
