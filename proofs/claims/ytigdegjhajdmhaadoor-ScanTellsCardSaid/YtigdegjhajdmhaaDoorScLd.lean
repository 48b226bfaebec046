/-
  The rows' step of stage 2: what the listed variables' cells hold, and a wrap that hands on the world's shape.
-/
import Derived.Test.YtigdegjhajdmhaaDoorRows
import Derived.Test.YtigdegjhajdmhaaDoorScLv
import Derived.ProofKit
import Derived.LaidMore
import Derived.OpenShut
import Derived.Stop.Joined
import Derived.Lib.SmallJoins
import Derived.Lib.LaidTab
import Derived.Stop.LaidErr
import Derived.Shelf.Vars
import Derived.Deep.Slices
import Derived.Carry
namespace Go.Proofs.YtigdegjhajdmhaaDoor
open Go Go.ChangeShapes Go.WideShapes Go.ChangeAt Go.RowKit Go.Joins Go.Sort Go.Deep
set_option linter.unusedVariables false

section
variable {H : Type} {enc : TypeId × Value → H}
/-- The wrap of a row that lists variables, with the world's shape handed on. -/
theorem returnsLaid {a : Assume} {C : Checked} {os : Os} {f : FuncId} {fn : Func} {s : ChangeSpec} {conds : List PathCond} {apart fresh handsOn again : Bool} {laid : List (String × DataW Unit)}
    (own : ownKnob C.prog.godebug = none) (started : os.Started) (noInit : C.prog.inits.idxOf? f = none) (hfn : C.prog.funcs[f]? = some fn)
    (witness : ∃ (w : World) (tape : Tape) (i : Input), w.os = os ∧ (w.forCall tape i).Shaped C.prog ∧ i.vars = [] ∧ Input.okWide C.prog (w.forCall tape i) .any w.heap.size f i ∧
      ((s.pre enc C.prog fn conds apart (w.forCall tape i).memory i.args ∧ laidMetH C.prog laid (w.forCall tape i).memory) ∧ sizedMet enc C.prog fn (OpenSpec.ofChange s) apart (w.forCall tape i).memory i.args) ∧ a.holds C.prog (lone (Frame.enter C.prog f i.args .normal) [] (w.forCall tape i)))
    (contract : ∀ (W : World) (base : Nat) (args : Array Value) (ds gs : List (DataW H)) (before : List MemPlace),
      (∀ (j : Nat) t v, fn.params[j]? = some t → args[j]? = some v → Value.okWide C.prog W .any base t v) →
      DataW.Whole enc C.prog fn.params.toList s.vars apart W args.toList ds gs before →
      (DataW.weightsEach C.prog (fn.params.toList ++ s.plain.varTypes C.prog) (ds ++ gs)).all (· ≤ reachBytes) = true →
      laidMetH C.prog laid W → W.ShapedOpen C.prog →
      Calls C.prog f args W fun e W' => ∃ v, e = .returned v ∧ s.post enc C.prog fn apart fresh handsOn again W args v W') :
    ReturnsInHanded a C os f .any (fun w args => (s.pre enc C.prog fn conds apart w args ∧ laidMetH C.prog laid w) ∧ sizedMet enc C.prog fn (OpenSpec.ofChange s) apart w args) (s.post enc C.prog fn apart fresh handsOn again) := by
  refine returnsInHanded_of_calls own started noInit witness ?_
  intro w tape i _ hsh _ hok hpre hholds
  obtain ⟨_, _, _, fn', hfn', _, _, _, _, hval⟩ := hok
  have e : fn' = fn := Option.some.inj (hfn'.symm.trans hfn)
  subst e
  obtain ⟨⟨⟨ds, gs, before, hw, hc⟩, hx⟩, hz⟩ := hpre
  have hw' := DataW.Whole.of_heap (w' := w.forCall tape i) (by rfl) hw
  refine (contract (w.forCall tape i) w.heap.size i.args ds gs before hval hw' (hz.weights hw) (hx.of_heap (by rfl)) hsh).mono fun e W' ⟨v, he, hp⟩ => ?_
  subst he
  exact ChangeSpec.post_blind hp
/-- An array of one-cell elements, each element's value read off its datum. -/
theorem arr_vals {P : Program} {w : World} {base : Nat} {spare : Nat → Bool} {held : Bool} {fuel : Nat} {t e : TypeId} {n : Nat} {cs : List Value} {x : DataW H × List MemPlace} (g : DataW H → Value)
    (ht : P.underlying t = some (.array n e)) (hc : P.cellsOf e = 1) (hct : P.cellsOf t = n) (hel : ∀ m c d q, DataW.trod enc P w base spare held m e [c] = some (d, q) → c = g d)
    (h : DataW.trod enc P w base spare held fuel t cs = some x) : ∃ ds, x.1 = .agg ds ∧ cs = ds.map g := by
  obtain ⟨xs, m, rfl, hx, hlen, hn, hxi⟩ := DataW.trod_array ht h
  refine ⟨xs.map (·.1), by rw [hx], ?_⟩
  apply List.ext_getElem (by simp [hlen, hct, hn])
  intro i h1 h2
  have hi : i < n := by rw [hlen, hct] at h1; exact h1
  have h3 := hxi i hi
  rw [hc, Nat.mul_one] at h3
  have e1 : (cs.drop i).take 1 = [cs[i]] := by rw [List.drop_eq_getElem_cons h1]; rfl
  rw [e1, List.getElem?_eq_getElem (by omega)] at h3
  have h4 := hel m cs[i] xs[i].1 xs[i].2 h3
  rw [h4]; simp
def gS : DataW H → Value
  | .lit (.string s) => .string ⟨s.toArray⟩
  | _ => .bool false
end

theorem own : ownKnob Tryd.prog.godebug = none := by kernel_rfl
theorem laidOut : laidOutB Tryd.prog = true := by kernel_rfl
def LD : List (String × DataW Unit) := [("math/bits.deBruijn32tab", Rows.laid_math_bits_deBruijn32tab), ("math/bits.deBruijn64tab", Rows.laid_math_bits_deBruijn64tab), ("internal/strconv.uint64pow10", Rows.laid_internal_strconv_uint64pow10), ("filigree/scan.signs", Rows.laid_filigree_scan_signs)]
theorem g32 : Tryd.prog.globalNamed "math/bits.deBruijn32tab" = some 3 := by kernel_rfl
theorem g64 : Tryd.prog.globalNamed "math/bits.deBruijn64tab" = some 4 := by kernel_rfl
theorem gPow : Tryd.prog.globalNamed "internal/strconv.uint64pow10" = some 2 := by kernel_rfl
theorem gSig : Tryd.prog.globalNamed "filigree/scan.signs" = some 0 := by kernel_rfl
theorem t32 : (Tryd.prog.globals[3]?).map (·.type) = some 91 := by kernel_rfl
theorem t64 : (Tryd.prog.globals[4]?).map (·.type) = some 92 := by kernel_rfl
theorem tPow : (Tryd.prog.globals[2]?).map (·.type) = some 83 := by kernel_rfl
theorem tSig : (Tryd.prog.globals[0]?).map (·.type) = some 62 := by kernel_rfl
def db64 : List Int := [0, 1, 56, 2, 57, 49, 28, 3, 61, 58, 42, 50, 38, 29, 17, 4, 62, 47, 59, 36, 45, 43, 51, 22, 53, 39, 33, 30, 24, 18, 12, 5, 63, 55, 48, 27, 60, 41, 37, 16, 46, 35, 44, 21, 52, 32, 23, 11, 54, 26, 40, 15, 34, 20, 31, 10, 25, 14, 19, 9, 13, 8, 7, 6]
def db32 : List Int := [0, 1, 28, 2, 29, 14, 24, 3, 30, 22, 20, 15, 25, 17, 4, 8, 31, 27, 13, 23, 21, 19, 16, 7, 26, 12, 18, 6, 11, 5, 10, 9]
/-- The cells of the listed variables. -/
theorem env_of {W : World} (h0 : laidMetH Tryd.prog LD W) (hsh : W.ShapedOpen Tryd.prog) : Env2 W := by
  have h : laidMet Tryd.prog LD W := by rw [← MakeChecks.laidMetH_plain _ _ _ (by kernel_rfl)]; exact h0
  have h1 : laidMet Tryd.prog (("math/bits.deBruijn64tab", Lib.tabData .u8 db64) :: [("internal/strconv.uint64pow10", Lib.tabData .u64 Lib.pow10Tab), ("filigree/scan.signs", Rows.laid_filigree_scan_signs)]) W := laidMet.tail h
  have h2 : laidMet Tryd.prog (("internal/strconv.uint64pow10", Lib.tabData .u64 Lib.pow10Tab) :: [("filigree/scan.signs", Rows.laid_filigree_scan_signs)]) W := laidMet.tail h1
  have h3 : laidMet Tryd.prog [("filigree/scan.signs", Rows.laid_filigree_scan_signs)] W := laidMet.tail h2
  have k64 := Lib.tabIs_of_head g64 t64 Tryd.underlying92 Tryd.underlying5 (by kernel_rfl) (by kernel_rfl) h1
  have kp := Lib.tabIs_of_head gPow tPow Tryd.underlying83 Tryd.underlying30 (by kernel_rfl) (by kernel_rfl) h2
  refine ⟨⟨?_, ?_⟩, ?_, Lib.tabBelow_of_tabIs kp⟩
  · exact cell_of_shapedOpen_int (P := Tryd.prog) (g := 1) (t := 3) (zero := #[.int .i64 0]) hsh (of_decide_eq_true (by kernel_rfl)) (by kernel_rfl) rfl (by kernel_rfl) (by kernel_rfl) Tryd.underlying3
  · obtain ⟨ps, ⟨g, t, cs, fuel, p, q, hg, ht, hv, hd, _, _⟩, _⟩ := h3
    obtain rfl := Option.some.inj (gSig.symm.trans hg)
    obtain rfl := Option.some.inj (tSig.symm.trans ht)
    obtain ⟨ds, hx, hcs⟩ := arr_vals gS Tryd.underlying62 (by kernel_rfl) (by kernel_rfl) (fun m c d q hc => by
      obtain ⟨s, e1, e2, _⟩ := DataW.trod_string Tryd.underlying9 hc
      simp only [List.cons.injEq, and_true] at e1
      simp only [Prod.mk.injEq] at e2
      rw [e1, e2.1]; rfl) hd
    have hds : ds.map gS = signCells := by
      have : ds = (signList.map fun s => (DataW.lit (.string s) : DataW _)) := by
        have := hx.symm
        simp only [Rows.laid_filigree_scan_signs, DataW.agg.injEq] at this
        exact this
      rw [this]; rfl
    rw [hds] at hcs
    intro j v hj
    rw [Nat.zero_add, World.var?_cell hg hv j, ← hj, ← hcs]
    simp
  · exact Lib.TabIs.cell k64 g64 15 (by decide)
/-- The door's own heap meets the condition. -/
theorem door_met (os : Os) (args : Array Value) : laidMetH Tryd.prog LD ((World.doorLaid Tryd.prog 29 os).forCall (fun _ _ => 0) ⟨#[], args, []⟩).memory :=
  laidMetH_of_parts3 (fuel := 8) (laidMet_of_run' 8 (by kernel_rfl) (by kernel_rfl)) (by kernel_rfl) (by kernel_rfl)
end Go.Proofs.YtigdegjhajdmhaaDoor
