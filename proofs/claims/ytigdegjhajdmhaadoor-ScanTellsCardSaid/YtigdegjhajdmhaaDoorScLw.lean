/-
  The laws of stage 2: a text where it lies, and the calls at it.
-/
import Derived.Test.YtigdegjhajdmhaaDoorScLv
import Derived.Test.YtigdegjhajdmhaaDoorScMt
import Derived.Laws.BytesArg
import Derived.Laws.IdiomStrings
namespace Go.Proofs.YtigdegjhajdmhaaDoor
open Go Go.RowKit
set_option linter.unusedVariables false
set_option linter.unusedSimpArgs false
open Go.Sort

/-- A text, where its bytes lie. -/
def BytesAt (w : World) (a : Option Addr) (l : Bytes) : Prop := l = [] ∨ ∃ b o, a = some ⟨b, o, none⟩ ∧ ∀ j (hj : j < l.length), w.cell? ⟨b, o + j, none⟩ = some (.int .u8 (l[j].toNat : Int))
theorem BytesAt.keep {w w' : World} {a : Option Addr} {l : Bytes} (h : BytesAt w a l) (hb : Below w.heap.size w w') : BytesAt w' a l := by
  rcases h with h | ⟨b, o, rfl, h⟩
  · exact .inl h
  · exact .inr ⟨b, o, rfl, fun j hj => keep_cell hb (h j hj)⟩
theorem BytesAt.conv {w : World} {a : Option Addr} {l : Bytes} (h : BytesAt w a l) (cap : Nat) : (convert 22 9 (.slice a l.length cap)).run Tryd.prog w = .ok (.string (bs l)) w := by
  rcases h with rfl | ⟨b, o, rfl, h⟩
  · cases a with
    | none => exact run_convert_bytes_nil (P := Tryd.prog) w 22 5 Tryd.underlying22 Tryd.underlying5 0 cap 9 Tryd.underlying9
    | some a => exact run_convert_bytes_back (P := Tryd.prog) w 22 9 5 a cap [] Tryd.underlying22 Tryd.underlying5 Tryd.underlying9 (fun j hj => absurd hj (by simp))
  · exact run_convert_bytes_back (P := Tryd.prog) w 22 9 5 ⟨b, o, none⟩ cap l Tryd.underlying22 Tryd.underlying5 Tryd.underlying9 (fun j hj => by rw [Addr.add_mid]; exact h j hj)
theorem BytesAt.take {w : World} {a : Option Addr} {l : Bytes} (h : BytesAt w a l) (n : Nat) : BytesAt w a (l.take n) := by
  rcases h with rfl | ⟨b, o, rfl, h⟩
  · exact .inl (by simp)
  · refine .inr ⟨b, o, rfl, fun j hj => ?_⟩
    rw [List.length_take] at hj
    rw [List.getElem_take]; exact h j (by omega)
theorem BytesAt.drop {w : World} {a : Option Addr} {l : Bytes} (h : BytesAt w a l) (n : Nat) : BytesAt w (a.map fun x => x.add n) (l.drop n) := by
  rcases h with rfl | ⟨b, o, rfl, h⟩
  · exact .inl (by simp)
  · refine .inr ⟨b, o + n, by simp [Addr.add_mid], fun j hj => ?_⟩
    rw [List.length_drop] at hj
    rw [List.getElem_drop, Nat.add_assoc]; exact h (n + j) (by omega)
theorem bytes_new (w : World) (l : Bytes) (cap : Nat) (fr : Nat × Nat) : BytesAt (w.alloc (.cells (bytesRow (bs l) cap) 5 fr)) (some ⟨w.heap.size, 0, none⟩) l := by
  refine .inr ⟨_, _, rfl, fun j hj => ?_⟩
  rw [World.cell?_alloc_mark, Nat.zero_add]
  unfold bytesRow
  rw [Array.getElem?_append_left (by simpa [bs] using hj)]
  simp [bs, hj]
theorem conv_new (w : World) (l : Bytes) : ∃ cap fr, (convert 9 22 (.string (bs l))).run Tryd.prog w = .ok (.slice (some ⟨w.heap.size, 0, none⟩) l.length cap) (w.drew.alloc (.cells (bytesRow (bs l) cap) 5 fr)) := by
  refine ⟨_, _, by have := run_bytes_of_string (P := Tryd.prog) w 9 22 5 (bs l) Tryd.underlying9 Tryd.underlying22 Tryd.underlying5; rw [bs_size] at this; exact this⟩
theorem BytesAt.drew {w : World} {a : Option Addr} {l : Bytes} (h : BytesAt w a l) : BytesAt w.drew a l := by
  rcases h with h | ⟨b, o, rfl, h⟩
  · exact .inl h
  · exact .inr ⟨b, o, rfl, fun j hj => by rw [World.cell?_drew]; exact h j hj⟩
theorem scan_call (a : Option Addr) (cap : Nat) (l : Bytes) (hl : l.length ≤ 65536) (w : World) (he : Env2 w) (ht : BytesAt w a l) : Calls Tryd.prog 5 #[.slice a l.length cap] w (Told w (scanS l)) := scan_any a cap l hl w he.env (ht.conv cap)
theorem Env2.keep {w w' : World} (h : Env2 w) (hb : Below w.heap.size w w') : Env2 w' := ⟨h.env.keep hb, keep_cell hb h.tz, fun x hx => h.tab x (hb.trans (hx.mono hb.size))⟩
theorem T5.cells_g (t : T5) : t.cells = t.g.cells := rfl
theorem allCells_g (l : List T5) : allCells l = gCells (l.map T5.g) := by
  unfold allCells gCells
  rw [List.flatMap_map]
  rfl
/-- The tokens that Scan has told, where they lie. -/
theorem told_lies {w w' : World} {ts : List T5} {v : Value} (h : w'.ownsRow w.heap.size 32 5 v ts.length (allCells ts)) : ∃ a c, v = .slice a ts.length c ∧ LiesA w' a (ts.map T5.g) ∧ ts.length ≤ c ∧ (ts = [] ∨ ∃ g, a = some ⟨g, 0, none⟩ ∧ w.heap.size ≤ g ∧ g < w'.heap.size ∧ ∀ i, w'.frozen? ⟨g, i, none⟩ = false) := by
  rcases h.2 with ⟨hx, h0⟩ | ⟨g, cap, cur, hv, hge, hhp, hn, hcap, _⟩
  · have : ts = [] := List.length_eq_zero_iff.1 h0
    subst this
    subst hx
    exact ⟨_, _, rfl, .inl rfl, Nat.le_refl _, .inl rfl⟩
  · subst hv
    refine ⟨_, _, rfl, .inr ⟨g, 0, rfl, lies_of _ 0 (fun j u hu => ?_)⟩, by omega, .inr ⟨g, rfl, hge, (by
      rcases Nat.lt_or_ge g w'.heap.size with x | x
      · exact x
      · rw [Array.getElem?_eq_none x] at hhp; cases hhp), fun i => by simp [World.frozen?, hhp]⟩⟩
    rw [← allCells_g] at hu
    have := h.cells (g := g) rfl j u hu
    rw [Addr.add_mid] at this
    exact this
/-- The text that Text has told, where it lies. -/
theorem told_bytes {w w' : World} {B : Bytes} {v : Value} (h : w'.ownsRow w.heap.size 5 1 v B.length (Lib.byteCells B)) : ∃ a c, v = .slice a B.length c ∧ BytesAt w' a B := by
  rcases h.2 with ⟨hx, h0⟩ | ⟨g, cap, cur, hv, _⟩
  · have : B = [] := List.length_eq_zero_iff.1 h0
    subst this
    subst hx
    exact ⟨_, _, rfl, .inl rfl⟩
  · subst hv
    refine ⟨_, _, rfl, .inr ⟨g, 0, rfl, fun j hj => ?_⟩⟩
    have := h.cells (g := g) rfl j (.int .u8 (B[j].toNat : Int)) (by show (Lib.byteCells B)[j]? = _; simp only [Lib.byteCells, List.getElem?_map, List.getElem?_eq_getElem hj]; rfl)
    rw [Addr.add_mid] at this
    exact this
set_option maxHeartbeats 1000000 in
theorem text_none (a : Option Addr) (cap : Nat) (w : World) : Calls Tryd.prog 8 #[.slice a 0 cap] w (ToldT w ([], 0)) := by
  go_enter Tryd.func8, Tryd.ntmps8
  go_wp2
  go_loopg [12] 0 (fun g u wr => u = .int .i64 0 ∧ wr = w)
  case atStart => exact ⟨rfl, rfl⟩
  case round =>
    obtain ⟨rfl, rfl⟩ := hrel
    go_wp2
    go_loopg [7, 24] 0 (fun g v u wx => u = .int .i64 0 ∧ v = .slice none 0 0 ∧ wx = wr)
    case atStart => exact ⟨rfl, rfl, rfl⟩
    case round =>
      obtain ⟨rfl, rfl, rfl⟩ := hrel
      go_wp2
      go_ret2
      exact ⟨_, rfl, ⟨rfl, .inl ⟨rfl, rfl⟩⟩, fun h => absurd rfl h, Below.refl _ _⟩
/-- Text, of tokens where they lie. -/
theorem text_call (a : Option Addr) (cap : Nat) (l : List G5) (hl : l.length ≤ 1000000) (hcap : l.length ≤ cap) (hss : ∀ t ∈ l, t.s.length ≤ 70000) (hvv : ∀ t ∈ l, t.V < 18446744073709551616) (w : World) (he : Env2 w) (hli : LiesA w a l) : Calls Tryd.prog 8 #[.slice a l.length cap] w (ToldT w (textS l)) := by
  rcases hli with rfl | ⟨b, o, rfl, hli⟩
  · exact text_none a cap w
  · exact text_any b o cap l (by omega) hcap hss hvv w he.env hli he.tz he.tab
theorem below_free {B : Nat} {w w' : World} (hb : Below B w w') {b : Nat} (hlt : b < B) {i : Nat} (h : w.frozen? ⟨b, i, none⟩ = false) : w'.frozen? ⟨b, i, none⟩ = false := (World.frozen?_of_block (a := ⟨b, i, none⟩) (hb.block b hlt)).trans h
theorem LiesA.keep {w w' : World} {a : Option Addr} {l : List G5} (h : LiesA w a l) (hb : Below w.heap.size w w') : LiesA w' a l := by
  rcases h with h | ⟨b, o, rfl, h⟩
  · exact .inl h
  · exact .inr ⟨b, o, rfl, h.on (fun f v hc => keep_cell hb hc)⟩
theorem LiesA.at {w : World} {a : Option Addr} {l : List G5} (h : LiesA w a l) {i : Nat} (hi : i < l.length) : ∃ b o, a = some ⟨b, o, none⟩ ∧ w.cell? ⟨b, o + i * 5, none⟩ = some (.int .i64 l[i].k) ∧ w.cell? ⟨b, o + i * 5 + 1, none⟩ = some (.string (bs l[i].s)) ∧ w.cell? ⟨b, o + i * 5 + 2, none⟩ = some (.int .i64 l[i].W) ∧ w.cell? ⟨b, o + i * 5 + 3, none⟩ = some (.int .u64 (l[i].V : Int)) ∧ w.cell? ⟨b, o + i * 5 + 4, none⟩ = some (.int .i64 l[i].p) := by
  rcases h with rfl | ⟨b, o, rfl, h⟩
  · simp at hi
  · exact ⟨b, o, rfl, h i hi⟩
end Go.Proofs.YtigdegjhajdmhaaDoor
