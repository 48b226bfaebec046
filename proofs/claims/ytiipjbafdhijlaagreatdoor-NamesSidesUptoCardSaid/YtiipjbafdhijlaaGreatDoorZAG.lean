/-
  AsG, in one text.
-/
import Derived.Test.YtiipjbafdhijlaaGreatDoorZAO
import Derived.Maps.OwnSet
import Derived.Maps.Views
import Derived.Deep.RegionLaw
import Derived.Lib.QuietBelow
import Derived.RegionTactic
import Derived.BigRegion
import Derived.Laws.AppendOwn
namespace Go.Proofs.YtiipjbafdhijlaaGreatDoor
open Go Go.RowKit
set_option linter.unusedVariables false
set_option linter.unusedSimpArgs false
open Go.Maps (Keyed)
open Go.Sort
theorem step_append_own {P : Program} {ops : Array Oper} {o : Oper} {a : Act} {w : World} {K : Act → World → Prop} {Q : Exit → Act → World → Prop} {E : Prop} (hgd : o.guard = none) (s x : Operand) (t : TypeId)
  (ho : o.op = .call { callee := .builtin .append, args := #[s, x], argTypes := #[t, t] })
  (base : Nat) (e : TypeId) (i : TypeInfo) (z : Value) (size bytes : Nat) (ht : P.underlying t = some (.slice e)) (hi : P.info? e = some i) (hz : i.zero = some z)
  (hsize : i.size = size) (hby : i.bytes = bytes) (hzs : z.cells.size = size) (hsz : 0 < size)
  (v : Value) (n : Nat) (xs : List Value) (hs : a.eval s = v) (hown : w.ownsRow base e size v n xs)
  (ad : Addr) (m c : Nat) (news : List Value) (hx : a.eval x = .slice (some ad) m c) (hl : news.length = m * size) (hnews : ∀ j u, news[j]? = some u → w.cell? (ad.add j) = some u) (h1 : ∀ u ∈ news, u.oneCell' = true)
  (h63 : n + m ≤ maxLen) (hbytes : (n + m) * bytes ≤ 140737488355328) (hbase : base ≤ w.heap.size)
  (h : ∀ v' w', w'.ownsRow base e size v' (n + m) (xs ++ news) → w.grownBy w' v.ownBlock → (v' = .slice none 0 0 ↔ v = .slice none 0 0 ∧ m = 0) → K (a.put o.dst v') w') :
  if Region.wanted o (yielded ops a.tmps) = true then Oper.wp P o a w K Q else E := by
 have hw : Region.wanted o (yielded ops a.tmps) = true := by simp [Region.wanted, hgd]
 rw [if_pos hw]
 exact wp_append_own w s x t ho base e i z size bytes ht hi hz hsize hby hzs hsz v n xs hs hown ad m c news hx hl hnews h1 h63 hbytes hbase h
theorem plainElem_bool_inv {H : Type} {P : Program} {e : TypeId} (he : P.underlying e = some .bool) {v : Value} {c : Bool} {ps : List MemPlace} (h : plainElem (H := H) P e v = some (.lit (.bool c), ps)) : v = .bool c := by
 unfold plainElem at h
 rw [he] at h
 split at h
 ·simp only [Option.some.injEq, Prod.mk.injEq, DataW.lit.injEq, Lit.bool.injEq] at h; rw [h.1]
 ·simp at *
 ·simp at *
 ·cases h
/-- Block mb is the set of these names. -/
def SeenAt (W : World) (mb n : Nat) (names : List Bytes) : Prop := ∃ D : DataW Unit, W.ownsMap Tryz.prog 9 (plainElem Tryz.prog 4) mb n D ∧ Maps.IsMap D ∧ ∀ s : Bytes, D.atKey (.string s) (.lit (.bool false)) = .lit (.bool (names.contains s))
theorem zeroB (w : World) : (zeroValue 4).run Tryz.prog w = .ok (.bool false) w := by kernel_rfl
theorem key_str (s : Bytes) (hs : s.length ≤ 12000000) : keyOf Tryz.prog 9 (.string (bs s)) = some (.string s) := by
 have := Go.WideMaps.keyOf_string_mk Tryz.underlying9 (s := bs s) (by rw [bs_size]; unfold maxLen; omega)
 simpa [bs] using this
theorem SeenAt.look {W : World} {mb n : Nat} {names : List Bytes} (h : SeenAt W mb n names) (s : Bytes) (hs : s.length ≤ 12000000) : (Instr.lookup 81 (.map (some mb)) (.string (bs s)) false).run Tryz.prog W = .ok (.bool (names.contains s)) W := by
 obtain ⟨D, ho, hm, hD⟩ := h
 obtain ⟨v, ps, hrun, hv⟩ := ho.lookup (Maps.string_keyed Tryz.underlying9) Tryz.underlying81 (zeroB W) (plainElem_bool Tryz.underlying4 false) (key_str s hs)
 rw [hD] at hv
 rw [hrun, plainElem_bool_inv Tryz.underlying4 hv]
set_option maxRecDepth 9000000 in
theorem SeenAt.put {W : World} {mb n : Nat} {names : List Bytes} (h : SeenAt W mb n names) (hn : n < 12000000) (s : Bytes) (hs : s.length ≤ 12000000) : ∃ W', (Instr.mapUpdate 81 (.map (some mb)) (.string (bs s)) (.bool true)).run Tryz.prog W = .ok () W' ∧ SeenAt W' mb (n + 1) (names ++ [s]) ∧ W.grownBy W' (some mb) := by
 obtain ⟨D, ho, hm, hD⟩ := h
 obtain ⟨W', hrun, ho', hg⟩ := ho.update (Maps.string_keyed Tryz.underlying9) Tryz.underlying81 (by unfold maxLen; omega) (key_str s hs) (plainElem_bool Tryz.underlying4 true)
 refine ⟨W', hrun, ⟨_, ho', hm.put _ _, fun s' => ?_⟩, hg⟩
 by_cases e : s' = s
 ·subst e
  rw [Maps.atKey_put_same hm (by simp [WideAt.IsKeyLit])]
  simp
 ·rw [Maps.atKey_put_other (by intro h; cases h; exact e rfl), hD]
  congr 2
  rw [Bool.eq_iff_iff]
  simp [e]
theorem SeenAt.kept {W W' : World} {mb n : Nat} {names : List Bytes} (h : SeenAt W mb n names) {row : Option Nat} (hg : W.grownBy W' row) (hne : some mb ≠ row) : SeenAt W' mb n names := by
 obtain ⟨D, ho, hm, hD⟩ := h
 exact ⟨D, ho.kept hg hne, hm, hD⟩
theorem SeenAt.lt {W : World} {mb n : Nat} {names : List Bytes} (h : SeenAt W mb n names) : mb < W.heap.size := by
 obtain ⟨D, ho, _⟩ := h
 exact ho.lt
theorem SeenAt.block {W W' : World} {mb n : Nat} {names : List Bytes} (h : SeenAt W mb n names) (hb : W'.heap[mb]? = W.heap[mb]?) : SeenAt W' mb n names := by
 obtain ⟨D, ⟨es, c, h1, h2⟩, hm, hD⟩ := h
 exact ⟨D, ⟨es, c, hb.trans h1, h2⟩, hm, hD⟩
def strs (l : List Bytes) : List Value := l.map fun s => .string (bs s)
theorem below_own_row {B e size n : Nat} {v : Value} {xs : List Value} {W W' : World} (h : W.ownsRow B e size v n xs) (hb : Below W.heap.size W W') : W'.ownsRow B e size v n xs := by
 obtain ⟨h1, h2⟩ := h
 refine ⟨h1, ?_⟩
 rcases h2 with h2 | ⟨g, cap, cur, hv, hg, hh, hr⟩
 ·exact .inl h2
 ·exact .inr ⟨g, cap, cur, hv, hg, block_kept hh hb, hr⟩
mutual
/-- The names that some have, and those of an expression behind. -/
def freeX (out : List Bytes) : XT → List Bytes
 | .mk op nm _ _ _ _ _ l => freeL (if (hasB op && !out.contains nm) = true then out ++ [nm] else out) l
def freeL (out : List Bytes) : List XT → List Bytes
 | [] => out
 | x :: r => freeL (freeX out x) r
end
theorem freeL_app : ∀ (out : List Bytes) (l m : List XT), freeL out (l ++ m) = freeL (freeL out l) m
 | out, [], m => rfl
 | out, x :: r, m => by rw [List.cons_append, freeL, freeL, freeL_app (freeX out x) r m]
theorem freeL_take (out : List Bytes) (l : List XT) (k : Nat) (h : k < l.length) : freeL out (l.take (k + 1)) = freeX (freeL out (l.take k)) l[k] := by
 rw [List.take_succ_eq_append_getElem h, freeL_app]; rfl
theorem freeL_len_of : ∀ (l : List XT) (out : List Bytes), (∀ x ∈ l, ∀ o, (freeX o x).length ≤ o.length + x.sz) → (freeL out l).length ≤ out.length + XT.szL l
 | [], out, _ => by simp [freeL, XT.szL]
 | x :: r, out, h => by
  have h1 := h x (by simp) out
  have h2 := freeL_len_of r (freeX out x) (fun y hy => h y (by simp [hy]))
  simp only [freeL, XT.szL]; omega
theorem freeX_len : ∀ (x : XT) (out : List Bytes), (freeX out x).length ≤ out.length + x.sz := XT.ind fun op nm n wd v a c l ih out => by
 rw [freeX, XT.sz]
 have := freeL_len_of l (if (hasB op && !out.contains nm) = true then out ++ [nm] else out) (fun x hx o => ih x hx o)
 have h2 : (if (hasB op && !out.contains nm) = true then out ++ [nm] else out).length ≤ out.length + 1 := by split <;> simp
 omega
theorem freeL_len (l : List XT) (out : List Bytes) : (freeL out l).length ≤ out.length + XT.szL l := freeL_len_of l out (fun x _ o => freeX_len x o)
theorem szL_take_le (l : List XT) (k : Nat) : XT.szL (l.take k) ≤ XT.szL l := by
 have h := XT.szL_app (l.take k) (l.drop k)
 rw [List.take_append_drop] at h
 omega
theorem EnvA.low {H : Nat} {W W' : World} (h : EnvA W) (hG : ∀ b, b < 5 → b < H) (hb : Below H W W') : EnvA W' := by
 have k : ∀ b o v, b < 5 → W.cell? ⟨b, o, none⟩ = some v → W'.cell? ⟨b, o, none⟩ = some v := fun b o v hl hv => by rw [hb.cell (p := ⟨b, o, none⟩) (hG b hl)]; exact hv
 obtain ⟨⟨⟨m, hm⟩, hs⟩, h2, h3, h4⟩ := h
 exact ⟨⟨⟨m, k _ _ _ (by omega) hm⟩, fun j v hv => k _ _ _ (by omega) (hs j v hv)⟩, fun i hi j v hv => k _ _ _ (by omega) (h2 i hi j v hv), fun i hi j v hv => k _ _ _ (by omega) (h3 i hi j v hv), fun i hi j v hv => k _ _ _ (by omega) (h4 i hi j v hv)⟩
theorem own_some {w : World} {B e size n : Nat} {v : Value} {xs : List Value} (h : w.ownsRow B e size v n xs) (hn : 0 < n) : ∃ g cap, v = .slice (some ⟨g, 0, none⟩) n cap := by
 rcases h.2 with ⟨_, h0⟩ | ⟨g, cap, cur, hv, _⟩
 ·omega
 ·exact ⟨g, cap, hv⟩
theorem news_one (w : World) (v : Value) (t : TypeId) : ∀ j u, ([v] : List Value)[j]? = some u → (w.alloc (.cells #[v] t)).cell? ((⟨w.heap.size, 0, none⟩ : Addr).add j) = some u := by
 intro j u h
 match j, h with
 | 0, h => simp at h; subst h; simp [Addr.add]
 | j + 1, h => simp at h
theorem ones_str (s : Bytes) : ∀ u ∈ [Value.string (bs s)], u.oneCell' = true := by intro u hu; simp at hu; subst hu; rfl
theorem fb_kept {W w' : World} {fb : Nat} {o x : Obj} {r : Option Nat} (h : W.heap[fb]? = some o) (hg : (W.drew.alloc x).grownBy w' r) (hne : some fb ≠ r) : w'.heap[fb]? = some o := by
 have hlt : fb < W.heap.size := (Array.getElem?_eq_some_iff.1 h).1
 rw [hg.block fb (by show fb < (W.drew.alloc x).heap.size; simp; show fb < W.heap.size + 1; omega) hne]
 exact (Below.heap_alloc W.drew x fb hlt).trans h
theorem row_kept {B n e e2 size g : Nat} {v : Value} {xs : List Value} {w w' : World} {cs : Array Value} (hown : w.ownsRow B e size v n xs) (hg : w.grownBy w' v.ownBlock) (h : w.heap[g]? = some (.cells cs e2 (0, 0))) (hne : e2 ≠ e) : w'.heap[g]? = some (.cells cs e2 (0, 0)) := by
 have hlt : g < w.heap.size := (Array.getElem?_eq_some_iff.1 h).1
 rw [hg.block g hlt ?_]
 ·exact h
 ·intro hc
  rcases hown.2 with ⟨rfl, _⟩ | ⟨g2, cap, cur, rfl, _, h2, _⟩
  ·simp [Value.ownBlock] at hc
  ·simp [Value.ownBlock] at hc
   subst hc
   rw [h] at h2
   injection h2 with h2
   injection h2 with _ h3 _
   exact hne h3
theorem info_str : (Tryz.prog.info? 9).map (fun i => (i.zero, i.size, i.bytes)) = some (some (.string ⟨#[]⟩), 1, 16) := by kernel_rfl
end Go.Proofs.YtiipjbafdhijlaaGreatDoor
