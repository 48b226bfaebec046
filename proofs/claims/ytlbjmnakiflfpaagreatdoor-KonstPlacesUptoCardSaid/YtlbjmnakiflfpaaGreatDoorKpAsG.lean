/-
  The finder: each name once, where it is come to first; Free.
-/
import Derived.Test.YtlbjmnakiflfpaaGreatDoorKpAsO
import Derived.Maps.OwnSet
import Derived.Maps.Views
import Derived.Deep.RegionLaw
import Derived.Lib.QuietBelow
import Derived.RegionTactic
import Derived.BigRegion
import Derived.Laws.AppendOwn
namespace Go.Proofs.YtlbjmnakiflfpaaGreatDoor
open Go Go.RowKit
set_option linter.unusedVariables false
set_option linter.unusedSimpArgs false
open Go.Maps (Keyed)
open Go.Sort

theorem step_append_own {P : Program} {ops : Array Oper} {o : Oper} {a : Act} {w : World} {K : Act → World → Prop} {Q : Exit → Act → World → Prop} {E : Prop} (hgd : o.guard = none) (s x : Operand) (t : TypeId)
    (ho : o.op = .call { callee := .builtin .append, args := #[s, x], argTypes := #[t, t] })
    (base : Nat) (e : TypeId) (i : TypeInfo) (z : Value) (size bytes : Nat) (ht : P.underlying t = some (.slice e)) (hi : P.info? e = some i) (hz : i.zero = some z)
    (hsize : i.size = size) (hby : i.bytes = bytes) (hzs : z.cells.size = size) (hsz : 0 < size)
    (v : Value) (n : Nat) (xs : List Value) (hs : a.eval s = v) (hown : w.ownsRow base e size v n xs)
    (ad : Addr) (m c : Nat) (news : List Value) (hx : a.eval x = .slice (some ad) m c) (hl : news.length = m * size) (hnews : ∀ j u, news[j]? = some u → w.cell? (ad.add j) = some u) (h1 : ∀ u ∈ news, u.oneCell' = true)
    (h63 : n + m ≤ maxLen) (hbytes : (n + m) * bytes ≤ 140737488355328) (hbase : base ≤ w.heap.size)
    (h : ∀ v' w', w'.ownsRow base e size v' (n + m) (xs ++ news) → w.grownBy w' v.ownBlock → (v' = .slice none 0 0 ↔ v = .slice none 0 0 ∧ m = 0) → K (a.put o.dst v') w') :
    if Region.wanted o (yielded ops a.tmps) = true then Oper.wp P o a w K Q else E := by
  have hw : Region.wanted o (yielded ops a.tmps) = true := by simp [Region.wanted, hgd]
  rw [if_pos hw]
  exact wp_append_own w s x t ho base e i z size bytes ht hi hz hsize hby hzs hsz v n xs hs hown ad m c news hx hl hnews h1 h63 hbytes hbase h
theorem plainElem_bool_inv {H : Type} {P : Program} {e : TypeId} (he : P.underlying e = some .bool) {v : Value} {c : Bool} {ps : List MemPlace} (h : plainElem (H := H) P e v = some (.lit (.bool c), ps)) : v = .bool c := by
  unfold plainElem at h
  rw [he] at h
  split at h
  · simp only [Option.some.injEq, Prod.mk.injEq, DataW.lit.injEq, Lit.bool.injEq] at h; rw [h.1]
  · simp at *
  · simp at *
  · cases h
/-- Block mb is the set of these names. -/
def SeenAt (W : World) (mb n : Nat) (names : List Bytes) : Prop := ∃ D : DataW Unit, W.ownsMap Tryz.prog 9 (plainElem Tryz.prog 4) mb n D ∧ Maps.IsMap D ∧ ∀ s : Bytes, D.atKey (.string s) (.lit (.bool false)) = .lit (.bool (names.contains s))
theorem zeroB (w : World) : (zeroValue 4).run Tryz.prog w = .ok (.bool false) w := by kernel_rfl
theorem key_str (s : Bytes) (hs : s.length ≤ 4000000) : keyOf Tryz.prog 9 (.string (bs s)) = some (.string s) := by
  have := Go.WideMaps.keyOf_string_mk Tryz.underlying9 (s := bs s) (by rw [bs_size]; unfold maxLen; omega)
  simpa [bs] using this
theorem SeenAt.look {W : World} {mb n : Nat} {names : List Bytes} (h : SeenAt W mb n names) (s : Bytes) (hs : s.length ≤ 4000000) : (Instr.lookup 81 (.map (some mb)) (.string (bs s)) false).run Tryz.prog W = .ok (.bool (names.contains s)) W := by
  obtain ⟨D, ho, hm, hD⟩ := h
  obtain ⟨v, ps, hrun, hv⟩ := ho.lookup (Maps.string_keyed Tryz.underlying9) Tryz.underlying81 (zeroB W) (plainElem_bool Tryz.underlying4 false) (key_str s hs)
  rw [hD] at hv
  rw [hrun, plainElem_bool_inv Tryz.underlying4 hv]
set_option maxRecDepth 3000000 in
theorem SeenAt.put {W : World} {mb n : Nat} {names : List Bytes} (h : SeenAt W mb n names) (hn : n < 4000000) (s : Bytes) (hs : s.length ≤ 4000000) : ∃ W', (Instr.mapUpdate 81 (.map (some mb)) (.string (bs s)) (.bool true)).run Tryz.prog W = .ok () W' ∧ SeenAt W' mb (n + 1) (names ++ [s]) ∧ W.grownBy W' (some mb) := by
  obtain ⟨D, ho, hm, hD⟩ := h
  obtain ⟨W', hrun, ho', hg⟩ := ho.update (Maps.string_keyed Tryz.underlying9) Tryz.underlying81 (by unfold maxLen; omega) (key_str s hs) (plainElem_bool Tryz.underlying4 true)
  refine ⟨W', hrun, ⟨_, ho', hm.put _ _, fun s' => ?_⟩, hg⟩
  by_cases e : s' = s
  · subst e
    rw [Maps.atKey_put_same hm (by simp [WideAt.IsKeyLit])]
    simp
  · rw [Maps.atKey_put_other (by intro h; cases h; exact e rfl), hD]
    congr 2
    rw [Bool.eq_iff_iff]
    simp [e]
theorem SeenAt.kept {W W' : World} {mb n : Nat} {names : List Bytes} (h : SeenAt W mb n names) {row : Option Nat} (hg : W.grownBy W' row) (hne : some mb ≠ row) : SeenAt W' mb n names := by
  obtain ⟨D, ho, hm, hD⟩ := h
  exact ⟨D, ho.kept hg hne, hm, hD⟩
theorem SeenAt.lt {W : World} {mb n : Nat} {names : List Bytes} (h : SeenAt W mb n names) : mb < W.heap.size := by
  obtain ⟨D, ho, _⟩ := h
  exact ho.lt
theorem SeenAt.block {W W' : World} {mb n : Nat} {names : List Bytes} (h : SeenAt W mb n names) (hb : W'.heap[mb]? = W.heap[mb]?) : SeenAt W' mb n names := by
  obtain ⟨D, ⟨es, c, h1, h2⟩, hm, hD⟩ := h
  exact ⟨D, ⟨es, c, hb.trans h1, h2⟩, hm, hD⟩
def strs (l : List Bytes) : List Value := l.map fun s => .string (bs s)
/-- The finder at work: its block, its set's, the names that it has found. -/
def Finder (W : World) (base fb mb : Nat) (names : List Bytes) : Prop := ∃ v, W.heap[fb]? = some (.cells #[.map (some mb), v] 83 (0, 0)) ∧ W.ownsRow base 9 1 v names.length (strs names) ∧ SeenAt W mb names.length names ∧ (names = [] → v = .slice none 0 0) ∧ base ≤ W.heap.size
theorem below_own_row {B e size n : Nat} {v : Value} {xs : List Value} {W W' : World} (h : W.ownsRow B e size v n xs) (hb : Below W.heap.size W W') : W'.ownsRow B e size v n xs := by
  obtain ⟨h1, h2⟩ := h
  refine ⟨h1, ?_⟩
  rcases h2 with h2 | ⟨g, cap, cur, hv, hg, hh, hr⟩
  · exact .inl h2
  · exact .inr ⟨g, cap, cur, hv, hg, block_kept hh hb, hr⟩
theorem Finder.keep {W W' : World} {base fb mb : Nat} {names : List Bytes} (h : Finder W base fb mb names) (hb : Below W.heap.size W W') : Finder W' base fb mb names := by
  obtain ⟨v, h1, h2, h3, h4, h5⟩ := h
  exact ⟨v, block_kept h1 hb, below_own_row h2 hb, h3.block (hb.block mb h3.lt), h4, Nat.le_trans h5 hb.size⟩
mutual
/-- The names that some have, and those of an expression behind. -/
def freeX (out : List Bytes) : XT → List Bytes
  | .mk op nm _ _ _ _ _ l => freeL (if (hasB op && !out.contains nm) = true then out ++ [nm] else out) l
def freeL (out : List Bytes) : List XT → List Bytes
  | [] => out
  | x :: r => freeL (freeX out x) r
end
theorem freeL_app : ∀ (out : List Bytes) (l m : List XT), freeL out (l ++ m) = freeL (freeL out l) m
  | out, [], m => rfl
  | out, x :: r, m => by rw [List.cons_append, freeL, freeL, freeL_app (freeX out x) r m]
theorem freeL_take (out : List Bytes) (l : List XT) (k : Nat) (h : k < l.length) : freeL out (l.take (k + 1)) = freeX (freeL out (l.take k)) l[k] := by
  rw [List.take_succ_eq_append_getElem h, freeL_app]; rfl
theorem freeL_len_of : ∀ (l : List XT) (out : List Bytes), (∀ x ∈ l, ∀ o, (freeX o x).length ≤ o.length + x.sz) → (freeL out l).length ≤ out.length + XT.szL l
  | [], out, _ => by simp [freeL, XT.szL]
  | x :: r, out, h => by
    have h1 := h x (by simp) out
    have h2 := freeL_len_of r (freeX out x) (fun y hy => h y (by simp [hy]))
    simp only [freeL, XT.szL]; omega
theorem freeX_len : ∀ (x : XT) (out : List Bytes), (freeX out x).length ≤ out.length + x.sz := XT.ind fun op nm n wd v a c l ih out => by
  rw [freeX, XT.sz]
  have := freeL_len_of l (if (hasB op && !out.contains nm) = true then out ++ [nm] else out) (fun x hx o => ih x hx o)
  have h2 : (if (hasB op && !out.contains nm) = true then out ++ [nm] else out).length ≤ out.length + 1 := by split <;> simp
  omega
theorem freeL_len (l : List XT) (out : List Bytes) : (freeL out l).length ≤ out.length + XT.szL l := freeL_len_of l out (fun x _ o => freeX_len x o)
theorem szL_take_le (l : List XT) (k : Nat) : XT.szL (l.take k) ≤ XT.szL l := by
  have h := XT.szL_app (l.take k) (l.drop k)
  rw [List.take_append_drop] at h
  omega
theorem EnvA.low {H : Nat} {W W' : World} (h : EnvA W) (hG : ∀ b, b < 5 → b < H) (hb : Below H W W') : EnvA W' := by
  have k : ∀ b o v, b < 5 → W.cell? ⟨b, o, none⟩ = some v → W'.cell? ⟨b, o, none⟩ = some v := fun b o v hl hv => by rw [hb.cell (p := ⟨b, o, none⟩) (hG b hl)]; exact hv
  obtain ⟨⟨⟨m, hm⟩, hs⟩, h2⟩ := h
  exact ⟨⟨⟨m, k _ _ _ (by omega) hm⟩, fun j v hv => k _ _ _ (by omega) (hs j v hv)⟩, fun i hi j v hv => k _ _ _ (by omega) (h2 i hi j v hv)⟩
theorem own_some {w : World} {B e size n : Nat} {v : Value} {xs : List Value} (h : w.ownsRow B e size v n xs) (hn : 0 < n) : ∃ g cap, v = .slice (some ⟨g, 0, none⟩) n cap := by
  rcases h.2 with ⟨_, h0⟩ | ⟨g, cap, cur, hv, _⟩
  · omega
  · exact ⟨g, cap, hv⟩
theorem news_one (w : World) (v : Value) (t : TypeId) : ∀ j u, ([v] : List Value)[j]? = some u → (w.alloc (.cells #[v] t)).cell? ((⟨w.heap.size, 0, none⟩ : Addr).add j) = some u := by
  intro j u h
  match j, h with
  | 0, h => simp at h; subst h; simp [Addr.add]
  | j + 1, h => simp at h
theorem ones_str (s : Bytes) : ∀ u ∈ [Value.string (bs s)], u.oneCell' = true := by intro u hu; simp at hu; subst hu; rfl
theorem fb_kept {W w' : World} {fb : Nat} {o x : Obj} {r : Option Nat} (h : W.heap[fb]? = some o) (hg : (W.drew.alloc x).grownBy w' r) (hne : some fb ≠ r) : w'.heap[fb]? = some o := by
  have hlt : fb < W.heap.size := (Array.getElem?_eq_some_iff.1 h).1
  rw [hg.block fb (by show fb < (W.drew.alloc x).heap.size; simp; show fb < W.heap.size + 1; omega) hne]
  exact (Below.heap_alloc W.drew x fb hlt).trans h
theorem row_kept {B n e e2 size g : Nat} {v : Value} {xs : List Value} {w w' : World} {cs : Array Value} (hown : w.ownsRow B e size v n xs) (hg : w.grownBy w' v.ownBlock) (h : w.heap[g]? = some (.cells cs e2 (0, 0))) (hne : e2 ≠ e) : w'.heap[g]? = some (.cells cs e2 (0, 0)) := by
  have hlt : g < w.heap.size := (Array.getElem?_eq_some_iff.1 h).1
  rw [hg.block g hlt ?_]
  · exact h
  · intro hc
    rcases hown.2 with ⟨rfl, _⟩ | ⟨g2, cap, cur, rfl, _, h2, _⟩
    · simp [Value.ownBlock] at hc
    · simp [Value.ownBlock] at hc
      subst hc
      rw [h] at h2
      injection h2 with h2
      injection h2 with _ h3 _
      exact hne h3
theorem info_str : (Tryz.prog.info? 9).map (fun i => (i.zero, i.size, i.bytes)) = some (some (.string ⟨#[]⟩), 1, 16) := by kernel_rfl

set_option maxHeartbeats 16000000 in
set_option maxRecDepth 3000000 in
theorem look_any (H n0 base fb mb : Nat) (hnH : n0 ≤ H) (hG : ∀ b, b < 5 → b < H) (hfb : H ≤ fb) (hmb : H ≤ mb) (hfB : fb < base) (hmB : mb < base) (hfm : fb ≠ mb) : ∀ x : XT, x.bk ≤ 1500000 → ∀ (names : List Bytes) (W : World), EnvA W → H ≤ W.heap.size → x.In n0 W → Finder W base fb mb names → names.length + x.sz ≤ 3000000 →
    Calls Tryz.prog 50 #[.pointer (some ⟨fb, 0, none⟩), x.val] W fun e W' => (∃ v, e = .returned v) ∧ Finder W' base fb mb (freeX names x) ∧ Below H W W' := by
  refine XT.ind ?_
  intro op nm xn wd v xa xc xl ih hbk names W he hHW hin hF hsz
  rw [XT.In_mk] at hin
  simp only [XT.bk] at hbk
  simp only [XT.sz] at hsz
  have hlen := XT.szL_len xl
  have HFX : Hid (freeX names (.mk op nm xn wd v xa xc xl) = freeL (if (hasB op && !names.contains nm) = true then names ++ [nm] else names) xl) := Lib.hid (by rw [freeX])
  have hhn := fun b h w he => hasName_call (.mk op nm xn wd v xa xc xl) b h w he
  simp only [XT.val, XT.cells, XT.op] at hhn ⊢
  have BX : (W.alloc (.cells #[.int .i64 op, .string (bs nm), .int .i64 xn, .int .i64 wd, .int .u64 (v : Int), .slice xa xl.length xc] 25)).heap[W.heap.size]? = some (.cells #[.int .i64 op, .string (bs nm), .int .i64 xn, .int .i64 wd, .int .u64 (v : Int), .slice xa xl.length xc] 25) := World.alloc_heap_new W _
  have k0 : Below W.heap.size W (W.alloc (.cells #[.int .i64 op, .string (bs nm), .int .i64 xn, .int .i64 wd, .int .u64 (v : Int), .slice xa xl.length xc] 25)) := (Below.refl _ _).alloc (Nat.le_refl _) _
  have hB1 : Below H W (W.alloc (.cells #[.int .i64 op, .string (bs nm), .int .i64 xn, .int .i64 wd, .int .u64 (v : Int), .slice xa xl.length xc] 25)) := k0.mono hHW
  have he1 := he.alloc (.cells #[.int .i64 op, .string (bs nm), .int .i64 xn, .int .i64 wd, .int .u64 (v : Int), .slice xa xl.length xc] 25)
  have hF1 := hF.keep k0
  have hz1 : W.heap.size < (W.alloc (.cells #[.int .i64 op, .string (bs nm), .int .i64 xn, .int .i64 wd, .int .u64 (v : Int), .slice xa xl.length xc] 25)).heap.size := by simp
  have hbW : base ≤ W.heap.size := by obtain ⟨_, _, _, _, _, h⟩ := hF; exact h
  go_enter Tryz.func50, Tryz.ntmps50
  go_upto_region 1 with (fail)
  clear hF k0
  generalize W.alloc (.cells #[.int .i64 op, .string (bs nm), .int .i64 xn, .int .i64 wd, .int .u64 (v : Int), .slice xa xl.length xc] 25) = W1 at *
  obtain ⟨z0, z1, z2, z3, z4, z5⟩ := open6 BX
  obtain ⟨v1, hf1, ho1, hs1, hn1, hbz1⟩ := hF1
  have hF1 : Finder W1 base fb mb names := ⟨v1, hf1, ho1, hs1, hn1, hbz1⟩
  have y0 : W1.cell? ⟨fb, 0, none⟩ = some (.map (some mb)) := by simp [World.cell?, hf1]
  cases hb : hasB op with
  | false =>
    replace hhn := hhn false hb
    have HE : Hid (freeX names (.mk op nm xn wd v xa xc xl) = freeL names xl) := Lib.hid (by rw [HFX.out, hb]; rfl)
    clear hb HFX
    have z0R := cell_regrown z0
    have z1R := cell_regrown z1
    have z2R := cell_regrown z2
    have z3R := cell_regrown z3
    have z4R := cell_regrown z4
    have z5R := cell_regrown z5
    have y0R := cell_regrown y0
    have heR := fun dq os => he1.keep (below_regrown W1 dq os)
    have hlR := fun dq os => (hs1.block ((below_regrown W1 dq os).block mb hs1.lt)).look nm (by omega)
    refine wp_region_quiet_below (by kernel_rfl) (by kernel_rfl) ?_
    repeat (go_big_quiet_step ((go_at_call 95; exact Calls.regrown_of (hhn _ (heR _ _)))))
    refine wpQuiet_nil ?_
    intro _ hw'
    obtain ⟨⟨dq, osq⟩, hw''⟩ := hw'
    subst hw''
    have hbq := below_regrown W1 dq osq
    have BX2 := block_kept BX hbq
    have hF2 := hF1.keep hbq
    have hB2 := hB1.trans (hbq.mono (show H ≤ W1.heap.size by omega))
    have he2 := he1.keep hbq
    clear heR hlR z0R z1R z2R z3R z4R z5R y0R hbq
    generalize grow (redrawn W1 dq) osq = W2 at *
    have BX3 := BX2
    have hF3 := hF2
    have hB3 := hB2
    clear z0 z1 z2 z3 z4 z5 y0 hf1 ho1 hs1 hn1 hF1 hF2 hB2 BX BX2 hhn he1 he2
    go_upto_region 4 with (fail)
    have hB4 := hB3.size
    have hin4 := hin.keep (Below.keptTo hB3 hnH) (fun x _ => XT.In.keep (Below.keptTo hB3 hnH) x)
    have x5 := (open6 BX3).2.2.2.2.2
    go_wp2
    go_loopw [38] (fun u wr => ∃ k : Nat, u = .int .i64 k ∧ k ≤ xl.length ∧ Finder wr base fb mb (freeL names (xl.take k)) ∧ Below H W wr) (fun u _ => xl.length - (intOf u).toNat)
    case atStart => exact ⟨0, rfl, Nat.zero_le _, hF3, hB3⟩
    case round =>
      obtain ⟨k, rfl, hk, hfk, hb0⟩ := hrel
      by_cases hlt : k < xl.length
      · have d1 : decide (k < xl.length) = true := by simpa using hlt
        have d2 : decide ((k : Int) < (xl.length : Int)) = true := by rw [decide_eq_true_eq]; omega
        have x1 : (k : Int) < (xl.length : Int) := by omega
        obtain ⟨b, o, rfl, hb, hr, hx⟩ := hin.kept (Below.keptTo hb0 hnH) hlt
        have HT := Lib.hid (freeL_take names xl k hlt)
        have hl1 := freeL_len (xl.take k) names
        have hl2 := szL_take_le xl (k + 1)
        have hl3 : XT.szL (xl.take (k + 1)) = XT.szL (xl.take k) + xl[k].sz := by rw [List.take_succ_eq_append_getElem hlt, XT.szL_app]; simp [XT.szL]
        have hcx := ih xl[k] (List.getElem_mem hlt) (by have := XT.bkL_mem (List.getElem_mem hlt); omega) (freeL names (xl.take k))
        have hxin := hx.keep (Below.keptTo hb0 hnH)
        have her := he.low hG hb0
        have zz := hb0.size
        obtain ⟨NK, hNK⟩ : ∃ NK, freeL names (xl.take k) = NK := ⟨_, rfl⟩
        rw [hNK] at hfk hcx HT hl1
        generalize hgx : xl[k] = x at *
        obtain ⟨op2, nm2, xn2, wd2, v2, xa2, xc2, xl2⟩ := x
        have r0 : wr.cell? ⟨b, o + k * 6, none⟩ = some (.int .i64 op2) := hr 0 _ rfl
        have r1 : wr.cell? ⟨b, o + k * 6 + 1, none⟩ = some (.string (bs nm2)) := hr 1 _ rfl
        have r2 : wr.cell? ⟨b, o + k * 6 + 2, none⟩ = some (.int .i64 xn2) := hr 2 _ rfl
        have r3 : wr.cell? ⟨b, o + k * 6 + 3, none⟩ = some (.int .i64 wd2) := hr 3 _ rfl
        have r4 : wr.cell? ⟨b, o + k * 6 + 4, none⟩ = some (.int .u64 (v2 : Int)) := hr 4 _ rfl
        have r5 : wr.cell? ⟨b, o + k * 6 + 5, none⟩ = some (.slice xa2 xl2.length xc2) := hr 5 _ rfl
        have c0 := fun (o' : Obj) => hcx (wr.alloc o') (her.alloc o') (by simp; omega) (hxin.keep (Below.keptTo ((Below.refl _ _).alloc (Nat.le_refl _) o') (by omega))) (hfk.keep ((Below.refl _ _).alloc (Nat.le_refl _) o')) (by omega)
        simp only [XT.val, XT.cells] at c0
        have HH := Lib.hid (And.intro hNK hgx)
        clear ih hin hcx hr hx hxin hgx hNK her he hfk hl1 hl2 hl3
        go_wp2_with fail
        refine (c0 _).mono ?_
        clear c0
        rintro e W9 ⟨⟨vv, rfl⟩, hf9, hb9⟩
        have hb8 := (hb0.alloc (show H ≤ wr.heap.size by omega) _).trans hb9
        go_wp2
        go_roundw
        case rel => exact ⟨k + 1, by simp; first | done | rfl | omega, by omega, by rw [HT.out]; exact hf9, hb8⟩
        case measure => simp [intOf]; omega
      · have d1 : decide (k < xl.length) = false := by simpa using hlt
        have d2 : decide ((k : Int) < (xl.length : Int)) = false := by rw [decide_eq_false_iff_not]; omega
        have hfe : Finder wr base fb mb (freeL names xl) := by rw [show k = xl.length by omega, List.take_length] at hfk; exact hfk
        clear hlt hfk
        go_wp2
        go_end0
        exact ⟨⟨_, rfl⟩, by rw [HE.out]; exact hfe, hb0⟩
  | true =>
    replace hhn := hhn true hb
    cases hc : names.contains nm with
    | true =>
      have HE : Hid (freeX names (.mk op nm xn wd v xa xc xl) = freeL names xl) := Lib.hid (by rw [HFX.out, hb, hc]; rfl)
      have hls := hs1.look nm (by omega)
      clear hb HFX
      have z0R := cell_regrown z0
      have z1R := cell_regrown z1
      have z2R := cell_regrown z2
      have z3R := cell_regrown z3
      have z4R := cell_regrown z4
      have z5R := cell_regrown z5
      have y0R := cell_regrown y0
      have heR := fun dq os => he1.keep (below_regrown W1 dq os)
      have hlR := fun dq os => (hs1.block ((below_regrown W1 dq os).block mb hs1.lt)).look nm (by omega)
      rw [hc] at hlR
      refine wp_region_quiet_below (by kernel_rfl) (by kernel_rfl) ?_
      repeat (go_big_quiet_step ((go_at_call 95; exact Calls.regrown_of (hhn _ (heR _ _)))))
      refine wpQuiet_nil ?_
      intro _ hw'
      obtain ⟨⟨dq, osq⟩, hw''⟩ := hw'
      subst hw''
      have hbq := below_regrown W1 dq osq
      have BX2 := block_kept BX hbq
      have hF2 := hF1.keep hbq
      have hB2 := hB1.trans (hbq.mono (show H ≤ W1.heap.size by omega))
      have he2 := he1.keep hbq
      clear heR hlR z0R z1R z2R z3R z4R z5R y0R hbq
      generalize grow (redrawn W1 dq) osq = W2 at *
      have BX3 := BX2
      have hF3 := hF2
      have hB3 := hB2
      clear z0 z1 z2 z3 z4 z5 y0 hf1 ho1 hs1 hn1 hF1 hF2 hB2 BX BX2 hhn he1 he2 hls hc
      go_upto_region 4 with (fail)
      have hB4 := hB3.size
      have hin4 := hin.keep (Below.keptTo hB3 hnH) (fun x _ => XT.In.keep (Below.keptTo hB3 hnH) x)
      have x5 := (open6 BX3).2.2.2.2.2
      go_wp2
      go_loopw [38] (fun u wr => ∃ k : Nat, u = .int .i64 k ∧ k ≤ xl.length ∧ Finder wr base fb mb (freeL names (xl.take k)) ∧ Below H W wr) (fun u _ => xl.length - (intOf u).toNat)
      case atStart => exact ⟨0, rfl, Nat.zero_le _, hF3, hB3⟩
      case round =>
        obtain ⟨k, rfl, hk, hfk, hb0⟩ := hrel
        by_cases hlt : k < xl.length
        · have d1 : decide (k < xl.length) = true := by simpa using hlt
          have d2 : decide ((k : Int) < (xl.length : Int)) = true := by rw [decide_eq_true_eq]; omega
          have x1 : (k : Int) < (xl.length : Int) := by omega
          obtain ⟨b, o, rfl, hb, hr, hx⟩ := hin.kept (Below.keptTo hb0 hnH) hlt
          have HT := Lib.hid (freeL_take names xl k hlt)
          have hl1 := freeL_len (xl.take k) names
          have hl2 := szL_take_le xl (k + 1)
          have hl3 : XT.szL (xl.take (k + 1)) = XT.szL (xl.take k) + xl[k].sz := by rw [List.take_succ_eq_append_getElem hlt, XT.szL_app]; simp [XT.szL]
          have hcx := ih xl[k] (List.getElem_mem hlt) (by have := XT.bkL_mem (List.getElem_mem hlt); omega) (freeL names (xl.take k))
          have hxin := hx.keep (Below.keptTo hb0 hnH)
          have her := he.low hG hb0
          have zz := hb0.size
          obtain ⟨NK, hNK⟩ : ∃ NK, freeL names (xl.take k) = NK := ⟨_, rfl⟩
          rw [hNK] at hfk hcx HT hl1
          generalize hgx : xl[k] = x at *
          obtain ⟨op2, nm2, xn2, wd2, v2, xa2, xc2, xl2⟩ := x
          have r0 : wr.cell? ⟨b, o + k * 6, none⟩ = some (.int .i64 op2) := hr 0 _ rfl
          have r1 : wr.cell? ⟨b, o + k * 6 + 1, none⟩ = some (.string (bs nm2)) := hr 1 _ rfl
          have r2 : wr.cell? ⟨b, o + k * 6 + 2, none⟩ = some (.int .i64 xn2) := hr 2 _ rfl
          have r3 : wr.cell? ⟨b, o + k * 6 + 3, none⟩ = some (.int .i64 wd2) := hr 3 _ rfl
          have r4 : wr.cell? ⟨b, o + k * 6 + 4, none⟩ = some (.int .u64 (v2 : Int)) := hr 4 _ rfl
          have r5 : wr.cell? ⟨b, o + k * 6 + 5, none⟩ = some (.slice xa2 xl2.length xc2) := hr 5 _ rfl
          have c0 := fun (o' : Obj) => hcx (wr.alloc o') (her.alloc o') (by simp; omega) (hxin.keep (Below.keptTo ((Below.refl _ _).alloc (Nat.le_refl _) o') (by omega))) (hfk.keep ((Below.refl _ _).alloc (Nat.le_refl _) o')) (by omega)
          simp only [XT.val, XT.cells] at c0
          have HH := Lib.hid (And.intro hNK hgx)
          clear ih hin hcx hr hx hxin hgx hNK her he hfk hl1 hl2 hl3
          go_wp2_with fail
          refine (c0 _).mono ?_
          clear c0
          rintro e W9 ⟨⟨vv, rfl⟩, hf9, hb9⟩
          have hb8 := (hb0.alloc (show H ≤ wr.heap.size by omega) _).trans hb9
          go_wp2
          go_roundw
          case rel => exact ⟨k + 1, by simp; first | done | rfl | omega, by omega, by rw [HT.out]; exact hf9, hb8⟩
          case measure => simp [intOf]; omega
        · have d1 : decide (k < xl.length) = false := by simpa using hlt
          have d2 : decide ((k : Int) < (xl.length : Int)) = false := by rw [decide_eq_false_iff_not]; omega
          have hfe : Finder wr base fb mb (freeL names xl) := by rw [show k = xl.length by omega, List.take_length] at hfk; exact hfk
          clear hlt hfk
          go_wp2
          go_end0
          exact ⟨⟨_, rfl⟩, by rw [HE.out]; exact hfe, hb0⟩
    | false =>
      have HE : Hid (freeX names (.mk op nm xn wd v xa xc xl) = freeL (names ++ [nm]) xl) := Lib.hid (by rw [HFX.out, hb, hc]; rfl)
      clear hb HFX
      have z0R := cell_regrown z0
      have z1R := cell_regrown z1
      have z2R := cell_regrown z2
      have z3R := cell_regrown z3
      have z4R := cell_regrown z4
      have z5R := cell_regrown z5
      have y0R := cell_regrown y0
      have heR := fun dq os => he1.keep (below_regrown W1 dq os)
      have hlR := fun dq os => (hs1.block ((below_regrown W1 dq os).block mb hs1.lt)).look nm (by omega)
      rw [hc] at hlR
      refine wp_region_quiet_below (by kernel_rfl) (by kernel_rfl) ?_
      repeat (go_big_quiet_step ((go_at_call 95; exact Calls.regrown_of (hhn _ (heR _ _)))))
      refine wpQuiet_nil ?_
      intro _ hw'
      obtain ⟨⟨dq, osq⟩, hw''⟩ := hw'
      subst hw''
      have hbq := below_regrown W1 dq osq
      have BX2 := block_kept BX hbq
      have hF2 := hF1.keep hbq
      have hB2 := hB1.trans (hbq.mono (show H ≤ W1.heap.size by omega))
      have he2 := he1.keep hbq
      clear heR hlR z0R z1R z2R z3R z4R z5R y0R hbq
      generalize grow (redrawn W1 dq) osq = W2 at *
      clear z0 z1 z2 z3 z4 z5 y0 hf1 ho1 hs1 hn1 hF1 BX hhn he1 hc hbz1
      obtain ⟨v2, hf2, ho2, hs2, hn2, hbz2⟩ := hF2
      obtain ⟨z0, z1, z2, z3, z4, z5⟩ := open6 BX2
      have y0 : W2.cell? ⟨fb, 0, none⟩ = some (.map (some mb)) := by simp [World.cell?, hf2]
      have y1 : W2.cell? ⟨fb, 1, none⟩ = some v2 := by simp [World.cell?, hf2]
      have w1 : W2.frozen? ⟨fb, 1, none⟩ = false := by simp [World.frozen?, hf2]
      have hs2d : SeenAt W2.drew mb names.length names := hs2
      obtain ⟨W3, hrun, hs3, hg3⟩ := hs2d.put (by omega) nm (by omega)
      go_wp2
      go_region
      have hf3 : W3.heap[fb]? = some (.cells #[.map (some mb), v2] 83 (0, 0)) := (hg3.block fb (Array.getElem?_eq_some_iff.1 hf2).1 (fun e => hfm (by cases e; rfl))).trans hf2
      have ho3 : W3.ownsRow base 9 1 v2 names.length (strs names) := World.ownsRow.kept (w := W2.drew) ho2 hg3 (by
        rcases ho2.2 with ⟨rfl, _⟩ | ⟨g, cap, cur, rfl, hg, _⟩
        · exact .inl rfl
        · exact .inr (by simp [Value.ownBlock]; omega))
      have hz3 : W2.heap.size ≤ W3.heap.size := hg3.size
      have BX3a : W3.heap[W.heap.size]? = some (.cells #[.int .i64 op, .string (bs nm), .int .i64 xn, .int .i64 wd, .int .u64 (v : Int), .slice xa xl.length xc] 25) := (hg3.block W.heap.size (Array.getElem?_eq_some_iff.1 BX2).1 (fun e => by cases e; omega)).trans BX2
      have hB3a : Below H W W3 := (Below.drew hB2).trans ((Below.refl H W2.drew).grown hg3 (by have := hB2.size; show H ≤ W2.heap.size; omega) (fun k e => by cases e; exact hmb))
      clear z0 z1 z2 z3 z4 z5 y0 y1 w1 hf2 ho2 hs2 hs2d hrun hg3 BX2 hB2 he2
      obtain ⟨z0, z1, z2, z3, z4, z5⟩ := open6 BX3a
      have y1 : W3.cell? ⟨fb, 1, none⟩ = some v2 := by simp [World.cell?, hf3]
      have w1 : W3.frozen? ⟨fb, 1, none⟩ = false := by simp [World.frozen?, hf3]
      obtain ⟨i0, hi0, hz0, hz1, hz2⟩ := info_parts info_str
      have ho3d : W3.drew.ownsRow base 9 1 v2 names.length (strs names) := ho3
      have hnb : ∀ k, v2.ownBlock = some k → base ≤ k := fun k hk => (ho3.lt k hk).1
      have y1A := fun O => alloc_cell y1 O
      have z1A := fun O => alloc_cell z1 O
      have hb3 : base ≤ W3.heap.size := by omega
      have hb3a : ∀ x, base ≤ (W3.drew.alloc x).heap.size := fun x => by rw [World.size_alloc]; show base ≤ W3.heap.size + 1; omega
      go_wp2
      go_region_law (refine step_append_own rfl (.tmp 28) (.tmp 31) 36 rfl base 9 i0 (.string ⟨#[]⟩) 1 16 Tryz.underlying36 hi0 hz0 hz1 hz2 rfl (by decide) v2 names.length (strs names) (by simp [Act.eval, Act.put]) (ho3d.alloc (.cells #[.string (bs nm)] 9)) ⟨W3.heap.size, 0, none⟩ 1 1 [.string (bs nm)] (by simp [Act.eval, Act.put]) rfl (news_one W3.drew (.string (bs nm)) 9) (ones_str nm) (by unfold maxLen; omega) (by omega) (hb3a _) ?_; intro v5 w5 own5 hg5 _; obtain ⟨g5, cap5, rfl⟩ := own_some own5 (by omega); have hf5 : w5.heap[fb]? = some (.cells #[.map (some mb), v2] 83 (0, 0)) := fb_kept hf3 hg5 (fun e => by have := hnb fb e.symm; omega); have y5 : w5.cell? ⟨fb, 1, none⟩ = some v2 := (by simp [World.cell?, hf5]); have w5f : w5.frozen? ⟨fb, 1, none⟩ = false := (by simp [World.frozen?, hf5]))
      all_goals
        have hg6 : (W3.alloc (.cells #[.string (bs nm)] 9)).grownBy w5 v2.ownBlock := ⟨hg5.os, hg5.tape, hg5.output, hg5.size, hg5.block⟩
        have hkx : ∀ x, Below H W (W3.alloc x) := fun x => hB3a.alloc (by have := hB3a.size; omega) _
        have hB5 : Below H W w5 := (hkx _).trans ((Below.refl H _).grown hg6 (by have := (hkx (.cells #[.string (bs nm)] 9)).size; omega) (fun k e => by have := hnb k e; omega))
        have hB3 : Below H W (w5.setCell ⟨fb, 1, none⟩ (.slice (some ⟨g5, 0, none⟩) (names.length + 1) cap5)) := hB5.setCell (p := ⟨fb, 1, none⟩) hfb _
        have hf6 : (w5.setCell ⟨fb, 1, none⟩ (.slice (some ⟨g5, 0, none⟩) (names.length + 1) cap5)).heap[fb]? = some (.cells #[.map (some mb), .slice (some ⟨g5, 0, none⟩) (names.length + 1) cap5] 83 (0, 0)) := by simp [World.setCell, Array.getElem?_modify, hf5]
        have ho6 : (w5.setCell ⟨fb, 1, none⟩ (.slice (some ⟨g5, 0, none⟩) (names.length + 1) cap5)).ownsRow base 9 1 (.slice (some ⟨g5, 0, none⟩) (names.length + 1) cap5) (names ++ [nm]).length (strs (names ++ [nm])) := by
          have := ownsRow_setCell_below own5 (a := ⟨fb, 1, none⟩) hfB (.slice (some ⟨g5, 0, none⟩) (names.length + 1) cap5)
          rw [show strs (names ++ [nm]) = strs names ++ [.string (bs nm)] by simp [strs], show (names ++ [nm]).length = names.length + 1 by simp]
          exact this
        have hs5 : SeenAt w5 mb (names.length + 1) (names ++ [nm]) := hs3.block (by
          rw [hg6.block mb (by rw [World.size_alloc]; have := hs3.lt; omega) (fun e => by have := hnb mb e.symm; omega)]
          exact Below.heap_alloc W3 _ mb hs3.lt)
        have hs6 : SeenAt (w5.setCell ⟨fb, 1, none⟩ (.slice (some ⟨g5, 0, none⟩) (names.length + 1) cap5)) mb (names ++ [nm]).length (names ++ [nm]) := by
          rw [show (names ++ [nm]).length = names.length + 1 by simp]
          exact hs5.block (Below.heap_setCell _ _ _ mb (fun e => hfm e.symm))
        have BX5 : w5.heap[W.heap.size]? = some (.cells #[.int .i64 op, .string (bs nm), .int .i64 xn, .int .i64 wd, .int .u64 (v : Int), .slice xa xl.length xc] 25) := row_kept (ho3.alloc (.cells #[.string (bs nm)] 9)) hg6 ((Below.heap_alloc W3 _ _ (Array.getElem?_eq_some_iff.1 BX3a).1).trans BX3a) (by decide)
        have BX3 : (w5.setCell ⟨fb, 1, none⟩ (.slice (some ⟨g5, 0, none⟩) (names.length + 1) cap5)).heap[W.heap.size]? = some (.cells #[.int .i64 op, .string (bs nm), .int .i64 xn, .int .i64 wd, .int .u64 (v : Int), .slice xa xl.length xc] 25) := (Below.heap_setCell _ _ _ W.heap.size (by show W.heap.size ≠ fb; omega)).trans BX5
        have hz5 : base ≤ (w5.setCell ⟨fb, 1, none⟩ (.slice (some ⟨g5, 0, none⟩) (names.length + 1) cap5)).heap.size := by have := hB3.size; omega
        have hF3 : Finder (w5.setCell ⟨fb, 1, none⟩ (.slice (some ⟨g5, 0, none⟩) (names.length + 1) cap5)) base fb mb (names ++ [nm]) := ⟨_, hf6, ho6, hs6, fun h => absurd h (by simp), hz5⟩
        clear z0 z1 z2 z3 z4 z5 y1 w1 z1A y1A hf3 ho3 ho3d hnb hb3 hb3a hz3 BX3a hB3a hf5 y5 w5f hkx hB5 hf6 ho6 hs5 hs6 BX5 hz5 own5 hg5 hg6 hs3 hz1
        generalize w5.setCell ⟨fb, 1, none⟩ (.slice (some ⟨g5, 0, none⟩) (names.length + 1) cap5) = W6 at *
        have hnl : (names ++ [nm]).length = names.length + 1 := by simp
        generalize names ++ [nm] = names5 at *
        go_upto_region 4 with (fail)
        have hB4 := hB3.size
        have hin4 := hin.keep (Below.keptTo hB3 hnH) (fun x _ => XT.In.keep (Below.keptTo hB3 hnH) x)
        have x5 := (open6 BX3).2.2.2.2.2
        go_wp2
        go_loopw [38] (fun u wr => ∃ k : Nat, u = .int .i64 k ∧ k ≤ xl.length ∧ Finder wr base fb mb (freeL names5 (xl.take k)) ∧ Below H W wr) (fun u _ => xl.length - (intOf u).toNat)
        case atStart => exact ⟨0, rfl, Nat.zero_le _, hF3, hB3⟩
        case round =>
          obtain ⟨k, rfl, hk, hfk, hb0⟩ := hrel
          by_cases hlt : k < xl.length
          · have d1 : decide (k < xl.length) = true := by simpa using hlt
            have d2 : decide ((k : Int) < (xl.length : Int)) = true := by rw [decide_eq_true_eq]; omega
            have x1 : (k : Int) < (xl.length : Int) := by omega
            obtain ⟨b, o, rfl, hb, hr, hx⟩ := hin.kept (Below.keptTo hb0 hnH) hlt
            have HT := Lib.hid (freeL_take names5 xl k hlt)
            have hl1 := freeL_len (xl.take k) names5
            have hl2 := szL_take_le xl (k + 1)
            have hl3 : XT.szL (xl.take (k + 1)) = XT.szL (xl.take k) + xl[k].sz := by rw [List.take_succ_eq_append_getElem hlt, XT.szL_app]; simp [XT.szL]
            have hcx := ih xl[k] (List.getElem_mem hlt) (by have := XT.bkL_mem (List.getElem_mem hlt); omega) (freeL names5 (xl.take k))
            have hxin := hx.keep (Below.keptTo hb0 hnH)
            have her := he.low hG hb0
            have zz := hb0.size
            obtain ⟨NK, hNK⟩ : ∃ NK, freeL names5 (xl.take k) = NK := ⟨_, rfl⟩
            rw [hNK] at hfk hcx HT hl1
            generalize hgx : xl[k] = x at *
            obtain ⟨op2, nm2, xn2, wd2, v2, xa2, xc2, xl2⟩ := x
            have r0 : wr.cell? ⟨b, o + k * 6, none⟩ = some (.int .i64 op2) := hr 0 _ rfl
            have r1 : wr.cell? ⟨b, o + k * 6 + 1, none⟩ = some (.string (bs nm2)) := hr 1 _ rfl
            have r2 : wr.cell? ⟨b, o + k * 6 + 2, none⟩ = some (.int .i64 xn2) := hr 2 _ rfl
            have r3 : wr.cell? ⟨b, o + k * 6 + 3, none⟩ = some (.int .i64 wd2) := hr 3 _ rfl
            have r4 : wr.cell? ⟨b, o + k * 6 + 4, none⟩ = some (.int .u64 (v2 : Int)) := hr 4 _ rfl
            have r5 : wr.cell? ⟨b, o + k * 6 + 5, none⟩ = some (.slice xa2 xl2.length xc2) := hr 5 _ rfl
            have c0 := fun (o' : Obj) => hcx (wr.alloc o') (her.alloc o') (by simp; omega) (hxin.keep (Below.keptTo ((Below.refl _ _).alloc (Nat.le_refl _) o') (by omega))) (hfk.keep ((Below.refl _ _).alloc (Nat.le_refl _) o')) (by omega)
            simp only [XT.val, XT.cells] at c0
            have HH := Lib.hid (And.intro hNK hgx)
            clear ih hin hcx hr hx hxin hgx hNK her he hfk hl1 hl2 hl3
            go_wp2_with fail
            refine (c0 _).mono ?_
            clear c0
            rintro e W9 ⟨⟨vv, rfl⟩, hf9, hb9⟩
            have hb8 := (hb0.alloc (show H ≤ wr.heap.size by omega) _).trans hb9
            go_wp2
            go_roundw
            case rel => exact ⟨k + 1, by simp; first | done | rfl | omega, by omega, by rw [HT.out]; exact hf9, hb8⟩
            case measure => simp [intOf]; omega
          · have d1 : decide (k < xl.length) = false := by simpa using hlt
            have d2 : decide ((k : Int) < (xl.length : Int)) = false := by rw [decide_eq_false_iff_not]; omega
            have hfe : Finder wr base fb mb (freeL names5 xl) := by rw [show k = xl.length by omega, List.take_length] at hfk; exact hfk
            clear hlt hfk
            go_wp2
            go_end0
            exact ⟨⟨_, rfl⟩, by rw [HE.out]; exact hfe, hb0⟩
end Go.Proofs.YtlbjmnakiflfpaaGreatDoor
