/-
  Lookup: the last constant of a name, by a range over slices.Backward.
-/
import Derived.Test.YtlbjmnakiflfpaaGreatDoorKpKsA
import Derived.Test.YtlbjmnakiflfpaaGreatDoorKpAsZ
import Derived.Test.YtlbjmnakiflfpaaGreatDoorKpAsG
import Derived.RangeFuncNested
import Derived.RangeFuncBox
namespace Go.Proofs.YtlbjmnakiflfpaaGreatDoor
open Go Go.RowKit Go.Shelf
set_option linter.unusedVariables false
set_option linter.unusedSimpArgs false
attribute [local go_sem] Oper.semAt_some

/-- What lay below n0, and block B, lie as they lay. -/
def Kq (n0 B : Nat) (W W' : World) : Prop := Below n0 W W' ∧ (B < W.heap.size → W'.heap[B]? = W.heap[B]?)
theorem Kq.refl (n0 B : Nat) (W : World) : Kq n0 B W W := ⟨Below.refl _ _, fun _ => rfl⟩
theorem Kq.trans {n0 B : Nat} {X Y Z : World} (h : Kq n0 B X Y) (k : Kq n0 B Y Z) : Kq n0 B X Z := ⟨h.1.trans k.1, fun hb => (k.2 (Nat.lt_of_lt_of_le hb h.1.size)).trans (h.2 hb)⟩
/-- None of these has the name. -/
def PNo (pre : List (Nat × NT)) (s : Bytes) : Prop := ∀ x ∈ pre, (x.2.nm == s) = false
theorem PNo.snoc {pre : List (Nat × NT)} {s : Bytes} (h : PNo pre s) {x : Nat × NT} (hx : (x.2.nm == s) = false) : PNo (pre ++ [x]) s := fun p hp => (List.mem_append.1 hp).elim (h p) (fun e => by rw [List.mem_singleton.1 e]; exact hx)
/-- The last of these has the name, none ahead of it. -/
def PHit (pre : List (Nat × NT)) (s : Bytes) (v : Int) : Prop := ∃ ini last, pre = ini ++ [last] ∧ PNo ini s ∧ (last.2.nm == s) = true ∧ v = last.2.v
theorem PNo.find {pre : List (Nat × NT)} {s : Bytes} (h : PNo pre s) {l : List NT} (he : pre.map Prod.snd = l.reverse) : findN l s = none := findN_none l s (fun c hc => by
  rw [← List.mem_reverse, ← he, List.mem_map] at hc
  obtain ⟨x, hx, rfl⟩ := hc
  exact h x hx)
theorem PHit.find {pre : List (Nat × NT)} {s : Bytes} {v : Int} (h : PHit pre s v) {l : List NT} (he : pre.map Prod.snd <+: l.reverse) : findN l s = some v := by
  obtain ⟨ini, last, rfl, h1, h2, rfl⟩ := h
  obtain ⟨r, hr⟩ := he
  refine findN_pre l s (ini.map Prod.snd) r last.2 (by rw [← hr]; simp) (fun d hd => ?_) h2
  obtain ⟨x, hx, rfl⟩ := List.mem_map.1 hd
  exact h1 x hx
def kI (k : Nat) : Int := (k : Int) - 1
theorem drop_rev {α : Type} (l : List α) (m : Nat) (h : m < l.length) : (l.drop m).reverse = (l.drop (m + 1)).reverse ++ [l[m]] := by
  rw [← List.getElem_cons_drop h, List.reverse_cons]
theorem drop_pre {α : Type} (l : List α) (m : Nat) : (l.drop m).reverse <+: l.reverse := ⟨(l.take m).reverse, by rw [← List.reverse_append, List.take_append_drop]⟩

theorem backward_in (F : Fence) (hW : ∀ g, F.fn g) (hro : F.round = none) (n : Nat) (a : Option Addr) (len cap : Nat) (w : World) :
    CallsIn F n Tryz.prog 109 #[.slice a len cap] w fun e w' => e = .returned (.func (.func 136) #[] #[.pointer (some ⟨w.heap.size, 0, none⟩)]) ∧ w' = w.alloc (.cells #[.slice a len cap] 47) := by
  refine callsIn_of_wp Tryz.func109 rfl (hW _) ?_ hro
  simp only [Tryz.ntmps109, List.size_toArray, List.length_cons, List.length_nil, Nat.reduceAdd, Nat.reduceSub, Array.replicate_succ, Array.replicate_zero, List.push_toArray, List.append_toArray, List.nil_append, List.cons_append]
  gi_wp2
  go_ret
  exact ⟨rfl, rfl⟩

set_option maxHeartbeats 4000000 in
set_option maxRecDepth 3000000 in
theorem backward1_in (F : Fence) (hW : ∀ g, F.fn g) (hro : F.round = none) (n : Nat) (hn : 1 ≤ n) (l0 Bs n0 : Nat) (l : List NT) (hll : l.length ≤ 4000000) (J Jx : List (Nat × NT) → World → Prop)
    (hY : ∀ pre x W, J pre W → pre.length < l.length → YieldAt F (n - 1) Tryz.prog l0 #[.int .i64 (x.1 : Int), .agg #[.string (bs x.2.nm), .int .i64 x.2.v]] W fun e W' =>
      (e = .returned (.bool true) ∧ J (pre ++ [x]) W' ∧ Kq n0 Bs W W') ∨ (e = .returned (.bool false) ∧ Jx (pre ++ [x]) W'))
    (a : Option Addr) (c : Nat) (W : World) (hBs : W.heap[Bs]? = some (.cells #[.slice a l.length c] 47 (0, 0))) (hin : NRow n0 W l a) (h0 : J [] W) :
    CallsIn F n Tryz.prog 136 #[.func (.yield l0) #[] #[], .pointer (some ⟨Bs, 0, none⟩)] W fun e W' => (∃ v, e = .returned v) ∧
      ((∃ ys, ys.map Prod.snd = l.reverse ∧ J ys W') ∨ (∃ pre, pre.map Prod.snd <+: l.reverse ∧ Jx pre W')) := by
  have hlt0 := (Array.getElem?_eq_some_iff.1 hBs).1
  have hb00 := (cell_of_box_1 hBs).1
  refine callsIn_of_wp Tryz.func136 rfl (hW _) ?_ hro
  simp only [Tryz.ntmps136, List.size_toArray, List.length_cons, List.length_nil, Nat.reduceAdd, Nat.reduceSub, Array.replicate_succ, Array.replicate_zero, List.push_toArray, List.append_toArray, List.nil_append, List.cons_append]
  gi_wp2
  gi_loopw [3] (fun i wr => ∃ k : Nat, k ≤ l.length ∧ i = .int .i64 (kI k) ∧ (∃ ys : List (Nat × NT), ys.map Prod.snd = (l.drop k).reverse ∧ J ys wr) ∧ Kq n0 Bs W wr) (fun i _ => (intOf i + 1).toNat)
  case atStart => exact ⟨l.length, Nat.le_refl _, rfl, ⟨[], by simp, h0⟩, Kq.refl _ _ _⟩
  case round =>
    obtain ⟨k, hk, rfl, ⟨ys, hys, hJ⟩, hq⟩ := hrel
    have HYS := Lib.hid hys
    have hyl : ys.length = l.length - k := by have := congrArg List.length hys; simpa using this
    have hb0 := (cell_of_box_1 ((hq.2 hlt0).trans hBs)).1
    clear hys hb00
    cases k with
    | zero =>
      rw [show kI 0 = -1 from rfl]
      gi_wp2
      go_end0
      exact ⟨⟨_, rfl⟩, .inl ⟨ys, by have := HYS.out; simpa using this, hJ⟩⟩
    | succ m =>
      rw [show kI (m + 1) = (m : Int) by simp [kI]]
      have hlt : m < l.length := by omega
      obtain ⟨b, o, rfl, hb, hr, hwf⟩ := hin.kept (Below.keptTo hq.1 (Nat.le_refl _)) hlt
      have HD := Lib.hid (drop_rev l m hlt)
      have HP := Lib.hid (drop_pre l m)
      have hy0 := hY ys (m, l[m]) wr hJ (by omega)
      have d1 : decide (m < l.length) = true := by simpa using hlt
      have d2 : decide ((m : Int) < (l.length : Int)) = true := by rw [decide_eq_true_eq]; omega
      have x1 : (m : Int) < (l.length : Int) := by omega
      have x2 : (m : Int) ≤ 4000000 := by omega
      generalize hgx : l[m] = x at *
      obtain ⟨nm, v⟩ := x
      have r0 : wr.cell? ⟨b, o + m * 2, none⟩ = some (.string (bs nm)) := hr 0 _ rfl
      have r1 : wr.cell? ⟨b, o + m * 2 + 1, none⟩ = some (.int .i64 v) := hr 1 _ rfl
      obtain ⟨fn, tmps, assign, body, hy, hR⟩ := hy0
      dsimp only at hy
      have HX := Lib.hid hgx
      clear hin hr hY hgx hBs
      gi_wp2
      refine hR.mono ?_
      rintro e W3 (⟨rfl, hJ3, hk3⟩ | ⟨rfl, hJx3⟩)
      · gi_wp2
        go_roundw
        case rel => exact ⟨m, by omega, rfl, ⟨_, by rw [List.map_append, HYS.out, HD.out]; (try rfl), hJ3⟩, hq.trans hk3⟩
        case measure => (try simp [intOf]); (try omega)
      · gi_wp2
        refine bodyPost_ret (results_none rfl _ _ _) rfl ?_
        exact ⟨⟨_, rfl⟩, .inr ⟨_, by rw [List.map_append, HYS.out]; have := HP.out; rw [HD.out] at this; exact this, hJx3⟩⟩

theorem backward_enters (args : Array Value) (w : World) : (callFunc 136 args).run Tryz.prog w = .ok (.enter 136 args) w := enters_of Tryz.func136 (by kernel_rfl) rfl args w
theorem backward_stops (F : Fence) (hW : ∀ g, F.fn g) (hro : F.round = none) (n : Nat) (hn : 1 ≤ n) (Bs n0 : Nat) (l : List NT) (hll : l.length ≤ 4000000) (a : Option Addr) (c : Nat) (w : World) (hBs : w.heap[Bs]? = some (.cells #[.slice a l.length c] 47 (0, 0))) (hn0 : n0 ≤ w.heap.size) (hin : NRow n0 w l a) :
    SeqStopsK F n Tryz.prog 136 #[.pointer (some ⟨Bs, 0, none⟩)] (fun x : Nat × NT => #[Value.int .i64 (x.1 : Int), .agg #[.string (bs x.2.nm), .int .i64 x.2.v]]) (Kq n0 Bs) (fun ys => ys.map Prod.snd = l.reverse) (fun pre => pre.map Prod.snd <+: l.reverse) l.length w := fun l0 J Jx W hW2 _ _ hY h0 =>
  backward1_in F hW hro n hn l0 Bs n0 l hll J Jx hY a c W (block_kept hBs hW2) (hin.keep (Below.keptTo hW2 hn0)) h0

set_option maxHeartbeats 4000000 in
set_option maxRecDepth 3000000 in
theorem lookup_in (F : Fence) (hW : ∀ g, F.fn g) (hro : F.round = none) (n : Nat) (hn : 6 ≤ n) (l : List NT) (hll : l.length ≤ 4000000) (s : Bytes) (a : Option Addr) (c n0 : Nat) (w : World) (hn0 : n0 ≤ w.heap.size) (hin : NRow n0 w l a) :
    CallsIn F n Tryz.prog 66 #[.slice a l.length c, .string (bs s)] w fun e w' => e = .returned (.tuple #[.int .i64 ((findN l s).getD 0), .bool (findN l s).isSome]) ∧ Below w.heap.size w w' := by
  have h1 : 1 ≤ n := by omega
  refine callsIn_of_wp_marks Tryz.func66 rfl (hW _) ?_ hro
  simp only [Tryz.ntmps66, List.size_toArray, List.length_cons, List.length_nil, Nat.reduceAdd, Nat.reduceSub, Array.replicate_succ, Array.replicate_zero, List.push_toArray, List.append_toArray, List.nil_append, List.cons_append]
  gi_wp2_with fail
  try refine ⟨fun _ => h1, ?_⟩
  refine (backward_in F hW hro (n - 1) _ _ _ _).mono ?_
  rintro e w' ⟨rfl, rfl⟩
  gi_wp2
  have hB4 : Below w.heap.size w ((((w.alloc (.cells #[.string (bs s)] 9)).alloc (.cells #[.int .i64 0] 3)).alloc (.cells #[.bool false] 4)).alloc (.cells #[.slice a l.length c] 47)) := ((((Below.refl _ w).alloc (Nat.le_refl _) _).alloc (by simp) _).alloc (by simp; omega) _).alloc (by simp; omega) _
  have b0 := ((((Boxed.new w 9 (.string (bs s))).alloc (.cells #[.int .i64 0] 3)).alloc (.cells #[.bool false] 4)).alloc (.cells #[.slice a l.length c] 47))
  have b1 := (((Boxed.new (w.alloc (.cells #[.string (bs s)] 9)) 3 (.int .i64 0)).alloc (.cells #[.bool false] 4)).alloc (.cells #[.slice a l.length c] 47))
  have b2 := ((Boxed.new ((w.alloc (.cells #[.string (bs s)] 9)).alloc (.cells #[.int .i64 0] 3)) 4 (.bool false)).alloc (.cells #[.slice a l.length c] 47))
  have b3 := World.alloc_heap_new (((w.alloc (.cells #[.string (bs s)] 9)).alloc (.cells #[.int .i64 0] 3)).alloc (.cells #[.bool false] 4)) (.cells #[.slice a l.length c] 47)
  have hz4 : ((((w.alloc (.cells #[.string (bs s)] 9)).alloc (.cells #[.int .i64 0] 3)).alloc (.cells #[.bool false] 4)).alloc (.cells #[.slice a l.length c] 47)).heap.size = w.heap.size + 4 := by simp
  simp only [World.size_alloc] at b1 b2 b3
  refine wpIn_rangeFunc_ownH hro h1 (gf := 136) (lb := #[.pointer (some ⟨w.heap.size + 1 + 1 + 1, 0, none⟩)]) rfl (hW _) backward_enters
    (backward_stops F hW hro (n - 1) (by omega) (w.heap.size + 1 + 1 + 1) n0 l hll a c _ b3 (by rw [hz4]; omega) (hin.keep (Below.keptTo hB4 hn0)))
    (fun h k => h.trans k) (fun W q o o' hq ho _ _ => ⟨belowK_b (w := w) hn0 W q o o' (by rw [hz4] at hq; omega) ho (by assumption) (by assumption), fun _ => World.putObj_heap_other (by rw [hz4] at hq; omega)⟩) (Below.refl _ _) (fun _ => rfl)
    (fun pre W => PNo pre s ∧ (Boxed W w.heap.size 9 (.string (bs s)) ∧ (Boxed W (w.heap.size + 1) 3 (.int .i64 0) ∧ (Boxed W (w.heap.size + 1 + 1) 4 (.bool false) ∧ (Boxed W (w.heap.size + 1 + 1 + 1) 47 (.slice a l.length c) ∧ Below w.heap.size w W)))))
    (fun c pre W => (c = .ret ∧ ∃ v, PHit pre s v ∧ Boxed W (w.heap.size + 1) 3 (.int .i64 v) ∧ Boxed W (w.heap.size + 1 + 1) 4 (.bool true)) ∧ Below w.heap.size w W)
    (OwnFrom.and (ownFrom_pure _ _) (OwnFrom.and ((boxed_own _ _ (fun _ => .string (bs s))).from _) (OwnFrom.and ((boxed_own _ _ (fun _ => .int .i64 0)).from _) (OwnFrom.and ((boxed_own _ _ (fun _ => .bool false)).from _) (OwnFrom.and ((boxed_own _ _ (fun _ => .slice a l.length c)).from _) (ownFrom_below (Nat.le_refl _) (by rw [hz4]; omega)))))))
    (fun c => OwnFrom.and (Own.from (fun X A B row hs hg hr => by
      obtain ⟨hc, v, e1, e4, e5⟩ := hs
      exact ⟨hc, v, e1, boxed_own _ _ (fun _ : Unit => .int .i64 v) () A B row e4 hg hr, boxed_own _ _ (fun _ : Unit => .bool true) () A B row e5 hg hr⟩) _) (ownFrom_below (Nat.le_refl _) (by rw [hz4]; omega)))
    ⟨(fun x hx => by cases hx), b0, b1, b2, b3, hB4⟩
    (fun x a' W => ∃ b, W.heap[b]? = some (.cells #[.string (bs x.2.nm), .int .i64 x.2.v] 96 (0, 0)) ∧ w.heap.size + 1 + 1 + 1 < b ∧ a' = { tmps := #[.slice a l.length c, .string (bs s), undef, .pointer (some ⟨w.heap.size, 0, none⟩), .pointer (some ⟨w.heap.size + 1, 0, none⟩), .pointer (some ⟨w.heap.size + 1 + 1, 0, none⟩), undef, .pointer (some ⟨b, 0, none⟩), .slice a l.length c, .func (.func 136) #[] #[.pointer (some ⟨w.heap.size + 1 + 1 + 1, 0, none⟩)], .int .i64 (x.1 : Int), .agg #[.string (bs x.2.nm), .int .i64 x.2.v], undef, undef, undef, undef, undef, undef], defers := [] })
    (fun x a' X A B row hs hg hr => by
      obtain ⟨b, h1, h2, h3⟩ := hs
      exact ⟨b, (hg.block b (Array.getElem?_eq_some_iff.1 h1).1 (fun e => by obtain ⟨_, o, ho, hc⟩ := hr b e.symm; rw [h1] at ho; cases ho; cases hc)).trans h1, h2, h3⟩)
    ?assign ?body ?done ?stop
  case assign =>
    rintro l0 pre x W K ⟨hP, q0, q1, q2, q3, hB⟩ hK
    have hzW : w.heap.size + 4 ≤ W.heap.size := by have := q3.lt; omega
    gi_wp2
    exact hK _ _ ((KeepsOthers.alloc W _).from _) ⟨(Below.refl _ _).alloc (by omega) _, fun h => Below.heap_alloc W _ _ h⟩ ⟨hP, q0.alloc _, q1.alloc _, q2.alloc _, q3.alloc _, hB.alloc (by omega) _⟩ ⟨W.heap.size, World.alloc_heap_new W _, by omega, rfl⟩
  case body =>
    rintro l0 pre x a' W _ _ ⟨hP, q0, q1, q2, q3, hB⟩ ⟨b, hb, hbn, rfl⟩ _
    obtain ⟨i, nm, v⟩ := x
    have y0 : W.cell? ⟨b, 0, none⟩ = some (.string (bs nm)) := by simp [World.cell?, hb]
    have y1 : W.cell? ⟨b, 1, none⟩ = some (.int .i64 v) := by simp [World.cell?, hb]
    have y2 := q0.cell
    have y3 := q1.cell
    have y4 := q2.cell
    have y5 := q1.frozen
    have y6 := q2.frozen
    cases hq : nm == s with
    | true =>
      have HP : Hid (PHit (pre ++ [(i, ⟨nm, v⟩)]) s v) := Lib.hid ⟨pre, _, rfl, hP, hq, rfl⟩
      gi_wp2
      exact ⟨(KeepsOthers.setCell _ _ _).from _ |>.trans ((KeepsOthers.setCell _ _ _).from _), ⟨rfl, v, HP.out, (q1.set _).other (by omega) _, (q2.other (by omega) _).set _⟩, (hB.setCell (p := ⟨w.heap.size + 1, 0, none⟩) (by show w.heap.size ≤ w.heap.size + 1; omega) _).setCell (p := ⟨w.heap.size + 1 + 1, 0, none⟩) (by show w.heap.size ≤ w.heap.size + 1 + 1; omega) _⟩
    | false =>
      have HP : Hid (PNo (pre ++ [(i, ⟨nm, v⟩)]) s) := Lib.hid (hP.snoc hq)
      gi_wp2
      exact ⟨KeepsFrom.refl _ _, Kq.refl _ _ _, HP.out, q0, q1, q2, q3, hB⟩
  case done =>
    rintro D ys W hD hS ⟨hP, q0, q1, q2, q3, hB⟩ hK
    have HF := Lib.hid (hP.find hS)
    have y3 := q1.cell
    have y4 := q2.cell
    have y5 := q1.frozen
    have y6 := q2.frozen
    gi_wp2
    have p1 : Boxed ((W.setCell ⟨w.heap.size + 1, 0, none⟩ (.int .i64 0)).setCell ⟨w.heap.size + 1 + 1, 0, none⟩ (.bool false)) (w.heap.size + 1) 3 (.int .i64 0) := (q1.set _).other (by omega) _
    have p2 : Boxed ((W.setCell ⟨w.heap.size + 1, 0, none⟩ (.int .i64 0)).setCell ⟨w.heap.size + 1 + 1, 0, none⟩ (.bool false)) (w.heap.size + 1 + 1) 4 (.bool false) := (q2.other (by omega) _).set _
    have hK' := ((KeepsOthers.setCell W ⟨w.heap.size + 1, 0, none⟩ (.int .i64 0)).trans (KeepsOthers.setCell _ ⟨w.heap.size + 1 + 1, 0, none⟩ (.bool false))).same D _ hK rfl
    have hB2 := (hB.setCell (p := ⟨w.heap.size + 1, 0, none⟩) (by show w.heap.size ≤ w.heap.size + 1; omega) (.int .i64 0)).setCell (p := ⟨w.heap.size + 1 + 1, 0, none⟩) (by show w.heap.size ≤ w.heap.size + 1 + 1; omega) (.bool false)
    refine ⟨by simp, .inl ⟨_, _, rfl, run_takeDeferred hK', ?_⟩⟩
    have hc5 := cell_kept p1.cell (grownBy_putObj' _ D (.deferred none)) (fun r e => by cases e; exact ⟨_, hK', rfl⟩)
    have hc6 := cell_kept p2.cell (grownBy_putObj' _ D (.deferred none)) (fun r e => by cases e; exact ⟨_, hK', rfl⟩)
    refine ⟨.tuple #[.int .i64 0, .bool false], ?_, by rw [HF.out]; rfl, hB2.trans (belowK_b (w := w) (Nat.le_refl _) _ D _ _ (by rw [hz4] at hD; omega) hK' rfl rfl)⟩
    simp [results, Tryz.results66, go_sem, hc5, hc6]
  case stop =>
    rintro D c pre W hD hS ⟨⟨rfl, v, hv, q1, q2⟩, hB⟩ hK
    have HF := Lib.hid (hv.find hS)
    gi_wp2
    refine ⟨by simp, .inl ⟨_, _, rfl, run_takeDeferred hK, ?_⟩⟩
    have hc5 := cell_kept q1.cell (grownBy_putObj' _ D (.deferred none)) (fun r e => by cases e; exact ⟨_, hK, rfl⟩)
    have hc6 := cell_kept q2.cell (grownBy_putObj' _ D (.deferred none)) (fun r e => by cases e; exact ⟨_, hK, rfl⟩)
    refine ⟨.tuple #[.int .i64 v, .bool true], ?_, by rw [HF.out]; rfl, hB.trans (belowK_b (w := w) (Nat.le_refl _) W D _ _ (by rw [hz4] at hD; omega) hK rfl rfl)⟩
    simp [results, Tryz.results66, go_sem, hc5, hc6]
theorem lookup_any (l : List NT) (hll : l.length ≤ 4000000) (s : Bytes) (a : Option Addr) (c n0 : Nat) (w : World) (hn0 : n0 ≤ w.heap.size) (hin : NRow n0 w l a) :
    Calls Tryz.prog 66 #[.slice a l.length c, .string (bs s)] w fun e w' => e = .returned (.tuple #[.int .i64 ((findN l s).getD 0), .bool (findN l s).isSome]) ∧ Below w.heap.size w w' :=
  (callsIn_wide (n := 6)).1 (lookup_in Fence.wide (fun _ => trivial) rfl 6 (by omega) l hll s a c n0 w hn0 hin)
end Go.Proofs.YtlbjmnakiflfpaaGreatDoor
