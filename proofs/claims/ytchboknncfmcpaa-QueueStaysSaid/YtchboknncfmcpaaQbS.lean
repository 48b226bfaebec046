/-
  QueueStays' walk.
-/
import Derived.Test.YtchboknncfmcpaaQaO
import Derived.Test.YtchboknncfmcpaaQaD
import Derived.Test.YtchboknncfmcpaaQbA
import Derived.Test.YtchboknncfmcpaaEzY
namespace Go.Proofs.Ytchboknncfmcpaa
open Go Go.RowKit
set_option linter.unusedVariables false
set_option linter.unusedSimpArgs false
open Go.Sort
/-- A row of events lies in no block of four cells. -/
theorem ev_set4 {n g : Nat} {u0 u1 u2 u3 v0 v1 v2 v3 : Value} {t : TypeId} {w : World} {l : List EV} {a : Option Addr} (hq : w.heap[g]? = some (.cells #[u0, u1, u2, u3] t (0, 0))) (h : EvIn n w l a) :
    EvIn n ((((w.setCell ⟨g, 0, none⟩ v0).setCell ⟨g, 1, none⟩ v1).setCell ⟨g, 2, none⟩ v2).setCell ⟨g, 3, none⟩ v3) l a := by
  cases l with
  | nil => exact trivial
  | cons x r =>
    refine h.set4 (fun p hp => ?_)
    subst hp
    obtain ⟨b, o, e⟩ := h.addr (by simp)
    injection e with e
    subst e
    intro hb
    have hb2 : b = g := hb
    subst hb2
    have h4 := (h.cells (i := 0) (by simp)).2.2.2.2
    simp only [World.cell?, hq] at h4
    rw [show (#[u0, u1, u2, u3] : Array Value)[o + 0 * 5 + 4]? = none by simp] at h4
    simp at h4
theorem pop_next {now dl nx : Int} {l : List EV} (h : popF now dl nx l = 0) : ckE (popS l now dl nx).2.1 (popS l now dl nx).2.2.1 (popS l now dl nx).2.2.2 (popS l now dl nx).1 = 0 ∧ (popS l now dl nx).1.length ≤ l.length := by
  obtain ⟨h1, h2, h3⟩ := popF_zero h
  unfold popS
  rw [if_pos h]
  cases l with
  | nil => exact absurd rfl h2
  | cons x r =>
    have hd := drop_ok (ckE_zero.1 h1).1 1 (by decide) (by simp)
    simp only [List.drop_one, List.tail_cons, Nat.sub_self, List.getElem_cons_zero] at hd
    exact ⟨ckE_zero.2 ⟨hd, by show r.length ≤ 65536; simp at h3; omega⟩, by simp⟩
theorem take_next {now dl nx : Int} {l : List EV} (h : popF now dl nx l = 0) : ckE (takeS l now dl nx).2.1 (takeS l now dl nx).2.2.1 (takeS l now dl nx).2.2.2 (takeS l now dl nx).1 = 0 ∧ (takeS l now dl nx).1.length ≤ l.length := by
  obtain ⟨h1, h2, h3⟩ := popF_zero h
  have hm : 0 < takeN l ∧ takeN l ≤ l.length := by
    cases l with
    | nil => exact absurd rfl h2
    | cons x r => exact ⟨lead_pos x r, lead_le _ _⟩
  unfold takeS
  rw [if_pos h]
  have e3 : (l[takeN l - 1]?).getD ⟨0, 0, 0, 0, 0⟩ = l[takeN l - 1]'(by omega) := by rw [List.getElem?_eq_getElem (by omega)]; rfl
  simp only [e3]
  have hd := drop_ok (ckE_zero.1 h1).1 (takeN l) hm.1 hm.2
  exact ⟨ckE_zero.2 ⟨hd, by rw [List.length_drop]; omega⟩, by rw [List.length_drop]; omega⟩
theorem push_next {now dl nx : Int} {l : List EV} {t d s v : Int} (h : pushF now dl nx l t d s = 0) (hl : l.length ≤ 400) : ckE (pushS l now dl nx t d s v).2.1 (pushS l now dl nx t d s v).2.2.1 (pushS l now dl nx t d s v).2.2.2 (pushS l now dl nx t d s v).1 = 0 ∧ (pushS l now dl nx t d s v).1.length = l.length + 1 := by
  unfold pushS
  rw [if_pos h]
  exact ⟨ck_next h hl, insE_len _ _⟩
/-- The box of a queue that may be. -/
def StQ (g m : Nat) (W : World) : Prop := ∃ (a : Option Addr) (c : Nat) (l : List EV) (now dl nx : Int), W.heap[g]? = some (.cells #[.slice a l.length c, .int .i64 now, .int .i64 dl, .int .i64 nx] 24 (0, 0)) ∧ EvIn W.heap.size W l a ∧ (a = none → c = 0) ∧ l.length ≤ c ∧ ckE now dl nx l = 0 ∧ l.length ≤ m
theorem StQ.le {g m m' : Nat} {W : World} (h : StQ g m W) (hm : m ≤ m') : StQ g m' W := by
  obtain ⟨a, c, l, now, dl, nx, h1, h2, h3, h4, h5, h6⟩ := h
  exact ⟨a, c, l, now, dl, nx, h1, h2, h3, h4, h5, Nat.le_trans h6 hm⟩
theorem StQ.kept {g m : Nat} {W W' : World} (h : StQ g m W) (hb : Below W.heap.size W W') : StQ g m W' := by
  obtain ⟨a, c, l, now, dl, nx, h1, h2, h3, h4, h5, h6⟩ := h
  exact ⟨a, c, l, now, dl, nx, block_kept h1 hb, InRow.less hb.size (fun _ _ h => h) (EvIn.keep h2 hb (Nat.le_refl _)), h3, h4, h5, h6⟩
theorem StQ.put {g m c : Nat} {W : World} {u0 u1 u2 u3 : Value} {a : Option Addr} {l : List EV} {now dl nx : Int} (hq : W.heap[g]? = some (.cells #[u0, u1, u2, u3] 24 (0, 0))) (hi : EvIn W.heap.size W l a) (h1 : a = none → c = 0) (h2 : l.length ≤ c) (h3 : ckE now dl nx l = 0) (h4 : l.length ≤ m) :
    StQ g m ((((W.setCell ⟨g, 0, none⟩ (.slice a l.length c)).setCell ⟨g, 1, none⟩ (.int .i64 now)).setCell ⟨g, 2, none⟩ (.int .i64 dl)).setCell ⟨g, 3, none⟩ (.int .i64 nx)) :=
  ⟨a, c, l, now, dl, nx, block_set4 hq, by simp only [World.size_setCell]; exact ev_set4 hq hi, h1, h2, h3, h4⟩
set_option maxHeartbeats 8000000 in
set_option maxRecDepth 100000 in
theorem stays_law (a : Option Addr) (c : Nat) (l : List EV) (hac : a = none → c = 0) (hlc : l.length ≤ c) (now dl nx : Int) (ra : Option Addr) (rc : Nat) (rl : List RV) (w : World) (hin : EvIn w.heap.size w l a) (hrn : RvIn w.heap.size w rl ra) : Calls Try.prog 6 #[.agg #[.slice a l.length c, .int .i64 now, .int .i64 dl, .int .i64 nx], .slice ra rl.length rc] w fun e w' => e = .returned (.bool true) ∧ Below w.heap.size w w' := by
  have HB := Lib.hid (Below.refl w.heap.size w)
  have HIl := Lib.hid hin
  clear hin
  have HCC := Lib.hid (And.intro hac hlc)
  clear hac hlc
  have HRV := Lib.hid hrn
  clear hrn
  go_enter Try.func6, Try.ntmps6
  obtain ⟨gq, hgq⟩ : ∃ g, w.heap.size = g := ⟨_, rfl⟩
  obtain ⟨V1_0, hV1_0⟩ : ∃ W, w.alloc (.cells #[.slice a l.length c, .int .i64 now, .int .i64 dl, .int .i64 nx] 24) = W := ⟨_, rfl⟩
  have hbV1_0 : Below w.heap.size w V1_0 := by rw [← hV1_0]; exact (Below.refl _ _).alloc (Nat.le_refl _) _
  have hzV1_0 : V1_0.heap.size = gq + 1 := by rw [← hV1_0, World.size_alloc, hgq]
  have BBq : V1_0.heap[gq]? = some (.cells #[.slice a l.length c, .int .i64 now, .int .i64 dl, .int .i64 nx] 24 (0, 0)) := by rw [← hV1_0, ← hgq]; exact World.alloc_heap_new w _
  have hbw := hbV1_0
  have hbx1 : Below w.heap.size w V1_0 := hbw
  replace HIl := Lib.hid (InRow.less hbx1.size (fun _ _ h => h) (EvIn.keep HIl.out hbx1 (Nat.le_refl _)))
  replace HB := Lib.hid (HB.out.trans (hbx1.mono HB.out.size))
  have Hq := Lib.hid BBq
  clear BBq hbw hbx1 hbV1_0
  have HV1_0 := Lib.hid hV1_0
  clear hV1_0
  have HGQ := Lib.hid hgq
  go_upto_region 1 with (fail)
  (try rw [hgq])
  (try rw [HV1_0.out])
  (try rw [hzV1_0])
  clear HV1_0 hzV1_0 hgq
  go_wp2_with fail
  refine (live_any _).mono ?_
  rintro e w2 ⟨rfl, hb⟩
  replace Hq := Lib.hid (block_kept Hq.out hb)
  replace HIl := Lib.hid (InRow.less hb.size (fun _ _ h => h) (EvIn.keep HIl.out hb (Nat.le_refl _)))
  replace HB := Lib.hid (HB.out.trans (hb.mono HB.out.size))
  clear hb
  obtain ⟨qc0, qc1, qc2, qc3⟩ := ope4 Hq.out
  obtain ⟨FB, hFB⟩ : ∃ FB, decide ((l.length : Int) ≤ 300) = FB := ⟨_, rfl⟩
  have cW := few_any a l.length c now dl nx w2
  rw [hFB] at cW
  have HFB := Lib.hid hFB
  clear hFB
  go_wp2_with fail
  refine (cW).mono ?_
  clear qc0 qc1 qc2 qc3
  rintro e w3 ⟨rfl, hb⟩
  replace Hq := Lib.hid (block_kept Hq.out hb)
  replace HIl := Lib.hid (InRow.less hb.size (fun _ _ h => h) (EvIn.keep HIl.out hb (Nat.le_refl _)))
  replace HB := Lib.hid (HB.out.trans (hb.mono HB.out.size))
  clear hb
  clear cW
  obtain ⟨qc0, qc1, qc2, qc3⟩ := ope4 Hq.out
  cases FB with
  | false =>
    go_wp2
    go_ret
    exact ⟨rfl, HB.out⟩
  | true =>
  have hlen : l.length ≤ 300 := by have := of_decide_eq_true HFB.out; omega
  have HLN := Lib.hid hlen
  clear hlen HFB
  by_cases h60 : rl.length > 60
  · have x1 : decide ((rl.length : Int) > 60) = true := by rw [decide_eq_true_eq]; omega
    have x2 : decide ((60 : Int) < (rl.length : Int)) = true := by rw [decide_eq_true_eq]; omega
    have x3 : decide (60 < rl.length) = true := by rw [decide_eq_true_eq]; omega
    clear h60
    go_wp2
    go_ret
    exact ⟨rfl, HB.out⟩
  have HRL : Hid (rl.length ≤ 60) := Lib.hid (by omega)
  have x1 : decide ((rl.length : Int) > 60) = false := by rw [decide_eq_false_iff_not]; omega
  have x2 : decide ((60 : Int) < (rl.length : Int)) = false := by rw [decide_eq_false_iff_not]; omega
  have x3 : decide (60 < rl.length) = false := by rw [decide_eq_false_iff_not]; omega
  clear h60
  obtain ⟨K, hK⟩ : ∃ K, ckE now dl nx l = K := ⟨_, rfl⟩
  have cK := check_any a c l (by have := HLN.out; omega) now dl nx w3.heap.size w3 (Nat.le_refl _) HIl.out
  rw [hK] at cK
  have HK := Lib.hid hK
  clear hK
  go_wp2_with fail
  refine (cK).mono ?_
  clear qc0 qc1 qc2 qc3
  rintro e w4 ⟨rfl, hb⟩
  replace Hq := Lib.hid (block_kept Hq.out hb)
  replace HIl := Lib.hid (InRow.less hb.size (fun _ _ h => h) (EvIn.keep HIl.out hb (Nat.le_refl _)))
  replace HB := Lib.hid (HB.out.trans (hb.mono HB.out.size))
  clear hb
  clear cK x1 x2 x3
  obtain ⟨qc0, qc1, qc2, qc3⟩ := ope4 Hq.out
  by_cases hK0 : K = 0
  case neg =>
    have kk : (K != 0) = true := by simpa using hK0
    clear hK0
    go_wp2
    go_ret
    exact ⟨rfl, HB.out⟩
  subst hK0
  have kk : ((0 : Int) != 0) = false := rfl
  clear qc0 qc1 qc2 qc3
  go_wp2_with fail
  clear kk
  go_loopg [6] rl.length (fun gh p wr => ∃ k : Nat, p = .int .i64 (k : Int) ∧ k + gh = rl.length ∧ Below w.heap.size w wr ∧ StQ gq (300 + k) wr)
  case atStart => exact ⟨0, rfl, by omega, HB.out, a, c, l, now, dl, nx, Hq.out, HIl.out, HCC.out.1, HCC.out.2, HK.out, HLN.out⟩
  case round =>
    obtain ⟨k, rfl, hk, hb0, hst⟩ := hrel
    have HB1 := Lib.hid hb0
    clear hb0 HB Hq HIl HCC HK HLN
    have HKK := Lib.hid hk
    clear hk
    obtain ⟨a1, c1, l1, now1, dl1, nx1, hq, hi, hac, hlc, hck, hlen⟩ := hst
    have HQ1 := Lib.hid hq
    have HI1 := Lib.hid hi
    have HCC1 := Lib.hid (And.intro hac hlc)
    have HCK1 := Lib.hid hck
    have HLN1 := Lib.hid hlen
    clear hq hi hac hlc hck hlen
    revert u4 u7 u8 u9 u10 u11 u12 u13 u14 u30 u31 u32 u33 u34 u35 u36 u37 u38 u39 u40 u41 u42 u43 u44 u45 u46 u47 u48 u49 u50 u51 u52 u53 u54 u55 u56 u57 u58 u59 u60 u61 u62 u63 u64 u65 u66 u67 u68 u69 u70 u71 u72 u73 u74 u75 u76 u77 u78 u79 u80 u81 u82 u83 u84 u85 u86 u87 u88 u89 u90 u91 u92 u93 u94 u95 u96 u97 u98 u99 u100 u101 u102 u103 u104 u105 u106 u107 u108 u109 u110 u111 u112 u113 u114
    intro x4 x7 x8 x9 x10 x11 x12 x13 x14 x30 x31 x32 x33 x34 x35 x36 x37 x38 x39 x40 x41 x42 x43 x44 x45 x46 x47 x48 x49 x50 x51 x52 x53 x54 x55 x56 x57 x58 x59 x60 x61 x62 x63 x64 x65 x66 x67 x68 x69 x70 x71 x72 x73 x74 x75 x76 x77 x78 x79 x80 x81 x82 x83 x84 x85 x86 x87 x88 x89 x90 x91 x92 x93 x94 x95 x96 x97 x98 x99 x100 x101 x102 x103 x104 x105 x106 x107 x108 x109 x110 x111 x112 x113 x114
    by_cases hlt : k < rl.length
    case neg =>
      have d1 : decide (k < rl.length) = false := by simpa using hlt
      have d2 : decide ((k : Int) < (rl.length : Int)) = false := by rw [decide_eq_false_iff_not]; omega
      go_wp2
      go_ret
      exact ⟨rfl, HB1.out⟩
    have d1 : decide (k < rl.length) = true := by simpa using hlt
    have d2 : decide ((k : Int) < (rl.length : Int)) = true := by rw [decide_eq_true_eq]; omega
    have HX1 : Hid ((k : Int) < (rl.length : Int)) := Lib.hid (by omega)
    obtain ⟨rb, ro, rfl, r0, r1, r2, r3⟩ := RvIn.cells HRV.out hlt
    have hrv : RV.Wf rl[k] := InRow.all HRV.out _ (List.getElem_mem hlt)
    generalize rl[k] = z at *
    obtain ⟨rt, rd, rg, rv⟩ := z
    simp only at r0 r1 r2 r3
    have HRV0 : Hid (0 ≤ rv ∧ rv < 18446744073709551616) := Lib.hid hrv
    have HRW := Lib.hid (And.intro r0 (And.intro r1 (And.intro r2 r3)))
    clear hrv r0 r1 r2 r3 HRV hlt
    have HRC : Hid (∀ W, Below wr.heap.size wr W → W.cell? ⟨rb, ro + k * 4, none⟩ = some (.int .i64 rt) ∧ W.cell? ⟨rb, ro + k * 4 + 1, none⟩ = some (.int .i64 rd) ∧ W.cell? ⟨rb, ro + k * 4 + 2, none⟩ = some (.int .i64 rg) ∧ W.cell? ⟨rb, ro + k * 4 + 3, none⟩ = some (.int .u64 rv)) := Lib.hid (fun W hW => by
      have hx := HB1.out.trans (hW.mono HB1.out.size)
      exact ⟨keepc hx HRW.out.1, keepc hx HRW.out.2.1, keepc hx HRW.out.2.2.1, keepc hx HRW.out.2.2.2⟩)
    obtain ⟨S, hS⟩ : ∃ S, pushS l1 now1 dl1 nx1 rt rd rg rv = S := ⟨_, rfl⟩
    obtain ⟨er, hE⟩ : ∃ E, pushF now1 dl1 nx1 l1 rt rd rg = E := ⟨_, rfl⟩
    have HOK : Hid (er = 0 → ckE S.2.1 S.2.2.1 S.2.2.2 S.1 = 0 ∧ S.1.length = l1.length + 1) := Lib.hid (fun h => by rw [← hS]; exact push_next (hE.trans h) (by have := HLN1.out; have := HRL.out; have := HX1.out; omega))
    have HCP : Hid (∀ W, Below wr.heap.size wr W → Calls Try.prog 11 #[.agg #[.slice a1 l1.length c1, .int .i64 now1, .int .i64 dl1, .int .i64 nx1], .int .i64 rt, .int .i64 rd, .int .i64 rg, .int .u64 rv] W (QRes S er W)) := Lib.hid (fun W hW => by
      have h := push_res (push_any a1 c1 l1 (by have := HLN1.out; have := HRL.out; have := HX1.out; omega) HCC1.out.1 HCC1.out.2 now1 dl1 nx1 rt rd rg rv HRV0.out W.heap.size W (Nat.le_refl _) (InRow.less hW.size (fun _ _ h => h) (EvIn.keep HI1.out hW (Nat.le_refl _))))
      rw [hS, hE] at h
      exact h)
    clear hS hE
    obtain ⟨sl, s1, s2, s3⟩ := S
    go_upto_region 7 with (fail)
    clear d1 d2
    rename_i Zk3 Za4 Zj Zk2 Za3 Za2 Zk1 Za1 Zk0 Za0
    go_cut [7, 8] from 36 to 60 (fun p7 p8 wx => ∃ (g : Nat) (a : Option Addr) (c : Nat), p7 = .pointer (some ⟨g, 0, none⟩) ∧ p8 = .int .i64 er ∧ wx.heap[g]? = some (.cells #[.slice a sl.length c, .int .i64 s1, .int .i64 s2, .int .i64 s3] 24 (0, 0)) ∧ EvIn wx.heap.size wx sl a ∧ (a = none → c = 0) ∧ sl.length ≤ c ∧ Below wr.heap.size wr wx)
    case first =>
      clear Za4 Za3 Za2 Za1 Za0
      refine wp_region_inv (fun (b : Nat → Bool) (ac : Act) (W9 : World) => ∀ (Cc : Prop), (∀ (u0 u1 u2 u3 u4 u5 u6 u7 u8 u9 u10 u11 u12 u13 u14 u15 u16 u17 u18 u19 u20 u21 u22 u23 u24 u25 u26 u27 : Value) (z5 g9 : Nat) (a5 : Option Addr) (c5 : Nat), ac = { tmps := List.toArray (.agg #[.slice a l.length c, .int .i64 now, .int .i64 dl, .int .i64 nx] :: .slice (some ⟨rb, ro, none⟩) rl.length rc :: .pointer (some ⟨gq, 0, none⟩) :: undef :: x4 :: .bool true :: .int .i64 (k : Int) :: u25 :: u27 :: x9 :: x10 :: x11 :: x12 :: x13 :: x14 :: .bool true :: .agg #[.slice a l.length c, .int .i64 now, .int .i64 dl, .int .i64 nx] :: .bool true :: .bool false :: .bool false :: .slice (some ⟨rb, ro, none⟩) rl.length rc :: .int .i64 (rl.length : Int) :: .bool false :: .bool false :: .bool false :: .agg #[.slice a l.length c, .int .i64 now, .int .i64 dl, .int .i64 nx] :: .int .i64 0 :: .bool false :: .bool false :: undef :: .int .i64 (k : Int) :: .slice (some ⟨rb, ro, none⟩) rl.length rc :: .int .i64 (rl.length : Int) :: .bool true :: x34 :: x35 :: u22 :: u0 :: u1 :: u2 :: u3 :: u4 :: u5 :: u6 :: u7 :: u8 :: u9 :: u10 :: u11 :: u12 :: u13 :: u14 :: u15 :: u16 :: u17 :: u18 :: u19 :: u20 :: u21 :: u23 :: u24 :: x61 :: x62 :: x63 :: x64 :: x65 :: x66 :: x67 :: x68 :: x69 :: x70 :: x71 :: x72 :: x73 :: x74 :: x75 :: x76 :: x77 :: x78 :: x79 :: x80 :: x81 :: x82 :: x83 :: x84 :: x85 :: x86 :: x87 :: x88 :: x89 :: x90 :: x91 :: x92 :: x93 :: x94 :: x95 :: x96 :: x97 :: x98 :: x99 :: x100 :: x101 :: x102 :: x103 :: x104 :: x105 :: x106 :: x107 :: x108 :: x109 :: x110 :: x111 :: x112 :: x113 :: x114 :: undef :: []), defers := [] } → (Below wr.heap.size wr W9) → (b 0 = true → u0 = .agg #[.slice a1 l1.length c1, .int .i64 now1, .int .i64 dl1, .int .i64 nx1]) → (b 1 = true → u1 = .slice (some ⟨rb, ro, none⟩) rl.length rc) → (b 2 = true → u2 = .int .i64 (k : Int)) → (b 3 = true → u3 = .pointer (some ⟨rb, ro + k * 4, none⟩)) → (b 4 = true → u4 = .pointer (some ⟨rb, ro + k * 4, none⟩)) → (b 5 = true → u5 = .int .i64 rt) → (b 6 = true → u6 = .slice (some ⟨rb, ro, none⟩) rl.length rc) → (b 7 = true → u7 = .int .i64 (k : Int)) → (b 8 = true → u8 = .pointer (some ⟨rb, ro + k * 4, none⟩)) → (b 9 = true → u9 = .pointer (some ⟨rb, ro + k * 4 + 1, none⟩)) → (b 10 = true → u10 = .int .i64 rd) → (b 11 = true → u11 = .slice (some ⟨rb, ro, none⟩) rl.length rc) → (b 12 = true → u12 = .int .i64 (k : Int)) → (b 13 = true → u13 = .pointer (some ⟨rb, ro + k * 4, none⟩)) → (b 14 = true → u14 = .pointer (some ⟨rb, ro + k * 4 + 2, none⟩)) → (b 15 = true → u15 = .int .i64 rg) → (b 16 = true → u16 = .slice (some ⟨rb, ro, none⟩) rl.length rc) → (b 17 = true → u17 = .int .i64 (k : Int)) → (b 18 = true → u18 = .pointer (some ⟨rb, ro + k * 4, none⟩)) → (b 19 = true → u19 = .pointer (some ⟨rb, ro + k * 4 + 3, none⟩)) → (b 20 = true → u20 = .int .u64 rv) → (b 21 = true → u21 = .tuple #[.agg #[.slice a5 sl.length c5, .int .i64 s1, .int .i64 s2, .int .i64 s3], .int .i64 er] ∧ EvIn z5 W9 sl a5 ∧ z5 ≤ W9.heap.size ∧ (a5 = none → c5 = 0) ∧ sl.length ≤ c5) → (b 22 = true → u22 = .tuple #[.agg #[.slice a5 sl.length c5, .int .i64 s1, .int .i64 s2, .int .i64 s3], .int .i64 er]) → (b 23 = true → u23 = .agg #[.slice a5 sl.length c5, .int .i64 s1, .int .i64 s2, .int .i64 s3]) → (b 24 = true → u24 = .int .i64 er) → (b 25 = true → u25 = .pointer (some ⟨g9, 0, none⟩) ∧ wr.heap.size ≤ g9 ∧ (b 26 = false → W9.heap[g9]? = some (.cells #[.slice none 0 0, .int .i64 0, .int .i64 0, .int .i64 0] 24 (0, 0)))) → (b 26 = true → W9.heap[g9]? = some (.cells #[.slice a5 sl.length c5, .int .i64 s1, .int .i64 s2, .int .i64 s3] 24 (0, 0))) → (b 27 = true → u27 = .int .i64 er) → Cc) → Cc) (by kernel_rfl) (by kernel_rfl) ?_ ?_ ?_
      · exact fun _ hh => hh (x37) (x38) (x39) (x40) (x41) (x42) (x43) (x44) (x45) (x46) (x47) (x48) (x49) (x50) (x51) (x52) (x53) (x54) (x55) (x56) (x57) (x58) (x36) (x59) (x60) (x7) (undef) (x8) 0 0 none 0 rfl ((Below.refl _ _).drew) (fun h => (by cases h)) (fun h => (by cases h)) (fun h => (by cases h)) (fun h => (by cases h)) (fun h => (by cases h)) (fun h => (by cases h)) (fun h => (by cases h)) (fun h => (by cases h)) (fun h => (by cases h)) (fun h => (by cases h)) (fun h => (by cases h)) (fun h => (by cases h)) (fun h => (by cases h)) (fun h => (by cases h)) (fun h => (by cases h)) (fun h => (by cases h)) (fun h => (by cases h)) (fun h => (by cases h)) (fun h => (by cases h)) (fun h => (by cases h)) (fun h => (by cases h)) (fun h => (by cases h)) (fun h => (by cases h)) (fun h => (by cases h)) (fun h => (by cases h)) (fun h => (by cases h)) (fun h => (by cases h)) (fun h => (by cases h))
      · refine ⟨⟨rfl, ?_⟩, ⟨⟨rfl, ?_⟩, ⟨⟨rfl, ?_⟩, ⟨⟨rfl, ?_⟩, ⟨⟨rfl, ?_⟩, ⟨⟨rfl, ?_⟩, ⟨⟨rfl, ?_⟩, ⟨⟨rfl, ?_⟩, ⟨⟨rfl, ?_⟩, ⟨⟨rfl, ?_⟩, ⟨⟨rfl, ?_⟩, ⟨⟨rfl, ?_⟩, ⟨⟨rfl, ?_⟩, ⟨⟨rfl, ?_⟩, ⟨⟨rfl, ?_⟩, ⟨⟨rfl, ?_⟩, ⟨⟨rfl, ?_⟩, ⟨⟨rfl, ?_⟩, ⟨⟨rfl, ?_⟩, ⟨⟨rfl, ?_⟩, ⟨⟨rfl, ?_⟩, ⟨⟨rfl, ?_⟩, ⟨⟨rfl, ?_⟩, ⟨⟨rfl, ?_⟩, ⟨⟨rfl, ?_⟩, ⟨⟨rfl, ?_⟩, ⟨⟨rfl, ?_⟩, ⟨⟨rfl, ?_⟩, trivial⟩⟩⟩⟩⟩⟩⟩⟩⟩⟩⟩⟩⟩⟩⟩⟩⟩⟩⟩⟩⟩⟩⟩⟩⟩⟩⟩⟩
        · intro b ac W9 hbk hd hcl hJ K hK
          refine hJ _ ?_
          clear hJ
          intro u0 u1 u2 u3 u4 u5 u6 u7 u8 u9 u10 u11 u12 u13 u14 u15 u16 u17 u18 u19 u20 u21 u22 u23 u24 u25 u26 u27 z5 g9 a5 c5 hac hC f0 f1 f2 f3 f4 f5 f6 f7 f8 f9 f10 f11 f12 f13 f14 f15 f16 f17 f18 f19 f20 f21 f22 f23 f24 f25 f26 f27
          subst hac
          obtain ⟨z0, z1, z2, z3⟩ := ope4 (block_kept HQ1.out hC)
          go_simp
          exact hK _ _ (fun _ hh => hh (_) (_) (_) (_) (_) (_) (_) (_) (_) (_) (_) (_) (_) (_) (_) (_) (_) (_) (_) (_) (_) (_) (_) (_) (_) (_) (undef) (_) (z5) (g9) (a5) (c5) rfl (hC) (fun _ => rfl) (f1) (f2) (f3) (f4) (f5) (f6) (f7) (f8) (f9) (f10) (f11) (f12) (f13) (f14) (f15) (f16) (f17) (f18) (f19) (f20) (f21) (f22) (f23) (f24) (f25) (f26) (f27))
        · intro b ac W9 hbk hd hcl hJ K hK
          refine hJ _ ?_
          clear hJ
          intro u0 u1 u2 u3 u4 u5 u6 u7 u8 u9 u10 u11 u12 u13 u14 u15 u16 u17 u18 u19 u20 u21 u22 u23 u24 u25 u26 u27 z5 g9 a5 c5 hac hC f0 f1 f2 f3 f4 f5 f6 f7 f8 f9 f10 f11 f12 f13 f14 f15 f16 f17 f18 f19 f20 f21 f22 f23 f24 f25 f26 f27
          subst hac
          go_simp
          exact hK _ _ (fun _ hh => hh (_) (_) (_) (_) (_) (_) (_) (_) (_) (_) (_) (_) (_) (_) (_) (_) (_) (_) (_) (_) (_) (_) (_) (_) (_) (_) (undef) (_) (z5) (g9) (a5) (c5) rfl (hC) (f0) (fun _ => rfl) (f2) (f3) (f4) (f5) (f6) (f7) (f8) (f9) (f10) (f11) (f12) (f13) (f14) (f15) (f16) (f17) (f18) (f19) (f20) (f21) (f22) (f23) (f24) (f25) (f26) (f27))
        · intro b ac W9 hbk hd hcl hJ K hK
          refine hJ _ ?_
          clear hJ
          intro u0 u1 u2 u3 u4 u5 u6 u7 u8 u9 u10 u11 u12 u13 u14 u15 u16 u17 u18 u19 u20 u21 u22 u23 u24 u25 u26 u27 z5 g9 a5 c5 hac hC f0 f1 f2 f3 f4 f5 f6 f7 f8 f9 f10 f11 f12 f13 f14 f15 f16 f17 f18 f19 f20 f21 f22 f23 f24 f25 f26 f27
          subst hac
          go_simp
          exact hK _ _ (fun _ hh => hh (_) (_) (_) (_) (_) (_) (_) (_) (_) (_) (_) (_) (_) (_) (_) (_) (_) (_) (_) (_) (_) (_) (_) (_) (_) (_) (undef) (_) (z5) (g9) (a5) (c5) rfl (hC) (f0) (f1) (fun _ => rfl) (f3) (f4) (f5) (f6) (f7) (f8) (f9) (f10) (f11) (f12) (f13) (f14) (f15) (f16) (f17) (f18) (f19) (f20) (f21) (f22) (f23) (f24) (f25) (f26) (f27))
        · intro b ac W9 hbk hd hcl hJ K hK
          refine hJ _ ?_
          clear hJ
          intro u0 u1 u2 u3 u4 u5 u6 u7 u8 u9 u10 u11 u12 u13 u14 u15 u16 u17 u18 u19 u20 u21 u22 u23 u24 u25 u26 u27 z5 g9 a5 c5 hac hC f0 f1 f2 f3 f4 f5 f6 f7 f8 f9 f10 f11 f12 f13 f14 f15 f16 f17 f18 f19 f20 f21 f22 f23 f24 f25 f26 f27
          subst hac
          have d1 := f1 (hd ⟨1, .data⟩ (by simp) rfl)
          have d2 := f2 (hd ⟨2, .data⟩ (by simp) rfl)
          subst d1
          subst d2
          have x1 := HX1.out
          go_simp
          exact hK _ _ (fun _ hh => hh (_) (_) (_) (_) (_) (_) (_) (_) (_) (_) (_) (_) (_) (_) (_) (_) (_) (_) (_) (_) (_) (_) (_) (_) (_) (_) (undef) (_) (z5) (g9) (a5) (c5) rfl (hC) (f0) (f1) (f2) (fun _ => rfl) (f4) (f5) (f6) (f7) (f8) (f9) (f10) (f11) (f12) (f13) (f14) (f15) (f16) (f17) (f18) (f19) (f20) (f21) (f22) (f23) (f24) (f25) (f26) (f27))
        · intro b ac W9 hbk hd hcl hJ K hK
          refine hJ _ ?_
          clear hJ
          intro u0 u1 u2 u3 u4 u5 u6 u7 u8 u9 u10 u11 u12 u13 u14 u15 u16 u17 u18 u19 u20 u21 u22 u23 u24 u25 u26 u27 z5 g9 a5 c5 hac hC f0 f1 f2 f3 f4 f5 f6 f7 f8 f9 f10 f11 f12 f13 f14 f15 f16 f17 f18 f19 f20 f21 f22 f23 f24 f25 f26 f27
          subst hac
          have d3 := f3 (hd ⟨3, .data⟩ (by simp) rfl)
          subst d3
          go_simp
          exact hK _ _ (fun _ hh => hh (_) (_) (_) (_) (_) (_) (_) (_) (_) (_) (_) (_) (_) (_) (_) (_) (_) (_) (_) (_) (_) (_) (_) (_) (_) (_) (undef) (_) (z5) (g9) (a5) (c5) rfl (hC) (f0) (f1) (f2) (f3) (fun _ => rfl) (f5) (f6) (f7) (f8) (f9) (f10) (f11) (f12) (f13) (f14) (f15) (f16) (f17) (f18) (f19) (f20) (f21) (f22) (f23) (f24) (f25) (f26) (f27))
        · intro b ac W9 hbk hd hcl hJ K hK
          refine hJ _ ?_
          clear hJ
          intro u0 u1 u2 u3 u4 u5 u6 u7 u8 u9 u10 u11 u12 u13 u14 u15 u16 u17 u18 u19 u20 u21 u22 u23 u24 u25 u26 u27 z5 g9 a5 c5 hac hC f0 f1 f2 f3 f4 f5 f6 f7 f8 f9 f10 f11 f12 f13 f14 f15 f16 f17 f18 f19 f20 f21 f22 f23 f24 f25 f26 f27
          subst hac
          have d4 := f4 (hd ⟨4, .data⟩ (by simp) rfl)
          subst d4
          obtain ⟨y0, y1, y2, y3⟩ := HRC.out W9 hC
          go_simp
          exact hK _ _ (fun _ hh => hh (_) (_) (_) (_) (_) (_) (_) (_) (_) (_) (_) (_) (_) (_) (_) (_) (_) (_) (_) (_) (_) (_) (_) (_) (_) (_) (undef) (_) (z5) (g9) (a5) (c5) rfl (hC) (f0) (f1) (f2) (f3) (f4) (fun _ => rfl) (f6) (f7) (f8) (f9) (f10) (f11) (f12) (f13) (f14) (f15) (f16) (f17) (f18) (f19) (f20) (f21) (f22) (f23) (f24) (f25) (f26) (f27))
        · intro b ac W9 hbk hd hcl hJ K hK
          refine hJ _ ?_
          clear hJ
          intro u0 u1 u2 u3 u4 u5 u6 u7 u8 u9 u10 u11 u12 u13 u14 u15 u16 u17 u18 u19 u20 u21 u22 u23 u24 u25 u26 u27 z5 g9 a5 c5 hac hC f0 f1 f2 f3 f4 f5 f6 f7 f8 f9 f10 f11 f12 f13 f14 f15 f16 f17 f18 f19 f20 f21 f22 f23 f24 f25 f26 f27
          subst hac
          go_simp
          exact hK _ _ (fun _ hh => hh (_) (_) (_) (_) (_) (_) (_) (_) (_) (_) (_) (_) (_) (_) (_) (_) (_) (_) (_) (_) (_) (_) (_) (_) (_) (_) (undef) (_) (z5) (g9) (a5) (c5) rfl (hC) (f0) (f1) (f2) (f3) (f4) (f5) (fun _ => rfl) (f7) (f8) (f9) (f10) (f11) (f12) (f13) (f14) (f15) (f16) (f17) (f18) (f19) (f20) (f21) (f22) (f23) (f24) (f25) (f26) (f27))
        · intro b ac W9 hbk hd hcl hJ K hK
          refine hJ _ ?_
          clear hJ
          intro u0 u1 u2 u3 u4 u5 u6 u7 u8 u9 u10 u11 u12 u13 u14 u15 u16 u17 u18 u19 u20 u21 u22 u23 u24 u25 u26 u27 z5 g9 a5 c5 hac hC f0 f1 f2 f3 f4 f5 f6 f7 f8 f9 f10 f11 f12 f13 f14 f15 f16 f17 f18 f19 f20 f21 f22 f23 f24 f25 f26 f27
          subst hac
          go_simp
          exact hK _ _ (fun _ hh => hh (_) (_) (_) (_) (_) (_) (_) (_) (_) (_) (_) (_) (_) (_) (_) (_) (_) (_) (_) (_) (_) (_) (_) (_) (_) (_) (undef) (_) (z5) (g9) (a5) (c5) rfl (hC) (f0) (f1) (f2) (f3) (f4) (f5) (f6) (fun _ => rfl) (f8) (f9) (f10) (f11) (f12) (f13) (f14) (f15) (f16) (f17) (f18) (f19) (f20) (f21) (f22) (f23) (f24) (f25) (f26) (f27))
        · intro b ac W9 hbk hd hcl hJ K hK
          refine hJ _ ?_
          clear hJ
          intro u0 u1 u2 u3 u4 u5 u6 u7 u8 u9 u10 u11 u12 u13 u14 u15 u16 u17 u18 u19 u20 u21 u22 u23 u24 u25 u26 u27 z5 g9 a5 c5 hac hC f0 f1 f2 f3 f4 f5 f6 f7 f8 f9 f10 f11 f12 f13 f14 f15 f16 f17 f18 f19 f20 f21 f22 f23 f24 f25 f26 f27
          subst hac
          have d6 := f6 (hd ⟨6, .data⟩ (by simp) rfl)
          have d7 := f7 (hd ⟨7, .data⟩ (by simp) rfl)
          subst d6
          subst d7
          have x1 := HX1.out
          go_simp
          exact hK _ _ (fun _ hh => hh (_) (_) (_) (_) (_) (_) (_) (_) (_) (_) (_) (_) (_) (_) (_) (_) (_) (_) (_) (_) (_) (_) (_) (_) (_) (_) (undef) (_) (z5) (g9) (a5) (c5) rfl (hC) (f0) (f1) (f2) (f3) (f4) (f5) (f6) (f7) (fun _ => rfl) (f9) (f10) (f11) (f12) (f13) (f14) (f15) (f16) (f17) (f18) (f19) (f20) (f21) (f22) (f23) (f24) (f25) (f26) (f27))
        · intro b ac W9 hbk hd hcl hJ K hK
          refine hJ _ ?_
          clear hJ
          intro u0 u1 u2 u3 u4 u5 u6 u7 u8 u9 u10 u11 u12 u13 u14 u15 u16 u17 u18 u19 u20 u21 u22 u23 u24 u25 u26 u27 z5 g9 a5 c5 hac hC f0 f1 f2 f3 f4 f5 f6 f7 f8 f9 f10 f11 f12 f13 f14 f15 f16 f17 f18 f19 f20 f21 f22 f23 f24 f25 f26 f27
          subst hac
          have d8 := f8 (hd ⟨8, .data⟩ (by simp) rfl)
          subst d8
          go_simp
          exact hK _ _ (fun _ hh => hh (_) (_) (_) (_) (_) (_) (_) (_) (_) (_) (_) (_) (_) (_) (_) (_) (_) (_) (_) (_) (_) (_) (_) (_) (_) (_) (undef) (_) (z5) (g9) (a5) (c5) rfl (hC) (f0) (f1) (f2) (f3) (f4) (f5) (f6) (f7) (f8) (fun _ => rfl) (f10) (f11) (f12) (f13) (f14) (f15) (f16) (f17) (f18) (f19) (f20) (f21) (f22) (f23) (f24) (f25) (f26) (f27))
        · intro b ac W9 hbk hd hcl hJ K hK
          refine hJ _ ?_
          clear hJ
          intro u0 u1 u2 u3 u4 u5 u6 u7 u8 u9 u10 u11 u12 u13 u14 u15 u16 u17 u18 u19 u20 u21 u22 u23 u24 u25 u26 u27 z5 g9 a5 c5 hac hC f0 f1 f2 f3 f4 f5 f6 f7 f8 f9 f10 f11 f12 f13 f14 f15 f16 f17 f18 f19 f20 f21 f22 f23 f24 f25 f26 f27
          subst hac
          have d9 := f9 (hd ⟨9, .data⟩ (by simp) rfl)
          subst d9
          obtain ⟨y0, y1, y2, y3⟩ := HRC.out W9 hC
          go_simp
          exact hK _ _ (fun _ hh => hh (_) (_) (_) (_) (_) (_) (_) (_) (_) (_) (_) (_) (_) (_) (_) (_) (_) (_) (_) (_) (_) (_) (_) (_) (_) (_) (undef) (_) (z5) (g9) (a5) (c5) rfl (hC) (f0) (f1) (f2) (f3) (f4) (f5) (f6) (f7) (f8) (f9) (fun _ => rfl) (f11) (f12) (f13) (f14) (f15) (f16) (f17) (f18) (f19) (f20) (f21) (f22) (f23) (f24) (f25) (f26) (f27))
        · intro b ac W9 hbk hd hcl hJ K hK
          refine hJ _ ?_
          clear hJ
          intro u0 u1 u2 u3 u4 u5 u6 u7 u8 u9 u10 u11 u12 u13 u14 u15 u16 u17 u18 u19 u20 u21 u22 u23 u24 u25 u26 u27 z5 g9 a5 c5 hac hC f0 f1 f2 f3 f4 f5 f6 f7 f8 f9 f10 f11 f12 f13 f14 f15 f16 f17 f18 f19 f20 f21 f22 f23 f24 f25 f26 f27
          subst hac
          go_simp
          exact hK _ _ (fun _ hh => hh (_) (_) (_) (_) (_) (_) (_) (_) (_) (_) (_) (_) (_) (_) (_) (_) (_) (_) (_) (_) (_) (_) (_) (_) (_) (_) (undef) (_) (z5) (g9) (a5) (c5) rfl (hC) (f0) (f1) (f2) (f3) (f4) (f5) (f6) (f7) (f8) (f9) (f10) (fun _ => rfl) (f12) (f13) (f14) (f15) (f16) (f17) (f18) (f19) (f20) (f21) (f22) (f23) (f24) (f25) (f26) (f27))
        · intro b ac W9 hbk hd hcl hJ K hK
          refine hJ _ ?_
          clear hJ
          intro u0 u1 u2 u3 u4 u5 u6 u7 u8 u9 u10 u11 u12 u13 u14 u15 u16 u17 u18 u19 u20 u21 u22 u23 u24 u25 u26 u27 z5 g9 a5 c5 hac hC f0 f1 f2 f3 f4 f5 f6 f7 f8 f9 f10 f11 f12 f13 f14 f15 f16 f17 f18 f19 f20 f21 f22 f23 f24 f25 f26 f27
          subst hac
          go_simp
          exact hK _ _ (fun _ hh => hh (_) (_) (_) (_) (_) (_) (_) (_) (_) (_) (_) (_) (_) (_) (_) (_) (_) (_) (_) (_) (_) (_) (_) (_) (_) (_) (undef) (_) (z5) (g9) (a5) (c5) rfl (hC) (f0) (f1) (f2) (f3) (f4) (f5) (f6) (f7) (f8) (f9) (f10) (f11) (fun _ => rfl) (f13) (f14) (f15) (f16) (f17) (f18) (f19) (f20) (f21) (f22) (f23) (f24) (f25) (f26) (f27))
        · intro b ac W9 hbk hd hcl hJ K hK
          refine hJ _ ?_
          clear hJ
          intro u0 u1 u2 u3 u4 u5 u6 u7 u8 u9 u10 u11 u12 u13 u14 u15 u16 u17 u18 u19 u20 u21 u22 u23 u24 u25 u26 u27 z5 g9 a5 c5 hac hC f0 f1 f2 f3 f4 f5 f6 f7 f8 f9 f10 f11 f12 f13 f14 f15 f16 f17 f18 f19 f20 f21 f22 f23 f24 f25 f26 f27
          subst hac
          have d11 := f11 (hd ⟨11, .data⟩ (by simp) rfl)
          have d12 := f12 (hd ⟨12, .data⟩ (by simp) rfl)
          subst d11
          subst d12
          have x1 := HX1.out
          go_simp
          exact hK _ _ (fun _ hh => hh (_) (_) (_) (_) (_) (_) (_) (_) (_) (_) (_) (_) (_) (_) (_) (_) (_) (_) (_) (_) (_) (_) (_) (_) (_) (_) (undef) (_) (z5) (g9) (a5) (c5) rfl (hC) (f0) (f1) (f2) (f3) (f4) (f5) (f6) (f7) (f8) (f9) (f10) (f11) (f12) (fun _ => rfl) (f14) (f15) (f16) (f17) (f18) (f19) (f20) (f21) (f22) (f23) (f24) (f25) (f26) (f27))
        · intro b ac W9 hbk hd hcl hJ K hK
          refine hJ _ ?_
          clear hJ
          intro u0 u1 u2 u3 u4 u5 u6 u7 u8 u9 u10 u11 u12 u13 u14 u15 u16 u17 u18 u19 u20 u21 u22 u23 u24 u25 u26 u27 z5 g9 a5 c5 hac hC f0 f1 f2 f3 f4 f5 f6 f7 f8 f9 f10 f11 f12 f13 f14 f15 f16 f17 f18 f19 f20 f21 f22 f23 f24 f25 f26 f27
          subst hac
          have d13 := f13 (hd ⟨13, .data⟩ (by simp) rfl)
          subst d13
          go_simp
          exact hK _ _ (fun _ hh => hh (_) (_) (_) (_) (_) (_) (_) (_) (_) (_) (_) (_) (_) (_) (_) (_) (_) (_) (_) (_) (_) (_) (_) (_) (_) (_) (undef) (_) (z5) (g9) (a5) (c5) rfl (hC) (f0) (f1) (f2) (f3) (f4) (f5) (f6) (f7) (f8) (f9) (f10) (f11) (f12) (f13) (fun _ => rfl) (f15) (f16) (f17) (f18) (f19) (f20) (f21) (f22) (f23) (f24) (f25) (f26) (f27))
        · intro b ac W9 hbk hd hcl hJ K hK
          refine hJ _ ?_
          clear hJ
          intro u0 u1 u2 u3 u4 u5 u6 u7 u8 u9 u10 u11 u12 u13 u14 u15 u16 u17 u18 u19 u20 u21 u22 u23 u24 u25 u26 u27 z5 g9 a5 c5 hac hC f0 f1 f2 f3 f4 f5 f6 f7 f8 f9 f10 f11 f12 f13 f14 f15 f16 f17 f18 f19 f20 f21 f22 f23 f24 f25 f26 f27
          subst hac
          have d14 := f14 (hd ⟨14, .data⟩ (by simp) rfl)
          subst d14
          obtain ⟨y0, y1, y2, y3⟩ := HRC.out W9 hC
          go_simp
          exact hK _ _ (fun _ hh => hh (_) (_) (_) (_) (_) (_) (_) (_) (_) (_) (_) (_) (_) (_) (_) (_) (_) (_) (_) (_) (_) (_) (_) (_) (_) (_) (undef) (_) (z5) (g9) (a5) (c5) rfl (hC) (f0) (f1) (f2) (f3) (f4) (f5) (f6) (f7) (f8) (f9) (f10) (f11) (f12) (f13) (f14) (fun _ => rfl) (f16) (f17) (f18) (f19) (f20) (f21) (f22) (f23) (f24) (f25) (f26) (f27))
        · intro b ac W9 hbk hd hcl hJ K hK
          refine hJ _ ?_
          clear hJ
          intro u0 u1 u2 u3 u4 u5 u6 u7 u8 u9 u10 u11 u12 u13 u14 u15 u16 u17 u18 u19 u20 u21 u22 u23 u24 u25 u26 u27 z5 g9 a5 c5 hac hC f0 f1 f2 f3 f4 f5 f6 f7 f8 f9 f10 f11 f12 f13 f14 f15 f16 f17 f18 f19 f20 f21 f22 f23 f24 f25 f26 f27
          subst hac
          go_simp
          exact hK _ _ (fun _ hh => hh (_) (_) (_) (_) (_) (_) (_) (_) (_) (_) (_) (_) (_) (_) (_) (_) (_) (_) (_) (_) (_) (_) (_) (_) (_) (_) (undef) (_) (z5) (g9) (a5) (c5) rfl (hC) (f0) (f1) (f2) (f3) (f4) (f5) (f6) (f7) (f8) (f9) (f10) (f11) (f12) (f13) (f14) (f15) (fun _ => rfl) (f17) (f18) (f19) (f20) (f21) (f22) (f23) (f24) (f25) (f26) (f27))
        · intro b ac W9 hbk hd hcl hJ K hK
          refine hJ _ ?_
          clear hJ
          intro u0 u1 u2 u3 u4 u5 u6 u7 u8 u9 u10 u11 u12 u13 u14 u15 u16 u17 u18 u19 u20 u21 u22 u23 u24 u25 u26 u27 z5 g9 a5 c5 hac hC f0 f1 f2 f3 f4 f5 f6 f7 f8 f9 f10 f11 f12 f13 f14 f15 f16 f17 f18 f19 f20 f21 f22 f23 f24 f25 f26 f27
          subst hac
          go_simp
          exact hK _ _ (fun _ hh => hh (_) (_) (_) (_) (_) (_) (_) (_) (_) (_) (_) (_) (_) (_) (_) (_) (_) (_) (_) (_) (_) (_) (_) (_) (_) (_) (undef) (_) (z5) (g9) (a5) (c5) rfl (hC) (f0) (f1) (f2) (f3) (f4) (f5) (f6) (f7) (f8) (f9) (f10) (f11) (f12) (f13) (f14) (f15) (f16) (fun _ => rfl) (f18) (f19) (f20) (f21) (f22) (f23) (f24) (f25) (f26) (f27))
        · intro b ac W9 hbk hd hcl hJ K hK
          refine hJ _ ?_
          clear hJ
          intro u0 u1 u2 u3 u4 u5 u6 u7 u8 u9 u10 u11 u12 u13 u14 u15 u16 u17 u18 u19 u20 u21 u22 u23 u24 u25 u26 u27 z5 g9 a5 c5 hac hC f0 f1 f2 f3 f4 f5 f6 f7 f8 f9 f10 f11 f12 f13 f14 f15 f16 f17 f18 f19 f20 f21 f22 f23 f24 f25 f26 f27
          subst hac
          have d16 := f16 (hd ⟨16, .data⟩ (by simp) rfl)
          have d17 := f17 (hd ⟨17, .data⟩ (by simp) rfl)
          subst d16
          subst d17
          have x1 := HX1.out
          go_simp
          exact hK _ _ (fun _ hh => hh (_) (_) (_) (_) (_) (_) (_) (_) (_) (_) (_) (_) (_) (_) (_) (_) (_) (_) (_) (_) (_) (_) (_) (_) (_) (_) (undef) (_) (z5) (g9) (a5) (c5) rfl (hC) (f0) (f1) (f2) (f3) (f4) (f5) (f6) (f7) (f8) (f9) (f10) (f11) (f12) (f13) (f14) (f15) (f16) (f17) (fun _ => rfl) (f19) (f20) (f21) (f22) (f23) (f24) (f25) (f26) (f27))
        · intro b ac W9 hbk hd hcl hJ K hK
          refine hJ _ ?_
          clear hJ
          intro u0 u1 u2 u3 u4 u5 u6 u7 u8 u9 u10 u11 u12 u13 u14 u15 u16 u17 u18 u19 u20 u21 u22 u23 u24 u25 u26 u27 z5 g9 a5 c5 hac hC f0 f1 f2 f3 f4 f5 f6 f7 f8 f9 f10 f11 f12 f13 f14 f15 f16 f17 f18 f19 f20 f21 f22 f23 f24 f25 f26 f27
          subst hac
          have d18 := f18 (hd ⟨18, .data⟩ (by simp) rfl)
          subst d18
          go_simp
          exact hK _ _ (fun _ hh => hh (_) (_) (_) (_) (_) (_) (_) (_) (_) (_) (_) (_) (_) (_) (_) (_) (_) (_) (_) (_) (_) (_) (_) (_) (_) (_) (undef) (_) (z5) (g9) (a5) (c5) rfl (hC) (f0) (f1) (f2) (f3) (f4) (f5) (f6) (f7) (f8) (f9) (f10) (f11) (f12) (f13) (f14) (f15) (f16) (f17) (f18) (fun _ => rfl) (f20) (f21) (f22) (f23) (f24) (f25) (f26) (f27))
        · intro b ac W9 hbk hd hcl hJ K hK
          refine hJ _ ?_
          clear hJ
          intro u0 u1 u2 u3 u4 u5 u6 u7 u8 u9 u10 u11 u12 u13 u14 u15 u16 u17 u18 u19 u20 u21 u22 u23 u24 u25 u26 u27 z5 g9 a5 c5 hac hC f0 f1 f2 f3 f4 f5 f6 f7 f8 f9 f10 f11 f12 f13 f14 f15 f16 f17 f18 f19 f20 f21 f22 f23 f24 f25 f26 f27
          subst hac
          have d19 := f19 (hd ⟨19, .data⟩ (by simp) rfl)
          subst d19
          obtain ⟨y0, y1, y2, y3⟩ := HRC.out W9 hC
          go_simp
          exact hK _ _ (fun _ hh => hh (_) (_) (_) (_) (_) (_) (_) (_) (_) (_) (_) (_) (_) (_) (_) (_) (_) (_) (_) (_) (_) (_) (_) (_) (_) (_) (undef) (_) (z5) (g9) (a5) (c5) rfl (hC) (f0) (f1) (f2) (f3) (f4) (f5) (f6) (f7) (f8) (f9) (f10) (f11) (f12) (f13) (f14) (f15) (f16) (f17) (f18) (f19) (fun _ => rfl) (f21) (f22) (f23) (f24) (f25) (f26) (f27))
        · intro b ac W9 hbk hd hcl hJ K hK
          refine hJ _ ?_
          clear hJ
          intro u0 u1 u2 u3 u4 u5 u6 u7 u8 u9 u10 u11 u12 u13 u14 u15 u16 u17 u18 u19 u20 u21 u22 u23 u24 u25 u26 u27 z5 g9 a5 c5 hac hC f0 f1 f2 f3 f4 f5 f6 f7 f8 f9 f10 f11 f12 f13 f14 f15 f16 f17 f18 f19 f20 f21 f22 f23 f24 f25 f26 f27
          subst hac
          have d0 := f0 (hd ⟨0, .data⟩ (by simp) rfl)
          have d5 := f5 (hd ⟨5, .data⟩ (by simp) rfl)
          have d10 := f10 (hd ⟨10, .data⟩ (by simp) rfl)
          have d15 := f15 (hd ⟨15, .data⟩ (by simp) rfl)
          have d20 := f20 (hd ⟨20, .data⟩ (by simp) rfl)
          subst d0
          subst d5
          subst d10
          subst d15
          subst d20
          have n26 := hcl.no 26 _ rfl ⟨21, .chain⟩ (by simp) rfl rfl hbk
          go_simp
          refine (HCP.out W9 hC).mono ?_
          rintro e W8 ⟨hb, a8, c8, rfl, k1, k2, k3⟩
          have hC' : Below wr.heap.size wr W8 := hC.trans (hb.mono hC.size)
          exact hK _ _ (fun _ hh => hh (_) (_) (_) (_) (_) (_) (_) (_) (_) (_) (_) (_) (_) (_) (_) (_) (_) (_) (_) (_) (_) (_) (_) (_) (_) (_) (undef) (_) (W8.heap.size) (g9) (a8) (c8) rfl (hC') (f0) (f1) (f2) (f3) (f4) (f5) (f6) (f7) (f8) (f9) (f10) (f11) (f12) (f13) (f14) (f15) (f16) (f17) (f18) (f19) (f20) (fun _ => ⟨rfl, k1, Nat.le_refl _, k2, k3⟩) (fun h => absurd (hcl 22 _ rfl h ⟨21, .data⟩ (by simp) rfl) (by rw [hbk]; decide)) (fun h => absurd (hcl 22 _ rfl (hcl 23 _ rfl h ⟨22, .data⟩ (by simp) rfl) ⟨21, .data⟩ (by simp) rfl) (by rw [hbk]; decide)) (f24) (fun h => ⟨(f25 h).1, (f25 h).2.1, fun q => block_kept ((f25 h).2.2 q) hb⟩) (fun h => by rw [show b 26 = true from h] at n26; cases n26) (f27))
        · intro b ac W9 hbk hd hcl hJ K hK
          refine hJ _ ?_
          clear hJ
          intro u0 u1 u2 u3 u4 u5 u6 u7 u8 u9 u10 u11 u12 u13 u14 u15 u16 u17 u18 u19 u20 u21 u22 u23 u24 u25 u26 u27 z5 g9 a5 c5 hac hC f0 f1 f2 f3 f4 f5 f6 f7 f8 f9 f10 f11 f12 f13 f14 f15 f16 f17 f18 f19 f20 f21 f22 f23 f24 f25 f26 f27
          subst hac
          have d21 := f21 (hd ⟨21, .data⟩ (by simp) rfl)
          have e8 := d21.1
          subst e8
          go_simp
          exact hK _ _ (fun _ hh => hh (_) (_) (_) (_) (_) (_) (_) (_) (_) (_) (_) (_) (_) (_) (_) (_) (_) (_) (_) (_) (_) (_) (_) (_) (_) (_) (undef) (_) (z5) (g9) (a5) (c5) rfl (hC) (f0) (f1) (f2) (f3) (f4) (f5) (f6) (f7) (f8) (f9) (f10) (f11) (f12) (f13) (f14) (f15) (f16) (f17) (f18) (f19) (f20) (f21) (fun _ => rfl) (f23) (f24) (f25) (f26) (f27))
        · intro b ac W9 hbk hd hcl hJ K hK
          refine hJ _ ?_
          clear hJ
          intro u0 u1 u2 u3 u4 u5 u6 u7 u8 u9 u10 u11 u12 u13 u14 u15 u16 u17 u18 u19 u20 u21 u22 u23 u24 u25 u26 u27 z5 g9 a5 c5 hac hC f0 f1 f2 f3 f4 f5 f6 f7 f8 f9 f10 f11 f12 f13 f14 f15 f16 f17 f18 f19 f20 f21 f22 f23 f24 f25 f26 f27
          subst hac
          have d22 := f22 (hd ⟨22, .data⟩ (by simp) rfl)
          subst d22
          go_simp
          exact hK _ _ (fun _ hh => hh (_) (_) (_) (_) (_) (_) (_) (_) (_) (_) (_) (_) (_) (_) (_) (_) (_) (_) (_) (_) (_) (_) (_) (_) (_) (_) (undef) (_) (z5) (g9) (a5) (c5) rfl (hC) (f0) (f1) (f2) (f3) (f4) (f5) (f6) (f7) (f8) (f9) (f10) (f11) (f12) (f13) (f14) (f15) (f16) (f17) (f18) (f19) (f20) (f21) (f22) (fun _ => rfl) (f24) (f25) (f26) (f27))
        · intro b ac W9 hbk hd hcl hJ K hK
          refine hJ _ ?_
          clear hJ
          intro u0 u1 u2 u3 u4 u5 u6 u7 u8 u9 u10 u11 u12 u13 u14 u15 u16 u17 u18 u19 u20 u21 u22 u23 u24 u25 u26 u27 z5 g9 a5 c5 hac hC f0 f1 f2 f3 f4 f5 f6 f7 f8 f9 f10 f11 f12 f13 f14 f15 f16 f17 f18 f19 f20 f21 f22 f23 f24 f25 f26 f27
          subst hac
          have d22 := f22 (hd ⟨22, .data⟩ (by simp) rfl)
          subst d22
          go_simp
          exact hK _ _ (fun _ hh => hh (_) (_) (_) (_) (_) (_) (_) (_) (_) (_) (_) (_) (_) (_) (_) (_) (_) (_) (_) (_) (_) (_) (_) (_) (_) (_) (undef) (_) (z5) (g9) (a5) (c5) rfl (hC) (f0) (f1) (f2) (f3) (f4) (f5) (f6) (f7) (f8) (f9) (f10) (f11) (f12) (f13) (f14) (f15) (f16) (f17) (f18) (f19) (f20) (f21) (f22) (f23) (fun _ => rfl) (f25) (f26) (f27))
        · intro b ac W9 hbk hd hcl hJ K hK
          refine hJ _ ?_
          clear hJ
          intro u0 u1 u2 u3 u4 u5 u6 u7 u8 u9 u10 u11 u12 u13 u14 u15 u16 u17 u18 u19 u20 u21 u22 u23 u24 u25 u26 u27 z5 g9 a5 c5 hac hC f0 f1 f2 f3 f4 f5 f6 f7 f8 f9 f10 f11 f12 f13 f14 f15 f16 f17 f18 f19 f20 f21 f22 f23 f24 f25 f26 f27
          subst hac
          have n26 := hcl.no 26 _ rfl ⟨25, .data⟩ (by simp) rfl rfl hbk
          obtain ⟨W8, hW8⟩ : ∃ W, W9.alloc (.cells #[.slice none 0 0, .int .i64 0, .int .i64 0, .int .i64 0] 24) = W := ⟨_, rfl⟩
          have hb : Below W9.heap.size W9 W8 := by rw [← hW8]; exact (Below.refl _ _).alloc (Nat.le_refl _) _
          have bn : W8.heap[W9.heap.size]? = some (.cells #[.slice none 0 0, .int .i64 0, .int .i64 0, .int .i64 0] 24 (0, 0)) := by rw [← hW8]; exact World.alloc_heap_new W9 _
          have hC' : Below wr.heap.size wr W8 := hC.trans (hb.mono hC.size)
          have HW8 := Lib.hid hW8
          clear hW8
          go_simp
          (try rw [HW8.out])
          exact hK _ _ (fun _ hh => hh (_) (_) (_) (_) (_) (_) (_) (_) (_) (_) (_) (_) (_) (_) (_) (_) (_) (_) (_) (_) (_) (_) (_) (_) (_) (_) (undef) (_) (z5) (W9.heap.size) (a5) (c5) rfl (hC') (f0) (f1) (f2) (f3) (f4) (f5) (f6) (f7) (f8) (f9) (f10) (f11) (f12) (f13) (f14) (f15) (f16) (f17) (f18) (f19) (f20) (fun h => ⟨(f21 h).1, (f21 h).2.1.keep hb (f21 h).2.2.1, Nat.le_trans (f21 h).2.2.1 hb.size, (f21 h).2.2.2⟩) (f22) (f23) (f24) (fun _ => ⟨rfl, hC.size, fun _ => bn⟩) (fun h => by rw [show b 26 = true from h] at n26; cases n26) (f27))
        · intro b ac W9 hbk hd hcl hJ K hK
          refine hJ _ ?_
          clear hJ
          intro u0 u1 u2 u3 u4 u5 u6 u7 u8 u9 u10 u11 u12 u13 u14 u15 u16 u17 u18 u19 u20 u21 u22 u23 u24 u25 u26 u27 z5 g9 a5 c5 hac hC f0 f1 f2 f3 f4 f5 f6 f7 f8 f9 f10 f11 f12 f13 f14 f15 f16 f17 f18 f19 f20 f21 f22 f23 f24 f25 f26 f27
          subst hac
          have d25 := f25 (hd ⟨25, .data⟩ (by simp) rfl)
          have d23 := f23 (hd ⟨23, .data⟩ (by simp) rfl)
          obtain ⟨rfl, j1, j2⟩ := d25
          have HZ := j2 hbk
          subst d23
          have fz := froz HZ
          have fz0 := fz 0
          have fz1 := fz 1
          have fz2 := fz 2
          have fz3 := fz 3
          clear fz
          obtain ⟨y0, y1, y2, y3⟩ := ope4 HZ
          obtain ⟨W8, hW8⟩ : ∃ W, ((((W9.setCell ⟨g9, 0, none⟩ (.slice a5 sl.length c5)).setCell ⟨g9, 1, none⟩ (.int .i64 s1)).setCell ⟨g9, 2, none⟩ (.int .i64 s2)).setCell ⟨g9, 3, none⟩ (.int .i64 s3)) = W := ⟨_, rfl⟩
          have B8 : W8.heap[g9]? = some (.cells #[.slice a5 sl.length c5, .int .i64 s1, .int .i64 s2, .int .i64 s3] 24 (0, 0)) := by rw [← hW8]; exact block_set4 HZ
          have hz8 : W8.heap.size = W9.heap.size := by rw [← hW8]; simp only [World.size_setCell]
          have hC' : Below wr.heap.size wr W8 := by rw [← hW8]; exact below_set4 hC j1 _ _ _ _
          go_simp
          (try rw [hW8])
          exact hK _ _ (fun _ hh => hh (_) (_) (_) (_) (_) (_) (_) (_) (_) (_) (_) (_) (_) (_) (_) (_) (_) (_) (_) (_) (_) (_) (_) (_) (_) (_) (undef) (_) (z5) (g9) (a5) (c5) rfl (hC') (f0) (f1) (f2) (f3) (f4) (f5) (f6) (f7) (f8) (f9) (f10) (f11) (f12) (f13) (f14) (f15) (f16) (f17) (f18) (f19) (f20) (fun h => ⟨(f21 h).1, by rw [← hW8]; exact ev_set4 HZ (f21 h).2.1, by rw [hz8]; exact (f21 h).2.2.1, (f21 h).2.2.2⟩) (f22) (f23) (f24) (fun _ => ⟨rfl, j1, fun h => by cases h⟩) (fun _ => B8) (f27))
        · intro b ac W9 hbk hd hcl hJ K hK
          refine hJ _ ?_
          clear hJ
          intro u0 u1 u2 u3 u4 u5 u6 u7 u8 u9 u10 u11 u12 u13 u14 u15 u16 u17 u18 u19 u20 u21 u22 u23 u24 u25 u26 u27 z5 g9 a5 c5 hac hC f0 f1 f2 f3 f4 f5 f6 f7 f8 f9 f10 f11 f12 f13 f14 f15 f16 f17 f18 f19 f20 f21 f22 f23 f24 f25 f26 f27
          subst hac
          have d24 := f24 (hd ⟨24, .data⟩ (by simp) rfl)
          subst d24
          go_simp
          exact hK _ _ (fun _ hh => hh (_) (_) (_) (_) (_) (_) (_) (_) (_) (_) (_) (_) (_) (_) (_) (_) (_) (_) (_) (_) (_) (_) (_) (_) (_) (_) (undef) (_) (z5) (g9) (a5) (c5) rfl (hC) (f0) (f1) (f2) (f3) (f4) (f5) (f6) (f7) (f8) (f9) (f10) (f11) (f12) (f13) (f14) (f15) (f16) (f17) (f18) (f19) (f20) (f21) (f22) (f23) (f24) (f25) (f26) (fun _ => rfl))
      · intro b ac W6 hb hJ
        refine hJ _ ?_
        clear hJ
        intro u0 u1 u2 u3 u4 u5 u6 u7 u8 u9 u10 u11 u12 u13 u14 u15 u16 u17 u18 u19 u20 u21 u22 u23 u24 u25 u26 u27 z5 g9 a5 c5 hac hC f0 f1 f2 f3 f4 f5 f6 f7 f8 f9 f10 f11 f12 f13 f14 f15 f16 f17 f18 f19 f20 f21 f22 f23 f24 f25 f26 f27
        subst hac
        replace f0 := f0 (hb 0 (by decide))
        replace f1 := f1 (hb 1 (by decide))
        replace f2 := f2 (hb 2 (by decide))
        replace f3 := f3 (hb 3 (by decide))
        replace f4 := f4 (hb 4 (by decide))
        replace f5 := f5 (hb 5 (by decide))
        replace f6 := f6 (hb 6 (by decide))
        replace f7 := f7 (hb 7 (by decide))
        replace f8 := f8 (hb 8 (by decide))
        replace f9 := f9 (hb 9 (by decide))
        replace f10 := f10 (hb 10 (by decide))
        replace f11 := f11 (hb 11 (by decide))
        replace f12 := f12 (hb 12 (by decide))
        replace f13 := f13 (hb 13 (by decide))
        replace f14 := f14 (hb 14 (by decide))
        replace f15 := f15 (hb 15 (by decide))
        replace f16 := f16 (hb 16 (by decide))
        replace f17 := f17 (hb 17 (by decide))
        replace f18 := f18 (hb 18 (by decide))
        replace f19 := f19 (hb 19 (by decide))
        replace f20 := f20 (hb 20 (by decide))
        replace f21 := f21 (hb 21 (by decide))
        replace f22 := f22 (hb 22 (by decide))
        replace f23 := f23 (hb 23 (by decide))
        replace f24 := f24 (hb 24 (by decide))
        replace f25 := f25 (hb 25 (by decide))
        replace f26 := f26 (hb 26 (by decide))
        replace f27 := f27 (hb 27 (by decide))
        obtain ⟨e25, g1, -⟩ := f25
        subst e25
        obtain ⟨-, m1, m2, m3, m4⟩ := f21
        subst f27
        go_wp2
        go_meet
        exact ⟨g9, a5, c5, rfl, rfl, f26, InRow.less m2 (fun _ _ h => h) m1, m3, m4, hC⟩
    case rest =>
      obtain ⟨g9, a5, c5, rfl, rfl, hbx, hi6, m3, m4, hC⟩ := hcut
      generalize wc = W6 at *
      have HBX := Lib.hid hbx
      have HI6 := Lib.hid hi6
      have HK6 := Lib.hid (And.intro m3 m4)
      have HB6 := Lib.hid (HB1.out.trans (hC.mono HB1.out.size))
      have HQ6 := Lib.hid (block_kept HQ1.out hC)
      have HST6 : Hid (StQ gq (300 + k) W6) := Lib.hid (StQ.kept (W := wr) ⟨a1, c1, l1, now1, dl1, nx1, HQ1.out, HI1.out, HCC1.out.1, HCC1.out.2, HCK1.out, HLN1.out⟩ hC)
      clear hbx hi6 m3 m4 hC HRC HCP HI1 HCC1 HCK1
      go_upto_region 8 with (fail)
      go_cut [72] from 61 to 72 (fun p wx => p = .bool (er == 0) ∧ W6 = wx)
      case first =>
        obtain ⟨q0, q1, q2, q3⟩ := ope4 HQ6.out
        obtain ⟨y0, y1, y2, y3⟩ := ope4 HBX.out
        cases he : (er == 0) with
        | false =>
          go_wp2
          go_meet
          exact ⟨by rw [he], rfl⟩
        | true =>
          have hok := (HOK.out (by simpa using he)).2
          simp only at hok
          have hl9 : (l1.length : Int) < 1000 := by have := HLN1.out; have := HRL.out; have := HX1.out; omega
          have e1 : ((sl.length : Int) == (l1.length : Int) + 1) = true := by rw [hok]; simp
          have e2 : (sl.length == l1.length + 1) = true := by rw [hok]; simp
          clear hok
          go_wp2
          go_meet
          exact ⟨by rw [he], rfl⟩
      case rest =>
        obtain ⟨rfl, rfl⟩ := hcut
        go_upto_if 72 with (fail)
        go_cut [] from 30 to 114 (fun wx => Below w.heap.size w wx ∧ StQ gq (300 + k + 1) wx)
        case first =>
          cases he : (er == 0) with
          | false =>
            go_wp2
            go_meet
            exact ⟨HB6.out, HST6.out.le (by omega)⟩
          | true =>
            have hok := HOK.out (by simpa using he)
            have HOK2 := Lib.hid hok
            clear hok
            have fz := froz HQ6.out
            have fz0 := fz 0
            have fz1 := fz 1
            have fz2 := fz 2
            have fz3 := fz 3
            clear fz
            obtain ⟨q0, q1, q2, q3⟩ := ope4 HQ6.out
            obtain ⟨y0, y1, y2, y3⟩ := ope4 HBX.out
            go_wp2
            go_meet
            exact ⟨below_set4 HB6.out (by have := HGQ.out; omega) _ _ _ _, StQ.put HQ6.out HI6.out HK6.out.1 HK6.out.2 HOK2.out.1 (by have q1 : sl.length = l1.length + 1 := HOK2.out.2; have := HLN1.out; omega)⟩
        case rest =>
          obtain ⟨hb7, hst⟩ := hcut
          generalize wc = W2 at *
          have HB2 := Lib.hid hb7
          clear hb7 HQ1 HLN1 HB1 HB6 HQ6 HST6 HI6 HK6 HBX HOK
          obtain ⟨a2, c2, l2, now2, dl2, nx2, hq, hi, hac, hlc, hck, hlen⟩ := hst
          have HQ2 := Lib.hid hq
          have HI2 := Lib.hid hi
          have HCC2 := Lib.hid (And.intro hac hlc)
          have HCK2 := Lib.hid hck
          have HLN2 := Lib.hid hlen
          clear hq hi hac hlc hck hlen
          have h7 := HRW.out.2.2.2
          have hx7 := HB2.out
          have r0 := keepc hx7 HRW.out.1
          have r1 := keepc hx7 HRW.out.2.1
          have r2 := keepc hx7 HRW.out.2.2.1
          have r3 := keepc hx7 h7
          clear hx7 h7
          obtain ⟨R3, hR3⟩ : ∃ R, Int.tmod rv 3 = R := ⟨_, rfl⟩
          have hS3 : rv % 3 = R3 := by rw [← hR3, Int.tmod_eq_emod_of_nonneg HRV0.out.1]
          have hT3 : 0 ≤ R3 ∧ R3 < 3 := by rw [← hS3]; omega
          obtain ⟨hT3a, hT3b⟩ := hT3
          have hv0 := HRV0.out.1
          have hv1 := HRV0.out.2
          have hl1 : (k : Int) < (rl.length : Int) := HX1.out
          go_upto_if 80 with (fail)
          clear r0 r1 r2 r3
          go_cut [] from 30 to 114 (fun wx => Below w.heap.size w wx ∧ StQ gq (300 + k + 1) wx)
          case first =>
            cases hz : (R3 == 0) with
            | false =>
              go_wp2
              go_meet
              exact ⟨HB2.out, ⟨a2, c2, l2, now2, dl2, nx2, HQ2.out, HI2.out, HCC2.out.1, HCC2.out.2, HCK2.out, HLN2.out⟩⟩
            | true =>
              have cP := pop_res (pop_any a2 c2 l2 (by have := HLN2.out; have := HRL.out; omega) HCC2.out.1 HCC2.out.2 now2 dl2 nx2 W2.heap.size W2 (Nat.le_refl _) HI2.out)
              obtain ⟨X, hX⟩ : ∃ X, popX l2 now2 dl2 nx2 = X := ⟨_, rfl⟩
              obtain ⟨S, hS⟩ : ∃ S, popS l2 now2 dl2 nx2 = S := ⟨_, rfl⟩
              obtain ⟨er, hE⟩ : ∃ E, popF now2 dl2 nx2 l2 = E := ⟨_, rfl⟩
              have HOK : Hid (er = 0 → ckE S.2.1 S.2.2.1 S.2.2.2 S.1 = 0 ∧ S.1.length ≤ l2.length) := Lib.hid (fun h => by rw [← hS]; exact pop_next (hE.trans h))
              rw [hX, hS, hE] at cP
              clear hX hS hE
              obtain ⟨pl, p1, p2, p3⟩ := S
              obtain ⟨xt, xd, xn, xs, xv⟩ := X
              clear hR3 hS3 hT3a hT3b hv0 hv1
              obtain ⟨q0, q1, q2, q3⟩ := ope4 HQ2.out
              go_wp2_with fail
              refine cP.mono ?_
              clear q0 q1 q2 q3 cP
              rintro e W8 ⟨hb, a9, c9, rfl, hi9, k1, k2⟩
              obtain ⟨ga, hga⟩ : ∃ g, W8.heap.size = g := ⟨_, rfl⟩
              obtain ⟨V0, hV0⟩ : ∃ W, W8.alloc (.cells #[.slice a9 pl.length c9, .int .i64 p1, .int .i64 p2, .int .i64 p3] 24) = W := ⟨_, rfl⟩
              have hbV0 : Below W8.heap.size W8 V0 := by rw [← hV0]; exact (Below.refl _ _).alloc (Nat.le_refl _) _
              have hzV0 : V0.heap.size = ga + 1 := by rw [← hV0, World.size_alloc, hga]
              have BBa : V0.heap[ga]? = some (.cells #[.slice a9 pl.length c9, .int .i64 p1, .int .i64 p2, .int .i64 p3] 24 (0, 0)) := by rw [← hV0, ← hga]; exact World.alloc_heap_new W8 _
              have hbw := hbV0
              obtain ⟨V1, hV1⟩ : ∃ W, V0.alloc (.cells #[.int .i64 xt, .int .i64 xd, .int .i64 xn, .int .i64 xs, .int .u64 xv] 35) = W := ⟨_, rfl⟩
              have hbV1 : Below V0.heap.size V0 V1 := by rw [← hV1]; exact (Below.refl _ _).alloc (Nat.le_refl _) _
              have hzV1 : V1.heap.size = ga + 2 := by rw [← hV1, World.size_alloc, hzV0]
              have BBx : V1.heap[ga + 1]? = some (.cells #[.int .i64 xt, .int .i64 xd, .int .i64 xn, .int .i64 xs, .int .u64 xv] 35 (0, 0)) := by rw [← hV1, ← hzV0]; exact World.alloc_heap_new V0 _
              replace BBa := block_kept BBa hbV1
              replace hbw := hbw.trans (hbV1.mono hbw.size)
              have hbs := hb.trans (hbw.mono hb.size)
              have HQ9 := Lib.hid (block_kept HQ2.out hbs)
              have HST9 : Hid (StQ gq (300 + k + 1) V1) := Lib.hid (StQ.kept (W := W2) ⟨a2, c2, l2, now2, dl2, nx2, HQ2.out, HI2.out, HCC2.out.1, HCC2.out.2, HCK2.out, HLN2.out⟩ hbs)
              have HB9 := Lib.hid (HB2.out.trans (hbs.mono HB2.out.size))
              have HI9 : Hid (EvIn V1.heap.size V1 pl a9) := Lib.hid (InRow.less hbw.size (fun _ _ h => h) (EvIn.keep hi9 hbw (Nat.le_refl _)))
              have HK9 := Lib.hid (And.intro k1 k2)
              have HA9 := Lib.hid BBa
              clear BBa BBx hbw hbs hb hi9 k1 k2 hbV0 hbV1
              have HV0 := Lib.hid hV0
              clear hV0
              have HV1 := Lib.hid hV1
              clear hV1
              go_upto_region 12 with (fail)
              (try rw [hga])
              (try rw [HV0.out])
              (try rw [hzV0])
              (try rw [HV1.out])
              (try rw [hzV1])
              clear HV0 hzV0 HV1 hzV1 hga
              cases he : (er == 0) with
              | false =>
                go_wp2
                go_meet
                exact ⟨HB9.out, HST9.out⟩
              | true =>
                have hok := HOK.out (by simpa using he)
                have HOK2 := Lib.hid hok
                clear hok
                have fz := froz HQ9.out
                have fz0 := fz 0
                have fz1 := fz 1
                have fz2 := fz 2
                have fz3 := fz 3
                clear fz
                obtain ⟨q0, q1, q2, q3⟩ := ope4 HQ9.out
                obtain ⟨y0, y1, y2, y3⟩ := ope4 HA9.out
                go_wp2
                go_meet
                exact ⟨below_set4 HB9.out (by have := HGQ.out; omega) _ _ _ _, StQ.put HQ9.out HI9.out HK9.out.1 HK9.out.2 HOK2.out.1 (by have q1 : pl.length ≤ l2.length := HOK2.out.2; have := HLN2.out; omega)⟩
          case rest =>
            clear hR3 hS3 hT3a hT3b hv0 hv1 hl1 R3
            obtain ⟨hb7, hst⟩ := hcut
            generalize wc = W3 at *
            have HB3 := Lib.hid hb7
            clear hb7 HQ2 HI2 HCC2 HCK2 HLN2 HB2
            obtain ⟨a3, c3, l3, now3, dl3, nx3, hq, hi, hac, hlc, hck, hlen⟩ := hst
            have HQ3 := Lib.hid hq
            have HI3 := Lib.hid hi
            have HCC3 := Lib.hid (And.intro hac hlc)
            have HCK3 := Lib.hid hck
            have HLN3 := Lib.hid hlen
            clear hq hi hac hlc hck hlen
            have h7 := HRW.out.2.2.2
            have hx7 := HB3.out
            have r0 := keepc hx7 HRW.out.1
            have r1 := keepc hx7 HRW.out.2.1
            have r2 := keepc hx7 HRW.out.2.2.1
            have r3 := keepc hx7 h7
            clear hx7 h7
            obtain ⟨R7, hR7⟩ : ∃ R, Int.tmod rv 7 = R := ⟨_, rfl⟩
            have hS7 : rv % 7 = R7 := by rw [← hR7, Int.tmod_eq_emod_of_nonneg HRV0.out.1]
            have hT7 : 0 ≤ R7 ∧ R7 < 7 := by rw [← hS7]; omega
            obtain ⟨hT7a, hT7b⟩ := hT7
            have hv0 := HRV0.out.1
            have hv1 := HRV0.out.2
            have hl1 : (k : Int) < (rl.length : Int) := HX1.out
            go_upto_if 96 with (fail)
            clear r0 r1 r2 r3
            go_cut [] from 30 to 114 (fun wx => Below w.heap.size w wx ∧ StQ gq (300 + k + 1) wx)
            case first =>
              cases hz : (R7 == 0) with
              | false =>
                go_wp2
                go_meet
                exact ⟨HB3.out, ⟨a3, c3, l3, now3, dl3, nx3, HQ3.out, HI3.out, HCC3.out.1, HCC3.out.2, HCK3.out, HLN3.out⟩⟩
              | true =>
                have cP := take_res (take_any a3 c3 l3 (by have := HLN3.out; have := HRL.out; omega) HCC3.out.1 HCC3.out.2 now3 dl3 nx3 W3.heap.size W3 (Nat.le_refl _) HI3.out)
                obtain ⟨X, hX⟩ : ∃ X, takeL l3 now3 dl3 nx3 = X := ⟨_, rfl⟩
                obtain ⟨S, hS⟩ : ∃ S, takeS l3 now3 dl3 nx3 = S := ⟨_, rfl⟩
                obtain ⟨er, hE⟩ : ∃ E, popF now3 dl3 nx3 l3 = E := ⟨_, rfl⟩
                have HOK : Hid (er = 0 → ckE S.2.1 S.2.2.1 S.2.2.2 S.1 = 0 ∧ S.1.length ≤ l3.length) := Lib.hid (fun h => by rw [← hS]; exact take_next (hE.trans h))
                rw [hX, hS, hE] at cP
                clear hX hS hE
                obtain ⟨pl, p1, p2, p3⟩ := S
                clear hR7 hS7 hT7a hT7b hv0 hv1
                obtain ⟨q0, q1, q2, q3⟩ := ope4 HQ3.out
                go_wp2_with fail
                refine cP.mono ?_
                clear q0 q1 q2 q3 cP
                rintro e W8 ⟨hb, a9, c9, a8, c8, rfl, hi9, k1, k2, _, _, _⟩
                obtain ⟨ga, hga⟩ : ∃ g, W8.heap.size = g := ⟨_, rfl⟩
                obtain ⟨V0, hV0⟩ : ∃ W, W8.alloc (.cells #[.slice a9 pl.length c9, .int .i64 p1, .int .i64 p2, .int .i64 p3] 24) = W := ⟨_, rfl⟩
                have hbV0 : Below W8.heap.size W8 V0 := by rw [← hV0]; exact (Below.refl _ _).alloc (Nat.le_refl _) _
                have hzV0 : V0.heap.size = ga + 1 := by rw [← hV0, World.size_alloc, hga]
                have BBa : V0.heap[ga]? = some (.cells #[.slice a9 pl.length c9, .int .i64 p1, .int .i64 p2, .int .i64 p3] 24 (0, 0)) := by rw [← hV0, ← hga]; exact World.alloc_heap_new W8 _
                have hbw := hbV0
                have hbs := hb.trans (hbw.mono hb.size)
                have HQ9 := Lib.hid (block_kept HQ3.out hbs)
                have HST9 : Hid (StQ gq (300 + k + 1) V0) := Lib.hid (StQ.kept (W := W3) ⟨a3, c3, l3, now3, dl3, nx3, HQ3.out, HI3.out, HCC3.out.1, HCC3.out.2, HCK3.out, HLN3.out⟩ hbs)
                have HB9 := Lib.hid (HB3.out.trans (hbs.mono HB3.out.size))
                have HI9 : Hid (EvIn V0.heap.size V0 pl a9) := Lib.hid (InRow.less hbw.size (fun _ _ h => h) (EvIn.keep hi9 hbw (Nat.le_refl _)))
                have HK9 := Lib.hid (And.intro k1 k2)
                have HA9 := Lib.hid BBa
                clear BBa hbw hbs hb hi9 k1 k2 hbV0
                have HV0 := Lib.hid hV0
                clear hV0
                go_upto_region 16 with (fail)
                (try rw [hga])
                (try rw [HV0.out])
                (try rw [hzV0])
                clear HV0 hzV0 hga
                cases he : (er == 0) with
                | false =>
                  go_wp2
                  go_meet
                  exact ⟨HB9.out, HST9.out⟩
                | true =>
                  have hok := HOK.out (by simpa using he)
                  have HOK2 := Lib.hid hok
                  clear hok
                  have fz := froz HQ9.out
                  have fz0 := fz 0
                  have fz1 := fz 1
                  have fz2 := fz 2
                  have fz3 := fz 3
                  clear fz
                  obtain ⟨q0, q1, q2, q3⟩ := ope4 HQ9.out
                  obtain ⟨y0, y1, y2, y3⟩ := ope4 HA9.out
                  go_wp2
                  go_meet
                  exact ⟨below_set4 HB9.out (by have := HGQ.out; omega) _ _ _ _, StQ.put HQ9.out HI9.out HK9.out.1 HK9.out.2 HOK2.out.1 (by have q1 : pl.length ≤ l3.length := HOK2.out.2; have := HLN3.out; omega)⟩
            case rest =>
              clear hR7 hS7 hT7a hT7b hv0 hv1 hl1 R7
              obtain ⟨hb7, hst⟩ := hcut
              generalize wc = W4 at *
              have HB4 := Lib.hid hb7
              clear hb7 HQ3 HI3 HCC3 HCK3 HLN3 HB3
              obtain ⟨a4, c4, l4, now4, dl4, nx4, hq, hi, hac, hlc, hck, hlen⟩ := hst
              have HQ4 := Lib.hid hq
              have HI4 := Lib.hid hi
              have HCC4 := Lib.hid (And.intro hac hlc)
              have HCK4 := Lib.hid hck
              have HLN4 := Lib.hid hlen
              clear hq hi hac hlc hck hlen
              have cK := refCheck_any a4 c4 l4 (by have := HLN4.out; have := HRL.out; have := HX1.out; omega) now4 dl4 nx4 W4.heap.size W4 (Nat.le_refl _) HI4.out
              rw [HCK4.out] at cK
              have y1 : decide ((l4.length : Int) > 400) = false := by rw [decide_eq_false_iff_not]; have := HLN4.out; have := HRL.out; have := HX1.out; omega
              have y2 : decide ((400 : Int) < (l4.length : Int)) = false := y1
              have y3 : decide (400 < l4.length) = false := by rw [decide_eq_false_iff_not]; have := HLN4.out; have := HRL.out; have := HX1.out; omega
              obtain ⟨q0, q1, q2, q3⟩ := ope4 HQ4.out
              go_wp2_with fail
              refine cK.mono ?_
              clear cK y1 y2 y3 q0 q1 q2 q3
              rintro e W5 ⟨rfl, hb⟩
              have HB5 := Lib.hid (HB4.out.trans (hb.mono HB4.out.size))
              have HST5 : Hid (StQ gq (300 + k + 1) W5) := Lib.hid (StQ.kept (W := W4) ⟨a4, c4, l4, now4, dl4, nx4, HQ4.out, HI4.out, HCC4.out.1, HCC4.out.2, HCK4.out, HLN4.out⟩ hb)
              clear hb
              have kk : ((0 : Int) != 0) = false := rfl
              have x3 : (k : Int) < 1000 := by have := HX1.out; have := HRL.out; omega
              go_wp2
              cases gk with
              | zero => exact absurd HKK.out (by have := HX1.out; omega)
              | succ gg =>
                go_roundg gg
                case rel => exact ⟨k + 1, by first | rfl | (simp; done) | go_num, by have := HKK.out; omega, HB5.out, HST5.out⟩
                case measure => omega
end Go.Proofs.Ytchboknncfmcpaa
