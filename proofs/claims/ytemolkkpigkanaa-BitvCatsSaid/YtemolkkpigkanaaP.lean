/-
  Contract of the reference's Cat.
-/
import Derived.Test.YtemolkkpigkanaaT
namespace Go.Proofs.Ytemolkkpigkanaa
open Go Go.RowKit

theorem refcheck_ok (W : Int) (V : BitVec 64) (h : ok W V = true) (w : World) : Calls Try.prog 17 #[.agg #[.int .i64 W, .int .u64 (u V)]] w fun e w' => e = .returned (.int .i64 0) ∧ Below w.heap.size w w' := by
  have := ref_check W V w
  rw [h] at this; exact this
theorem refcheck_bad (W : Int) (V : BitVec 64) (h : ok W V = false) (w : World) : Calls Try.prog 17 #[.agg #[.int .i64 W, .int .u64 (u V)]] w fun e w' => e = .returned (.int .i64 1) ∧ Below w.heap.size w w' := by
  have := ref_check W V w
  rw [h] at this; exact this
theorem refup_is (x : BitVec 64) (W : Int) (h : 0 ≤ W) (h' : W ≤ 64) (w : World) : Calls Try.prog 44 #[.int .u64 (u x), .int .u64 W] w fun e w' => e = .returned (.int .u64 (u (x <<< W.toNat))) ∧ w = w' := by
  have e1 : W = u (BitVec.ofInt 64 W) := by rw [u_ofInt]; omega
  have e2 : (BitVec.ofInt 64 W).toNat = W.toNat := by have := e1; unfold u at this; omega
  have := ref_up x (BitVec.ofInt 64 W) w
  rw [e2, ← e1] at this; exact this
theorem wide_pos {l : List (Int × BitVec 64)} (h : allOk l = true) (hn : 0 < l.length) : 1 ≤ wide l := by
  obtain ⟨W, V, hv⟩ : ∃ W V, l[0]? = some (W, V) := ⟨l[0].1, l[0].2, by rw [List.getElem?_eq_getElem hn]⟩
  have h0 := ok_range (allOk_at h hv)
  have e := wide_bound (l := l) h
  have key : ∀ k, 0 < k → k ≤ l.length → 1 ≤ wide (l.take k) := by
    intro k hk hk'
    induction k with
    | zero => omega
    | succ k ih =>
      obtain ⟨W', V', hv'⟩ : ∃ W V, l[k]? = some (W, V) := ⟨l[k].1, l[k].2, by rw [List.getElem?_eq_getElem (by omega)]⟩
      rw [wide_take hv']
      have h1 := ok_range (allOk_at h hv')
      have h2 := (e k (by omega)).1
      omega
  have := key l.length hn (Nat.le_refl _)
  rwa [List.take_length] at this
theorem wide_take_bound {l : List (Int × BitVec 64)} {k : Nat} (h : allOk (l.take k) = true) (hk : k ≤ l.length) : 0 ≤ wide (l.take k) ∧ wide (l.take k) ≤ 64 * k := by
  have := wide_bound h k (by rw [List.length_take]; omega)
  rw [List.take_take, Nat.min_self] at this
  exact ⟨this.1, this.2.1⟩

set_option maxHeartbeats 1000000 in
theorem refcat_none (a : Option Addr) (cap : Nat) (w : World) : Calls Try.prog 23 #[.slice a 0 cap] w fun e w' => e = rv bad ∧ Below w.heap.size w w' := by
  go_enter Try.func23, Try.ntmps23
  go_wp2
  go_loop [4, 5] (fun s i => s = .int .i64 0 ∧ i = .int .i64 0) (fun _ _ => 0)
  case atStart => exact ⟨rfl, rfl⟩
  case round =>
    obtain ⟨rfl, rfl⟩ := hrel
    go_wp2
    refine bodyPost_ret (v := .tuple #[.agg #[.int .i64 0, .int .u64 0], .int .i64 1]) (by simp [results, Try.results23, go_sem, *]) rfl ⟨rfl, ?_⟩
    repeat (first | exact Below.refl _ _ | (refine Below.setCell ?_ (by first | (simp; done) | (simp; omega) | omega) _) | (refine Below.alloc ?_ (by first | (simp; done) | (simp; omega) | omega) _))

set_option maxHeartbeats 2000000 in
theorem refcat_any (w : World) (l : List (Int × BitVec 64)) (b off cap : Nat) (hl : l.length ≤ 200) (hne : 0 < l.length) (hrow : Row w b off l) (hbl : b < w.heap.size) : Calls Try.prog 23 #[.slice (some ⟨b, off, none⟩) l.length cap] w fun e w' => e = rv (sCat l) ∧ Below w.heap.size w w' := by
  have hn : l ≠ [] := by intro e; subst e; simp at hne
  go_enter Try.func23, Try.ntmps23
  go_wp2
  go_loopw [4, 5] (fun s i wr => ∃ k : Nat, k ≤ l.length ∧ i = .int .i64 k ∧ s = .int .i64 (wide (l.take k)) ∧ allOk (l.take k) = true ∧ wr.cell? ⟨w.heap.size, 0, none⟩ = some (.int .i64 0) ∧ wr.cell? ⟨w.heap.size, 1, none⟩ = some (.int .u64 0) ∧ wr.frozen? ⟨w.heap.size, 0, none⟩ = false ∧ wr.frozen? ⟨w.heap.size, 1, none⟩ = false ∧ w.heap.size + 1 ≤ wr.heap.size ∧ Below w.heap.size w wr) (fun _ i _ => l.length - (intOf i).toNat)
  case atStart => exact ⟨0, Nat.zero_le _, rfl, rfl, rfl, by go_simp, by go_simp, by go_simp, by go_simp, by simp, (Below.refl _ _).alloc (Nat.le_refl _) _⟩
  case round =>
    obtain ⟨k, hk, rfl, rfl, hok, a0, a1, f0, f1, hz0, hb0⟩ := hrel
    obtain ⟨n0, n1⟩ := wide_take_bound hok hk
    by_cases hlt : k < l.length
    · obtain ⟨W, V, hv⟩ : ∃ W V, l[k]? = some (W, V) := ⟨l[k].1, l[k].2, by rw [List.getElem?_eq_getElem hlt]⟩
      obtain ⟨h0, h1, hw⟩ := hrow k W V hv
      have c0 : wr.cell? ⟨b, off + k * 2, none⟩ = some (.int .i64 W) := by rw [hb0.cell hbl]; exact h0
      have c1 : wr.cell? ⟨b, off + k * 2 + 1, none⟩ = some (.int .u64 (u V)) := by rw [hb0.cell hbl]; exact h1
      have HT := allOk_take hv
      rw [hok, Bool.true_and] at HT
      have HS := Lib.hid (wide_take hv)
      by_cases hoo : ok W V = true
      · rw [hoo] at HT
        have HO := Lib.hid HT
        have hr := ok_range hoo
        have q1 := hr.1
        have q2 := hr.2.1
        have HOO := Lib.hid hoo
        clear h0 h1 hv hrow hok hr hw HT hoo
        generalize wide (l.take k) = acc at *
        go_wp2_with (go_at_call 17; refine (refcheck_ok _ _ HOO.out _).mono ?_; rintro e w' ⟨rfl, hb⟩; have d0 := keep_cell hb c0; have d1 := keep_cell hb c1; have e0 := keep_cell hb a0; have e1 := keep_cell hb a1; have g0 := keep_frozen hb (lt_of_cell' a0) f0; have g1 := keep_frozen hb (lt_of_cell' a1) f1)
        go_roundw
        case rel => exact ⟨k + 1, by omega, by go_num, by rw [HS.out], HO.out, e0, e1, g0, g1, Nat.le_trans hz0 hb.size, hb0.trans (hb.mono hb0.size)⟩
        case measure => simp [intOf]; omega
      · have hoo' : ok W V = false := by simpa using hoo
        have hbad : allOk l = false := by
          cases e : allOk l with
          | false => rfl
          | true => rw [allOk_at e hv] at hoo'; cases hoo'
        have HE : Hid (sCat l = bad) := Lib.hid (by unfold sCat; rw [if_neg hn, if_pos hbad])
        have HOO := Lib.hid hoo'
        clear h0 h1 hv hrow hok hw HT hoo hoo' HS hbad
        generalize wide (l.take k) = acc at *
        go_wp2_with (go_at_call 17; refine (refcheck_bad _ _ HOO.out _).mono ?_; rintro e w' ⟨rfl, hb⟩; have d0 := keep_cell hb c0; have d1 := keep_cell hb c1; have e0 := keep_cell hb a0; have e1 := keep_cell hb a1; have g0 := keep_frozen hb (lt_of_cell' a0) f0; have g1 := keep_frozen hb (lt_of_cell' a1) f1)
        refine bodyPost_ret (v := .tuple #[.agg #[.int .i64 0, .int .u64 0], .int .i64 1]) (by simp [results, Try.results23, go_sem, *]) rfl ⟨by rw [HE.out]; rfl, ?_⟩
        exact ((hb0.trans (hb.mono hb0.size)).setCell (by simp) _).setCell (by simp) _
    · obtain rfl : k = l.length := by omega
      rw [List.take_length] at hok n0 n1
      have hp := wide_pos hok hne
      rw [List.take_length]
      by_cases h64 : 64 < wide l
      · have HE : Hid (sCat l = tooWide) := Lib.hid (by unfold sCat; rw [if_neg hn, if_neg (by rw [hok]; decide), if_pos h64])
        clear hrow hok
        generalize wide l = acc at *
        have hd : (acc == 0) = false := by rw [beq_eq_false_iff_ne]; omega
        go_wp2
        refine bodyPost_ret (v := .tuple #[.agg #[.int .i64 0, .int .u64 0], .int .i64 2]) (by simp [results, Try.results23, go_sem, *]) rfl ⟨by rw [HE.out]; rfl, ?_⟩
        exact (hb0.setCell (by simp) _).setCell (by simp) _
      · have HE : Hid (sCat l = some' (wide l) (behind l).2) := Lib.hid (by
          have := (wide_bound hok l.length (Nat.le_refl _)).2.2
          rw [List.take_length] at this
          unfold sCat; rw [if_neg hn, if_neg (by rw [hok]; decide), if_neg h64, this])
        have hd : (wide l == 0) = false := by rw [beq_eq_false_iff_ne]; omega
        have HOK := Lib.hid hok
        have hlo : wide l ≤ 64 := by omega
        clear hok h64
        have hnd : decide (64 < wide l) = false := by simpa using hlo
        generalize wide l = acc at *
        go_wp2
        obtain ⟨wo, rfl⟩ : ∃ wo : World, wo = wr := ⟨_, rfl⟩
        go_loopw [6, 7] (fun s i wr => ∃ k : Nat, k ≤ l.length ∧ i = .int .i64 k ∧ s = .int .u64 (u (behind (l.take k)).2) ∧ wr.cell? ⟨w.heap.size, 0, none⟩ = some (.int .i64 0) ∧ wr.cell? ⟨w.heap.size, 1, none⟩ = some (.int .u64 0) ∧ wr.frozen? ⟨w.heap.size, 0, none⟩ = false ∧ wr.frozen? ⟨w.heap.size, 1, none⟩ = false ∧ w.heap.size + 1 ≤ wr.heap.size ∧ Below w.heap.size w wr) (fun _ i _ => l.length - (intOf i).toNat)
        case atStart => exact ⟨0, Nat.zero_le _, rfl, rfl, a0, a1, f0, f1, hz0, hb0⟩
        case round =>
          obtain ⟨k, hk, rfl, rfl, a0, a1, f0, f1, hz0, hb0⟩ := hrel
          by_cases hlt : k < l.length
          · obtain ⟨W, V, hv⟩ : ∃ W V, l[k]? = some (W, V) := ⟨l[k].1, l[k].2, by rw [List.getElem?_eq_getElem hlt]⟩
            obtain ⟨h0, h1, hw⟩ := hrow k W V hv
            have c0 : wr.cell? ⟨b, off + k * 2, none⟩ = some (.int .i64 W) := by rw [hb0.cell hbl]; exact h0
            have c1 : wr.cell? ⟨b, off + k * 2 + 1, none⟩ = some (.int .u64 (u V)) := by rw [hb0.cell hbl]; exact h1
            have HS := Lib.hid (behind_take hv)
            have hr := ok_range (allOk_at HOK.out hv)
            have q1 := hr.1
            have q2 := hr.2.1
            have q3 : IntKind.u64.wrap W = W := by rw [IntKind.wrap_u64]; omega
            clear h0 h1 hv hrow hr hw
            generalize (behind (l.take k)).1 = bw at *
            generalize hB2 : (behind (l.take k)).2 = bv at *
            clear hB2
            go_wp2
            go_quiet ((go_at_call 44; exact quiet_eq (refup_is _ _ (by omega) (by omega) _)))
            go_wp2
            go_roundw
            case rel => exact ⟨k + 1, by omega, by go_num, by rw [HS.out], a0, a1, f0, f1, hz0, below_drewN hb0 _⟩
            case measure => simp [intOf]; omega
          · obtain rfl : k = l.length := by omega
            rw [List.take_length]
            generalize (behind l).2 = bv at *
            go_wp2
            refine bodyPost_ret (v := .tuple #[.agg #[.int .i64 acc, .int .u64 (u bv)], .int .i64 0]) (by simp [results, Try.results23, go_sem, *]) rfl ⟨by rw [HE.out]; rfl, ?_⟩
            exact (hb0.setCell (by simp) _).setCell (by simp) _
end Go.Proofs.Ytemolkkpigkanaa
