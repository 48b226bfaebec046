/-
  Parts are what they are parts of: bits, one by one.
-/
import Derived.Test.YtemolkkpigkanaaZ
import Derived.Laws.Rows
import Derived.Laws.AppendOwn
namespace Go.Proofs.Ytemolkkpigkanaa
open Go Go.RowKit

section
variable {W h l : Int} {A B Q : BitVec 64}
/-- What is set. -/
def setv (W h l : Int) (A B : BitVec 64) : BitVec 64 := (A &&& ~~~(msk (h - l + 1) <<< l.toNat) ||| B <<< l.toNat) &&& msk W
theorem ok_setv (w1 : 1 ≤ W) (w2 : W ≤ 64) : ok W (setv W h l A B) = true := ok_masked w1 w2 _
theorem e_set (a : ok W A = true) (l0 : 0 ≤ l) (lh : l ≤ h) (hW : h < W) (b : ok (h - l + 1) B = true) : sSet W A h l (h - l + 1) B = (W, setv W h l A B, 0) := by
  have hw : wth W h l = true := by unfold wth; simp; omega
  simp [sSet, a, b, hw, some', setv]
theorem set_bit (a : ok W A = true) (l0 : 0 ≤ l) (lh : l ≤ h) (hW : h < W) (b : ok (h - l + 1) B = true) (i : Nat) (hi : i < 64) :
    (setv W h l A B).getLsbD i = if i < l.toNat then A.getLsbD i else if i ≤ h.toNat then B.getLsbD (i - l.toNat) else A.getLsbD i := by
  obtain ⟨w1, w2, _⟩ := (ok_iff _ _).1 a
  unfold setv
  rw [BitVec.getLsbD_and, BitVec.getLsbD_or, BitVec.getLsbD_and, BitVec.getLsbD_not, BitVec.getLsbD_shiftLeft, BitVec.getLsbD_shiftLeft, msk_bit w1 w2, msk_bit (by omega) (by omega)]
  have e : (h - l + 1).toNat = h.toNat - l.toNat + 1 := by omega
  have bo : ∀ j, h.toNat - l.toNat + 1 ≤ j → B.getLsbD j = false := fun j hj => bit_ok b (by omega)
  have ao : ∀ j, W.toNat ≤ j → A.getLsbD j = false := fun j hj => bit_ok a hj
  rw [e]
  by_cases c1 : i < l.toNat
  · have c2 : i < W.toNat := by omega
    simp [c1, c2, hi]
  · by_cases c2 : i ≤ h.toNat
    · have c3 : i < W.toNat := by omega
      have c4 : i - l.toNat < h.toNat - l.toNat + 1 := by omega
      simp [c1, c2, c3, c4, hi]
    · have c4 : ¬ i - l.toNat < h.toNat - l.toNat + 1 := by omega
      rw [bo _ (by omega)]
      by_cases c3 : i < W.toNat
      · simp [c1, c2, c3, c4, hi]
      · rw [ao _ (by omega)]
        simp [c1, c2, c3, c4, hi]
theorem e_look (a : ok W A = true) (l0 : 0 ≤ l) (lh : l ≤ h) (hW : h < W) (b : ok (h - l + 1) B = true) : sSlice W (setv W h l A B) h l = (h - l + 1, B, 0) := by
  obtain ⟨w1, w2, _⟩ := (ok_iff _ _).1 a
  have hw : wth W h l = true := by unfold wth; simp; omega
  have key : (setv W h l A B >>> l.toNat) &&& msk (h - l + 1) = B := by
    apply BitVec.eq_of_getLsbD_eq
    intro i hi
    rw [BitVec.getLsbD_and, BitVec.getLsbD_ushiftRight, msk_bit (by omega) (by omega)]
    by_cases c : i < (h - l + 1).toNat
    · rw [set_bit a l0 lh hW b _ (by omega), if_neg (by omega), if_pos (by omega), Nat.add_sub_cancel_left]
      simp [c]
    · rw [bit_ok b (by omega)]
      simp [c]
  simp [sSlice, ok_setv w1 w2, hw, some', key]
/-- The bits above. -/
def upper (W h : Int) (A : BitVec 64) : BitVec 64 := (A >>> (h + 1).toNat) &&& msk (W - h - 1)
def lower (l : Int) (A : BitVec 64) : BitVec 64 := A &&& msk l
theorem e_upper (a : ok W A = true) (h0 : 0 ≤ h) (hW : h + 1 < W) : sSlice W A (W - 1) (h + 1) = (W - h - 1, upper W h A, 0) := by
  have hw : wth W (W - 1) (h + 1) = true := by unfold wth; simp; omega
  have e : W - 1 - (h + 1) + 1 = W - h - 1 := by omega
  simp [sSlice, a, hw, some', e, upper]
theorem e_lower (a : ok W A = true) (l0 : 0 < l) (hW : l ≤ W) : sSlice W A (l - 1) 0 = (l, lower l A, 0) := by
  have hw : wth W (l - 1) 0 = true := by unfold wth; simp; omega
  simp [sSlice, a, hw, some', lower]
theorem ok_upper (h0 : h + 1 < W) (w2 : W ≤ 64) (hh : 0 ≤ h) : ok (W - h - 1) (upper W h A) = true := ok_masked (by omega) (by omega) _
theorem ok_lower (l0 : 0 < l) (l1 : l ≤ 64) : ok l (lower l A) = true := ok_masked (by omega) l1 _
theorem bit_upper (w2 : W ≤ 64) (hh : 0 ≤ h) (h0 : h + 1 < W) (i : Nat) : (upper W h A).getLsbD i = (A.getLsbD (h.toNat + 1 + i) && decide (i < W.toNat - h.toNat - 1)) := by
  unfold upper
  rw [BitVec.getLsbD_and, BitVec.getLsbD_ushiftRight, msk_bit (by omega) (by omega)]
  have e1 : (h + 1).toNat = h.toNat + 1 := by omega
  have e2 : (W - h - 1).toNat = W.toNat - h.toNat - 1 := by omega
  rw [e1, e2]
theorem bit_lower (l0 : 0 < l) (l1 : l ≤ 64) (i : Nat) : (lower l A).getLsbD i = (A.getLsbD i && decide (i < l.toNat)) := by
  unfold lower
  rw [BitVec.getLsbD_and, msk_bit (by omega) l1]
theorem cat_all (a : ok W A = true) (l0 : 0 < l) (lh : l ≤ h) (hW : h + 1 < W) (b : ok (h - l + 1) B = true) : sCat [(W - h - 1, upper W h A), (h - l + 1, B), (l, lower l A)] = (W, setv W h l A B, 0) := by
  obtain ⟨w1, w2, _⟩ := (ok_iff _ _).1 a
  have o1 := ok_upper (A := A) hW w2 (by omega)
  have o3 := ok_lower (A := A) l0 (by omega)
  have e : W - h - 1 + (h - l + 1) + l = W := by omega
  have key : ((upper W h A <<< (h - l + 1).toNat ||| B) <<< l.toNat ||| lower l A) = setv W h l A B := by
    apply BitVec.eq_of_getLsbD_eq
    intro i hi
    rw [set_bit a (by omega) lh (by omega) b i hi, BitVec.getLsbD_or, BitVec.getLsbD_shiftLeft, BitVec.getLsbD_or, BitVec.getLsbD_shiftLeft, bit_upper w2 (by omega) hW, bit_lower l0 (by omega)]
    have e2 : (h - l + 1).toNat = h.toNat - l.toNat + 1 := by omega
    have bo : ∀ j, h.toNat - l.toNat + 1 ≤ j → B.getLsbD j = false := fun j hj => bit_ok b (by omega)
    have ao : ∀ j, W.toNat ≤ j → A.getLsbD j = false := fun j hj => bit_ok a hj
    rw [e2]
    by_cases c1 : i < l.toNat
    · simp [c1, hi]
    · by_cases c2 : i ≤ h.toNat
      · have c4 : i - l.toNat < h.toNat - l.toNat + 1 := by omega
        simp [c1, c2, c4, hi]
      · have c4 : ¬ i - l.toNat < h.toNat - l.toNat + 1 := by omega
        rw [bo _ (by omega)]
        have e3 : h.toNat + 1 + (i - l.toNat - (h.toNat - l.toNat + 1)) = i := by omega
        rw [e3]
        by_cases c5 : i < W.toNat
        · have c6 : i - l.toNat - (h.toNat - l.toNat + 1) < W.toNat - h.toNat - 1 := by omega
          simp [c1, c2, c4, c6, hi]; intro _; omega
        · rw [ao i (by omega)]; simp [c1, c2]
  simp [sCat, allOk, wide, behind, o1, b, o3, some', e, key, show ¬ 64 < W by omega]
theorem cat_hi (a : ok W A = true) (l0 : l = 0) (lh : l ≤ h) (hW : h + 1 < W) (b : ok (h - l + 1) B = true) : sCat [(W - h - 1, upper W h A), (h - l + 1, B)] = (W, setv W h l A B, 0) := by
  obtain ⟨w1, w2, _⟩ := (ok_iff _ _).1 a
  have o1 := ok_upper (A := A) hW w2 (by omega)
  have e : W - h - 1 + (h - l + 1) = W := by omega
  have key : (upper W h A <<< (h - l + 1).toNat ||| B) = setv W h l A B := by
    apply BitVec.eq_of_getLsbD_eq
    intro i hi
    rw [set_bit a (by omega) lh (by omega) b i hi, BitVec.getLsbD_or, BitVec.getLsbD_shiftLeft, bit_upper w2 (by omega) hW]
    have e2 : (h - l + 1).toNat = h.toNat + 1 := by omega
    have bo : ∀ j, h.toNat + 1 ≤ j → B.getLsbD j = false := fun j hj => bit_ok b (by omega)
    have ao : ∀ j, W.toNat ≤ j → A.getLsbD j = false := fun j hj => bit_ok a hj
    rw [e2, if_neg (by omega)]
    have e4 : i - l.toNat = i := by omega
    rw [e4]
    by_cases c2 : i ≤ h.toNat
    · have c4 : i < h.toNat + 1 := by omega
      simp [c2, c4, hi]
    · have c4 : ¬ i < h.toNat + 1 := by omega
      rw [bo _ (by omega)]
      have e3 : h.toNat + 1 + (i - (h.toNat + 1)) = i := by omega
      rw [e3]
      by_cases c5 : i < W.toNat
      · have c6 : i - (h.toNat + 1) < W.toNat - h.toNat - 1 := by omega
        simp [c2, c4, c6, hi]
      · rw [ao i (by omega)]; simp [c2]
  simp [sCat, allOk, wide, behind, o1, b, some', e, key, show ¬ 64 < W by omega]
theorem cat_lo (a : ok W A = true) (l0 : 0 < l) (lh : l ≤ h) (hW : W = h + 1) (b : ok (h - l + 1) B = true) : sCat [(h - l + 1, B), (l, lower l A)] = (W, setv W h l A B, 0) := by
  obtain ⟨w1, w2, _⟩ := (ok_iff _ _).1 a
  have o3 := ok_lower (A := A) l0 (by omega)
  have e : h - l + 1 + l = W := by omega
  have key : (B <<< l.toNat ||| lower l A) = setv W h l A B := by
    apply BitVec.eq_of_getLsbD_eq
    intro i hi
    rw [set_bit a (by omega) lh (by omega) b i hi, BitVec.getLsbD_or, BitVec.getLsbD_shiftLeft, bit_lower l0 (by omega)]
    have bo : ∀ j, h.toNat - l.toNat + 1 ≤ j → B.getLsbD j = false := fun j hj => bit_ok b (by omega)
    have ao : ∀ j, W.toNat ≤ j → A.getLsbD j = false := fun j hj => bit_ok a hj
    by_cases c1 : i < l.toNat
    · simp [c1, hi]
    · by_cases c2 : i ≤ h.toNat
      · simp [c1, c2, hi]
      · rw [bo _ (by omega), ao i (by omega)]
        simp [c1, c2]
  simp [sCat, allOk, wide, behind, b, o3, some', e, key, show ¬ 64 < W by omega]
theorem cat_one (a : ok W A = true) (l0 : l = 0) (lh : l ≤ h) (hW : W = h + 1) (b : ok (h - l + 1) B = true) : sCat [(h - l + 1, B)] = (W, setv W h l A B, 0) := by
  obtain ⟨w1, w2, _⟩ := (ok_iff _ _).1 a
  have e : h - l + 1 = W := by omega
  have key : B = setv W h l A B := by
    apply BitVec.eq_of_getLsbD_eq
    intro i hi
    rw [set_bit a (by omega) lh (by omega) b i hi, if_neg (by omega)]
    have ao : ∀ j, W.toNat ≤ j → A.getLsbD j = false := fun j hj => bit_ok a hj
    have bo : ∀ j, h.toNat - l.toNat + 1 ≤ j → B.getLsbD j = false := fun j hj => bit_ok b (by omega)
    have e4 : i - l.toNat = i := by omega
    rw [e4]
    by_cases c2 : i ≤ h.toNat
    · rw [if_pos c2]
    · rw [if_neg c2, bo _ (by omega), ao i (by omega)]
  rw [← key]
  rw [e] at b
  simp [sCat, allOk, wide, behind, b, some', e, show ¬ 64 < W by omega]
end

theorem own_below {w w' : World} {base e size n : Nat} {v : Value} {xs : List Value} (h : w.ownsRow base e size v n xs) (hb : Below w.heap.size w w') : w'.ownsRow base e size v n xs := by
  refine ⟨h.1, ?_⟩
  rcases h.2 with h0 | ⟨g, cap, cur, rfl, h1, h2, h3⟩
  · exact .inl h0
  · refine .inr ⟨g, cap, cur, rfl, h1, ?_, h3⟩
    have hlt : g < w.heap.size := by
      rcases Nat.lt_or_ge g w.heap.size with x | x
      · exact x
      · rw [Array.getElem?_eq_none x] at h2; cases h2
    rw [hb.block g hlt]; exact h2
theorem news2 (w : World) (x y : Value) (t : TypeId) (j : Nat) (v : Value) (h : [x, y][j]? = some v) : (w.alloc (.cells #[x, y] t)).cell? ((⟨w.heap.size, 0, none⟩ : Addr).add j) = some v := by
  match j, h with
  | 0, h => simp at h; subst h; simp [Addr.add]
  | 1, h => simp at h; subst h; simp [Addr.add]
  | j + 2, h => simp at h
theorem ones2 (k k' : IntKind) (x y : Int) : ∀ v ∈ [Value.int k x, Value.int k' y], v.oneCell' = true := by
  intro v hv
  simp only [List.mem_cons, List.not_mem_nil, or_false] at hv
  rcases hv with rfl | rfl <;> rfl
theorem own_new (w : World) (t : TypeId) : (w.alloc (.cells #[] t)).ownsRow w.heap.size t 2 (.slice (some ⟨w.heap.size, 0, none⟩) 0 0) 0 [] :=
  ⟨rfl, .inr ⟨_, 0, #[], rfl, Nat.le_refl _, heap_alloc_new w _, Nat.le_refl _, Nat.zero_le _, rfl, rfl⟩⟩
theorem below_grown {G : Nat} {w w' : World} {x : Obj} {v : Value} {e size n : Nat} {xs : List Value} (hown : (w.alloc x).ownsRow G e size v n xs) (hg : (w.alloc x).grownBy w' v.ownBlock) (hG : G ≤ w.heap.size) : Below G w w' :=
  (((Below.refl G w).alloc hG x).grown hg (by simp; omega) (fun k hk => (hown.lt k hk).1))
theorem low_cell {G : Nat} {w w' : World} (hb : Below G w w') {b o : Nat} {v : Value} (hl : b < G) (h : w.cell? ⟨b, o, none⟩ = some v) : w'.cell? ⟨b, o, none⟩ = some v := (hb.cell (p := ⟨b, o, none⟩) hl).trans h
theorem info_bits : (Try.prog.info? 24).map (fun i => (i.zero, i.size, i.bytes)) = some (some (.agg #[.int .i64 0, .int .u64 0]), 2, 16) := by kernel_rfl
end Go.Proofs.Ytemolkkpigkanaa
