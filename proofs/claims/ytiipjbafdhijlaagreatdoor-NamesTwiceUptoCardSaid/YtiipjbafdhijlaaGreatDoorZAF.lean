/-
  AsF, in one text.
-/
import Derived.Test.YtiipjbafdhijlaaGreatDoorZAE
namespace Go.Proofs.YtiipjbafdhijlaaGreatDoor
open Go Go.RowKit
set_option linter.unusedVariables false
set_option linter.unusedSimpArgs false
def mxD : List Nat → Nat
 | [] => 0
 | d :: r => max d (mxD r)
theorem mxD_app : ∀ a b : List Nat, mxD (a ++ b) = max (mxD a) (mxD b)
 | [], b => by simp [mxD]
 | d :: r, b => by simp [mxD, mxD_app r b, Nat.max_assoc]
theorem mx_join {k A B a b : Nat} (h : max k A = k + a) (g : max k B = k + b) : max k (max A B) = k + max a b := by omega
theorem mxD_gt (k : Nat) : ∀ ds : List Nat, (ds.any fun d => decide (k < d)) = decide (k < mxD ds)
 | [] => by simp [mxD]
 | d :: r => by
  rw [List.any_cons, mxD_gt k r, mxD]
  rw [Bool.eq_iff_iff]
  simp only [Bool.or_eq_true, decide_eq_true_eq]
  omega
theorem XT.dsL_sz_of (d : Nat) : ∀ l : List XT, (∀ x ∈ l, (x.ds d).length = x.sz) → (XT.dsL d l).length = XT.szL l
 | [], _ => rfl
 | x :: r, h => by have := h x (by simp); have := XT.dsL_sz_of d r (fun y hy => h y (by simp [hy])); simp [XT.dsL, XT.szL]; omega
theorem XT.mxL_of (d : Nat) : ∀ l : List XT, (∀ x ∈ l, mxD (x.ds (d + 1)) = d + x.dp) → max d (mxD (XT.dsL (d + 1) l)) = d + XT.dpL l
 | [], _ => by simp [XT.dsL, XT.dpL, mxD]
 | x :: r, h => by have h1 := h x (by simp); have h2 := XT.mxL_of d r (fun y hy => h y (by simp [hy])); simp only [XT.dsL, XT.dpL, mxD_app]; omega
theorem XT.ds_sz : ∀ (x : XT) (d : Nat), (x.ds d).length = x.sz := XT.ind fun op nm n wd v xa xc xl ih0 d => by
 have a0 := XT.dsL_sz_of (d + 1) xl (fun x hx => ih0 x hx (d + 1)); simp only [XT.ds, XT.sz, List.length_cons, List.length_append]; omega
theorem XT.mx_ds : ∀ (x : XT) (d : Nat), mxD (x.ds (d + 1)) = d + x.dp := XT.ind fun op nm xn wd v xa xc xl ih0 d => by
 have a0 := XT.mxL_of (d + 1) xl (fun x hx => ih0 x hx (d + 1)); simp only [XT.ds, XT.dp, mxD, mxD_app]; rw [a0]; omega
theorem XT.dsL_sz (d : Nat) (l : List XT) : (XT.dsL d l).length = XT.szL l := XT.dsL_sz_of d l (fun x _ => x.ds_sz d)
theorem XT.mxL (d : Nat) (l : List XT) : max d (mxD (XT.dsL (d + 1) l)) = d + XT.dpL l := XT.mxL_of d l (fun x _ => x.mx_ds d)
theorem XT.dp_pos : ∀ x : XT, 1 ≤ x.dp
 | .mk _ _ _ _ _ _ _ _ => by simp only [XT.dp]; omega
theorem ST.dsL_sz_of (d : Nat) : ∀ l : List ST, (∀ x ∈ l, (x.ds d).length = x.sz) → (ST.dsL d l).length = ST.szL l
 | [], _ => rfl
 | x :: r, h => by have := h x (by simp); have := ST.dsL_sz_of d r (fun y hy => h y (by simp [hy])); simp [ST.dsL, ST.szL]; omega
theorem ST.mxL_of (d : Nat) : ∀ l : List ST, (∀ x ∈ l, mxD (x.ds (d + 1)) = d + x.dp) → max d (mxD (ST.dsL (d + 1) l)) = d + ST.dpL l
 | [], _ => by simp [ST.dsL, ST.dpL, mxD]
 | x :: r, h => by have h1 := h x (by simp); have h2 := ST.mxL_of d r (fun y hy => h y (by simp [hy])); simp only [ST.dsL, ST.dpL, mxD_app]; omega
theorem ST.ds_sz : ∀ (x : ST) (d : Nat), (x.ds d).length = x.sz := ST.ind fun op nm xa xc xl sa sc sl ih0 d => by
 have a0 := XT.dsL_sz (d + 1) xl; have a1 := ST.dsL_sz_of (d + 1) sl (fun x hx => ih0 x hx (d + 1)); simp only [ST.ds, ST.sz, List.length_cons, List.length_append]; omega
theorem ST.mx_ds : ∀ (x : ST) (d : Nat), mxD (x.ds (d + 1)) = d + x.dp := ST.ind fun op nm xa xc xl sa sc sl ih0 d => by
 have a0 := XT.mxL (d + 1) xl; have a1 := ST.mxL_of (d + 1) sl (fun x hx => ih0 x hx (d + 1)); simp only [ST.ds, ST.dp, mxD, mxD_app]; rw [(mx_join a0 a1)]; omega
theorem ST.dsL_sz (d : Nat) (l : List ST) : (ST.dsL d l).length = ST.szL l := ST.dsL_sz_of d l (fun x _ => x.ds_sz d)
theorem ST.mxL (d : Nat) (l : List ST) : max d (mxD (ST.dsL (d + 1) l)) = d + ST.dpL l := ST.mxL_of d l (fun x _ => x.mx_ds d)
theorem ST.dp_pos : ∀ x : ST, 1 ≤ x.dp
 | .mk _ _ _ _ _ _ _ _ => by simp only [ST.dp]; omega
theorem BT.dsL_sz_of (d : Nat) : ∀ l : List BT, (∀ x ∈ l, (x.ds d).length = x.sz) → (BT.dsL d l).length = BT.szL l
 | [], _ => rfl
 | x :: r, h => by have := h x (by simp); have := BT.dsL_sz_of d r (fun y hy => h y (by simp [hy])); simp [BT.dsL, BT.szL]; omega
theorem BT.mxL_of (d : Nat) : ∀ l : List BT, (∀ x ∈ l, mxD (x.ds (d + 1)) = d + x.dp) → max d (mxD (BT.dsL (d + 1) l)) = d + BT.dpL l
 | [], _ => by simp [BT.dsL, BT.dpL, mxD]
 | x :: r, h => by have h1 := h x (by simp); have h2 := BT.mxL_of d r (fun y hy => h y (by simp [hy])); simp only [BT.dsL, BT.dpL, mxD_app]; omega
theorem BT.ds_sz (x : BT) (d : Nat) : (x.ds d).length = x.sz := by have := x.x.ds_sz (d + 1); simp [BT.ds, BT.sz]; omega
theorem BT.mx_ds (x : BT) (d : Nat) : mxD (x.ds (d + 1)) = d + x.dp := by have := x.x.mx_ds (d + 1); have := x.x.dp_pos; simp only [BT.ds, BT.dp, mxD]; omega
theorem BT.dsL_sz (d : Nat) (l : List BT) : (BT.dsL d l).length = BT.szL l := BT.dsL_sz_of d l (fun x _ => x.ds_sz d)
theorem BT.mxL (d : Nat) (l : List BT) : max d (mxD (BT.dsL (d + 1) l)) = d + BT.dpL l := BT.mxL_of d l (fun x _ => x.mx_ds d)
theorem BT.dp_pos (x : BT) : 1 ≤ x.dp := by simp only [BT.dp]; omega
theorem PT.dsL_sz_of (d : Nat) : ∀ l : List PT, (∀ x ∈ l, (x.ds d).length = x.sz) → (PT.dsL d l).length = PT.szL l
 | [], _ => rfl
 | x :: r, h => by have := h x (by simp); have := PT.dsL_sz_of d r (fun y hy => h y (by simp [hy])); simp [PT.dsL, PT.szL]; omega
theorem PT.mxL_of (d : Nat) : ∀ l : List PT, (∀ x ∈ l, mxD (x.ds (d + 1)) = d + x.dp) → max d (mxD (PT.dsL (d + 1) l)) = d + PT.dpL l
 | [], _ => by simp [PT.dsL, PT.dpL, mxD]
 | x :: r, h => by have h1 := h x (by simp); have h2 := PT.mxL_of d r (fun y hy => h y (by simp [hy])); simp only [PT.dsL, PT.dpL, mxD_app]; omega
theorem PT.ds_sz (x : PT) (d : Nat) : (x.ds d).length = x.sz := by have := x.x.ds_sz (d + 1); simp [PT.ds, PT.sz]; omega
theorem PT.mx_ds (x : PT) (d : Nat) : mxD (x.ds (d + 1)) = d + x.dp := by have := x.x.mx_ds (d + 1); have := x.x.dp_pos; simp only [PT.ds, PT.dp, mxD]; omega
theorem PT.dsL_sz (d : Nat) (l : List PT) : (PT.dsL d l).length = PT.szL l := PT.dsL_sz_of d l (fun x _ => x.ds_sz d)
theorem PT.mxL (d : Nat) (l : List PT) : max d (mxD (PT.dsL (d + 1) l)) = d + PT.dpL l := PT.mxL_of d l (fun x _ => x.mx_ds d)
theorem PT.dp_pos (x : PT) : 1 ≤ x.dp := by simp only [PT.dp]; omega
theorem IT.dsL_sz_of (d : Nat) : ∀ l : List IT, (∀ x ∈ l, (x.ds d).length = x.sz) → (IT.dsL d l).length = IT.szL l
 | [], _ => rfl
 | x :: r, h => by have := h x (by simp); have := IT.dsL_sz_of d r (fun y hy => h y (by simp [hy])); simp [IT.dsL, IT.szL]; omega
theorem IT.mxL_of (d : Nat) : ∀ l : List IT, (∀ x ∈ l, mxD (x.ds (d + 1)) = d + x.dp) → max d (mxD (IT.dsL (d + 1) l)) = d + IT.dpL l
 | [], _ => by simp [IT.dsL, IT.dpL, mxD]
 | x :: r, h => by have h1 := h x (by simp); have h2 := IT.mxL_of d r (fun y hy => h y (by simp [hy])); simp only [IT.dsL, IT.dpL, mxD_app]; omega
theorem IT.ds_sz : ∀ (x : IT) (d : Nat), (x.ds d).length = x.sz := IT.ind fun op nm nf xa xc xl sa sc sl la lc ll ea ec el pa pc pl ba bc bl ih0 ih1 d => by
 have a0 := XT.dsL_sz (d + 1) xl; have a1 := ST.dsL_sz (d + 1) sl; have a2 := IT.dsL_sz_of (d + 1) ll (fun x hx => ih0 x hx (d + 1)); have a3 := IT.dsL_sz_of (d + 1) el (fun x hx => ih1 x hx (d + 1)); have a4 := BT.dsL_sz (d + 1) pl; have a5 := BT.dsL_sz (d + 1) bl; simp only [IT.ds, IT.sz, List.length_cons, List.length_append]; omega
theorem IT.mx_ds : ∀ (x : IT) (d : Nat), mxD (x.ds (d + 1)) = d + x.dp := IT.ind fun op nm nf xa xc xl sa sc sl la lc ll ea ec el pa pc pl ba bc bl ih0 ih1 d => by
 have a0 := XT.mxL (d + 1) xl; have a1 := ST.mxL (d + 1) sl; have a2 := IT.mxL_of (d + 1) ll (fun x hx => ih0 x hx (d + 1)); have a3 := IT.mxL_of (d + 1) el (fun x hx => ih1 x hx (d + 1)); have a4 := BT.mxL (d + 1) pl; have a5 := BT.mxL (d + 1) bl; simp only [IT.ds, IT.dp, mxD, mxD_app]; rw [(mx_join a0 (mx_join a1 (mx_join a2 (mx_join a3 (mx_join a4 a5)))))]; omega
theorem IT.dsL_sz (d : Nat) (l : List IT) : (IT.dsL d l).length = IT.szL l := IT.dsL_sz_of d l (fun x _ => x.ds_sz d)
theorem IT.mxL (d : Nat) (l : List IT) : max d (mxD (IT.dsL (d + 1) l)) = d + IT.dpL l := IT.mxL_of d l (fun x _ => x.mx_ds d)
theorem IT.dp_pos : ∀ x : IT, 1 ≤ x.dp
 | .mk _ _ _ _ _ _ _ _ _ _ _ _ _ _ _ _ _ _ _ _ _ => by simp only [IT.dp]; omega
theorem MT.dsL_sz_of (d : Nat) : ∀ l : List MT, (∀ x ∈ l, (x.ds d).length = x.sz) → (MT.dsL d l).length = MT.szL l
 | [], _ => rfl
 | x :: r, h => by have := h x (by simp); have := MT.dsL_sz_of d r (fun y hy => h y (by simp [hy])); simp [MT.dsL, MT.szL]; omega
theorem MT.mxL_of (d : Nat) : ∀ l : List MT, (∀ x ∈ l, mxD (x.ds (d + 1)) = d + x.dp) → max d (mxD (MT.dsL (d + 1) l)) = d + MT.dpL l
 | [], _ => by simp [MT.dsL, MT.dpL, mxD]
 | x :: r, h => by have h1 := h x (by simp); have h2 := MT.mxL_of d r (fun y hy => h y (by simp [hy])); simp only [MT.dsL, MT.dpL, mxD_app]; omega
theorem MT.ds_sz (x : MT) (d : Nat) : (x.ds d).length = x.sz := by
 have a0 := BT.dsL_sz (d + 1) x.pl; have a1 := PT.dsL_sz (d + 1) x.tl; have a2 := IT.dsL_sz (d + 1) x.il; simp only [MT.ds, MT.sz, List.length_cons, List.length_append]; omega
theorem MT.mx_ds (x : MT) (d : Nat) : mxD (x.ds (d + 1)) = d + x.dp := by
 have a0 := BT.mxL (d + 1) x.pl; have a1 := PT.mxL (d + 1) x.tl; have a2 := IT.mxL (d + 1) x.il; simp only [MT.ds, MT.dp, mxD, mxD_app]; rw [(mx_join a0 (mx_join a1 a2))]; omega
theorem MT.dsL_sz (d : Nat) (l : List MT) : (MT.dsL d l).length = MT.szL l := MT.dsL_sz_of d l (fun x _ => x.ds_sz d)
theorem MT.mxL (d : Nat) (l : List MT) : max d (mxD (MT.dsL (d + 1) l)) = d + MT.dpL l := MT.mxL_of d l (fun x _ => x.mx_ds d)
theorem MT.dp_pos (x : MT) : 1 ≤ x.dp := by simp only [MT.dp]; omega
theorem FT.ds_sz (x : FT) (d : Nat) : (x.ds d).length = x.sz := MT.dsL_sz d x.ml
theorem FT.mx_ds (x : FT) : mxD (x.ds 1) = x.dp := by have := MT.mxL 0 x.ml; simp only [Nat.zero_add] at this; simp only [FT.ds, FT.dp]; omega
/-- More nodes than may be, or one too deep. -/
def greatB (ds : List Nat) : Bool := decide (65536 < ds.length) || ds.any fun d => decide (64 < d)
theorem great_x (x : XT) : greatB (x.ds 1) = (decide (65536 < x.sz) || decide (64 < x.dp)) := by unfold greatB; rw [x.ds_sz, mxD_gt, show mxD (x.ds 1) = x.dp by have := x.mx_ds 0; simpa using this]
theorem great_s (x : ST) : greatB (x.ds 1) = (decide (65536 < x.sz) || decide (64 < x.dp)) := by unfold greatB; rw [x.ds_sz, mxD_gt, show mxD (x.ds 1) = x.dp by have := x.mx_ds 0; simpa using this]
theorem great_f (x : FT) : greatB (x.ds 1) = (decide (65536 < x.sz) || decide (64 < x.dp)) := by unfold greatB; rw [x.ds_sz, mxD_gt, x.mx_ds]
end Go.Proofs.YtiipjbafdhijlaaGreatDoor
