/-
  Are trees the same: SameX, SameS, Same, and what they are made of.
-/
import Derived.Test.YtlbjmnakiflfpaaGreatDoorKpAsS
namespace Go.Proofs.YtlbjmnakiflfpaaGreatDoor
open Go Go.RowKit
set_option linter.unusedVariables false
set_option linter.unusedSimpArgs false
open Go.Sort
mutual
def sameX : XT → XT → Bool
  | .mk op nm xn wd v _ _ xl, .mk op2 nm2 xn2 wd2 v2 _ _ xl2 => (op == op2) && ((nm == nm2) && ((xn == xn2) && ((wd == wd2) && (((v : Int) == (v2 : Int)) && (sameXL xl xl2)))))
def sameXL : List XT → List XT → Bool
  | [], [] => true
  | x :: r, y :: q => sameX x y && sameXL r q
  | [], _ :: _ => false
  | _ :: _, [] => false
end
theorem sameXL_eq : ∀ l m : List XT, sameXL l m = eqList sameX l m
  | [], [] => rfl
  | x :: r, y :: q => by rw [sameXL, sameXL_eq r q]; rfl
  | [], _ :: _ => rfl
  | _ :: _, [] => rfl
mutual
def sameS : ST → ST → Bool
  | .mk op nm _ _ xl _ _ sl, .mk op2 nm2 _ _ xl2 _ _ sl2 => (op == op2) && ((nm == nm2) && (eqList sameX xl xl2 && (sameSL sl sl2)))
def sameSL : List ST → List ST → Bool
  | [], [] => true
  | x :: r, y :: q => sameS x y && sameSL r q
  | [], _ :: _ => false
  | _ :: _, [] => false
end
theorem sameSL_eq : ∀ l m : List ST, sameSL l m = eqList sameS l m
  | [], [] => rfl
  | x :: r, y :: q => by rw [sameSL, sameSL_eq r q]; rfl
  | [], _ :: _ => rfl
  | _ :: _, [] => rfl
def sameB : BT → BT → Bool
  | ⟨bn, x⟩, ⟨bn2, x2⟩ => (bn == bn2) && (sameX x x2)
def sameP : PT → PT → Bool
  | ⟨bn, po, x⟩, ⟨bn2, po2, x2⟩ => (bn == bn2) && ((po == po2) && (sameX x x2))
mutual
def sameI : IT → IT → Bool
  | .mk op nm nf _ _ xl _ _ sl _ _ ll _ _ el _ _ pl _ _ bl, .mk op2 nm2 nf2 _ _ xl2 _ _ sl2 _ _ ll2 _ _ el2 _ _ pl2 _ _ bl2 => (op == op2) && ((nm == nm2) && ((nf == nf2) && (eqList sameX xl xl2 && (eqList sameS sl sl2 && (sameIL ll ll2 && (sameIL el el2 && (eqList sameB pl pl2 && (eqList sameB bl bl2))))))))
def sameIL : List IT → List IT → Bool
  | [], [] => true
  | x :: r, y :: q => sameI x y && sameIL r q
  | [], _ :: _ => false
  | _ :: _, [] => false
end
theorem sameIL_eq : ∀ l m : List IT, sameIL l m = eqList sameI l m
  | [], [] => rfl
  | x :: r, y :: q => by rw [sameIL, sameIL_eq r q]; rfl
  | [], _ :: _ => rfl
  | _ :: _, [] => rfl
def sameM : MT → MT → Bool
  | ⟨nm, _, _, pl, _, _, tl, _, _, il⟩, ⟨nm2, _, _, pl2, _, _, tl2, _, _, il2⟩ => (nm == nm2) && (eqList sameB pl pl2 && (eqList sameP tl tl2 && (eqList sameI il il2)))
theorem opn7 {w : World} {g : Nat} {v0 v1 v2 v3 v4 v5 v6 : Value} {t : TypeId} (h : w.heap[g]? = some (.cells #[v0, v1, v2, v3, v4, v5, v6] t (0, 0))) : w.cell? ⟨g, 0, none⟩ = some v0 ∧ w.cell? ⟨g, 1, none⟩ = some v1 ∧ w.cell? ⟨g, 2, none⟩ = some v2 ∧ w.cell? ⟨g, 3, none⟩ = some v3 ∧ w.cell? ⟨g, 4, none⟩ = some v4 ∧ w.cell? ⟨g, 5, none⟩ = some v5 ∧ w.cell? ⟨g, 6, none⟩ = some v6 := by
  simp [World.cell?, h]
theorem opn8 {w : World} {g : Nat} {v0 v1 v2 v3 v4 v5 v6 v7 : Value} {t : TypeId} (h : w.heap[g]? = some (.cells #[v0, v1, v2, v3, v4, v5, v6, v7] t (0, 0))) : w.cell? ⟨g, 0, none⟩ = some v0 ∧ w.cell? ⟨g, 1, none⟩ = some v1 ∧ w.cell? ⟨g, 2, none⟩ = some v2 ∧ w.cell? ⟨g, 3, none⟩ = some v3 ∧ w.cell? ⟨g, 4, none⟩ = some v4 ∧ w.cell? ⟨g, 5, none⟩ = some v5 ∧ w.cell? ⟨g, 6, none⟩ = some v6 ∧ w.cell? ⟨g, 7, none⟩ = some v7 := by
  simp [World.cell?, h]
theorem opn9 {w : World} {g : Nat} {v0 v1 v2 v3 v4 v5 v6 v7 v8 : Value} {t : TypeId} (h : w.heap[g]? = some (.cells #[v0, v1, v2, v3, v4, v5, v6, v7, v8] t (0, 0))) : w.cell? ⟨g, 0, none⟩ = some v0 ∧ w.cell? ⟨g, 1, none⟩ = some v1 ∧ w.cell? ⟨g, 2, none⟩ = some v2 ∧ w.cell? ⟨g, 3, none⟩ = some v3 ∧ w.cell? ⟨g, 4, none⟩ = some v4 ∧ w.cell? ⟨g, 5, none⟩ = some v5 ∧ w.cell? ⟨g, 6, none⟩ = some v6 ∧ w.cell? ⟨g, 7, none⟩ = some v7 ∧ w.cell? ⟨g, 8, none⟩ = some v8 := by
  simp [World.cell?, h]

end Go.Proofs.YtlbjmnakiflfpaaGreatDoor
