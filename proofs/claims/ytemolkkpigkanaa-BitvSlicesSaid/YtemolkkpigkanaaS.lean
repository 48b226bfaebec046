/-
  What the calls of layer 1 tell, as plain functions on 64-bit words. No program.
-/
import Derived.Test.YtemolkkpigkanaaU
namespace Go.Proofs.Ytemolkkpigkanaa
open Go

/-- What a number of w bits may be at most. -/
def msk (w : Int) : BitVec 64 := if w < 1 then 0 else if 63 < w then BitVec.allOnes 64 else (1#64 <<< w.toNat) - 1
theorem msk_low {n : Int} (h : n < 1) : msk n = 0 := by unfold msk; rw [if_pos h]
theorem msk_mid {n : Int} (h : 1 ≤ n) (h' : n ≤ 63) : msk n = pw n.toNat - 1 := by unfold msk pw; rw [if_neg (by omega), if_neg (by omega)]
theorem msk_high {n : Int} (h : 63 < n) : msk n = BitVec.allOnes 64 := by unfold msk; rw [if_neg (by omega), if_pos h]
theorem msk_pw {n : Int} (h : 1 ≤ n) (h' : n ≤ 64) : msk n = pw n.toNat - 1 := by
  by_cases h2 : n ≤ 63
  · exact msk_mid h h2
  · obtain rfl : n = 64 := by omega
    decide
/-- One bit. -/
def b2u (b : Bool) : BitVec 64 := if b then 1#64 else 0#64
/-- May a value be? -/
def ok (W : Int) (V : BitVec 64) : Bool := decide (1 ≤ W) && decide (W ≤ 64) && decide (V ≤ msk W)
/-- A value, and an error. -/
abbrev R := Int × BitVec 64 × Int
def bad : R := (0, 0, 1)
def tooWide : R := (0, 0, 2)
def one (b : Bool) : R := (1, b2u b, 0)
def some' (W : Int) (V : BitVec 64) : R := (W, V, 0)
/-- Is an odd number of the lowest n bits 1? -/
def odds : Nat → BitVec 64 → Bool
  | 0, _ => false
  | n + 1, v => xor (odds n v) (v >>> n &&& 1#64 == 1#64)
def sUn (op W : Int) (V : BitVec 64) : R :=
  if ok W V = false then bad
  else if op = 1 then some' W (~~~V &&& msk W)
  else if op = 2 then some' W (-V &&& msk W)
  else if op = 3 then one (V == msk W)
  else if op = 4 then one (!(V == 0#64))
  else if op = 5 then one (odds 64 V)
  else if op = 6 ∧ W = 1 then one (V == 0#64)
  else bad
def sBin (op W : Int) (V : BitVec 64) (W' : Int) (V' : BitVec 64) : R :=
  if ok W V = false ∨ ok W' V' = false then bad
  else if op = 17 then some' W ((V <<< V'.toNat) &&& msk W)
  else if op = 18 then some' W ((V >>> V'.toNat) &&& msk W)
  else if W ≠ W' then bad
  else if op = 11 then some' W (V &&& V' &&& msk W)
  else if op = 12 then some' W ((V ||| V') &&& msk W)
  else if op = 13 then some' W ((V ^^^ V') &&& msk W)
  else if op = 14 then some' W ((V + V') &&& msk W)
  else if op = 15 then some' W ((V - V') &&& msk W)
  else if op = 16 then some' W ((V * V') &&& msk W)
  else if op = 19 then one (V == V')
  else if op = 20 then one (!(V == V'))
  else if op = 21 then one (decide (V < V'))
  else if op = 22 then one (decide (V ≤ V'))
  else if op = 23 then one (decide (V' < V))
  else if op = 24 then one (decide (V' ≤ V))
  else if W ≠ 1 then bad
  else if op = 25 then one (V &&& V' == 1#64)
  else if op = 26 then one (V ||| V' == 1#64)
  else bad
def sCond (Wc : Int) (Vc : BitVec 64) (W : Int) (V : BitVec 64) (W2 : Int) (V2 : BitVec 64) : R :=
  if (ok Wc Vc && (ok W V && ok W2 V2)) = false then bad
  else if Wc ≠ 1 then bad
  else if W ≠ W2 then bad
  else if Vc = 1#64 then some' W V else some' W2 V2
/-- All bits above those of a value, if its highest one is 1. -/
def sgn (W : Int) (V : BitVec 64) : BitVec 64 := if V >>> (W.toNat - 1) = 0#64 then 0#64 else ~~~ msk W
def sExt (op n W : Int) (V : BitVec 64) : R :=
  if ok W V = false then bad
  else if n < 1 then bad
  else if 64 < n then bad
  else if op = 31 ∧ W ≤ n then some' n (V &&& msk n)
  else if op = 32 ∧ W ≤ n then some' n ((V ||| sgn W V) &&& msk n)
  else if op = 33 ∧ n ≤ W then some' n (V &&& msk n)
  else bad
/-- Has a value the bits lo to hi? -/
def wth (W hi lo : Int) : Bool := decide (0 ≤ lo) && decide (lo ≤ hi) && decide (hi < W)
def sSlice (W : Int) (V : BitVec 64) (hi lo : Int) : R :=
  if ok W V = false then bad
  else if wth W hi lo = false then bad
  else some' (hi - lo + 1) ((V >>> lo.toNat) &&& msk (hi - lo + 1))
def sSet (W : Int) (V : BitVec 64) (hi lo W2 : Int) (V2 : BitVec 64) : R :=
  if (ok W V && ok W2 V2) = false then bad
  else if wth W hi lo = false then bad
  else if W2 ≠ hi - lo + 1 then bad
  else some' W ((V &&& ~~~(msk W2 <<< lo.toNat) ||| V2 <<< lo.toNat) &&& msk W)
/-- How many bits there are in all; all of them, one behind the other. -/
def wide (l : List (Int × BitVec 64)) : Int := l.foldl (fun s x => s + x.1) 0
def behind (l : List (Int × BitVec 64)) : Int × BitVec 64 := l.foldl (fun a x => (a.1 + x.1, (a.2 <<< x.1.toNat) ||| x.2)) (0, 0#64)
def allOk (l : List (Int × BitVec 64)) : Bool := l.all fun x => ok x.1 x.2
def sCat (l : List (Int × BitVec 64)) : R :=
  if l = [] then bad
  else if allOk l = false then bad
  else if 64 < wide l then tooWide
  else some' (behind l).1 (behind l).2
end Go.Proofs.Ytemolkkpigkanaa
