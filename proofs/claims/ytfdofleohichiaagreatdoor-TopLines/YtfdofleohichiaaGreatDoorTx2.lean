/-
  The line of an instruction, as a list of bytes.
-/
import Derived.Test.YtfdofleohichiaaGreatDoorTx1
import Derived.Test.YtfdofleohichiaaGreatDoorRmath2
namespace Go.Proofs.YtfdofleohichiaaGreatDoor.Tx
open Go.Proofs.YtfdofleohichiaaGreatDoor.Risc
set_option linter.unusedVariables false

def opNs : List (List UInt8) := [[77, 79, 86], [76, 83, 76], [65, 83, 82], [82, 79, 82], [65, 78, 68], [65, 78, 78], [73, 79, 82], [88, 79, 82], [65, 68, 68], [83, 85, 66], [77, 85, 76], [68, 73, 86]]
def cdNs : List (List UInt8) := [[77, 73], [69, 81], [67, 83], [86, 83], [76, 83], [76, 84], [76, 69], [84], [80, 76], [78, 69], [67, 67], [86, 67], [72, 73], [71, 69], [71, 84], [70]]
def nm (l : List (List UInt8)) (k : Int) : List UInt8 := l.getD k.toNat []
def mkU (u : Bool) : List UInt8 := if u = true then [39] else []
def mkV (v : Bool) : List UInt8 := if v = true then [34] else []
def memN (u v : Bool) : List UInt8 := (if u = true then [83, 84] else [76, 68]) ++ (if v = true then [66] else [82])
def bN (v : Bool) : List UInt8 := if v = true then [66, 76] else [66]
def lineI (f : Int) (u v : Bool) (a b c op im : Int) : List UInt8 :=
  if f = 0 then nm opNs op ++ (mkU u ++ mkV v) ++ [32] ++ regI a ++ [44, 32] ++ regI b ++ [44, 32] ++ regI c
  else if f = 1 then nm opNs op ++ (mkU u ++ mkV v) ++ [32] ++ regI a ++ [44, 32] ++ regI b ++ [44, 32] ++ decI im
  else if f = 2 then memN u v ++ [32] ++ regI a ++ [44, 32] ++ regI b ++ [44, 32] ++ decI im
  else bN v ++ ([46] ++ nm cdNs a ++ [32]) ++ (if u = true then decI im else regI c)
/- The line of a word that is an instruction. -/
def lineX (x : Int) : List UInt8 := lineI (uF x) (uU x) (uV x) (uA x) (uB x) (uC x) (uOp x) (uIm x)
theorem opNs_len (k : Int) : (nm opNs k).length ≤ 3 := by
  unfold nm
  by_cases h : k.toNat < 12
  · generalize k.toNat = n at h
    have : n = 0 ∨ n = 1 ∨ n = 2 ∨ n = 3 ∨ n = 4 ∨ n = 5 ∨ n = 6 ∨ n = 7 ∨ n = 8 ∨ n = 9 ∨ n = 10 ∨ n = 11 := by omega
    rcases this with h | h | h | h | h | h | h | h | h | h | h | h <;> subst h <;> decide
  · rw [List.getD_eq_getElem?_getD, List.getElem?_eq_none (by simp [opNs]; omega)]; decide
theorem cdNs_len (k : Int) : (nm cdNs k).length ≤ 2 := by
  unfold nm
  by_cases h : k.toNat < 16
  · generalize k.toNat = n at h
    have : n = 0 ∨ n = 1 ∨ n = 2 ∨ n = 3 ∨ n = 4 ∨ n = 5 ∨ n = 6 ∨ n = 7 ∨ n = 8 ∨ n = 9 ∨ n = 10 ∨ n = 11 ∨ n = 12 ∨ n = 13 ∨ n = 14 ∨ n = 15 := by omega
    rcases this with h | h | h | h | h | h | h | h | h | h | h | h | h | h | h | h <;> subst h <;> decide
  · rw [List.getD_eq_getElem?_getD, List.getElem?_eq_none (by simp [cdNs]; omega)]; decide
end Go.Proofs.YtfdofleohichiaaGreatDoor.Tx
