/-
  The document's notions of layer 2, as functions.
-/
import Derived.Test.YtfdofleohichiaaGreatDoorRisc7
namespace Go.Proofs.YtfdofleohichiaaGreatDoor.Risc
open Go.RowKit Go.Proofs.YtfdofleohichiaaGreatDoor.Bits Go.Proofs.YtfdofleohichiaaGreatDoor.Gw

def inB (n a b : Int) : Bool := decide (a ≤ n ∧ n ≤ b)
def uokB (u : Bool) (op : Int) : Bool := !u || decide (op = 0 ∨ op = 8 ∨ op = 9 ∨ op = 10)
def goodR (f : Int) (u v : Bool) (a b c op im : Int) : Bool :=
  inB a 0 15 && inB b 0 15 && inB c 0 15 && inB op 0 11 &&
    (if f = 0 then uokB u op && (!v || (decide (op = 0) && u)) && decide (im = 0)
     else if f = 1 then uokB u op && decide (c = 0) && inB im 0 65535
     else if f = 2 then decide (c = 0) && decide (op = 0) && fitsB im 20
     else if f = 3 then decide (b = 0) && decide (op = 0) && (if u = true then decide (c = 0) && fitsB im 24 else decide (im = 0))
     else false)
theorem U32.mod (n : Int) : U32 (n % 4294967296) := ⟨Int.emod_nonneg _ (by decide), Int.emod_lt_of_pos _ (by decide)⟩
theorem U32.bit (b : Bool) : U32 (bI b) := by cases b <;> exact ⟨by decide, by decide⟩
theorem bI_mod (b : Bool) : bI b % 4294967296 = bI b := by cases b <;> rfl
theorem good_form {f : Int} {u v : Bool} {a b c op im : Int} (h : goodR f u v a b c op im = true) : f = 0 ∨ f = 1 ∨ f = 2 ∨ f = 3 := by
  by_cases h0 : f = 0
  · exact Or.inl h0
  by_cases h1 : f = 1
  · exact Or.inr (Or.inl h1)
  by_cases h2 : f = 2
  · exact Or.inr (Or.inr (Or.inl h2))
  by_cases h3 : f = 3
  · exact Or.inr (Or.inr (Or.inr h3))
  simp [goodR, h0, h1, h2, h3] at h

def decR (x : Int) : Bool := goodR (uF x) (uU x) (uV x) (uA x) (uB x) (uC x) (uOp x) (uIm x) && decide (againI x = x)
theorem ins_eq {f f' : Int} {u u' v v' : Bool} {a a' b b' c c' o o' i i' : Int} (h1 : f = f') (h2 : u = u') (h3 : v = v') (h4 : a = a') (h5 : b = b') (h6 : c = c') (h7 : o = o') (h8 : i = i') :
    ins f u v a b c o i = ins f' u' v' a' b' c' o' i' := by subst h1 h2 h3 h4 h5 h6 h7 h8; rfl
theorem fgetI_t (lo n x : Int) : fgetI lo n true x = extI (getI x lo n) n := rfl
end Go.Proofs.YtfdofleohichiaaGreatDoor.Risc
