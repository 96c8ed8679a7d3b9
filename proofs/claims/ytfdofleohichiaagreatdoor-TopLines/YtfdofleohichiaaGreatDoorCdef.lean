/-
  Layer 5's machine as a function of its state: one step, a run; what holds of every state.
-/
import Derived.Test.YtfdofleohichiaaGreatDoorRmath2
import Derived.Test.YtfdofleohichiaaGreatDoorAlu3
import Derived.Test.YtfdofleohichiaaGreatDoorMem2
namespace Go.Proofs.YtfdofleohichiaaGreatDoor.Cpu
open Go.RowKit Go.Proofs.YtfdofleohichiaaGreatDoor.Bits Go.Proofs.YtfdofleohichiaaGreatDoor.Gw Go.Proofs.YtfdofleohichiaaGreatDoor.Risc Go.Proofs.YtfdofleohichiaaGreatDoor.Alu Go.Proofs.YtfdofleohichiaaGreatDoor.Mem

/- A machine: registers, H, flags, PC, the memory's words, how many bytes were read, what was put out, the end (3: none yet), the trap. -/
structure Ms where
  R : List Int
  h : Int
  n : Bool
  z : Bool
  c : Bool
  v : Bool
  pc : Int
  xs : List Int
  rd : Nat
  out : List Int
  en : Int
  tr : Int

def inAt (s : ByteArray) (k : Nat) : Int := (s.data.toList.getD k 0).toNat
def sgB (r : Int) : Bool := decide (wrap32 r < 0)
def Ms.setBy (s : Ms) (k : Nat) (r : Int) : Ms := { s with R := s.R.set k r, n := sgB r, z := r == 0 }
def flW (n z c v : Bool) : Int := bI n * 2147483648 + bI z * 1073741824 + bI c * 536870912 + bI v * 268435456
def Ms.opd (s : Ms) (f : Int) (v : Bool) (kc : Nat) (im : Int) : Int := if f = 0 then at0 s.R kc else if v = true then im + 4294901760 else im
def Ms.did (s : Ms) (op : Int) (u : Bool) (ka kb : Nat) (n : Int) : Ms :=
  { s with R := s.R.set ka (rI op u (at0 s.R kb) n s.h s.c), h := hI op u (at0 s.R kb) n s.h, n := sgB (rI op u (at0 s.R kb) n s.h s.c), z := rI op u (at0 s.R kb) n s.h s.c == 0, c := cB op u (at0 s.R kb) n s.c, v := vB op u (at0 s.R kb) n s.c s.v }
def Ms.reckon (s : Ms) (f : Int) (u v : Bool) (ka kb kc : Nat) (op im : Int) : Ms :=
  if op = 0 ∧ u = true ∧ f = 1 then s.setBy ka (im * 65536)
  else if op = 0 ∧ u = true ∧ v = true then s.setBy ka (flW s.n s.z s.c s.v)
  else s.did op u ka kb (s.opd f v kc im)
def plI (s : Ms) (kb : Nat) (im : Int) : Int := (at0 s.R kb + im) % 4294967296
/- What a load tells, if it is there, and how many bytes were read behind it. -/
def ldV (inp : ByteArray) (s : Ms) (p : Int) (v : Bool) : Int :=
  if p = 4294967240 then (if s.rd < inp.size then inAt inp s.rd else 0) else if p = 4294967244 then (if s.rd < inp.size then 1 else 0) else if v = true then byI s.xs p else ldI s.xs p
def ldB (s : Ms) (p : Int) (v : Bool) : Bool := if p = 4294967240 ∨ p = 4294967244 then true else if v = true then thB s.xs p else beB s.xs p
def ldR (inp : ByteArray) (s : Ms) (p : Int) : Nat := if p = 4294967240 ∧ s.rd < inp.size then s.rd + 1 else s.rd
def Ms.load (inp : ByteArray) (s : Ms) (ka : Nat) (p : Int) (v : Bool) : Ms :=
  if ldB s p v = true then { s with rd := ldR inp s p }.setBy ka (ldV inp s p v) else { s with en := 5 }
def Ms.put (s : Ms) (y : Int) : Ms := if s.out.length ≥ 4096 then { s with en := 6 } else { s with out := s.out ++ [y] }
def Ms.store (s : Ms) (p y : Int) (v : Bool) : Ms :=
  if p = 4294967240 then s.put (y % 256)
  else if p = 4294967236 then { s with en := 2, tr := wrap32 y }
  else if p = 4294967232 then { s with en := 1 }
  else if v = true then (if thB s.xs p = true then { s with xs := pbL s.xs p y } else { s with en := 5 })
  else (if beB s.xs p = true then { s with xs := stL s.xs p y } else { s with en := 5 })
def Ms.access (inp : ByteArray) (s : Ms) (u v : Bool) (ka kb : Nat) (im : Int) : Ms :=
  if u = true then s.store (plI s kb im) (at0 s.R ka) v else s.load inp ka (plI s kb im) v
def Ms.target (s : Ms) (u : Bool) (kc : Nat) (im : Int) : Int := if u = true then (s.pc + im) % 1073741824 else at0 s.R kc / 4
def Ms.jump (s : Ms) (u v : Bool) (ka kc : Nat) (im : Int) : Ms :=
  if holdsB ka s.n s.z s.c s.v = true then { s with pc := s.target u kc im, R := if v = true then s.R.set 15 (s.pc * 4 % 4294967296) else s.R } else s
/- What an instruction does, PC having gone on. -/
def Ms.exec (inp : ByteArray) (s : Ms) (f : Int) (u v : Bool) (ka kb kc : Nat) (op im : Int) : Ms :=
  if f = 0 ∨ f = 1 then s.reckon f u v ka kb kc op im else if f = 2 then s.access inp u v ka kb im else s.jump u v ka kc im
def Ms.word (inp : ByteArray) (s : Ms) (x : Int) : Ms := s.exec inp (uF x) (uU x) (uV x) (uA x).toNat (uB x).toNat (uC x).toNat (uOp x) (uIm x)
def Ms.step (inp : ByteArray) (s : Ms) : Ms :=
  if s.pc < s.xs.length then (if decB (at0 s.xs s.pc.toNat) = true then { s with pc := s.pc + 1 }.word inp (at0 s.xs s.pc.toNat) else { s with en := 4 }) else { s with en := 5 }
def it (inp : ByteArray) : Nat → Ms → Ms
  | 0, s => s
  | k + 1, s => if s.en = 3 then it inp k (s.step inp) else s
def ct (inp : ByteArray) : Nat → Ms → Nat
  | 0, _ => 0
  | k + 1, s => if s.en = 3 then ct inp k (s.step inp) + 1 else 0
theorem it_end (inp : ByteArray) (k : Nat) (s : Ms) (h : s.en ≠ 3) : it inp k s = s ∧ ct inp k s = 0 := by
  cases k with
  | zero => exact ⟨rfl, rfl⟩
  | succ k => simp [it, ct, h]
theorem it_succ (inp : ByteArray) (k : Nat) (s : Ms) (h : s.en = 3) : it inp (k + 1) s = it inp k (s.step inp) ∧ ct inp (k + 1) s = ct inp k (s.step inp) + 1 := by simp [it, ct, h]
theorem it_add (inp : ByteArray) (a b : Nat) (s : Ms) : it inp (a + b) s = it inp b (it inp a s) ∧ ct inp (a + b) s = ct inp a s + ct inp b (it inp a s) := by
  induction a generalizing s with
  | zero => simp [it, ct]
  | succ a ih =>
    by_cases h : s.en = 3
    · rw [show a + 1 + b = (a + b) + 1 by omega, (it_succ inp _ s h).1, (it_succ inp _ s h).2, (it_succ inp a s h).1, (it_succ inp a s h).2, (ih _).1, (ih _).2]
      exact ⟨rfl, by omega⟩
    · rw [(it_end inp _ s h).1, (it_end inp _ s h).2, (it_end inp (a + 1) s h).1, (it_end inp (a + 1) s h).2, (it_end inp b s h).1, (it_end inp b s h).2]
      exact ⟨rfl, rfl⟩
theorem ct_le (inp : ByteArray) (a : Nat) (s : Ms) : ct inp a s ≤ a := by
  induction a generalizing s with
  | zero => simp [ct]
  | succ a ih =>
    by_cases h : s.en = 3
    · rw [(it_succ inp a s h).2]; have := ih (s.step inp); omega
    · rw [(it_end inp _ s h).2]; omega

def byR (l : List Int) : Prop := ∀ x ∈ l, 0 ≤ x ∧ x < 256
structure Ms.ok (inp : ByteArray) (s : Ms) : Prop where
  r16 : s.R.length = 16
  rr : inR s.R
  h0 : 0 ≤ s.h ∧ s.h < 4294967296
  pc0 : 0 ≤ s.pc
  pc1 : s.pc < 1073741824
  xs1 : s.xs.length ≤ 65536
  xr : inR s.xs
  rd1 : s.rd ≤ inp.size
  in1 : inp.size ≤ 4096
  out1 : s.out.length ≤ 4096
  outr : byR s.out
  en0 : 1 ≤ s.en ∧ s.en ≤ 6
  tr0 : -2147483648 ≤ s.tr ∧ s.tr < 2147483648
end Go.Proofs.YtfdofleohichiaaGreatDoor.Cpu
