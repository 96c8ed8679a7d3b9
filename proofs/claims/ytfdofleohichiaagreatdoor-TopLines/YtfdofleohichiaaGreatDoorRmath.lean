/-
  Layer 2 as arithmetic: the word of an instruction as a sum, the bits of a word as quotients and rests; the program's and the document's notions of an instruction are one.
-/
import Derived.Test.YtfdofleohichiaaGreatDoorRisc7
import Derived.Test.YtfdofleohichiaaGreatDoorRdefs
namespace Go.Proofs.YtfdofleohichiaaGreatDoor.Risc
open Go.RowKit Go.Proofs.YtfdofleohichiaaGreatDoor.Bits Go.Proofs.YtfdofleohichiaaGreatDoor.Gw Go.Proofs.YtfdofleohichiaaGreatDoor.Bm

theorem put_nat (x v : Int) (lo n : Nat) (x0 : 0 ≤ x) (v0 : 0 ≤ v) (h1 : 1 ≤ n) (h2 : lo + n ≤ 32) :
    putI x lo n v = x / ((2 ^ (lo + n) : Nat) : Int) * ((2 ^ (lo + n) : Nat) : Int) + v % ((2 ^ n : Nat) : Int) * ((2 ^ lo : Nat) : Int) + x % ((2 ^ lo : Nat) : Int) := by
  obtain ⟨X, rfl⟩ := Int.eq_ofNat_of_zero_le x0
  obtain ⟨V, rfl⟩ := Int.eq_ofNat_of_zero_le v0
  unfold putI
  rw [if_pos ⟨by omega, by omega, by omega⟩]
  simp only [Int.toNat_natCast, putN]
  simp
theorem get_nat (x : Int) (lo n : Nat) (x0 : 0 ≤ x) (h1 : 1 ≤ n) (h2 : lo + n ≤ 32) : getI x lo n = x / ((2 ^ lo : Nat) : Int) % ((2 ^ n : Nat) : Int) := by
  obtain ⟨X, rfl⟩ := Int.eq_ofNat_of_zero_le x0
  unfold getI
  rw [if_pos ⟨by omega, by omega, by omega⟩]
  simp only [Int.toNat_natCast, getN]
  simp
theorem ext_nat (v : Int) (n : Nat) (v0 : 0 ≤ v) (h1 : 1 ≤ n) (h2 : n ≤ 32) : extI v n = if 2 * (v % ((2 ^ n : Nat) : Int)) < ((2 ^ n : Nat) : Int) then v % ((2 ^ n : Nat) : Int) else v % ((2 ^ n : Nat) : Int) - ((2 ^ n : Nat) : Int) := by
  obtain ⟨V, rfl⟩ := Int.eq_ofNat_of_zero_le v0
  unfold extI extN
  rw [if_pos ⟨by omega, by omega⟩]
  simp only [Int.toNat_natCast]
  have e : ((V : Int) % ((2 ^ n : Nat) : Int)) = ((V % 2 ^ n : Nat) : Int) := by simp
  rw [e, ← p2cast]
  generalize V % 2 ^ n = q
  generalize 2 ^ n = r
  split <;> split <;> omega

theorem put30 (x v : Int) (x0 : 0 ≤ x) (v0 : 0 ≤ v) : putI x 30 2 v = x / 4294967296 * 4294967296 + v % 4 * 1073741824 + x % 1073741824 := put_nat x v 30 2 x0 v0 (by decide) (by decide)
theorem put29 (x v : Int) (x0 : 0 ≤ x) (v0 : 0 ≤ v) : putI x 29 1 v = x / 1073741824 * 1073741824 + v % 2 * 536870912 + x % 536870912 := put_nat x v 29 1 x0 v0 (by decide) (by decide)
theorem put28 (x v : Int) (x0 : 0 ≤ x) (v0 : 0 ≤ v) : putI x 28 1 v = x / 536870912 * 536870912 + v % 2 * 268435456 + x % 268435456 := put_nat x v 28 1 x0 v0 (by decide) (by decide)
theorem put24 (x v : Int) (x0 : 0 ≤ x) (v0 : 0 ≤ v) : putI x 24 4 v = x / 268435456 * 268435456 + v % 16 * 16777216 + x % 16777216 := put_nat x v 24 4 x0 v0 (by decide) (by decide)
theorem put20 (x v : Int) (x0 : 0 ≤ x) (v0 : 0 ≤ v) : putI x 20 4 v = x / 16777216 * 16777216 + v % 16 * 1048576 + x % 1048576 := put_nat x v 20 4 x0 v0 (by decide) (by decide)
theorem put16 (x v : Int) (x0 : 0 ≤ x) (v0 : 0 ≤ v) : putI x 16 4 v = x / 1048576 * 1048576 + v % 16 * 65536 + x % 65536 := put_nat x v 16 4 x0 v0 (by decide) (by decide)
theorem put0_4 (x v : Int) (x0 : 0 ≤ x) (v0 : 0 ≤ v) : putI x 0 4 v = x / 16 * 16 + v % 16 := by
  have := put_nat x v 0 4 x0 v0 (by decide) (by decide)
  simpa [Int.emod_one] using this
theorem put0_16 (x v : Int) (x0 : 0 ≤ x) (v0 : 0 ≤ v) : putI x 0 16 v = x / 65536 * 65536 + v % 65536 := by
  have := put_nat x v 0 16 x0 v0 (by decide) (by decide)
  simpa [Int.emod_one] using this
theorem put0_20 (x v : Int) (x0 : 0 ≤ x) (v0 : 0 ≤ v) : putI x 0 20 v = x / 1048576 * 1048576 + v % 1048576 := by
  have := put_nat x v 0 20 x0 v0 (by decide) (by decide)
  simpa [Int.emod_one] using this
theorem put0_24 (x v : Int) (x0 : 0 ≤ x) (v0 : 0 ≤ v) : putI x 0 24 v = x / 16777216 * 16777216 + v % 16777216 := by
  have := put_nat x v 0 24 x0 v0 (by decide) (by decide)
  simpa [Int.emod_one] using this

theorem bI_range (b : Bool) : 0 ≤ bI b ∧ bI b ≤ 1 := by cases b <;> decide
def hd (f : Int) (u v : Bool) (a : Int) : Int := f % 4 * 1073741824 + bI u * 536870912 + bI v * 268435456 + a % 16 * 16777216
theorem head_eq (f : Int) (u v : Bool) (a : Int) : headI f u v a = hd f u v a := by
  unfold headI hd
  have hu := bI_range u
  have hv := bI_range v
  have m1 := U32.mod f
  have m2 := U32.mod a
  unfold U32 at m1 m2
  have e1 : f % 4294967296 % 4 = f % 4 := by omega
  have e2 : a % 4294967296 % 16 = a % 16 := by omega
  rw [bI_mod, bI_mod, put30 0 _ (by decide) m1.1, e1]
  have f4 : 0 ≤ f % 4 ∧ f % 4 < 4 := by omega
  generalize f % 4 = g at *
  rw [put29 _ _ (by omega) hu.1, put28 _ _ (by omega) hv.1, put24 _ _ (by omega) m2.1, e2]
  generalize bI u = p at *
  generalize bI v = q at *
  have a4 : 0 ≤ a % 16 ∧ a % 16 < 16 := by omega
  generalize a % 16 = r at *
  omega
theorem hd_bd (f : Int) (u v : Bool) (a : Int) : 0 ≤ hd f u v a ∧ hd f u v a < 4294967296 ∧ hd f u v a % 16777216 = 0 := by
  unfold hd
  have hu := bI_range u
  have hv := bI_range v
  omega
theorem pack_eq (f : Int) (u v : Bool) (a b c op im : Int) : packI f u v a b c op im =
    hd f u v a + (if f = 0 then b % 16 * 1048576 + op % 16 * 65536 + c % 16 else if f = 1 then b % 16 * 1048576 + op % 16 * 65536 + im % 65536
      else if f = 2 then b % 16 * 1048576 + im % 1048576 else if u = true then im % 16777216 else c % 16) := by
  unfold packI
  rw [head_eq]
  obtain ⟨h0, h1, h2⟩ := hd_bd f u v a
  generalize hd f u v a = H at *
  have mb := U32.mod b
  have mo := U32.mod op
  have mc := U32.mod c
  have mi := U32.mod im
  unfold U32 at mb mo mc mi
  have e1 : b % 4294967296 % 16 = b % 16 := by omega
  have e2 : op % 4294967296 % 16 = op % 16 := by omega
  have e3 : c % 4294967296 % 16 = c % 16 := by omega
  have e4 : im % 4294967296 % 65536 = im % 65536 := by omega
  have e5 : im % 4294967296 % 1048576 = im % 1048576 := by omega
  have e6 : im % 4294967296 % 16777216 = im % 16777216 := by omega
  have b4 : 0 ≤ b % 16 ∧ b % 16 < 16 := by omega
  have o4 : 0 ≤ op % 16 ∧ op % 16 < 16 := by omega
  have c4 : 0 ≤ c % 16 ∧ c % 16 < 16 := by omega
  split
  · rw [put20 _ _ h0 mb.1, e1, put16 _ _ (by omega) mo.1, e2, put0_4 _ _ (by omega) mc.1, e3]
    generalize b % 16 = b' at *
    generalize op % 16 = o' at *
    generalize c % 16 = c' at *
    omega
  split
  · rw [put20 _ _ h0 mb.1, e1, put16 _ _ (by omega) mo.1, e2, put0_16 _ _ (by omega) mi.1, e4]
    have i4 : 0 ≤ im % 65536 ∧ im % 65536 < 65536 := by omega
    generalize b % 16 = b' at *
    generalize op % 16 = o' at *
    generalize im % 65536 = i' at *
    omega
  split
  · rw [put20 _ _ h0 mb.1, e1, put0_20 _ _ (by omega) mi.1, e5]
    have i4 : 0 ≤ im % 1048576 ∧ im % 1048576 < 1048576 := by omega
    generalize b % 16 = b' at *
    generalize im % 1048576 = i' at *
    omega
  split
  · rw [put0_24 _ _ h0 mi.1, e6]; omega
  · rw [put0_4 _ _ h0 mc.1, e3]; omega

theorem g30 (x : Int) (x0 : 0 ≤ x) : fgetI 30 2 false x = x / 1073741824 % 4 := get_nat x 30 2 x0 (by decide) (by decide)
theorem g29 (x : Int) (x0 : 0 ≤ x) : fgetI 29 1 false x = x / 536870912 % 2 := get_nat x 29 1 x0 (by decide) (by decide)
theorem g28 (x : Int) (x0 : 0 ≤ x) : fgetI 28 1 false x = x / 268435456 % 2 := get_nat x 28 1 x0 (by decide) (by decide)
theorem g24 (x : Int) (x0 : 0 ≤ x) : fgetI 24 4 false x = x / 16777216 % 16 := get_nat x 24 4 x0 (by decide) (by decide)
theorem g20 (x : Int) (x0 : 0 ≤ x) : fgetI 20 4 false x = x / 1048576 % 16 := get_nat x 20 4 x0 (by decide) (by decide)
theorem g16 (x : Int) (x0 : 0 ≤ x) : fgetI 16 4 false x = x / 65536 % 16 := get_nat x 16 4 x0 (by decide) (by decide)
theorem g0_4 (x : Int) (x0 : 0 ≤ x) : fgetI 0 4 false x = x % 16 := by
  have := get_nat x 0 4 x0 (by decide) (by decide)
  show getI x 0 4 = _
  simpa using this
theorem g0_16 (x : Int) (x0 : 0 ≤ x) : fgetI 0 16 false x = x % 65536 := by
  have := get_nat x 0 16 x0 (by decide) (by decide)
  show getI x 0 16 = _
  simpa using this
theorem g0_20 (x : Int) (x0 : 0 ≤ x) : fgetI 0 20 true x = if 2 * (x % 1048576) < 1048576 then x % 1048576 else x % 1048576 - 1048576 := by
  have h := get_nat x 0 20 x0 (by decide) (by decide)
  have e : getI x 0 20 = x % 1048576 := by simpa using h
  rw [fgetI_t, e]
  have := ext_nat (x % 1048576) 20 (by omega) (by decide) (by decide)
  rw [show (((2 ^ 20 : Nat) : Int)) = 1048576 from rfl, show x % 1048576 % 1048576 = x % 1048576 by omega] at this
  exact this
theorem g0_24 (x : Int) (x0 : 0 ≤ x) : fgetI 0 24 true x = if 2 * (x % 16777216) < 16777216 then x % 16777216 else x % 16777216 - 16777216 := by
  have h := get_nat x 0 24 x0 (by decide) (by decide)
  have e : getI x 0 24 = x % 16777216 := by simpa using h
  rw [fgetI_t, e]
  have := ext_nat (x % 16777216) 24 (by omega) (by decide) (by decide)
  rw [show (((2 ^ 24 : Nat) : Int)) = 16777216 from rfl, show x % 16777216 % 16777216 = x % 16777216 by omega] at this
  exact this
end Go.Proofs.YtfdofleohichiaaGreatDoor.Risc
