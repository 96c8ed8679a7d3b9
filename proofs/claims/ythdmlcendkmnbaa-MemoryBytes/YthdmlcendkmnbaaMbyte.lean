/-
  A word's four bytes, and what a byte that is put makes of them.
-/
import Derived.Test.YthdmlcendkmnbaaMem8
namespace Go.Proofs.Ythdmlcendkmnbaa.Mem
open Go.RowKit Go.Proofs.Ythdmlcendkmnbaa.Bits Go.Proofs.Ythdmlcendkmnbaa.Bm

theorem or_sh (s b : Int) (k : Nat) (s0 : 0 ≤ s) (b0 : 0 ≤ b) (hs : s < 2 ^ k) (h : s + b * 2 ^ k < 4294967296) : Go.bits .or .u32 s (b * 2 ^ k) = s + b * 2 ^ k := by
  obtain ⟨S, rfl⟩ := Int.eq_ofNat_of_zero_le s0
  obtain ⟨B, rfl⟩ := Int.eq_ofNat_of_zero_le b0
  have e : (B : Int) * 2 ^ k = ((B * 2 ^ k : Nat) : Int) := by simp
  rw [e] at h ⊢
  have hs' : S < 2 ^ k := by rw [← p2cast] at hs; omega
  have h2 := Nat.two_pow_add_eq_or_of_lt hs' B
  rw [u32_or_nat S (B * 2 ^ k) (by omega) (by omega), Nat.or_comm, Nat.mul_comm B, ← h2]
  omega
theorem or_all (b0 b1 b2 b3 : Int) (g0 : 0 ≤ b0 ∧ b0 ≤ 255) (g1 : 0 ≤ b1 ∧ b1 ≤ 255) (g2 : 0 ≤ b2 ∧ b2 ≤ 255) (g3 : 0 ≤ b3 ∧ b3 ≤ 255) :
    Go.bits .or .u32 (Go.bits .or .u32 (Go.bits .or .u32 (Go.bits .or .u32 0 b0) (b1 * 256)) (b2 * 65536)) (b3 * 16777216) = b0 + b1 * 256 + b2 * 65536 + b3 * 16777216 := by
  have e0 := or_sh 0 b0 0 (by decide) g0.1 (by decide) (by omega)
  have e1 := or_sh b0 b1 8 g0.1 g1.1 (by omega) (by omega)
  have e2 := or_sh (b0 + b1 * 256) b2 16 (by omega) g2.1 (by omega) (by omega)
  have e3 := or_sh (b0 + b1 * 256 + b2 * 65536) b3 24 (by omega) g3.1 (by omega) (by omega)
  have p0 : (2 : Int) ^ 0 = 1 := rfl
  have p8 : (2 : Int) ^ 8 = 256 := rfl
  have p16 : (2 : Int) ^ 16 = 65536 := rfl
  have p24 : (2 : Int) ^ 24 = 16777216 := rfl
  rw [p0, Int.mul_one, Int.zero_add] at e0
  rw [p8] at e1
  rw [p16] at e2
  rw [p24] at e3
  rw [e0, e1, e2, e3]
theorem and_255 (x : Int) (x0 : 0 ≤ x) (x1 : x < 4294967296) : Go.bits .and .u32 x 255 = x % 256 := by
  obtain ⟨X, rfl⟩ := Int.eq_ofNat_of_zero_le x0
  have := u32_and_nat X 255 (by omega) (by decide)
  have e : X &&& 255 = X % 256 := Nat.and_two_pow_sub_one_eq_mod X 8
  rw [e] at this
  rw [show ((255 : Nat) : Int) = 255 from rfl] at this
  rw [this]; omega
theorem bytes_of (Y : Int) (y0 : 0 ≤ Y) (y1 : Y < 4294967296) : Y % 256 + Y / 256 % 256 * 256 + Y / 65536 % 256 * 65536 + Y / 16777216 % 256 * 16777216 = Y := by omega
theorem put_facts (X v : Int) (r : Nat) (X0 : 0 ≤ X) (X1 : X < 4294967296) (v0 : 0 ≤ v) (hr : r ≤ 3) :
    putI X (r * 8) 8 v / 2 ^ (8 * r + 8) = X / 2 ^ (8 * r + 8) ∧ putI X (r * 8) 8 v % 2 ^ (8 * r) = X % 2 ^ (8 * r) ∧ putI X (r * 8) 8 v / 2 ^ (8 * r) % 256 = v % 256 := by
  obtain ⟨x, rfl⟩ := Int.eq_ofNat_of_zero_le X0
  obtain ⟨y, rfl⟩ := Int.eq_ofNat_of_zero_le v0
  unfold putI
  rw [if_pos (by omega)]
  have e1 : ((r : Int) * 8).toNat = 8 * r := by omega
  rw [e1, show (8 : Int).toNat = 8 from rfl, Int.toNat_natCast, Int.toNat_natCast]
  have h1 := put_div x (8 * r) 8 y
  have h2 := put_mod x (8 * r) 8 y
  have h3 := get_put x (8 * r) 8 y
  unfold getN at h3
  refine ⟨?_, ?_, ?_⟩
  · have : (x : Int) / 2 ^ (8 * r + 8) = ((x / 2 ^ (8 * r + 8) : Nat) : Int) := by simp
    rw [this, ← h1]; simp
  · have : (x : Int) % 2 ^ (8 * r) = ((x % 2 ^ (8 * r) : Nat) : Int) := by simp
    rw [this, ← h2]; simp
  · have : (y : Int) % 256 = ((y % 2 ^ 8 : Nat) : Int) := by simp
    rw [this, ← h3]; simp
structure Bts (ys : List Int) (P K v X Y b0 b1 b2 b3 : Int) : Prop where
  be : beB ys P = true
  ld : ldI ys P = Y
  f0 : byI ys P = b0
  f1 : byI ys (P + 1) = b1
  f2 : byI ys (P + 2) = b2
  f3 : byI ys (P + 3) = b3
  t0 : thB ys P = true
  t1 : thB ys (P + 1) = true
  t2 : thB ys (P + 2) = true
  t3 : thB ys (P + 3) = true
  g0 : 0 ≤ b0 ∧ b0 ≤ 255
  g1 : 0 ≤ b1 ∧ b1 ≤ 255
  g2 : 0 ≤ b2 ∧ b2 ≤ 255
  g3 : 0 ≤ b3 ∧ b3 ≤ 255
  s : b0 + b1 * 256 + b2 * 65536 + b3 * 16777216 = Y
  m0 : K = P ∧ b0 = v % 256 ∨ K ≠ P ∧ b0 = X % 256
  m1 : K = P + 1 ∧ b1 = v % 256 ∨ K ≠ P + 1 ∧ b1 = X / 256 % 256
  m2 : K = P + 2 ∧ b2 = v % 256 ∨ K ≠ P + 2 ∧ b2 = X / 65536 % 256
  m3 : K = P + 3 ∧ b3 = v % 256 ∨ K ≠ P + 3 ∧ b3 = X / 16777216 % 256
theorem sc_at (q : Nat) : sc (4 * q) = 1 ∧ sc (4 * q + 1) = 256 ∧ sc (4 * q + 2) = 65536 ∧ sc (4 * q + 3) = 16777216 := by
  refine ⟨?_, ?_, ?_, ?_⟩
  · rcases sc_cases (4 * q) with ⟨h, e⟩ | ⟨h, e⟩ | ⟨h, e⟩ | ⟨h, e⟩ <;> first | exact e | omega
  · rcases sc_cases (4 * q + 1) with ⟨h, e⟩ | ⟨h, e⟩ | ⟨h, e⟩ | ⟨h, e⟩ <;> first | exact e | omega
  · rcases sc_cases (4 * q + 2) with ⟨h, e⟩ | ⟨h, e⟩ | ⟨h, e⟩ | ⟨h, e⟩ <;> first | exact e | omega
  · rcases sc_cases (4 * q + 3) with ⟨h, e⟩ | ⟨h, e⟩ | ⟨h, e⟩ | ⟨h, e⟩ <;> first | exact e | omega
theorem bts (xs : List Int) (hr : inR xs) (q : Nat) (K v : Int) (hq : q < xs.length) (h0 : 4 * (q : Int) ≤ K) (h1 : K < 4 * (q : Int) + 4) (v0 : 0 ≤ v) :
    ∃ Y b0 b1 b2 b3, Bts (pbL xs K v) (4 * q) K v (at0 xs q) Y b0 b1 b2 b3 := by
  obtain ⟨r, hr3, hK⟩ : ∃ r : Nat, r ≤ 3 ∧ K = 4 * q + r := ⟨(K - 4 * q).toNat, by omega, by omega⟩
  have X0 := rng_at hr q
  have PF := put_facts (at0 xs q) v r X0.1 X0.2 v0 hr3
  have PR := put8_range xs hr q (r * 8) v
  have hth : thB xs K = true := by unfold thB; simp; omega
  have e : pbL xs K v = xs.set q (putI (at0 xs q) (r * 8) 8 v) := by
    unfold pbL
    rw [if_pos hth, show K / 4 = (q : Int) by omega, show K % 4 = (r : Int) by omega]
    rfl
  rw [e]
  generalize putI (at0 xs q) (r * 8) 8 v = Y at *
  generalize at0 xs q = X at *
  have ea : at0 (xs.set q Y) q = Y := by simp [at0, hq]
  have th : ∀ j : Int, 0 ≤ j → j ≤ 3 → thB (xs.set q Y) (4 * q + j) = true := by
    intro j j0 j3; unfold thB; simp; omega
  have by' : ∀ j : Int, 0 ≤ j → j ≤ 3 → byI (xs.set q Y) (4 * q + j) = Y / sc (4 * q + j) % 256 := by
    intro j j0 j3
    unfold byI
    rw [if_pos (th j j0 j3), show (4 * (q : Int) + j) / 4 = (q : Int) by omega, Int.toNat_natCast, ea]
  obtain ⟨s0, s1, s2, s3⟩ := sc_at q
  have B0 := by' 0 (by decide) (by decide)
  have B1 := by' 1 (by decide) (by decide)
  have B2 := by' 2 (by decide) (by decide)
  have B3 := by' 3 (by decide) (by decide)
  have T0 := th 0 (by decide) (by decide)
  rw [Int.add_zero] at B0 T0
  rw [s0, Int.ediv_one] at B0
  rw [s1] at B1
  rw [s2] at B2
  rw [s3] at B3
  have be : beB (xs.set q Y) (4 * q) = true := by
    unfold beB thB at *; rw [T0]; simp
  have ld : ldI (xs.set q Y) (4 * q) = Y := by
    unfold ldI; rw [if_pos be, show (4 * (q : Int)) / 4 = (q : Int) by omega, Int.toNat_natCast, ea]
  obtain ⟨P1, P2, P3⟩ := PF
  have d1 : Y / 16777216 = Y / 65536 / 256 := by omega
  have d2 : X / 16777216 = X / 65536 / 256 := by omega
  have d3 : Y / 65536 = Y / 256 / 256 := by omega
  have d4 : X / 65536 = X / 256 / 256 := by omega
  refine ⟨Y, _, _, _, _, be, ld, B0, B1, B2, B3, T0, th 1 (by decide) (by decide), th 2 (by decide) (by decide), th 3 (by decide) (by decide), by omega, by omega, by omega, by omega, bytes_of Y PR.1 PR.2, ?_, ?_, ?_, ?_⟩
  all_goals
    have : r = 0 ∨ r = 1 ∨ r = 2 ∨ r = 3 := by omega
    rcases this with rfl | rfl | rfl | rfl
  all_goals simp only [Nat.reduceMul, Nat.reduceAdd, Int.reducePow, Int.ediv_one, Int.emod_one] at P1 P2 P3
  all_goals first | (right; exact ⟨by omega, by rw [P1]⟩) | (right; exact ⟨by omega, by rw [d1, d2, P1]⟩) | (right; exact ⟨by omega, by rw [d3, d4, P1]⟩) | (right; exact ⟨by omega, by rw [d1, d2, d3, d4, P1]⟩) | omega
end Go.Proofs.Ythdmlcendkmnbaa.Mem
