/-
  Plain arithmetic of words of 32 bits: shifts, turns, cut fields, and numbers of few bits, over natural numbers and integers. No program is named here.
-/
import Derived.WalkKit
namespace Go.Proofs.Ytgdpcdpkaaefbaa.Bm
open Go.RowKit

theorem p2cast (k : Nat) : ((2 ^ k : Nat) : Int) = (2 : Int) ^ k := by simp
theorem p2pos (k : Nat) : 0 < 2 ^ k := Nat.two_pow_pos k
theorem p2le {k m : Nat} (h : k ≤ m) : 2 ^ k ≤ 2 ^ m := Nat.pow_le_pow_right (by decide) h
theorem p2le32 {k : Nat} (h : k ≤ 32) : 2 ^ k ≤ 4294967296 := p2le h
theorem p2split {k m : Nat} (h : k ≤ m) : 2 ^ m = 2 ^ k * 2 ^ (m - k) := by rw [← Nat.pow_add]; congr 1; omega

/- The words as functions of natural numbers. -/
def lslN (x k : Nat) : Nat := x * 2 ^ k % 4294967296
def rorN (x k : Nat) : Nat := x / 2 ^ k + x % 2 ^ k * 2 ^ (32 - k)
def getN (x l m : Nat) : Nat := x / 2 ^ l % 2 ^ m
def putN (x l m v : Nat) : Nat := x / 2 ^ (l + m) * 2 ^ (l + m) + v % 2 ^ m * 2 ^ l + x % 2 ^ l
def extN (v m : Nat) : Int := if 2 * (v % 2 ^ m) < 2 ^ m then ((v % 2 ^ m : Nat) : Int) else ((v % 2 ^ m : Nat) : Int) - 2 ^ m

theorem mul_mod_pow (x k : Nat) (h : k ≤ 32) : x * 2 ^ (32 - k) % 4294967296 = x % 2 ^ k * 2 ^ (32 - k) := by
  have e : 4294967296 = 2 ^ k * 2 ^ (32 - k) := by rw [← Nat.pow_add, show k + (32 - k) = 32 by omega]
  rw [e, Nat.mul_mod_mul_right]

theorem mul_mod_pow' (x k : Nat) (h : k ≤ 32) : x * 2 ^ k % 4294967296 = x % 2 ^ (32 - k) * 2 ^ k := by
  have := mul_mod_pow x (32 - k) (by omega)
  rwa [show 32 - (32 - k) = k by omega] at this

theorem div_lt_pow (x k : Nat) (h : k ≤ 32) (hx : x < 4294967296) : x / 2 ^ k < 2 ^ (32 - k) := by
  apply Nat.div_lt_of_lt_mul
  rw [← Nat.pow_add, show k + (32 - k) = 32 by omega]; exact hx

theorem or_join (i a b : Nat) (hb : b < 2 ^ i) : b ||| a * 2 ^ i = b + a * 2 ^ i := by
  rw [Nat.or_comm, nat_join i (a * 2 ^ i) b (by simp) hb, Nat.add_comm]

theorem ror_or (x k : Nat) (h : k ≤ 32) (hx : x < 4294967296) : x / 2 ^ k ||| x * 2 ^ (32 - k) % 4294967296 = rorN x k := by
  rw [mul_mod_pow x k h, or_join _ _ _ (div_lt_pow x k h hx)]; rfl

theorem ror_zero (x : Nat) : rorN x 0 = x := by simp [rorN, Nat.mod_one]

theorem ror_step (x k : Nat) (h : k < 32) : rorN x k / 2 + rorN x k % 2 * 2147483648 = rorN x (k + 1) := by
  have e : 2 ^ (32 - k) = 2 * 2 ^ (31 - k) := by rw [show 32 - k = (31 - k) + 1 by omega, Nat.pow_succ, Nat.mul_comm]
  have e2 : 2 ^ k * 2 ^ (31 - k) = 2147483648 := by rw [← Nat.pow_add, show k + (31 - k) = 31 by omega]
  have e3 : x % 2 ^ (k + 1) = x % 2 ^ k + 2 ^ k * (x / 2 ^ k % 2) := by rw [Nat.pow_succ, Nat.mod_mul]
  have e4 : x / 2 ^ (k + 1) = x / 2 ^ k / 2 := by rw [Nat.pow_succ, Nat.div_div_eq_div_mul]
  unfold rorN
  rw [e3, e4, show 32 - (k + 1) = 31 - k by omega, e]
  have e5 : (x % 2 ^ k + 2 ^ k * (x / 2 ^ k % 2)) * 2 ^ (31 - k) = x % 2 ^ k * 2 ^ (31 - k) + x / 2 ^ k % 2 * 2147483648 := by
    rw [Nat.add_mul, Nat.mul_right_comm, e2, Nat.mul_comm 2147483648]
  have e6 : x % 2 ^ k * (2 * 2 ^ (31 - k)) = 2 * (x % 2 ^ k * 2 ^ (31 - k)) := by rw [Nat.mul_left_comm]
  rw [e5, e6]
  generalize x % 2 ^ k * 2 ^ (31 - k) = a
  generalize x / 2 ^ k = b
  omega

theorem ror_lt (x k : Nat) (h : k ≤ 32) (hx : x < 4294967296) : rorN x k < 4294967296 := by
  have h1 := div_lt_pow x k h hx
  have h2 : x % 2 ^ k * 2 ^ (32 - k) + 2 ^ (32 - k) ≤ 4294967296 := by
    have h3 : x % 2 ^ k + 1 ≤ 2 ^ k := Nat.mod_lt _ (p2pos k)
    have h4 := Nat.mul_le_mul_right (2 ^ (32 - k)) h3
    rw [← Nat.pow_add, show k + (32 - k) = 32 by omega, Nat.add_mul, Nat.one_mul] at h4
    exact h4
  unfold rorN; omega

theorem ror_back (x k : Nat) (h : k ≤ 32) (hx : x < 4294967296) : rorN (rorN x k) (32 - k) = x := by
  have h1 := div_lt_pow x k h hx
  have h0 := p2pos (32 - k)
  have a1 : rorN x k / 2 ^ (32 - k) = x % 2 ^ k := by
    unfold rorN
    rw [Nat.add_mul_div_right _ _ h0, Nat.div_eq_of_lt h1, Nat.zero_add]
  have a2 : rorN x k % 2 ^ (32 - k) = x / 2 ^ k := by
    unfold rorN
    rw [Nat.add_mul_mod_self_right, Nat.mod_eq_of_lt h1]
  have : rorN (rorN x k) (32 - k) = rorN x k / 2 ^ (32 - k) + rorN x k % 2 ^ (32 - k) * 2 ^ (32 - (32 - k)) := rfl
  rw [this, a1, a2, show 32 - (32 - k) = k by omega]
  have := Nat.div_add_mod x (2 ^ k)
  rw [Nat.mul_comm] at this
  omega

theorem get_lt (x l m : Nat) (hm : m ≤ 32) : getN x l m < 4294967296 :=
  Nat.lt_of_lt_of_le (Nat.mod_lt _ (p2pos m)) (p2le32 hm)

/- A turn is its lower part beside what was moved out. -/
theorem ror_get (x k : Nat) (h : k ≤ 32) (hx : x < 4294967296) : getN x k (32 - k) ||| lslN x (32 - k) = rorN x k := by
  have e : getN x k (32 - k) = x / 2 ^ k := by unfold getN; exact Nat.mod_eq_of_lt (div_lt_pow x k h hx)
  rw [e]; exact ror_or x k h hx

theorem x_split (x l m : Nat) : x = x / 2 ^ (l + m) * 2 ^ (l + m) + x / 2 ^ l % 2 ^ m * 2 ^ l + x % 2 ^ l := by
  have h1 := Nat.div_add_mod x (2 ^ l)
  have h2 := Nat.div_add_mod (x / 2 ^ l) (2 ^ m)
  rw [Nat.div_div_eq_div_mul, ← Nat.pow_add] at h2
  have h3 : 2 ^ l * (x / 2 ^ l) = x / 2 ^ (l + m) * 2 ^ (l + m) + x / 2 ^ l % 2 ^ m * 2 ^ l := by
    rw [← h2, Nat.mul_add, Nat.pow_add]
    have : (2 ^ m * (x / (2 ^ l * 2 ^ m)) + x / 2 ^ l % 2 ^ m) % 2 ^ m = x / 2 ^ l % 2 ^ m := by
      rw [Nat.mul_add_mod]; exact Nat.mod_eq_of_lt (Nat.mod_lt _ (p2pos m))
    rw [this, Nat.mul_comm (2 ^ l) (x / 2 ^ l % 2 ^ m)]
    congr 1
    rw [← Nat.mul_assoc, Nat.mul_comm]
  omega

theorem mid_lt (l m v : Nat) (b : Nat) (hb : b < 2 ^ l) : v % 2 ^ m * 2 ^ l + b < 2 ^ (l + m) := by
  have h3 : v % 2 ^ m + 1 ≤ 2 ^ m := Nat.mod_lt _ (p2pos m)
  have h4 := Nat.mul_le_mul_right (2 ^ l) h3
  rw [Nat.add_mul, Nat.one_mul, Nat.mul_comm (2 ^ m), ← Nat.pow_add] at h4
  omega

theorem put_div (x l m v : Nat) : putN x l m v / 2 ^ (l + m) = x / 2 ^ (l + m) := by
  have h := mid_lt l m v (x % 2 ^ l) (Nat.mod_lt _ (p2pos l))
  unfold putN
  rw [Nat.add_assoc, Nat.add_comm, Nat.add_mul_div_right _ _ (p2pos _), Nat.div_eq_of_lt h, Nat.zero_add]

theorem put_mod (x l m v : Nat) : putN x l m v % 2 ^ l = x % 2 ^ l := by
  unfold putN
  rw [Nat.pow_add, ← Nat.mul_assoc, Nat.mul_right_comm, ← Nat.add_mul, Nat.mul_add_mod_self_right]
  exact Nat.mod_eq_of_lt (Nat.mod_lt _ (p2pos l))

theorem get_put (x l m v : Nat) : getN (putN x l m v) l m = v % 2 ^ m := by
  have h1 := x_split (putN x l m v) l m
  rw [put_div, put_mod] at h1
  have h2 : putN x l m v = x / 2 ^ (l + m) * 2 ^ (l + m) + v % 2 ^ m * 2 ^ l + x % 2 ^ l := rfl
  have h3 : putN x l m v / 2 ^ l % 2 ^ m * 2 ^ l = v % 2 ^ m * 2 ^ l := by omega
  exact Nat.eq_of_mul_eq_mul_right (p2pos l) h3

theorem put_put (x l m v u : Nat) : putN (putN x l m v) l m u = putN x l m u := by
  have e : putN (putN x l m v) l m u = putN x l m v / 2 ^ (l + m) * 2 ^ (l + m) + u % 2 ^ m * 2 ^ l + putN x l m v % 2 ^ l := rfl
  rw [e, put_div, put_mod]; rfl

theorem put_get (x l m : Nat) : putN x l m (getN x l m) = x := by
  have h := x_split x l m
  unfold putN getN
  rw [Nat.mod_mod]; omega

theorem put_lt (x l m v : Nat) (h : l + m ≤ 32) (hx : x < 4294967296) : putN x l m v < 4294967296 := by
  have h1 := mid_lt l m v (x % 2 ^ l) (Nat.mod_lt _ (p2pos l))
  have h2 : (x / 2 ^ (l + m) + 1) * 2 ^ (l + m) ≤ 4294967296 := by
    have := Nat.mul_le_mul_right (2 ^ (l + m)) (Nat.succ_le_of_lt (div_lt_pow x (l + m) h hx))
    rwa [← Nat.pow_add, show 32 - (l + m) + (l + m) = 32 by omega] at this
  rw [Nat.add_mul, Nat.one_mul] at h2
  unfold putN; omega

theorem hole_eq (l m : Nat) (h : l + m ≤ 32) : (2 ^ m - 1) * 2 ^ l % 4294967296 = (2 ^ m - 1) * 2 ^ l := by
  apply Nat.mod_eq_of_lt
  have h1 : (2 ^ m - 1) * 2 ^ l < 2 ^ m * 2 ^ l := Nat.mul_lt_mul_of_pos_right (by have := p2pos m; omega) (p2pos l)
  rw [← Nat.pow_add, Nat.add_comm] at h1
  exact Nat.lt_of_lt_of_le h1 (p2le32 h)

/- Everything but the hole. -/
theorem andNot_hole (x l m : Nat) (h : l + m ≤ 32) (hx : x < 4294967296) : x &&& (4294967295 - (2 ^ m - 1) * 2 ^ l) = putN x l m 0 := by
  have hh : (2 ^ m - 1) * 2 ^ l < 2 ^ 32 := by rw [← hole_eq l m h]; exact Nat.mod_lt _ (by decide)
  have hb : x % 2 ^ l < 2 ^ (l + m) := Nat.lt_of_lt_of_le (Nat.mod_lt _ (p2pos l)) (p2le (by omega))
  have e0 : putN x l m 0 = 2 ^ (l + m) * (x / 2 ^ (l + m)) + x % 2 ^ l := by
    unfold putN; rw [Nat.zero_mod, Nat.zero_mul, Nat.add_zero, Nat.mul_comm]
  rw [e0]
  apply Nat.eq_of_testBit_eq
  intro j
  rw [Nat.testBit_two_pow_mul_add _ hb, Nat.testBit_and,
    show 4294967295 - (2 ^ m - 1) * 2 ^ l = 2 ^ 32 - ((2 ^ m - 1) * 2 ^ l + 1) by omega,
    Nat.testBit_two_pow_sub_succ hh, ← Nat.shiftLeft_eq, Nat.testBit_shiftLeft, Nat.testBit_two_pow_sub_one]
  by_cases hj : j < 32
  · by_cases h1 : j < l + m
    · rw [if_pos h1, Nat.testBit_mod_two_pow]
      by_cases h2 : j < l
      · simp [hj, h2]
      · have : j - l < m := by omega
        simp [hj, h2, this]; omega
    · rw [if_neg h1, Nat.testBit_div_two_pow]
      have e : j - (l + m) + (l + m) = j := by omega
      have : ¬ j - l < m := by omega
      simp [hj, this, e]
  · have hf : x.testBit j = false := Nat.testBit_lt_two_pow (Nat.lt_of_lt_of_le hx (show 2 ^ 32 ≤ 2 ^ j from p2le (by omega)))
    have h1 : ¬ j < l + m := by omega
    rw [if_neg h1, Nat.testBit_div_two_pow, show j - (l + m) + (l + m) = j by omega, hf]
    simp

theorem or_put (x l m v : Nat) : putN x l m 0 ||| v % 2 ^ m * 2 ^ l = putN x l m v := by
  have hb : x % 2 ^ l < 2 ^ (l + m) := Nat.lt_of_lt_of_le (Nat.mod_lt _ (p2pos l)) (p2le (by omega))
  have e0 : putN x l m 0 = 2 ^ (l + m) * (x / 2 ^ (l + m)) + x % 2 ^ l := by
    unfold putN; rw [Nat.zero_mod, Nat.zero_mul, Nat.add_zero, Nat.mul_comm]
  have e1 : putN x l m v = 2 ^ (l + m) * (x / 2 ^ (l + m)) + (2 ^ l * (v % 2 ^ m) + x % 2 ^ l) := by
    unfold putN; rw [Nat.add_assoc, Nat.mul_comm, Nat.mul_comm (2 ^ l)]
  have hc : 2 ^ l * (v % 2 ^ m) + x % 2 ^ l < 2 ^ (l + m) := by
    have := mid_lt l m v (x % 2 ^ l) (Nat.mod_lt _ (p2pos l)); rwa [Nat.mul_comm] at this
  rw [e0, e1]
  apply Nat.eq_of_testBit_eq
  intro j
  rw [Nat.testBit_or, Nat.testBit_two_pow_mul_add _ hb, Nat.testBit_two_pow_mul_add _ hc,
    Nat.testBit_two_pow_mul_add _ (Nat.mod_lt _ (p2pos l)), ← Nat.shiftLeft_eq, Nat.testBit_shiftLeft]
  simp only [Nat.testBit_mod_two_pow]
  by_cases h1 : j < l + m
  · by_cases h2 : j < l
    · simp [h1, h2]; omega
    · simp [h1, h2]; omega
  · have : ¬ j - l < m := by omega
    simp [h1, this]

/- Numbers of few bits. -/
theorem ext_range (v m : Nat) : -(2 ^ m) ≤ 2 * extN v m ∧ 2 * extN v m < 2 ^ m := by
  have h1 : v % 2 ^ m < 2 ^ m := Nat.mod_lt _ (p2pos m)
  rw [← p2cast]
  unfold extN
  rw [← p2cast]
  have h0 := p2pos m
  generalize v % 2 ^ m = a at *
  generalize 2 ^ m = p at *
  split <;> omega

/- Moved up to bit 31 and back with the sign: the number of the lower m bits. -/
theorem ext_shift (v m : Nat) (h2 : m ≤ 32) : (if v * 2 ^ (32 - m) % 4294967296 < 2147483648 then ((v * 2 ^ (32 - m) % 4294967296 : Nat) : Int) else ((v * 2 ^ (32 - m) % 4294967296 : Nat) : Int) - 4294967296) / 2 ^ (32 - m) = extN v m := by
  have h0 := p2pos (32 - m)
  have e : 4294967296 = 2 ^ m * 2 ^ (32 - m) := by rw [← Nat.pow_add, show m + (32 - m) = 32 by omega]
  have hm : v * 2 ^ (32 - m) % 4294967296 = v % 2 ^ m * 2 ^ (32 - m) := mul_mod_pow v m h2
  have hc : v % 2 ^ m * 2 ^ (32 - m) < 2147483648 ↔ 2 * (v % 2 ^ m) < 2 ^ m := by
    have h3 : 2 * (v % 2 ^ m) < 2 ^ m ↔ 2 * (v % 2 ^ m) * 2 ^ (32 - m) < 2 ^ m * 2 ^ (32 - m) := (Nat.mul_lt_mul_right h0).symm
    rw [h3, ← e, Nat.mul_assoc]; omega
  have hp : (2 : Int) ^ (32 - m) ≠ 0 := by rw [← p2cast]; omega
  rw [hm]
  unfold extN
  by_cases hlt : 2 * (v % 2 ^ m) < 2 ^ m
  · rw [if_pos (hc.2 hlt), if_pos hlt, Int.natCast_mul, p2cast, Int.mul_ediv_cancel _ hp]
  · rw [if_neg (fun x => hlt (hc.1 x)), if_neg hlt, Int.natCast_mul, p2cast]
    have e2 : (4294967296 : Int) = 2 ^ m * 2 ^ (32 - m) := by rw [← Int.pow_add, show m + (32 - m) = 32 by omega]; rfl
    rw [e2, ← Int.sub_mul, Int.mul_ediv_cancel _ hp]

theorem ext_mod (v : Int) (m : Nat) (hm : m ≤ 32) : (((v % 4294967296).toNat % 2 ^ m : Nat) : Int) = v % 2 ^ m := by
  have h0 : 0 ≤ v % 4294967296 := Int.emod_nonneg _ (by decide)
  rw [Int.natCast_emod, Int.toNat_of_nonneg h0, p2cast]
  apply Int.emod_emod_of_dvd
  exact ⟨2 ^ (32 - m), by rw [← Int.pow_add, show m + (32 - m) = 32 by omega]; rfl⟩

/- A number is what its lower m bits say just where it fits. -/
theorem ext_fits (v : Int) (m : Nat) (hm : m ≤ 32) : extN (v % 4294967296).toNat m = v ↔ (-(2 ^ m) ≤ 2 * v ∧ 2 * v < 2 ^ m) := by
  constructor
  · intro h; have := ext_range (v % 4294967296).toNat m; rw [h] at this; exact this
  · intro h
    have e := ext_mod v m hm
    have h0 := p2pos m
    unfold extN
    rw [← p2cast] at h ⊢
    rw [← p2cast] at e
    rw [e]
    generalize (v % 4294967296).toNat % 2 ^ m = a at *
    generalize hp : 2 ^ m = p at *
    by_cases hv : 0 ≤ v
    · have : v % (p : Int) = v := Int.emod_eq_of_lt hv (by omega)
      rw [this] at e ⊢
      rw [if_pos (by omega)]
    · have : v % (p : Int) = v + p := by
        rw [← Int.add_emod_right]; exact Int.emod_eq_of_lt (by omega) (by omega)
      rw [this] at e ⊢
      rw [if_neg (by omega)]; omega

end Go.Proofs.Ytgdpcdpkaaefbaa.Bm
