/-
  Sets of constants, purely.
-/
import Derived.Test.YtgdpcdpkaaefbaaCl1
namespace Go.Proofs.Ytgdpcdpkaaefbaa.Cn
open Go.RowKit hiding Hid
open Go.Maps Go.Proofs.Ytgdpcdpkaaefbaa.Tx Go.Proofs.Ytgdpcdpkaaefbaa.Lx Go.Proofs.Ytgdpcdpkaaefbaa.Mp Go.Proofs.Ytgdpcdpkaaefbaa.Bits Go.Proofs.Ytgdpcdpkaaefbaa.Tr Go.Proofs.Ytgdpcdpkaaefbaa.Bm
set_option linter.unusedVariables false
set_option linter.unusedSimpArgs false
set_option maxRecDepth 100000

theorem lookq {E : List (Ky × Cd)} (hd : (E.map (·.1)).Nodup) {x : Ky} {v : Cd} (h : (x, v) ∈ E) : E.lookup x = some v := by
  induction E with
  | nil => cases h
  | cons q L ih =>
    obtain ⟨y, u⟩ := q
    simp only [List.map_cons, List.nodup_cons] at hd
    rw [List.lookup_cons]
    rcases List.mem_cons.1 h with h | h
    · injection h with h1 h2
      subst h1
      subst h2
      simp
    · have : (x == y) = false := by
        cases hb : (x == y) with
        | false => rfl
        | true => exact absurd (List.mem_map.2 ⟨(x, v), h, eq_of_beq hb⟩) hd.1
      rw [this]
      exact ih hd.2 h
theorem rkq {E : List (Ky × Cd)} (hd : (E.map (·.1)).Nodup) {s : List UInt8} {a b : Vl} {c : Cd} (h : ((a.f, b.f, s), c) ∈ E) : rk E s a b = ev c a b := by unfold rk; rw [lookq hd h]
theorem two_q {s : List UInt8} {x y : Vl} {f g : Int} {c : Cd} (hx : x.f = f) (hy : y.f = g) (gx : goodV x = true) (gy : goodV y = true) (h3 : ¬ f = 3 ∧ ¬ g = 3) (h : decide (((f, g, s), c) ∈ twosE) = true) : twoP s x y = ev c x y := by
  unfold twoP
  rw [if_pos ⟨gx, gy⟩]
  have e1 : besV x y = x := if_neg (by omega)
  have e2 : besV y x = y := if_neg (by omega)
  rw [e1, e2]
  exact rkq twos_nd (by rw [hx, hy]; exact of_decide_eq_true h)
theorem good_s {a : Int} (h0 : 0 ≤ a) (h1 : a < 4294967296) : goodV ⟨4, a, []⟩ = true := by
  rw [goodV_n (v := ⟨4, a, []⟩) (by dsimp only; decide)]
  dsimp only
  rw [goodN_4]
  simp only [wiB, List.isEmpty_nil, Bool.true_and, Bool.and_eq_true, decide_eq_true_eq]
  omega
theorem two_s {s : List UInt8} {a b : Int} {c : Cd} (a0 : 0 ≤ a) (a1 : a < 4294967296) (b0 : 0 ≤ b) (b1 : b < 4294967296) (h : decide (((4, 4, s), c) ∈ twosE) = true) : twoP s ⟨4, a, []⟩ ⟨4, b, []⟩ = ev c ⟨4, a, []⟩ ⟨4, b, []⟩ := two_q (f := 4) (g := 4) rfl rfl (good_s a0 a1) (good_s b0 b1) ⟨by decide, by decide⟩ h
theorem one_s {a : Int} (a0 : 0 ≤ a) (a1 : a < 4294967296) : oneP [45] ⟨4, a, []⟩ = setR (Go.bits .xor .u32 IntKind.u32.max a) := by
  unfold oneP
  rw [if_pos (good_s a0 a1), rkq ones_nd (c := .cpl) (of_decide_eq_true (by kernel_rfl))]
  show setR (Go.bits .xor .u32 IntKind.u32.max (a % 4294967296)) = _
  rw [Int.emod_eq_of_lt a0 a1]
theorem xor_max {B : Nat} (h : B < 4294967296) : 4294967295 ^^^ B = 4294967295 - B := by
  apply Nat.eq_of_testBit_eq
  intro i
  rw [show 4294967295 - B = 2 ^ 32 - (B + 1) by omega, Nat.testBit_two_pow_sub_succ (by omega), Nat.testBit_xor, show (4294967295 : Nat) = 2 ^ 32 - 1 from rfl, Nat.testBit_two_pow_sub_one]
  by_cases hi : i < 32
  · simp [hi]
  · have : B.testBit i = false := Nat.testBit_lt_two_pow (Nat.lt_of_lt_of_le h (by rw [show (4294967296 : Nat) = 2 ^ 32 from rfl]; exact Nat.pow_le_pow_right (by decide) (by omega)))
    simp [hi, this]
theorem high_bit {B i : Nat} (h : B < 4294967296) (hi : ¬ i < 32) : B.testBit i = false := Nat.testBit_lt_two_pow (Nat.lt_of_lt_of_le h (by rw [show (4294967296 : Nat) = 2 ^ 32 from rfl]; exact Nat.pow_le_pow_right (by decide) (by omega)))
theorem and_cpl {a b : Int} (a0 : 0 ≤ a) (a1 : a < 4294967296) (b0 : 0 ≤ b) (b1 : b < 4294967296) : Go.bits .and .u32 a (Go.bits .xor .u32 IntKind.u32.max b) = Go.bits .andNot .u32 a b := by
  obtain ⟨A, rfl⟩ := Int.eq_ofNat_of_zero_le a0
  obtain ⟨B, rfl⟩ := Int.eq_ofNat_of_zero_le b0
  have e : IntKind.u32.max = ((4294967295 : Nat) : Int) := rfl
  rw [e, u32_xor_nat _ _ (by decide) (by omega), xor_max (by omega), u32_and_nat _ _ (by omega) (by omega), u32_andNot_nat _ _ (by omega) (by omega)]
theorem or_diffs {a b : Int} (a0 : 0 ≤ a) (a1 : a < 4294967296) (b0 : 0 ≤ b) (b1 : b < 4294967296) : Go.bits .or .u32 (Go.bits .andNot .u32 a b) (Go.bits .andNot .u32 b a) = Go.bits .xor .u32 a b := by
  obtain ⟨A, rfl⟩ := Int.eq_ofNat_of_zero_le a0
  obtain ⟨B, rfl⟩ := Int.eq_ofNat_of_zero_le b0
  have h1 : A &&& (4294967295 - B) < 2 ^ 32 := Nat.and_lt_two_pow _ (by omega)
  have h2 : B &&& (4294967295 - A) < 2 ^ 32 := Nat.and_lt_two_pow _ (by omega)
  rw [u32_andNot_nat _ _ (by omega) (by omega), u32_andNot_nat _ _ (by omega) (by omega), u32_or_nat _ _ (by omega) (by omega), u32_xor_nat _ _ (by omega) (by omega)]
  congr 1
  apply Nat.eq_of_testBit_eq
  intro i
  rw [show 4294967295 - B = 2 ^ 32 - (B + 1) by omega, show 4294967295 - A = 2 ^ 32 - (A + 1) by omega, Nat.testBit_or, Nat.testBit_and, Nat.testBit_and, Nat.testBit_two_pow_sub_succ (by omega), Nat.testBit_two_pow_sub_succ (by omega), Nat.testBit_xor]
  by_cases hi : i < 32
  · simp only [hi, decide_true, Bool.true_and]
    cases A.testBit i <;> cases B.testBit i <;> rfl
  · rw [high_bit (by omega) hi, high_bit (by omega) hi]
    simp
/- The set of one element. -/
theorem one_el {n : Int} (n0 : 0 ≤ n) (n1 : n ≤ 31) : setP [(n, n)] = setR (2 ^ n.toNat) := by
  unfold setP
  rw [setF_cons (by simp [wiB]; omega) (by simp [wiB]; omega)]
  obtain ⟨N, rfl⟩ := Int.eq_ofNat_of_zero_le n0
  rw [show ((N : Int) - N + 1) = 1 by omega]
  have : putI 0 (N : Int) 1 4294967295 = 2 ^ N := by
    unfold putI
    rw [if_pos (by omega)]
    show ((putN 0 N 1 4294967295 : Nat) : Int) = _
    have : putN 0 N 1 4294967295 = 2 ^ N := by
      unfold putN
      rw [show (4294967295 : Nat) % 2 ^ 1 = 1 from rfl]
      simp
    rw [this]
    simp
  rw [this]
  show setF (2 ^ N) [] = setR (2 ^ N)
  rfl
theorem el_lt {n : Int} (n0 : 0 ≤ n) (n1 : n ≤ 31) : (0 : Int) ≤ 2 ^ n.toNat ∧ (2 : Int) ^ n.toNat < 4294967296 := by
  obtain ⟨N, rfl⟩ := Int.eq_ofNat_of_zero_le n0
  simp only [Int.toNat_natCast]
  have h : (2 : Nat) ^ N < 2 ^ 32 := Nat.pow_lt_pow_right (by decide) (by omega)
  have e : ((2 ^ N : Nat) : Int) = (2 : Int) ^ N := by simp
  rw [← e]
  rw [show (2 : Nat) ^ 32 = 4294967296 from rfl] at h
  generalize (2 : Nat) ^ N = q at *
  omega
theorem and_p2 (A N : Nat) : A &&& 2 ^ N = if A.testBit N = true then 2 ^ N else 0 := by
  apply Nat.eq_of_testBit_eq
  intro i
  rw [Nat.testBit_and, Nat.testBit_two_pow]
  by_cases h : N = i
  · subst h
    cases hb : A.testBit N
    · simp
    · simp [Nat.testBit_two_pow]
  · cases hb : A.testBit N
    · simp [h]
    · simp [h, Nat.testBit_two_pow]
theorem el_in {a n : Int} (a0 : 0 ≤ a) (a1 : a < 4294967296) (n0 : 0 ≤ n) (n1 : n ≤ 31) : (getI a n 1 == 1) = (Go.bits .and .u32 (2 ^ n.toNat) a != 0) := by
  obtain ⟨A, rfl⟩ := Int.eq_ofNat_of_zero_le a0
  obtain ⟨N, rfl⟩ := Int.eq_ofNat_of_zero_le n0
  have hp : (2 : Nat) ^ N < 4294967296 := Nat.pow_lt_pow_right (a := 2) (by decide) (show N < 32 by omega)
  have e : (2 : Int) ^ (N : Int).toNat = ((2 ^ N : Nat) : Int) := by simp
  rw [e, u32_and_nat _ _ hp (by omega), Nat.and_comm, and_p2]
  have g : getI (A : Int) (N : Int) 1 = ((A / 2 ^ N % 2 : Nat) : Int) := by
    unfold getI
    rw [if_pos (by omega)]
    rfl
  rw [g]
  have hb : A.testBit N = decide (A / 2 ^ N % 2 = 1) := Nat.testBit_eq_decide_div_mod_eq
  have hpos := p2pos N
  rcases Nat.mod_two_eq_zero_or_one (A / 2 ^ N) with h | h
  · rw [hb, h]; simp
  · rw [hb, h]
    simp only [decide_true, if_true]
    generalize (2 : Nat) ^ N = q at *
    simp
    omega
end Go.Proofs.Ytgdpcdpkaaefbaa.Cn
