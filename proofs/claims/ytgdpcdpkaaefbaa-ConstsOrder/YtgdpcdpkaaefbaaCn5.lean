/-
  Package consts: quotient, rest; Good; beside; member, ordinalOfText, character.
-/
import Derived.Test.YtgdpcdpkaaefbaaCn4
namespace Go.Proofs.Ytgdpcdpkaaefbaa.Cn
open Go.RowKit hiding Hid
open Go.Maps Go.Proofs.Ytgdpcdpkaaefbaa.Tx Go.Proofs.Ytgdpcdpkaaefbaa.Lx Go.Proofs.Ytgdpcdpkaaefbaa.Mp Go.Proofs.Ytgdpcdpkaaefbaa.Tr Go.Proofs.Ytgdpcdpkaaefbaa.Bits
set_option linter.unusedVariables false
set_option linter.unusedSimpArgs false
set_option maxRecDepth 100000

theorem rest_eq (a b : Int) (b0 : 0 < b) : (a.tmod b + b).tmod b = a % b ∧ -b < a.tmod b ∧ a.tmod b < b := by
  have h1 := Int.mul_tdiv_add_tmod a b
  have e : a.tmod b + b = a + b * (1 - a.tdiv b) := by rw [Int.mul_sub, Int.mul_one]; omega
  have l1 := Int.lt_tmod_of_pos a b0
  have l2 := Int.tmod_lt_of_pos a b0
  rw [Int.tmod_eq_emod_of_nonneg (by omega), e, Int.add_mul_emod_self_left]
  exact ⟨rfl, l1, l2⟩
theorem rest_at (a b : Int) (a0 : -4294967296 ≤ a) (a1 : a < 4294967296) (b0 : 0 < b) (b1 : b < 4294967296) (w : World) : Calls Try.prog 67 #[.int .i64 a, .int .i64 b] w fun e w' => e = .returned (.int .i64 (a % b)) ∧ w' = w := by
  obtain ⟨h1, h2, h3⟩ := rest_eq a b b0
  obtain ⟨T, hT⟩ : ∃ T, a.tmod b = T := ⟨_, rfl⟩
  rw [hT] at h1 h2 h3
  obtain ⟨R, hR⟩ : ∃ R, a % b = R := ⟨_, rfl⟩
  rw [hR] at h1 ⊢
  have hz : (b == 0) = false := by simp; omega
  have hz' : ¬ b = 0 := by omega
  go_enter Try.func67, Try.ntmps67
  go_wp2
  go_ret
  exact ⟨rfl, rfl⟩
theorem quo_eq (a b : Int) (b0 : 0 < b) : (a - a % b).tdiv b = a / b := by
  have h1 := Int.mul_ediv_add_emod a b
  have e : a - a % b = b * (a / b) := by omega
  rw [e, Int.mul_tdiv_cancel_left _ (by omega)]
theorem quo_at (a b : Int) (a0 : -4294967296 ≤ a) (a1 : a < 4294967296) (b0 : 0 < b) (b1 : b < 4294967296) (w : World) : Calls Try.prog 66 #[.int .i64 a, .int .i64 b] w fun e w' => e = .returned (.int .i64 (a / b)) ∧ w' = w := by
  have HR := fun W => rest_at a b a0 a1 b0 b1 W
  have h1 := quo_eq a b b0
  have h2 := Int.emod_nonneg a (show b ≠ 0 by omega)
  have h3 := Int.emod_lt_of_pos a b0
  obtain ⟨R, hR⟩ : ∃ R, a % b = R := ⟨_, rfl⟩
  rw [hR] at h1 h2 h3 HR
  obtain ⟨Q, hQ⟩ : ∃ Q, a / b = Q := ⟨_, rfl⟩
  rw [hQ] at h1 ⊢
  have hz : (b == 0) = false := by simp; omega
  have hz' : ¬ b = 0 := by omega
  have hm : (b == -1) = false := by simp; omega
  have hq : -9223372036854775808 ≤ Q ∧ Q < 9223372036854775808 := by
    have e1 := Int.mul_ediv_add_emod a b
    have e2 := Int.emod_nonneg a (show b ≠ 0 by omega)
    have e3 := Int.emod_lt_of_pos a b0
    rw [hQ] at e1
    constructor
    · by_cases hn : 0 ≤ Q
      · omega
      · have : b * Q ≤ Q := by
          have := Int.mul_le_mul_of_nonpos_right (c := Q) (show 1 ≤ b by omega) (by omega)
          omega
        rcases Int.lt_or_le Q (-9223372036854775808) with h | h
        · omega
        · exact h
    · by_cases hn : Q ≤ 0
      · omega
      · have : Q ≤ b * Q := by
          have := Int.mul_le_mul_of_nonneg_right (c := Q) (show 1 ≤ b by omega) (by omega)
          omega
        omega
  obtain ⟨q0, q1⟩ := hq
  go_enter Try.func66, Try.ntmps66
  go_wp2_with (go_at_call 67; refine (HR _).mono ?_; rintro e w2 ⟨rfl, rfl⟩)
  go_ret
  exact ⟨rfl, rfl⟩
set_option maxHeartbeats 2000000 in
theorem gtext_at (s : List UInt8) (w : World) (hs : s.length ≤ 9223372036854775807) : Calls Try.prog 31 #[.string (bs s)] w fun e w' => e = .returned (.bool (strB s)) ∧ w' = w := by
  have hsz := bs_size s
  have hs' : (s.length : Int) ≤ 9223372036854775807 := by omega
  by_cases h64 : 64 < s.length
  · have k1 : (64 : Int) < s.length := by omega
    go_enter Try.func31, Try.ntmps31
    go_wp2
    go_ret
    refine ⟨?_, rfl⟩
    rw [strB_long h64]
    rfl
  · have k1 : ¬ (64 : Int) < s.length := by omega
    go_enter Try.func31, Try.ntmps31
    go_wp2
    go_loop [9] (fun iv => ∃ i : Nat, i ≤ s.length ∧ iv = .int .i64 i ∧ Hid ((s.take i).all strN = true)) (fun iv => s.length - (intOf iv).toNat)
    case atStart => exact ⟨0, Nat.zero_le _, rfl, hide (by simp)⟩
    case round =>
      obtain ⟨q, hq, rfl, HH⟩ := hrel
      by_cases hlt : q < s.length
      · have j1 : (q : Int) < s.length := by omega
        obtain ⟨c2, hc2⟩ : ∃ c, s[q] = c := ⟨_, rfl⟩
        have hb : ∀ h, (bs s)[q]'h = c2 := fun h => hc2
        have HSq := hide (show s[q]? = some c2 by rw [List.getElem?_eq_getElem hlt, hc2])
        obtain ⟨C, hC⟩ : ∃ C : Int, (c2.toNat : Int) = C := ⟨_, rfl⟩
        have HCc := hide hC
        clear hc2
        by_cases h32 : C < 32
        · have HS := hide (show strN c2 = false by simp [strN]; omega)
          go_wp2
          go_ret
          refine ⟨?_, rfl⟩
          rw [strB_in h64, all_not HSq.out HS.out]; rfl
        · by_cases h34 : C = 34
          · have n34 : (C == 34) = true := by rw [h34]; rfl
            have hc34 : c2 = 34 := UInt8.toNat_inj.1 (by show c2.toNat = 34; omega)
            have HS := hide (show strN c2 = false by rw [hc34]; decide)
            clear hc34
            go_wp2
            go_ret
            refine ⟨?_, rfl⟩
            rw [strB_in h64, all_not HSq.out HS.out]; rfl
          · have n34 : (C == 34) = false := by simpa using h34
            have HS := hide (show strN c2 = true by simp [strN]; constructor; omega; intro e; apply h34; rw [← hC, e]; rfl)
            go_wp2
            exact ⟨⟨q + 1, by omega, by go_num, hide (all_on HSq.out HH.out HS.out)⟩, by simp [intOf]; omega⟩
      · obtain rfl : q = s.length := by omega
        go_wp2
        go_ret
        refine ⟨?_, rfl⟩
        have := HH.out
        rw [List.take_length] at this
        rw [strB_in h64, this]
        rfl
theorem goodN_1 (n : Int) : goodN 1 n = inR n := rfl
theorem goodN_2 (n : Int) : goodN 2 n = wiB n 1 := rfl
theorem goodN_3 (n : Int) : goodN 3 n = wiB n 255 := rfl
theorem goodN_4 (n : Int) : goodN 4 n = wiB n 4294967295 := rfl
theorem goodN_5 (n : Int) : goodN 5 n = (n == 0) := rfl
theorem goodN_no {f : Int} (h1 : ¬ f = 1) (h2 : ¬ f = 2) (h3 : ¬ f = 3) (h4 : ¬ f = 4) (h5 : ¬ f = 5) (n : Int) : goodN f n = false := by simp [goodN, h1, h2, h3, h4, h5]
set_option maxHeartbeats 2000000 in
theorem gnum_at (f n : Int) (w : World) : Calls Try.prog 32 #[.int .i64 f, .int .i64 n] w fun e w' => e = .returned (.bool (goodN f n)) ∧ w' = w := by
  by_cases h1 : f = 1
  · subst h1; rw [goodN_1]; (go_enter Try.func32, Try.ntmps32; go_wp2_with (first | (go_at_call 49; refine (within_at _ _ _).mono ?_; rintro e w2 ⟨rfl, rfl⟩) | (go_at_call 60; refine (fits_any _ _ _).mono ?_; rw [fits32]; rintro e w2 ⟨rfl, rfl⟩)); go_ret); exact ⟨rfl, rfl⟩
  by_cases h2 : f = 2
  · subst h2; rw [goodN_2]; (go_enter Try.func32, Try.ntmps32; go_wp2_with (first | (go_at_call 49; refine (within_at _ _ _).mono ?_; rintro e w2 ⟨rfl, rfl⟩) | (go_at_call 60; refine (fits_any _ _ _).mono ?_; rw [fits32]; rintro e w2 ⟨rfl, rfl⟩)); go_ret); exact ⟨rfl, rfl⟩
  by_cases h3 : f = 3
  · subst h3; rw [goodN_3]; (go_enter Try.func32, Try.ntmps32; go_wp2_with (first | (go_at_call 49; refine (within_at _ _ _).mono ?_; rintro e w2 ⟨rfl, rfl⟩) | (go_at_call 60; refine (fits_any _ _ _).mono ?_; rw [fits32]; rintro e w2 ⟨rfl, rfl⟩)); go_ret); exact ⟨rfl, rfl⟩
  by_cases h4 : f = 4
  · subst h4; rw [goodN_4]; (go_enter Try.func32, Try.ntmps32; go_wp2_with (first | (go_at_call 49; refine (within_at _ _ _).mono ?_; rintro e w2 ⟨rfl, rfl⟩) | (go_at_call 60; refine (fits_any _ _ _).mono ?_; rw [fits32]; rintro e w2 ⟨rfl, rfl⟩)); go_ret); exact ⟨rfl, rfl⟩
  by_cases h5 : f = 5
  · subst h5; rw [goodN_5]; (go_enter Try.func32, Try.ntmps32; go_wp2_with (first | (go_at_call 49; refine (within_at _ _ _).mono ?_; rintro e w2 ⟨rfl, rfl⟩) | (go_at_call 60; refine (fits_any _ _ _).mono ?_; rw [fits32]; rintro e w2 ⟨rfl, rfl⟩)); go_ret); exact ⟨rfl, rfl⟩
  · rw [goodN_no h1 h2 h3 h4 h5]
    have k1 : (f == 1) = false := by simpa using h1
    have k2 : (f == 2) = false := by simpa using h2
    have k3 : (f == 3) = false := by simpa using h3
    have k4 : (f == 4) = false := by simpa using h4
    have k5 : (f == 5) = false := by simpa using h5
    (go_enter Try.func32, Try.ntmps32; go_wp2_with (first | (go_at_call 49; refine (within_at _ _ _).mono ?_; rintro e w2 ⟨rfl, rfl⟩) | (go_at_call 60; refine (fits_any _ _ _).mono ?_; rw [fits32]; rintro e w2 ⟨rfl, rfl⟩)); go_ret)
    exact ⟨rfl, rfl⟩
end Go.Proofs.Ytgdpcdpkaaefbaa.Cn
