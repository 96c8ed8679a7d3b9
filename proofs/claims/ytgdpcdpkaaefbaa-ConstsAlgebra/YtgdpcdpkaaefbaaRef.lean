/-
  What each function of the document's own layer 1 (package spinetref01) answers, for every word and number.
-/
import Derived.Test.YtgdpcdpkaaefbaaBits
import Derived.Deep.QuietTactic
import Derived.BigQuiet
namespace Go.Proofs.Ytgdpcdpkaaefbaa.Bits
open Go.RowKit Go.Proofs.Ytgdpcdpkaaefbaa.Bm

set_option maxHeartbeats 400000 in
theorem pow_any0 (n : Int) (w : World) (h0 : 0 ≤ n) (h1 : n ≤ 32) :
    Calls Try.prog 61 #[.int .u32 n] w fun e w' => e = .returned (.int .u64 (2 ^ n.toNat)) ∧ w' = w := by
  obtain ⟨N, rfl⟩ := Int.eq_ofNat_of_zero_le h0
  go_enter Try.func61, Try.ntmps61
  go_wp2
  go_loop [3, 4] (fun p i => ∃ k : Nat, k ≤ N ∧ i = .int .u32 k ∧ p = .int .u64 ((2 ^ k : Nat) : Int)) (fun _ i => N - (intOf i).toNat)
  case atStart => exact ⟨0, Nat.zero_le _, rfl, rfl⟩
  case round =>
    obtain ⟨k, hk, rfl, rfl⟩ := hrel
    by_cases hlt : k < N
    · have hb := p2le32 (k := k) (by omega)
      have HS : Hid (((2 ^ (k + 1) : Nat) : Int) = ((2 ^ k : Nat) : Int) * 2) := by rw [Nat.pow_succ]; exact Int.natCast_mul _ _
      generalize 2 ^ k = q at *
      go_wp2
      go_round
      case rel => exact ⟨k + 1, by omega, by go_num, by rw [HS.out]⟩
      case measure => simp [intOf]; omega
    · have e : k = N := by omega
      subst e
      go_wp2
      go_ret
      exact ⟨ret_int (by simp), rfl⟩
def pw (n : Int) : Int := 2 ^ n.toNat
theorem pw_bd (n : Int) (h1 : n ≤ 32) : 1 ≤ pw n ∧ pw n ≤ 4294967296 := by
  unfold pw; rw [← p2cast]; have := p2pos n.toNat; have := p2le32 (k := n.toNat) (by omega); omega
theorem pow_any (n : Int) (w : World) (h0 : 0 ≤ n) (h1 : n ≤ 32) :
    Calls Try.prog 61 #[.int .u32 n] w fun e w' => e = .returned (.int .u64 (pw n)) ∧ w' = w := pow_any0 n w h0 h1
set_option maxHeartbeats 400000 in
theorem rlsl_any (x n : Int) (w : World) (x0 : 0 ≤ x) (x1 : x < 4294967296) (n0 : 0 ≤ n) (n1 : n < 4294967296) :
    Calls Try.prog 46 #[.int .u32 x, .int .u32 n] w fun e w' => e = .returned (.int .u32 (lslI x n)) ∧ w' = w := by
  go_enter Try.func46, Try.ntmps46
  go_wp2_with (go_at_call 61; refine (pow_any _ _ (by omega) (by omega)).mono ?_; rintro e w' ⟨rfl, rfl⟩)
  go_ret
  exact ⟨ret_int (rlsl_eq x n x0 n0), rfl⟩

def asrK (x : Int) (k : Nat) : Int := wrap32 x / 2 ^ k
theorem asrK_bd (x : Int) (k : Nat) : -2147483648 ≤ asrK x k ∧ asrK x k < 2147483648 := by
  induction k with
  | zero => unfold asrK; have := wrap32_lt x; simp; omega
  | succ k ih =>
    have e : asrK x (k + 1) = asrK x k / 2 := by
      unfold asrK; rw [Int.pow_succ, Int.ediv_ediv_of_nonneg (Int.le_of_lt (Int.pow_pos (by decide)))]
    omega
theorem asrK_succ (x : Int) (k : Nat) : asrK x (k + 1) = asrK x k / 2 := by
  unfold asrK; rw [Int.pow_succ, Int.ediv_ediv_of_nonneg (Int.le_of_lt (Int.pow_pos (by decide)))]
set_option maxHeartbeats 400000 in
theorem rasr_any (x n : Int) (w : World) (x0 : 0 ≤ x) (x1 : x < 4294967296) (n0 : 0 ≤ n) (n1 : n < 4294967296) :
    Calls Try.prog 47 #[.int .u32 x, .int .u32 n] w fun e w' => e = .returned (.int .u32 (asrI x n)) ∧ w' = w := by
  obtain ⟨M, hM⟩ := Int.eq_ofNat_of_zero_le (Int.emod_nonneg n (show (32 : Int) ≠ 0 by decide))
  have hM1 : M ≤ 31 := by omega
  have EM : Hid (n.toNat % 32 = M) := by show _ = _; omega
  go_enter Try.func47, Try.ntmps47
  go_wp2
  go_loop [0, 5] (fun p i => ∃ k : Nat, k ≤ M ∧ i = .int .u32 k ∧ p = .int .u32 (asrK x k % 4294967296)) (fun _ i => M - (intOf i).toNat)
  case atStart => exact ⟨0, Nat.zero_le _, rfl, by unfold asrK; congr 1; unfold wrap32; simp; omega⟩
  case round =>
    obtain ⟨k, hk, rfl, rfl⟩ := hrel
    have hb := asrK_bd x k
    by_cases hlt : k < M
    · have HS : Hid (asrK x (k + 1) % 4294967296 = asrK x k % 4294967296 / 2 + asrK x k % 4294967296 / 2147483648 * 2147483648) := by
        show _ = _
        rw [asrK_succ]; omega
      generalize asrK x k = q at *
      go_wp2
      go_round
      case rel => exact ⟨k + 1, by omega, by go_num, by rw [HS.out]⟩
      case measure => simp [intOf]; omega
    · have e : k = M := by omega
      subst e
      go_wp2
      go_ret
      exact ⟨ret_int (by unfold asrI asrK; rw [EM.out]), rfl⟩
set_option maxHeartbeats 400000 in
theorem rror_any (x n : Int) (w : World) (x0 : 0 ≤ x) (x1 : x < 4294967296) (n0 : 0 ≤ n) (n1 : n < 4294967296) :
    Calls Try.prog 48 #[.int .u32 x, .int .u32 n] w fun e w' => e = .returned (.int .u32 (rorI x n)) ∧ w' = w := by
  obtain ⟨M, hM⟩ := Int.eq_ofNat_of_zero_le (Int.emod_nonneg n (show (32 : Int) ≠ 0 by decide))
  have hM1 : M ≤ 31 := by omega
  have EM : Hid (n.toNat % 32 = M) := by show _ = _; omega
  obtain ⟨X, rfl⟩ := Int.eq_ofNat_of_zero_le x0
  go_enter Try.func48, Try.ntmps48
  go_wp2
  go_loop [0, 5] (fun p i => ∃ k : Nat, k ≤ M ∧ i = .int .u32 k ∧ p = .int .u32 (rorN X k : Nat)) (fun _ i => M - (intOf i).toNat)
  case atStart => exact ⟨0, Nat.zero_le _, rfl, by rw [ror_zero]⟩
  case round =>
    obtain ⟨k, hk, rfl, rfl⟩ := hrel
    have hb := ror_lt X k (by omega) (by omega)
    by_cases hlt : k < M
    · have hs := ror_step X k (by omega)
      have HS : Hid (((rorN X (k + 1) : Nat) : Int) = (rorN X k : Int) / 2 + (rorN X k : Int) % 2 * 2147483648) := by
        show _ = _
        rw [← hs]; omega
      clear hs
      generalize rorN X k = q at *
      go_wp2
      go_round
      case rel => exact ⟨k + 1, by omega, by go_num, by rw [HS.out]⟩
      case measure => simp [intOf]; omega
    · have e : k = M := by omega
      subst e
      go_wp2
      go_ret
      exact ⟨ret_int (by unfold rorI; rw [EM.out]; simp), rfl⟩
theorem rsigned_any (x : Int) (w : World) (x0 : 0 ≤ x) (x1 : x < 4294967296) :
    Calls Try.prog 45 #[.int .u32 x] w fun e w' => e = .returned (.int .i64 (wrap32 x)) ∧ w' = w := by
  go_enter Try.func45, Try.ntmps45
  go_wp2
  all_goals go_ret
  all_goals exact ⟨ret_int (by unfold wrap32; omega), rfl⟩
theorem tmod_is (n m : Int) : n.tmod m = if 0 ≤ n then n % m else -(-n % m) := by
  split
  · rename_i h; exact Int.tmod_eq_emod_of_nonneg h
  · rename_i h
    have := Int.neg_tmod n m
    rw [Int.tmod_eq_emod_of_nonneg (by omega)] at this
    omega
theorem rword_any (n : Int) (w : World) :
    Calls Try.prog 44 #[.int .i64 n] w fun e w' => e = .returned (.int .u32 (n % 4294967296)) ∧ w' = w := by
  go_enter Try.func44, Try.ntmps44
  go_wp2
  all_goals go_ret
  all_goals exact ⟨ret_int (by have h : n.tmod 4294967296 = if 0 ≤ n then n % 4294967296 else -(-n % 4294967296) := tmod_is n 4294967296; first | (rw [IntWalk.wrap64_in _ ⟨by omega, by omega⟩]; omega) | omega), rfl⟩
theorem may_yes (lo n : Int) (w : World) (h : okB lo n = true) :
    Calls Try.prog 76 #[.int .i64 lo, .int .i64 n] w fun e w' => e = .returned (.bool true) ∧ w' = w := by
  obtain ⟨h1, h2, h3⟩ := of_decide_eq_true h
  clear h
  go_enter Try.func76, Try.ntmps76
  go_wp2
  go_ret
  exact ⟨rfl, rfl⟩
theorem may_no (lo n : Int) (w : World) (h : okB lo n = false) (l1 : lo ≤ 9223372036854775807) :
    Calls Try.prog 76 #[.int .i64 lo, .int .i64 n] w fun e w' => e = .returned (.bool false) ∧ w' = w := by
  have h' := of_decide_eq_false h
  clear h
  go_enter Try.func76, Try.ntmps76
  go_wp2
  all_goals go_ret
  all_goals exact ⟨ret_bool (by first | rfl | (rw [decide_eq_false_iff_not]; omega)), rfl⟩
theorem drew_more {w w1 : World} (h : ∃ d, w1 = w.drewN d) (m : Nat) : ∃ d, w1.drewN m = w.drewN d := by
  obtain ⟨d, rfl⟩ := h; exact ⟨d + m, by simp⟩
theorem rget_any (x lo n : Int) (w : World) (x0 : 0 ≤ x) (x1 : x < 4294967296) (l1 : lo ≤ 9223372036854775807) :
    Calls Try.prog 38 #[.int .u32 x, .int .i64 lo, .int .i64 n] w fun e w' => e = .returned (.int .u32 (getI x lo n)) ∧ ∃ d, w' = w.drewN d := by
  by_cases h : okB lo n = true
  · have h' := of_decide_eq_true h
    have E : Hid (x / pw lo % pw n = getI x lo n) := get_eq x lo n x0 h'
    obtain ⟨h1, h2, h3⟩ := h'
    have H : Hid (okB lo n = true) := h
    have P1 := pw_bd lo (by omega)
    have P2 := pw_bd n (by omega)
    have hd := div_range x lo.toNat x0 x1
    have hd' : 0 ≤ x / pw lo ∧ x / pw lo < 4294967296 := hd
    clear h hd
    go_enter Try.func38, Try.ntmps38
    go_wp2_with (go_at_call 76; refine (may_yes _ _ _ H.out).mono ?_; rintro e w' ⟨rfl, rfl⟩)
    go_quiet ((go_at_call 61; exact Calls.quiet_of_same (pow_any _ _ (by omega) (by omega))))
    go_wp2
    go_ret
    exact ⟨ret_int (by rw [E.out]; have := get_range x lo n; omega), _, rfl⟩
  · have h' : okB lo n = false := by simpa using h
    have E : Hid (0 = getI x lo n) := by unfold getI; rw [if_neg (of_decide_eq_false h')]; trivial
    have H : Hid (okB lo n = false) := h'
    clear h h'
    go_enter Try.func38, Try.ntmps38
    go_wp2_with (go_at_call 76; refine (may_no _ _ _ H.out l1).mono ?_; rintro e w' ⟨rfl, rfl⟩)
    go_ret
    exact ⟨ret_int E.out, 0, rfl⟩
theorem put_sum (x lo n v : Int) (x0 : 0 ≤ x) (v0 : 0 ≤ v) (h : 0 ≤ lo ∧ 1 ≤ n ∧ n ≤ 32 - lo) : putI x lo n v = x - getI x lo n * pw lo + v % pw n * pw lo := by
  obtain ⟨X, rfl⟩ := Int.eq_ofNat_of_zero_le x0
  obtain ⟨V, rfl⟩ := Int.eq_ofNat_of_zero_le v0
  unfold putI getI pw
  rw [if_pos h, if_pos h]
  simp only [Int.toNat_natCast]
  have e := x_split X lo.toNat n.toNat
  have e2 : putN X lo.toNat n.toNat V = X / 2 ^ (lo.toNat + n.toNat) * 2 ^ (lo.toNat + n.toNat) + V % 2 ^ n.toNat * 2 ^ lo.toNat + X % 2 ^ lo.toNat := rfl
  have e3 : ((getN X lo.toNat n.toNat : Nat) : Int) * 2 ^ lo.toNat = ((X / 2 ^ lo.toNat % 2 ^ n.toNat * 2 ^ lo.toNat : Nat) : Int) := by rw [Int.natCast_mul, p2cast]; rfl
  have e4 : (V : Int) % 2 ^ n.toNat * 2 ^ lo.toNat = ((V % 2 ^ n.toNat * 2 ^ lo.toNat : Nat) : Int) := by simp
  rw [e3, e4, e2]
  omega
theorem rput_eq (x lo n v : Int) (x0 : 0 ≤ x) (x1 : x < 4294967296) (v0 : 0 ≤ v) (h : 0 ≤ lo ∧ 1 ≤ n ∧ n ≤ 32 - lo) :
    IntKind.u64.wrap (IntKind.u64.wrap (x - IntKind.u64.wrap (getI x lo n * pw lo)) + IntKind.u64.wrap (v % pw n * pw lo)) % 4294967296 = putI x lo n v := by
  have hr := put_range x lo n v x0 x1
  rw [put_sum x lo n v x0 v0 h] at hr ⊢
  rw [IntKind.wrap_u64, IntKind.wrap_u64, IntKind.wrap_u64, IntKind.wrap_u64]
  generalize getI x lo n * pw lo = a at *
  generalize v % pw n * pw lo = b at *
  omega
theorem rput_any (x lo n v : Int) (w : World) (x0 : 0 ≤ x) (x1 : x < 4294967296) (v0 : 0 ≤ v) (v1 : v < 4294967296) (l1 : lo ≤ 9223372036854775807) :
    Calls Try.prog 52 #[.int .u32 x, .int .i64 lo, .int .i64 n, .int .u32 v] w fun e w' => e = .returned (.int .u32 (putI x lo n v)) ∧ ∃ d, w' = w.drewN d := by
  by_cases h : okB lo n = true
  · have h' := of_decide_eq_true h
    obtain ⟨h1, h2, h3⟩ := h'
    have H : Hid (okB lo n = true) := h
    have hg := get_range x lo n
    have P1 := pw_bd lo (by omega)
    have P2 := pw_bd n (by omega)
    clear h
    go_enter Try.func52, Try.ntmps52
    go_wp2_with (first | (go_at_call 76; refine (may_yes _ _ _ H.out).mono ?_; rintro e w' ⟨rfl, rfl⟩) | (go_at_call 38; refine (rget_any _ _ _ _ x0 x1 l1).mono ?_; rintro e w1 ⟨rfl, hd⟩) | (go_at_call 61; refine (pow_any _ _ (by omega) (by omega)).mono ?_; rintro e w' ⟨rfl, rfl⟩))
    go_quiet ((go_at_call 61; exact Calls.quiet_of_same (pow_any _ _ (by omega) (by omega))))
    go_wp2
    go_ret
    exact ⟨ret_int (rput_eq x lo n v x0 x1 v0 ⟨h1, h2, h3⟩), drew_more hd _⟩
  · have h' : okB lo n = false := by simpa using h
    have E : Hid (x = putI x lo n v) := by unfold putI; rw [if_neg (of_decide_eq_false h')]; trivial
    have H : Hid (okB lo n = false) := h'
    clear h h'
    go_enter Try.func52, Try.ntmps52
    go_wp2_with (go_at_call 76; refine (may_no _ _ _ H.out l1).mono ?_; rintro e w' ⟨rfl, rfl⟩)
    go_ret
    exact ⟨ret_int E.out, 0, rfl⟩
theorem pw_even (n : Int) (h1 : 1 ≤ n) : pw n = 2 * (pw n / 2) := by
  unfold pw
  have e : n.toNat = (n.toNat - 1) + 1 := by omega
  rw [e, Int.pow_succ]; omega
theorem rext_eq (v n r : Int) (v0 : 0 ≤ v) (h1 : 1 ≤ n) (h2 : n ≤ 32) (_hr : r = r) (h : (pw n / 2 ≤ v % pw n ∧ r = v % pw n - pw n) ∨ (v % pw n < pw n / 2 ∧ r = v % pw n)) : r = extI v n := by
  have he := pw_even n h1
  obtain ⟨V, rfl⟩ := Int.eq_ofNat_of_zero_le v0
  unfold extI extN
  rw [if_pos ⟨h1, h2⟩, Int.toNat_natCast]
  have e1 : ((V % 2 ^ n.toNat : Nat) : Int) = (V : Int) % pw n := by unfold pw; simp
  have e2 : ((2 ^ n.toNat : Nat) : Int) = pw n := by unfold pw; simp
  have e3 : (2 : Int) ^ n.toNat = pw n := rfl
  rw [e3, e1]
  generalize V % 2 ^ n.toNat = a at *
  generalize 2 ^ n.toNat = b at *
  split <;> omega
theorem rfits_eq (v n : Int) (h1 : 1 ≤ n) (h2 : n ≤ 32) (b : Bool) (h : (-(pw n / 2) ≤ v ∧ b = decide (v < pw n / 2)) ∨ (v < -(pw n / 2) ∧ b = false)) : b = fitsB v n := by
  have he := pw_even n h1
  unfold fitsB
  have e3 : (2 : Int) ^ n.toNat = pw n := rfl
  rw [e3]
  rcases h with ⟨h, rfl⟩ | ⟨h, rfl⟩
  · rw [Bool.eq_iff_iff, decide_eq_true_iff, decide_eq_true_iff]; omega
  · rw [eq_comm, decide_eq_false_iff_not]; omega
theorem rfits_any (v n : Int) (w : World) :
    Calls Try.prog 33 #[.int .i64 v, .int .i64 n] w fun e w' => e = .returned (.bool (fitsB v n)) ∧ w' = w := by
  by_cases h : 1 ≤ n ∧ n ≤ 32
  · obtain ⟨h1, h2⟩ := h
    have P2 := pw_bd n (by omega)
    go_enter Try.func33, Try.ntmps33
    go_wp2_with (go_at_call 61; refine (pow_any _ _ (by omega) (by omega)).mono ?_; rintro e w' ⟨rfl, rfl⟩)
    all_goals go_ret
    all_goals exact ⟨ret_bool (rfits_eq v n h1 h2 _ (by first | (left; exact ⟨by assumption, rfl⟩) | (right; exact ⟨by assumption, rfl⟩))), rfl⟩
  · have E : Hid (false = fitsB v n) := by
      show false = fitsB v n
      unfold fitsB; rw [eq_comm, decide_eq_false_iff_not]; intro hh; exact h ⟨hh.1, hh.2.1⟩
    by_cases hn : n < 1
    · clear h
      go_enter Try.func33, Try.ntmps33
      go_wp2
      go_ret
      exact ⟨ret_bool E.out, rfl⟩
    · have h2 : 32 < n := by omega
      clear h
      go_enter Try.func33, Try.ntmps33
      go_wp2
      go_ret
      exact ⟨ret_bool E.out, rfl⟩
end Go.Proofs.Ytgdpcdpkaaefbaa.Bits
