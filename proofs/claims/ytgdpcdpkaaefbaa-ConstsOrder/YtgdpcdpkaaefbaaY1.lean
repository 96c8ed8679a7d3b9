/-
  What each function of the document's own layer 1 (package spinetref01) answers, for every word and number.
  The document's own constants (package spinetref12): integer, truth, set, none, Relate, order, SetOp, Char.
  The document's own constants (package spinetref12): Good, Same, One.
  The document's own constants (package spinetref12): One.
  The document's own constants (package spinetref12): Two.
-/
import Derived.Test.YtgdpcdpkaaefbaaBits
import Derived.Deep.QuietTactic
import Derived.BigQuiet
import Derived.Test.YtgdpcdpkaaefbaaCn20
namespace Go.Proofs.Ytgdpcdpkaaefbaa.Bits
open Go.RowKit Go.Proofs.Ytgdpcdpkaaefbaa.Bm

set_option maxHeartbeats 400000 in
theorem pow_any0 (n : Int) (w : World) (h0 : 0 ≤ n) (h1 : n ≤ 32) :
    Calls Try.prog 61 #[.int .u32 n] w fun e w' => e = .returned (.int .u64 (2 ^ n.toNat)) ∧ w' = w := by
  obtain ⟨N, rfl⟩ := Int.eq_ofNat_of_zero_le h0
  go_enter Try.func61, Try.ntmps61
  go_wp2
  go_loop [3, 4] (fun p i => ∃ k : Nat, k ≤ N ∧ i = .int .u32 k ∧ p = .int .u64 ((2 ^ k : Nat) : Int)) (fun _ i => N - (intOf i).toNat)
  case atStart => exact ⟨0, Nat.zero_le _, rfl, rfl⟩
  case round =>
    obtain ⟨k, hk, rfl, rfl⟩ := hrel
    by_cases hlt : k < N
    · have hb := p2le32 (k := k) (by omega)
      have HS : Hid (((2 ^ (k + 1) : Nat) : Int) = ((2 ^ k : Nat) : Int) * 2) := by rw [Nat.pow_succ]; exact Int.natCast_mul _ _
      generalize 2 ^ k = q at *
      go_wp2
      go_round
      case rel => exact ⟨k + 1, by omega, by go_num, by rw [HS.out]⟩
      case measure => simp [intOf]; omega
    · have e : k = N := by omega
      subst e
      go_wp2
      go_ret
      exact ⟨ret_int (by simp), rfl⟩
def pw (n : Int) : Int := 2 ^ n.toNat
theorem pw_bd (n : Int) (h1 : n ≤ 32) : 1 ≤ pw n ∧ pw n ≤ 4294967296 := by
  unfold pw; rw [← p2cast]; have := p2pos n.toNat; have := p2le32 (k := n.toNat) (by omega); omega
theorem pow_any (n : Int) (w : World) (h0 : 0 ≤ n) (h1 : n ≤ 32) :
    Calls Try.prog 61 #[.int .u32 n] w fun e w' => e = .returned (.int .u64 (pw n)) ∧ w' = w := pow_any0 n w h0 h1
set_option maxHeartbeats 400000 in
theorem rlsl_any (x n : Int) (w : World) (x0 : 0 ≤ x) (x1 : x < 4294967296) (n0 : 0 ≤ n) (n1 : n < 4294967296) :
    Calls Try.prog 46 #[.int .u32 x, .int .u32 n] w fun e w' => e = .returned (.int .u32 (lslI x n)) ∧ w' = w := by
  go_enter Try.func46, Try.ntmps46
  go_wp2_with (go_at_call 61; refine (pow_any _ _ (by omega) (by omega)).mono ?_; rintro e w' ⟨rfl, rfl⟩)
  go_ret
  exact ⟨ret_int (rlsl_eq x n x0 n0), rfl⟩

def asrK (x : Int) (k : Nat) : Int := wrap32 x / 2 ^ k
theorem asrK_bd (x : Int) (k : Nat) : -2147483648 ≤ asrK x k ∧ asrK x k < 2147483648 := by
  induction k with
  | zero => unfold asrK; have := wrap32_lt x; simp; omega
  | succ k ih =>
    have e : asrK x (k + 1) = asrK x k / 2 := by
      unfold asrK; rw [Int.pow_succ, Int.ediv_ediv_of_nonneg (Int.le_of_lt (Int.pow_pos (by decide)))]
    omega
theorem asrK_succ (x : Int) (k : Nat) : asrK x (k + 1) = asrK x k / 2 := by
  unfold asrK; rw [Int.pow_succ, Int.ediv_ediv_of_nonneg (Int.le_of_lt (Int.pow_pos (by decide)))]
set_option maxHeartbeats 400000 in
theorem rasr_any (x n : Int) (w : World) (x0 : 0 ≤ x) (x1 : x < 4294967296) (n0 : 0 ≤ n) (n1 : n < 4294967296) :
    Calls Try.prog 47 #[.int .u32 x, .int .u32 n] w fun e w' => e = .returned (.int .u32 (asrI x n)) ∧ w' = w := by
  obtain ⟨M, hM⟩ := Int.eq_ofNat_of_zero_le (Int.emod_nonneg n (show (32 : Int) ≠ 0 by decide))
  have hM1 : M ≤ 31 := by omega
  have EM : Hid (n.toNat % 32 = M) := by show _ = _; omega
  go_enter Try.func47, Try.ntmps47
  go_wp2
  go_loop [0, 5] (fun p i => ∃ k : Nat, k ≤ M ∧ i = .int .u32 k ∧ p = .int .u32 (asrK x k % 4294967296)) (fun _ i => M - (intOf i).toNat)
  case atStart => exact ⟨0, Nat.zero_le _, rfl, by unfold asrK; congr 1; unfold wrap32; simp; omega⟩
  case round =>
    obtain ⟨k, hk, rfl, rfl⟩ := hrel
    have hb := asrK_bd x k
    by_cases hlt : k < M
    · have HS : Hid (asrK x (k + 1) % 4294967296 = asrK x k % 4294967296 / 2 + asrK x k % 4294967296 / 2147483648 * 2147483648) := by
        show _ = _
        rw [asrK_succ]; omega
      generalize asrK x k = q at *
      go_wp2
      go_round
      case rel => exact ⟨k + 1, by omega, by go_num, by rw [HS.out]⟩
      case measure => simp [intOf]; omega
    · have e : k = M := by omega
      subst e
      go_wp2
      go_ret
      exact ⟨ret_int (by unfold asrI asrK; rw [EM.out]), rfl⟩
set_option maxHeartbeats 400000 in
theorem rror_any (x n : Int) (w : World) (x0 : 0 ≤ x) (x1 : x < 4294967296) (n0 : 0 ≤ n) (n1 : n < 4294967296) :
    Calls Try.prog 48 #[.int .u32 x, .int .u32 n] w fun e w' => e = .returned (.int .u32 (rorI x n)) ∧ w' = w := by
  obtain ⟨M, hM⟩ := Int.eq_ofNat_of_zero_le (Int.emod_nonneg n (show (32 : Int) ≠ 0 by decide))
  have hM1 : M ≤ 31 := by omega
  have EM : Hid (n.toNat % 32 = M) := by show _ = _; omega
  obtain ⟨X, rfl⟩ := Int.eq_ofNat_of_zero_le x0
  go_enter Try.func48, Try.ntmps48
  go_wp2
  go_loop [0, 5] (fun p i => ∃ k : Nat, k ≤ M ∧ i = .int .u32 k ∧ p = .int .u32 (rorN X k : Nat)) (fun _ i => M - (intOf i).toNat)
  case atStart => exact ⟨0, Nat.zero_le _, rfl, by rw [ror_zero]⟩
  case round =>
    obtain ⟨k, hk, rfl, rfl⟩ := hrel
    have hb := ror_lt X k (by omega) (by omega)
    by_cases hlt : k < M
    · have hs := ror_step X k (by omega)
      have HS : Hid (((rorN X (k + 1) : Nat) : Int) = (rorN X k : Int) / 2 + (rorN X k : Int) % 2 * 2147483648) := by
        show _ = _
        rw [← hs]; omega
      clear hs
      generalize rorN X k = q at *
      go_wp2
      go_round
      case rel => exact ⟨k + 1, by omega, by go_num, by rw [HS.out]⟩
      case measure => simp [intOf]; omega
    · have e : k = M := by omega
      subst e
      go_wp2
      go_ret
      exact ⟨ret_int (by unfold rorI; rw [EM.out]; simp), rfl⟩
theorem rsigned_any (x : Int) (w : World) (x0 : 0 ≤ x) (x1 : x < 4294967296) :
    Calls Try.prog 45 #[.int .u32 x] w fun e w' => e = .returned (.int .i64 (wrap32 x)) ∧ w' = w := by
  go_enter Try.func45, Try.ntmps45
  go_wp2
  all_goals go_ret
  all_goals exact ⟨ret_int (by unfold wrap32; omega), rfl⟩
theorem tmod_is (n m : Int) : n.tmod m = if 0 ≤ n then n % m else -(-n % m) := by
  split
  · rename_i h; exact Int.tmod_eq_emod_of_nonneg h
  · rename_i h
    have := Int.neg_tmod n m
    rw [Int.tmod_eq_emod_of_nonneg (by omega)] at this
    omega
theorem rword_any (n : Int) (w : World) :
    Calls Try.prog 44 #[.int .i64 n] w fun e w' => e = .returned (.int .u32 (n % 4294967296)) ∧ w' = w := by
  go_enter Try.func44, Try.ntmps44
  go_wp2
  all_goals go_ret
  all_goals exact ⟨ret_int (by have h : n.tmod 4294967296 = if 0 ≤ n then n % 4294967296 else -(-n % 4294967296) := tmod_is n 4294967296; first | (rw [IntWalk.wrap64_in _ ⟨by omega, by omega⟩]; omega) | omega), rfl⟩
theorem may_yes (lo n : Int) (w : World) (h : okB lo n = true) :
    Calls Try.prog 76 #[.int .i64 lo, .int .i64 n] w fun e w' => e = .returned (.bool true) ∧ w' = w := by
  obtain ⟨h1, h2, h3⟩ := of_decide_eq_true h
  clear h
  go_enter Try.func76, Try.ntmps76
  go_wp2
  go_ret
  exact ⟨rfl, rfl⟩
theorem may_no (lo n : Int) (w : World) (h : okB lo n = false) (l1 : lo ≤ 9223372036854775807) :
    Calls Try.prog 76 #[.int .i64 lo, .int .i64 n] w fun e w' => e = .returned (.bool false) ∧ w' = w := by
  have h' := of_decide_eq_false h
  clear h
  go_enter Try.func76, Try.ntmps76
  go_wp2
  all_goals go_ret
  all_goals exact ⟨ret_bool (by first | rfl | (rw [decide_eq_false_iff_not]; omega)), rfl⟩
theorem drew_more {w w1 : World} (h : ∃ d, w1 = w.drewN d) (m : Nat) : ∃ d, w1.drewN m = w.drewN d := by
  obtain ⟨d, rfl⟩ := h; exact ⟨d + m, by simp⟩
theorem rget_any (x lo n : Int) (w : World) (x0 : 0 ≤ x) (x1 : x < 4294967296) (l1 : lo ≤ 9223372036854775807) :
    Calls Try.prog 38 #[.int .u32 x, .int .i64 lo, .int .i64 n] w fun e w' => e = .returned (.int .u32 (getI x lo n)) ∧ ∃ d, w' = w.drewN d := by
  by_cases h : okB lo n = true
  · have h' := of_decide_eq_true h
    have E : Hid (x / pw lo % pw n = getI x lo n) := get_eq x lo n x0 h'
    obtain ⟨h1, h2, h3⟩ := h'
    have H : Hid (okB lo n = true) := h
    have P1 := pw_bd lo (by omega)
    have P2 := pw_bd n (by omega)
    have hd := div_range x lo.toNat x0 x1
    have hd' : 0 ≤ x / pw lo ∧ x / pw lo < 4294967296 := hd
    clear h hd
    go_enter Try.func38, Try.ntmps38
    go_wp2_with (go_at_call 76; refine (may_yes _ _ _ H.out).mono ?_; rintro e w' ⟨rfl, rfl⟩)
    go_quiet ((go_at_call 61; exact Calls.quiet_of_same (pow_any _ _ (by omega) (by omega))))
    go_wp2
    go_ret
    exact ⟨ret_int (by rw [E.out]; have := get_range x lo n; omega), _, rfl⟩
  · have h' : okB lo n = false := by simpa using h
    have E : Hid (0 = getI x lo n) := by unfold getI; rw [if_neg (of_decide_eq_false h')]; trivial
    have H : Hid (okB lo n = false) := h'
    clear h h'
    go_enter Try.func38, Try.ntmps38
    go_wp2_with (go_at_call 76; refine (may_no _ _ _ H.out l1).mono ?_; rintro e w' ⟨rfl, rfl⟩)
    go_ret
    exact ⟨ret_int E.out, 0, rfl⟩
theorem put_sum (x lo n v : Int) (x0 : 0 ≤ x) (v0 : 0 ≤ v) (h : 0 ≤ lo ∧ 1 ≤ n ∧ n ≤ 32 - lo) : putI x lo n v = x - getI x lo n * pw lo + v % pw n * pw lo := by
  obtain ⟨X, rfl⟩ := Int.eq_ofNat_of_zero_le x0
  obtain ⟨V, rfl⟩ := Int.eq_ofNat_of_zero_le v0
  unfold putI getI pw
  rw [if_pos h, if_pos h]
  simp only [Int.toNat_natCast]
  have e := x_split X lo.toNat n.toNat
  have e2 : putN X lo.toNat n.toNat V = X / 2 ^ (lo.toNat + n.toNat) * 2 ^ (lo.toNat + n.toNat) + V % 2 ^ n.toNat * 2 ^ lo.toNat + X % 2 ^ lo.toNat := rfl
  have e3 : ((getN X lo.toNat n.toNat : Nat) : Int) * 2 ^ lo.toNat = ((X / 2 ^ lo.toNat % 2 ^ n.toNat * 2 ^ lo.toNat : Nat) : Int) := by rw [Int.natCast_mul, p2cast]; rfl
  have e4 : (V : Int) % 2 ^ n.toNat * 2 ^ lo.toNat = ((V % 2 ^ n.toNat * 2 ^ lo.toNat : Nat) : Int) := by simp
  rw [e3, e4, e2]
  omega
theorem rput_eq (x lo n v : Int) (x0 : 0 ≤ x) (x1 : x < 4294967296) (v0 : 0 ≤ v) (h : 0 ≤ lo ∧ 1 ≤ n ∧ n ≤ 32 - lo) :
    IntKind.u64.wrap (IntKind.u64.wrap (x - IntKind.u64.wrap (getI x lo n * pw lo)) + IntKind.u64.wrap (v % pw n * pw lo)) % 4294967296 = putI x lo n v := by
  have hr := put_range x lo n v x0 x1
  rw [put_sum x lo n v x0 v0 h] at hr ⊢
  rw [IntKind.wrap_u64, IntKind.wrap_u64, IntKind.wrap_u64, IntKind.wrap_u64]
  generalize getI x lo n * pw lo = a at *
  generalize v % pw n * pw lo = b at *
  omega
theorem rput_any (x lo n v : Int) (w : World) (x0 : 0 ≤ x) (x1 : x < 4294967296) (v0 : 0 ≤ v) (v1 : v < 4294967296) (l1 : lo ≤ 9223372036854775807) :
    Calls Try.prog 52 #[.int .u32 x, .int .i64 lo, .int .i64 n, .int .u32 v] w fun e w' => e = .returned (.int .u32 (putI x lo n v)) ∧ ∃ d, w' = w.drewN d := by
  by_cases h : okB lo n = true
  · have h' := of_decide_eq_true h
    obtain ⟨h1, h2, h3⟩ := h'
    have H : Hid (okB lo n = true) := h
    have hg := get_range x lo n
    have P1 := pw_bd lo (by omega)
    have P2 := pw_bd n (by omega)
    clear h
    go_enter Try.func52, Try.ntmps52
    go_wp2_with (first | (go_at_call 76; refine (may_yes _ _ _ H.out).mono ?_; rintro e w' ⟨rfl, rfl⟩) | (go_at_call 38; refine (rget_any _ _ _ _ x0 x1 l1).mono ?_; rintro e w1 ⟨rfl, hd⟩) | (go_at_call 61; refine (pow_any _ _ (by omega) (by omega)).mono ?_; rintro e w' ⟨rfl, rfl⟩))
    go_quiet ((go_at_call 61; exact Calls.quiet_of_same (pow_any _ _ (by omega) (by omega))))
    go_wp2
    go_ret
    exact ⟨ret_int (rput_eq x lo n v x0 x1 v0 ⟨h1, h2, h3⟩), drew_more hd _⟩
  · have h' : okB lo n = false := by simpa using h
    have E : Hid (x = putI x lo n v) := by unfold putI; rw [if_neg (of_decide_eq_false h')]; trivial
    have H : Hid (okB lo n = false) := h'
    clear h h'
    go_enter Try.func52, Try.ntmps52
    go_wp2_with (go_at_call 76; refine (may_no _ _ _ H.out l1).mono ?_; rintro e w' ⟨rfl, rfl⟩)
    go_ret
    exact ⟨ret_int E.out, 0, rfl⟩
theorem pw_even (n : Int) (h1 : 1 ≤ n) : pw n = 2 * (pw n / 2) := by
  unfold pw
  have e : n.toNat = (n.toNat - 1) + 1 := by omega
  rw [e, Int.pow_succ]; omega
theorem rext_eq (v n r : Int) (v0 : 0 ≤ v) (h1 : 1 ≤ n) (h2 : n ≤ 32) (_hr : r = r) (h : (pw n / 2 ≤ v % pw n ∧ r = v % pw n - pw n) ∨ (v % pw n < pw n / 2 ∧ r = v % pw n)) : r = extI v n := by
  have he := pw_even n h1
  obtain ⟨V, rfl⟩ := Int.eq_ofNat_of_zero_le v0
  unfold extI extN
  rw [if_pos ⟨h1, h2⟩, Int.toNat_natCast]
  have e1 : ((V % 2 ^ n.toNat : Nat) : Int) = (V : Int) % pw n := by unfold pw; simp
  have e2 : ((2 ^ n.toNat : Nat) : Int) = pw n := by unfold pw; simp
  have e3 : (2 : Int) ^ n.toNat = pw n := rfl
  rw [e3, e1]
  generalize V % 2 ^ n.toNat = a at *
  generalize 2 ^ n.toNat = b at *
  split <;> omega
theorem rfits_eq (v n : Int) (h1 : 1 ≤ n) (h2 : n ≤ 32) (b : Bool) (h : (-(pw n / 2) ≤ v ∧ b = decide (v < pw n / 2)) ∨ (v < -(pw n / 2) ∧ b = false)) : b = fitsB v n := by
  have he := pw_even n h1
  unfold fitsB
  have e3 : (2 : Int) ^ n.toNat = pw n := rfl
  rw [e3]
  rcases h with ⟨h, rfl⟩ | ⟨h, rfl⟩
  · rw [Bool.eq_iff_iff, decide_eq_true_iff, decide_eq_true_iff]; omega
  · rw [eq_comm, decide_eq_false_iff_not]; omega
theorem rfits_any (v n : Int) (w : World) :
    Calls Try.prog 33 #[.int .i64 v, .int .i64 n] w fun e w' => e = .returned (.bool (fitsB v n)) ∧ w' = w := by
  by_cases h : 1 ≤ n ∧ n ≤ 32
  · obtain ⟨h1, h2⟩ := h
    have P2 := pw_bd n (by omega)
    go_enter Try.func33, Try.ntmps33
    go_wp2_with (go_at_call 61; refine (pow_any _ _ (by omega) (by omega)).mono ?_; rintro e w' ⟨rfl, rfl⟩)
    all_goals go_ret
    all_goals exact ⟨ret_bool (rfits_eq v n h1 h2 _ (by first | (left; exact ⟨by assumption, rfl⟩) | (right; exact ⟨by assumption, rfl⟩))), rfl⟩
  · have E : Hid (false = fitsB v n) := by
      show false = fitsB v n
      unfold fitsB; rw [eq_comm, decide_eq_false_iff_not]; intro hh; exact h ⟨hh.1, hh.2.1⟩
    by_cases hn : n < 1
    · clear h
      go_enter Try.func33, Try.ntmps33
      go_wp2
      go_ret
      exact ⟨ret_bool E.out, rfl⟩
    · have h2 : 32 < n := by omega
      clear h
      go_enter Try.func33, Try.ntmps33
      go_wp2
      go_ret
      exact ⟨ret_bool E.out, rfl⟩
end Go.Proofs.Ytgdpcdpkaaefbaa.Bits
namespace Go.Proofs.Ytgdpcdpkaaefbaa.Cn
open Go.RowKit hiding Hid
open Go.Maps Go.Proofs.Ytgdpcdpkaaefbaa.Tx Go.Proofs.Ytgdpcdpkaaefbaa.Lx Go.Proofs.Ytgdpcdpkaaefbaa.Mp Go.Proofs.Ytgdpcdpkaaefbaa.Bits Go.Proofs.Ytgdpcdpkaaefbaa.Tr Go.Proofs.Ytgdpcdpkaaefbaa.Bm
set_option linter.unusedVariables false
set_option linter.unusedSimpArgs false
set_option maxRecDepth 100000

set_option maxHeartbeats 1600000 in
theorem rinteger_at (n : Int) (w : World) : Calls Try.prog 27 #[.int .i64 n] w (Told w (rsV (intR n))) := by
  have HC := hide (Cx.start w (fun _ => False))
  cases hI : inR n with
  | true =>
    have HI := hide hI
    clear hI
    go_enter Try.func27, Try.ntmps27
    go_wp2_with (first | (refine at_alloc 23 rfl ?_; refine wl_alloc rfl 23 rfl _ zV HC.out ?_; intro b w' hn hc; (replace HC := hide hc; clear hc)) | (go_at_call 33; refine (rfits_any _ _ _).mono ?_; rw [fits32, HI.out]; rintro e w2 ⟨rfl, rfl⟩) | (refine at_store 23 rfl ?_; refine wl_store rfl 23 _ _ rfl rfl rfl tyV.sz rfl HC.out (by repeat (first | exact List.Mem.head _ | apply List.Mem.tail)) (by exact PutS.all _ _ rfl) (by repeat (first | exact Upd.here _ _ _ | apply Upd.there)) ?_; intro w' hc; (replace HC := hide hc; clear hc)))
    refine ret_two Try.results27 rfl rfl HC.out (by repeat (first | exact List.Mem.head _ | apply List.Mem.tail)) tyV rfl ?_
    exact ⟨by rw [intR_yes HI.out]; rfl, HC.out.grown⟩
  | false =>
    have HI := hide hI
    clear hI
    go_enter Try.func27, Try.ntmps27
    go_wp2_with (first | (refine at_alloc 23 rfl ?_; refine wl_alloc rfl 23 rfl _ zV HC.out ?_; intro b w' hn hc; (replace HC := hide hc; clear hc)) | (go_at_call 33; refine (rfits_any _ _ _).mono ?_; rw [fits32, HI.out]; rintro e w2 ⟨rfl, rfl⟩) | (refine at_store 23 rfl ?_; refine wl_store rfl 23 _ _ rfl rfl rfl tyV.sz rfl HC.out (by repeat (first | exact List.Mem.head _ | apply List.Mem.tail)) (by exact PutS.all _ _ rfl) (by repeat (first | exact Upd.here _ _ _ | apply Upd.there)) ?_; intro w' hc; (replace HC := hide hc; clear hc)))
    refine ret_two Try.results27 rfl rfl HC.out (by repeat (first | exact List.Mem.head _ | apply List.Mem.tail)) tyV rfl ?_
    exact ⟨by rw [intR_no HI.out]; rfl, HC.out.grown⟩
set_option maxHeartbeats 1600000 in
theorem rtruth_at (b : Bool) (w : World) : Calls Try.prog 29 #[.bool b] w (Told w (rsV (bolR b))) := by
  have HC := hide (Cx.start w (fun _ => False))
  cases b with
  | true =>
    go_enter Try.func29, Try.ntmps29
    go_wp2_with (first | (refine at_alloc 23 rfl ?_; refine wl_alloc rfl 23 rfl _ zV HC.out ?_; intro b w' hn hc; (replace HC := hide hc; clear hc)) | (refine at_store 23 rfl ?_; refine wl_store rfl 23 _ _ rfl rfl rfl tyV.sz rfl HC.out (by repeat (first | exact List.Mem.head _ | apply List.Mem.tail)) (by exact PutS.all _ _ rfl) (by repeat (first | exact Upd.here _ _ _ | apply Upd.there)) ?_; intro w' hc; (replace HC := hide hc; clear hc)))
    refine ret_two Try.results29 rfl rfl HC.out (by repeat (first | exact List.Mem.head _ | apply List.Mem.tail)) tyV rfl ?_
    exact ⟨rfl, HC.out.grown⟩
  | false =>
    go_enter Try.func29, Try.ntmps29
    go_wp2_with (first | (refine at_alloc 23 rfl ?_; refine wl_alloc rfl 23 rfl _ zV HC.out ?_; intro b w' hn hc; (replace HC := hide hc; clear hc)) | (refine at_store 23 rfl ?_; refine wl_store rfl 23 _ _ rfl rfl rfl tyV.sz rfl HC.out (by repeat (first | exact List.Mem.head _ | apply List.Mem.tail)) (by exact PutS.all _ _ rfl) (by repeat (first | exact Upd.here _ _ _ | apply Upd.there)) ?_; intro w' hc; (replace HC := hide hc; clear hc)))
    refine ret_two Try.results29 rfl rfl HC.out (by repeat (first | exact List.Mem.head _ | apply List.Mem.tail)) tyV rfl ?_
    exact ⟨rfl, HC.out.grown⟩
set_option maxHeartbeats 1600000 in
theorem rset_at (x : Int) (h0 : 0 ≤ x) (h1 : x < 4294967296) (w : World) : Calls Try.prog 28 #[.int .u32 x] w (Told w (rsV (setR x))) := by
  have HC := hide (Cx.start w (fun _ => False))
  go_enter Try.func28, Try.ntmps28
  go_wp2_with (first | (refine at_alloc 23 rfl ?_; refine wl_alloc rfl 23 rfl _ zV HC.out ?_; intro b w' hn hc; (replace HC := hide hc; clear hc)) | (refine at_store 23 rfl ?_; refine wl_store rfl 23 _ _ rfl rfl rfl tyV.sz rfl HC.out (by repeat (first | exact List.Mem.head _ | apply List.Mem.tail)) (by exact PutS.all _ _ rfl) (by repeat (first | exact Upd.here _ _ _ | apply Upd.there)) ?_; intro w' hc; (replace HC := hide hc; clear hc)))
  refine ret_two Try.results28 rfl rfl HC.out (by repeat (first | exact List.Mem.head _ | apply List.Mem.tail)) tyV rfl ?_
  exact ⟨rfl, HC.out.grown⟩
set_option maxHeartbeats 1600000 in
theorem rnone_at (w : World) : Calls Try.prog 30 #[] w (Told w (rsV noR)) := by
  have HC := hide (Cx.start w (fun _ => False))
  go_enter Try.func30, Try.ntmps30
  go_wp2_with (first | (refine at_alloc 23 rfl ?_; refine wl_alloc rfl 23 rfl _ zV HC.out ?_; intro b w' hn hc; (replace HC := hide hc; clear hc)) | (refine at_store 23 rfl ?_; refine wl_store rfl 23 _ _ rfl rfl rfl tyV.sz rfl HC.out (by repeat (first | exact List.Mem.head _ | apply List.Mem.tail)) (by exact PutS.all _ _ rfl) (by repeat (first | exact Upd.here _ _ _ | apply Upd.there)) ?_; intro w' hc; (replace HC := hide hc; clear hc)))
  refine ret_two Try.results30 rfl rfl HC.out (by repeat (first | exact List.Mem.head _ | apply List.Mem.tail)) tyV rfl ?_
  exact ⟨rfl, HC.out.grown⟩
def relP (s : List UInt8) (o : Int) : Bool × Bool := if s = [61] then (o == 0, true) else if s = [35] then (o != 0, true) else if s = [60] then (decide (o < 0), true) else if s = [60, 61] then (decide (o ≤ 0), true) else if s = [62] then (decide (0 < o), true) else if s = [62, 61] then (decide (0 ≤ o), true) else (false, false)
theorem tE_t {s L : List UInt8} (h : ((bs s).toList == L) = true) : s = L := by rw [bs_toList] at h; exact eq_of_beq h
theorem tE_f {s L : List UInt8} (h : ((bs s).toList == L) = false) : ¬ s = L := by rw [bs_toList] at h; simpa using h
theorem tE_tt {s L : List UInt8} (h : s = L) : ((bs s).toList == L) = true := by rw [bs_toList, h]; exact beq_self_eq_true L
theorem tE_ff {s L : List UInt8} (h : ¬ s = L) : ((bs s).toList == L) = false := by rw [bs_toList]; simpa using h
set_option maxHeartbeats 3200000 in
theorem relate_at (s : List UInt8) (o : Int) (w : World) : Calls Try.prog 40 #[.string (bs s), .int .i64 o] w fun e w' => e = .returned (.tuple #[.bool (relP s o).1, .bool (relP s o).2]) ∧ w' = w := by
  by_cases h1 : s = [61]
  · rw [show relP s o = (o == 0, true) from if_pos h1]; have k1 := tE_tt h1; clear h1; (go_enter Try.func40, Try.ntmps40; go_wp2; exact bodyPost_ret (results_tmp2 rfl _ _ _) rfl ⟨rfl, rfl⟩)
  have k1 := tE_ff h1
  by_cases h2 : s = [35]
  · rw [show relP s o = (o != 0, true) by unfold relP; rw [if_neg h1, if_pos h2]]; have k2 := tE_tt h2; clear h1 h2; (go_enter Try.func40, Try.ntmps40; go_wp2; exact bodyPost_ret (results_tmp2 rfl _ _ _) rfl ⟨rfl, rfl⟩)
  have k2 := tE_ff h2
  by_cases h3 : s = [60]
  · rw [show relP s o = (decide (o < 0), true) by unfold relP; rw [if_neg h1, if_neg h2, if_pos h3]]; have k3 := tE_tt h3; clear h1 h2 h3; (go_enter Try.func40, Try.ntmps40; go_wp2; exact bodyPost_ret (results_tmp2 rfl _ _ _) rfl ⟨rfl, rfl⟩)
  have k3 := tE_ff h3
  by_cases h4 : s = [60, 61]
  · rw [show relP s o = (decide (o ≤ 0), true) by unfold relP; rw [if_neg h1, if_neg h2, if_neg h3, if_pos h4]]; have k4 := tE_tt h4; clear h1 h2 h3 h4; (go_enter Try.func40, Try.ntmps40; go_wp2; exact bodyPost_ret (results_tmp2 rfl _ _ _) rfl ⟨rfl, rfl⟩)
  have k4 := tE_ff h4
  by_cases h5 : s = [62]
  · rw [show relP s o = (decide (0 < o), true) by unfold relP; rw [if_neg h1, if_neg h2, if_neg h3, if_neg h4, if_pos h5]]; have k5 := tE_tt h5; clear h1 h2 h3 h4 h5; (go_enter Try.func40, Try.ntmps40; go_wp2; exact bodyPost_ret (results_tmp2 rfl _ _ _) rfl ⟨rfl, rfl⟩)
  have k5 := tE_ff h5
  by_cases h6 : s = [62, 61]
  · rw [show relP s o = (decide (0 ≤ o), true) by unfold relP; rw [if_neg h1, if_neg h2, if_neg h3, if_neg h4, if_neg h5, if_pos h6]]; have k6 := tE_tt h6; clear h1 h2 h3 h4 h5 h6; (go_enter Try.func40, Try.ntmps40; go_wp2; exact bodyPost_ret (results_tmp2 rfl _ _ _) rfl ⟨rfl, rfl⟩)
  have k6 := tE_ff h6
  rw [show relP s o = (false, false) by unfold relP; rw [if_neg h1, if_neg h2, if_neg h3, if_neg h4, if_neg h5, if_neg h6]]; clear h1 h2 h3 h4 h5 h6; (go_enter Try.func40, Try.ntmps40; go_wp2; exact bodyPost_ret (results_tmp2 rfl _ _ _) rfl ⟨rfl, rfl⟩)
/- Two texts' order. -/
theorem cmp3 : ∀ (a b : List UInt8), (Op.bytesLess a b = true ∧ Lib.compareBytes a b = -1) ∨ (Op.bytesLess a b = false ∧ (a == b) = false ∧ Lib.compareBytes a b = 1) ∨ (Op.bytesLess a b = false ∧ (a == b) = true ∧ Lib.compareBytes a b = 0)
  | [], [] => .inr (.inr ⟨rfl, rfl, rfl⟩)
  | [], _ :: _ => .inl ⟨rfl, rfl⟩
  | _ :: _, [] => .inr (.inl ⟨rfl, rfl, rfl⟩)
  | x :: a, y :: b => by
    by_cases h1 : x < y
    · exact .inl ⟨by simp [Op.bytesLess, h1], by simp [Lib.compareBytes, h1]⟩
    · by_cases h2 : y < x
      · have hne : ¬ x = y := fun e => by subst e; exact absurd h2 h1
        exact .inr (.inl ⟨by simp [Op.bytesLess, h1, hne], by simp [hne], by simp [Lib.compareBytes, h1, h2]⟩)
      · have e : x = y := UInt8.le_antisymm (UInt8.not_lt.1 h2) (UInt8.not_lt.1 h1)
        subst e
        have k1 : Op.bytesLess (x :: a) (x :: b) = Op.bytesLess a b := by simp [Op.bytesLess]
        have k2 : (x :: a == x :: b) = (a == b) := by simp
        have k3 : Lib.compareBytes (x :: a) (x :: b) = Lib.compareBytes a b := by simp [Lib.compareBytes]
        rw [k1, k2, k3]
        exact cmp3 a b
set_option maxHeartbeats 3200000 in
theorem rorder_at (a b : List UInt8) (w : World) : Calls Try.prog 39 #[.string (bs a), .string (bs b)] w fun e w' => e = .returned (.int .i64 (Lib.compareBytes a b)) ∧ w' = w := by
  rcases cmp3 a b with ⟨h1, h2⟩ | ⟨h1, h3, h2⟩ | ⟨h1, h3, h2⟩
  · rw [h2]
    rw [← bs_toList a, ← bs_toList b] at h1
    clear h2
    go_enter Try.func39, Try.ntmps39
    go_wp2
    go_ret
    exact ⟨rfl, rfl⟩
  · rw [h2]
    rw [← bs_toList a, ← bs_toList b] at h1 h3
    clear h2
    go_enter Try.func39, Try.ntmps39
    go_wp2
    go_ret
    exact ⟨rfl, rfl⟩
  · rw [h2]
    rw [← bs_toList a, ← bs_toList b] at h1 h3
    clear h2
    go_enter Try.func39, Try.ntmps39
    go_wp2
    go_ret
    exact ⟨rfl, rfl⟩
def sopP (s : List UInt8) (a b : Int) : Int × Bool := if s = [43] then (Go.bits .or .u32 a b, true) else if s = [45] then (Go.bits .andNot .u32 a b, true) else if s = [42] then (Go.bits .and .u32 a b, true) else if s = [47] then (Go.bits .xor .u32 a b, true) else (0, false)
set_option maxHeartbeats 3200000 in
theorem setop_at (s : List UInt8) (a b : Int) (w : World) : Calls Try.prog 42 #[.string (bs s), .int .u32 a, .int .u32 b] w fun e w' => e = .returned (.tuple #[.int .u32 (sopP s a b).1, .bool (sopP s a b).2]) ∧ w' = w := by
  by_cases h1 : s = [43]
  · rw [show sopP s a b = (Go.bits .or .u32 a b, true) from if_pos h1]; have k1 := tE_tt h1; clear h1; (go_enter Try.func42, Try.ntmps42; go_wp2; exact bodyPost_ret (results_tmp2 rfl _ _ _) rfl ⟨rfl, rfl⟩)
  have k1 := tE_ff h1
  by_cases h2 : s = [45]
  · rw [show sopP s a b = (Go.bits .andNot .u32 a b, true) by unfold sopP; rw [if_neg h1, if_pos h2]]; have k2 := tE_tt h2; clear h1 h2; (go_enter Try.func42, Try.ntmps42; go_wp2; exact bodyPost_ret (results_tmp2 rfl _ _ _) rfl ⟨rfl, rfl⟩)
  have k2 := tE_ff h2
  by_cases h3 : s = [42]
  · rw [show sopP s a b = (Go.bits .and .u32 a b, true) by unfold sopP; rw [if_neg h1, if_neg h2, if_pos h3]]; have k3 := tE_tt h3; clear h1 h2 h3; (go_enter Try.func42, Try.ntmps42; go_wp2; exact bodyPost_ret (results_tmp2 rfl _ _ _) rfl ⟨rfl, rfl⟩)
  have k3 := tE_ff h3
  by_cases h4 : s = [47]
  · rw [show sopP s a b = (Go.bits .xor .u32 a b, true) by unfold sopP; rw [if_neg h1, if_neg h2, if_neg h3, if_pos h4]]; have k4 := tE_tt h4; clear h1 h2 h3 h4; (go_enter Try.func42, Try.ntmps42; go_wp2; exact bodyPost_ret (results_tmp2 rfl _ _ _) rfl ⟨rfl, rfl⟩)
  have k4 := tE_ff h4
  rw [show sopP s a b = (0, false) by unfold sopP; rw [if_neg h1, if_neg h2, if_neg h3, if_neg h4]]; clear h1 h2 h3 h4; (go_enter Try.func42, Try.ntmps42; go_wp2; exact bodyPost_ret (results_tmp2 rfl _ _ _) rfl ⟨rfl, rfl⟩)
def chV (v : Vl) : Vl := if v.f = 6 ∧ v.t.length = 1 then ⟨3, (v.t.headD 0).toNat, []⟩ else v
set_option maxHeartbeats 2000000 in
theorem rchar_at (a : Vl) (hl : a.t.length ≤ 9223372036854775807) (w : World) : Calls Try.prog 37 #[vV a] w (Told w (vV (chV a))) := by
  obtain ⟨f, n, t⟩ := a
  dsimp only at hl
  have hz := bs_size t
  have hl' : (t.length : Int) ≤ 9223372036854775807 := by omega
  unfold chV
  dsimp only
  by_cases h6 : f = 6
  · subst h6
    by_cases h1 : t.length = 1
    · rw [if_pos ⟨rfl, h1⟩]
      obtain ⟨c, rfl⟩ := List.length_eq_one_iff.1 h1
      have hb : ∀ h, (bs [c])[0]'h = c := fun h => rfl
      have k1 : ((([c] : List UInt8).length : Int) == 1) = true := rfl
      have hw : wrap64 (c.toNat : Int) = c.toNat := IntWalk.wrap64_in _ (by have := c.toNat_lt; constructor <;> omega)
      unfold vV
      (go_enter Try.func37, Try.ntmps37; go_wp2)
      refine bodyPost_ret (v := .agg #[.int .i64 3, .int .i64 c.toNat, .string (bs [])]) (by simp [results, Try.results37, go_sem, hw]; rfl) rfl ?_
      exact ⟨rfl, (gal (gal (gr_ref _ none) _) _)⟩
    · rw [if_neg (fun h => h1 h.2)]
      have k1 : ((t.length : Int) == 1) = false := by simp; omega
      unfold vV
      (go_enter Try.func37, Try.ntmps37; go_wp2)
      refine bodyPost_ret (v := .agg #[.int .i64 6, .int .i64 n, .string (bs t)]) (by simp [results, Try.results37, go_sem]) rfl ?_
      exact ⟨rfl, (gal (gal (gr_ref _ none) _) _)⟩
  · rw [if_neg (fun h => h6 h.1)]
    have k6 : (f == 6) = false := by simpa using h6
    clear h6
    unfold vV
    (go_enter Try.func37, Try.ntmps37; go_wp2)
    refine bodyPost_ret (v := .agg #[.int .i64 f, .int .i64 n, .string (bs t)]) (by simp [results, Try.results37, go_sem]) rfl ?_
    exact ⟨rfl, (gal (gal (gr_ref _ none) _) _)⟩
end Go.Proofs.Ytgdpcdpkaaefbaa.Cn
namespace Go.Proofs.Ytgdpcdpkaaefbaa.Cn
open Go.RowKit hiding Hid
open Go.Maps Go.Proofs.Ytgdpcdpkaaefbaa.Tx Go.Proofs.Ytgdpcdpkaaefbaa.Lx Go.Proofs.Ytgdpcdpkaaefbaa.Mp Go.Proofs.Ytgdpcdpkaaefbaa.Bits Go.Proofs.Ytgdpcdpkaaefbaa.Tr Go.Proofs.Ytgdpcdpkaaefbaa.Bm
set_option linter.unusedVariables false
set_option linter.unusedSimpArgs false
set_option maxRecDepth 100000

theorem wi_of (n l : Int) : wiB n l = (decide (0 ≤ n) && decide (n < l + 1)) := by unfold wiB; congr 1; rw [Bool.eq_iff_iff]; simp only [decide_eq_true_eq]; omega
theorem wi_1 (n : Int) : wiB n 1 = ((n == 0) || (n == 1)) := by unfold wiB; rw [Bool.eq_iff_iff]; simp only [Bool.and_eq_true, Bool.or_eq_true, decide_eq_true_eq, beq_iff_eq]; omega
set_option maxHeartbeats 3200000 in
theorem rgood_at (v : Vl) (hl : v.t.length ≤ 9223372036854775807) (w : World) : Calls Try.prog 16 #[vV v] w (Told w (.bool (goodV v))) := by
  obtain ⟨f, n, t⟩ := v
  unfold vV
  dsimp only at hl ⊢
  have HL := hide hl
  clear hl
  by_cases h6 : f = 6
  · subst h6
    rw [goodV_6 rfl]
    dsimp only
    cases hn : (n == 0) with
    | true => (go_enter Try.func16, Try.ntmps16; go_wp2_with (first | (go_at_call 33; refine (rfits_any _ _ _).mono ?_; rw [fits32]; rintro e w2 ⟨rfl, rfl⟩) | (go_at_call 34; refine (string_any _ _ HL.out).mono ?_; rintro e w2 ⟨rfl, rfl⟩)); go_ret); exact ⟨rfl, (gal (gr_ref _ none) _)⟩
    | false => (go_enter Try.func16, Try.ntmps16; go_wp2_with (first | (go_at_call 33; refine (rfits_any _ _ _).mono ?_; rw [fits32]; rintro e w2 ⟨rfl, rfl⟩) | (go_at_call 34; refine (string_any _ _ HL.out).mono ?_; rintro e w2 ⟨rfl, rfl⟩)); go_ret); exact ⟨rfl, (gal (gr_ref _ none) _)⟩
  · rw [goodV_n (v := ⟨f, n, t⟩) h6]
    dsimp only
    have k6 : (f == 6) = false := by simpa using h6
    have k6' : (f != 6) = true := by simp [h6]
    cases he : t.isEmpty with
    | false =>
      have e1 : (bs t).toList.isEmpty = false := by rw [bs_toList]; exact he
      have e2 : ¬ (bs t).toList = [] := by rw [bs_toList]; intro e; rw [e] at he; cases he
      clear he h6
      (go_enter Try.func16, Try.ntmps16; go_wp2_with (first | (go_at_call 33; refine (rfits_any _ _ _).mono ?_; rw [fits32]; rintro e w2 ⟨rfl, rfl⟩) | (go_at_call 34; refine (string_any _ _ HL.out).mono ?_; rintro e w2 ⟨rfl, rfl⟩)); go_ret)
      exact ⟨rfl, (gal (gr_ref _ none) _)⟩
    | true =>
      have e1 : (bs t).toList.isEmpty = true := by rw [bs_toList]; exact he
      have e2 : (bs t).toList = [] := by rw [bs_toList]; simpa using he
      rw [Bool.true_and]
      clear he h6
      by_cases h1 : f = 1
      · subst h1; rw [goodN_1]; (go_enter Try.func16, Try.ntmps16; go_wp2_with (first | (go_at_call 33; refine (rfits_any _ _ _).mono ?_; rw [fits32]; rintro e w2 ⟨rfl, rfl⟩) | (go_at_call 34; refine (string_any _ _ HL.out).mono ?_; rintro e w2 ⟨rfl, rfl⟩)); go_ret); exact ⟨rfl, (gal (gr_ref _ none) _)⟩
      by_cases h2 : f = 2
      · subst h2
        rw [goodN_2, wi_1]
        cases hn : (n == 0) with
        | true => (go_enter Try.func16, Try.ntmps16; go_wp2_with (first | (go_at_call 33; refine (rfits_any _ _ _).mono ?_; rw [fits32]; rintro e w2 ⟨rfl, rfl⟩) | (go_at_call 34; refine (string_any _ _ HL.out).mono ?_; rintro e w2 ⟨rfl, rfl⟩)); go_ret); exact ⟨rfl, (gal (gr_ref _ none) _)⟩
        | false => (go_enter Try.func16, Try.ntmps16; go_wp2_with (first | (go_at_call 33; refine (rfits_any _ _ _).mono ?_; rw [fits32]; rintro e w2 ⟨rfl, rfl⟩) | (go_at_call 34; refine (string_any _ _ HL.out).mono ?_; rintro e w2 ⟨rfl, rfl⟩)); go_ret); exact ⟨rfl, (gal (gr_ref _ none) _)⟩
      by_cases h3 : f = 3
      · subst h3
        rw [goodN_3, wi_of]
        by_cases h0 : 0 ≤ n
        · rw [decide_eq_true h0]; (go_enter Try.func16, Try.ntmps16; go_wp2_with (first | (go_at_call 33; refine (rfits_any _ _ _).mono ?_; rw [fits32]; rintro e w2 ⟨rfl, rfl⟩) | (go_at_call 34; refine (string_any _ _ HL.out).mono ?_; rintro e w2 ⟨rfl, rfl⟩)); go_ret); exact ⟨rfl, (gal (gr_ref _ none) _)⟩
        · rw [decide_eq_false h0]; (go_enter Try.func16, Try.ntmps16; go_wp2_with (first | (go_at_call 33; refine (rfits_any _ _ _).mono ?_; rw [fits32]; rintro e w2 ⟨rfl, rfl⟩) | (go_at_call 34; refine (string_any _ _ HL.out).mono ?_; rintro e w2 ⟨rfl, rfl⟩)); go_ret); exact ⟨rfl, (gal (gr_ref _ none) _)⟩
      by_cases h4 : f = 4
      · subst h4
        rw [goodN_4, wi_of]
        by_cases h0 : 0 ≤ n
        · rw [decide_eq_true h0]; (go_enter Try.func16, Try.ntmps16; go_wp2_with (first | (go_at_call 33; refine (rfits_any _ _ _).mono ?_; rw [fits32]; rintro e w2 ⟨rfl, rfl⟩) | (go_at_call 34; refine (string_any _ _ HL.out).mono ?_; rintro e w2 ⟨rfl, rfl⟩)); go_ret); exact ⟨rfl, (gal (gr_ref _ none) _)⟩
        · rw [decide_eq_false h0]; (go_enter Try.func16, Try.ntmps16; go_wp2_with (first | (go_at_call 33; refine (rfits_any _ _ _).mono ?_; rw [fits32]; rintro e w2 ⟨rfl, rfl⟩) | (go_at_call 34; refine (string_any _ _ HL.out).mono ?_; rintro e w2 ⟨rfl, rfl⟩)); go_ret); exact ⟨rfl, (gal (gr_ref _ none) _)⟩
      by_cases h5 : f = 5
      · subst h5; rw [goodN_5]; (go_enter Try.func16, Try.ntmps16; go_wp2_with (first | (go_at_call 33; refine (rfits_any _ _ _).mono ?_; rw [fits32]; rintro e w2 ⟨rfl, rfl⟩) | (go_at_call 34; refine (string_any _ _ HL.out).mono ?_; rintro e w2 ⟨rfl, rfl⟩)); go_ret); exact ⟨rfl, (gal (gr_ref _ none) _)⟩
      rw [goodN_no h1 h2 h3 h4 h5]
      have k1 : (f == 1) = false := by simpa using h1
      have k2 : (f == 2) = false := by simpa using h2
      have k3 : (f == 3) = false := by simpa using h3
      have k4 : (f == 4) = false := by simpa using h4
      have k5 : (f == 5) = false := by simpa using h5
      (go_enter Try.func16, Try.ntmps16; go_wp2_with (first | (go_at_call 33; refine (rfits_any _ _ _).mono ?_; rw [fits32]; rintro e w2 ⟨rfl, rfl⟩) | (go_at_call 34; refine (string_any _ _ HL.out).mono ?_; rintro e w2 ⟨rfl, rfl⟩)); go_ret)
      exact ⟨rfl, (gal (gr_ref _ none) _)⟩
set_option maxHeartbeats 3200000 in
theorem same_at (a b : Vl) (w : World) : Calls Try.prog 14 #[vV a, vV b] w (Told w (.bool (eqB a b))) := by
  have he : eqB a b = ((a.f == b.f) && ((a.n == b.n) && ((bs a.t).toList == (bs b.t).toList))) := by unfold eqB; rw [bs_toList, bs_toList]
  rw [he]
  clear he
  unfold vV
  cases h1 : (a.f == b.f) with
  | false =>
    go_enter Try.func14, Try.ntmps14
    go_wp2
    go_ret
    exact ⟨rfl, (gal (gal (gr_ref _ none) _) _)⟩
  | true =>
    cases h2 : (a.n == b.n) with
    | false =>
      go_enter Try.func14, Try.ntmps14
      go_wp2
      go_ret
      exact ⟨rfl, (gal (gal (gr_ref _ none) _) _)⟩
    | true =>
      go_enter Try.func14, Try.ntmps14
      go_wp2
      go_ret
      exact ⟨rfl, (gal (gal (gr_ref _ none) _) _)⟩
theorem eqB_self (v : Vl) : eqB v v = true := by unfold eqB; simp
theorem same_self (v : Vl) (W : World) : Calls Try.prog 14 #[.agg #[.int .i64 v.f, .int .i64 v.n, .string (bs v.t)], .agg #[.int .i64 v.f, .int .i64 v.n, .string (bs v.t)]] W (Told W (.bool true)) := by
  have := same_at v v W
  rw [eqB_self] at this
  exact this
end Go.Proofs.Ytgdpcdpkaaefbaa.Cn
namespace Go.Proofs.Ytgdpcdpkaaefbaa.Cn
open Go.RowKit hiding Hid
open Go.Maps Go.Proofs.Ytgdpcdpkaaefbaa.Tx Go.Proofs.Ytgdpcdpkaaefbaa.Lx Go.Proofs.Ytgdpcdpkaaefbaa.Mp Go.Proofs.Ytgdpcdpkaaefbaa.Bits Go.Proofs.Ytgdpcdpkaaefbaa.Tr Go.Proofs.Ytgdpcdpkaaefbaa.Bm
set_option linter.unusedVariables false
set_option linter.unusedSimpArgs false
set_option maxRecDepth 100000

theorem look_uniq {E : List (Ky × Cd)} (hd : (E.map (·.1)).Nodup) {x : Ky} {v : Cd} (h : (x, v) ∈ E) : E.lookup x = some v := by
  induction E with
  | nil => cases h
  | cons q L ih =>
    obtain ⟨y, u⟩ := q
    simp only [List.map_cons, List.nodup_cons] at hd
    rw [List.lookup_cons]
    rcases List.mem_cons.1 h with h | h
    · injection h with h1 h2
      subst h1
      subst h2
      simp
    · have : (x == y) = false := by
        cases hb : (x == y) with
        | false => rfl
        | true => exact absurd (List.mem_map.2 ⟨(x, v), h, eq_of_beq hb⟩) hd.1
      rw [this]
      exact ih hd.2 h
theorem rk_hit {E : List (Ky × Cd)} (hd : (E.map (·.1)).Nodup) {s : List UInt8} {a b : Vl} {c : Cd} (h : ((a.f, b.f, s), c) ∈ E) : rk E s a b = ev c a b := by unfold rk; rw [look_uniq hd h]
theorem rk_miss {E : List (Ky × Cd)} {s : List UInt8} {a b : Vl} (h : ∀ p ∈ E, p.1 ≠ (a.f, b.f, s)) : rk E s a b = noR := by
  unfold rk
  cases hl : E.lookup (a.f, b.f, s) with
  | none => rfl
  | some c => exact absurd rfl (h _ (look_mem hl))
/- The operations of two forms. -/
def sub (E : List (Ky × Cd)) (f g : Int) : List (List UInt8 × Cd) := E.filterMap fun p => if p.1.1 = f ∧ p.1.2.1 = g then some (p.1.2.2, p.2) else none
theorem sub_mem {E : List (Ky × Cd)} {f g : Int} {s : List UInt8} {c : Cd} (h : ((f, g, s), c) ∈ E) : (s, c) ∈ sub E f g := by
  unfold sub
  rw [List.mem_filterMap]
  exact ⟨_, h, by simp⟩
theorem rk_no {E : List (Ky × Cd)} {s : List UInt8} {a b : Vl} (h : ∀ p ∈ sub E a.f b.f, p.1 ≠ s) : rk E s a b = noR := rk_miss fun p hp e => by
  obtain ⟨⟨f, g, t⟩, c⟩ := p
  dsimp only at e
  injection e with e1 e
  injection e with e2 e3
  subst e1
  subst e2
  subst e3
  exact h _ (sub_mem hp) rfl
theorem rnone_as (W : World) : Calls Try.prog 30 #[] W (Told W (.tuple #[.agg #[.int .i64 0, .int .i64 0, .string (bs [])], .int .i64 120])) := rnone_at W
theorem rgood_as {v : Vl} (hv : v.t.length ≤ 9223372036854775807) {B : Bool} (h : goodV v = B) : ∀ W, Calls Try.prog 16 #[.agg #[.int .i64 v.f, .int .i64 v.n, .string (bs v.t)]] W (Told W (.bool B)) := fun W => by
  have := rgood_at v hv W
  rw [h] at this
  exact this
theorem rinteger_as {n rf rn re : Int} {rt : List UInt8} (h : intR n = (⟨rf, rn, rt⟩, re)) : ∀ W, Calls Try.prog 27 #[.int .i64 n] W (Told W (.tuple #[.agg #[.int .i64 rf, .int .i64 rn, .string (bs rt)], .int .i64 re])) := fun W => by
  have := rinteger_at n W
  rw [h] at this
  exact this
theorem rtruth_as {B : Bool} {rf rn re : Int} {rt : List UInt8} (h : bolR B = (⟨rf, rn, rt⟩, re)) : ∀ W, Calls Try.prog 29 #[.bool B] W (Told W (.tuple #[.agg #[.int .i64 rf, .int .i64 rn, .string (bs rt)], .int .i64 re])) := fun W => by
  have := rtruth_at B W
  rw [h] at this
  exact this
theorem rset_as {x rf rn re : Int} {rt : List UInt8} (h0 : 0 ≤ x) (h1 : x < 4294967296) (h : setR x = (⟨rf, rn, rt⟩, re)) : ∀ W, Calls Try.prog 28 #[.int .u32 x] W (Told W (.tuple #[.agg #[.int .i64 rf, .int .i64 rn, .string (bs rt)], .int .i64 re])) := fun W => by
  have := rset_at x h0 h1 W
  rw [h] at this
  exact this
theorem good_t {v : Vl} (h : goodV v = true) (h6 : ¬ v.f = 6) : v.t = [] := by
  rw [goodV_n h6] at h
  simp only [Bool.and_eq_true, List.isEmpty_iff] at h
  exact h.1
theorem good_1 {v : Vl} (h : goodV v = true) (h1 : v.f = 1) : inR v.n = true := by
  rw [goodV_n (by omega), h1, goodN_1] at h
  simp only [Bool.and_eq_true] at h
  exact h.2
set_option maxHeartbeats 6400000 in
theorem rone_at (s : List UInt8) (v : Vl) (hl : v.t.length ≤ 9223372036854775807) (w : World) : Calls Try.prog 13 #[.string (bs s), vV v] w (Told w (rsV (oneP s v))) := by
  have HC := hide (Cx.start w (fun _ => False))
  have HNO := hide rnone_as
  have HI := hide True.intro
  unfold oneP
  cases hg : goodV v with
  | false =>
    rw [if_neg (by simp)]
    have HGO := hide (rgood_as hl hg)
    obtain ⟨f, n, t⟩ := v
    unfold vV noR rsV
    clear hg hl
    (go_enter Try.func13, Try.ntmps13; go_wp2_with (first | (refine at_box 23 rfl ?_; refine wl_box rfl 23 _ rfl _ rfl HC.out ?_; intro b w' hn hc; (replace HC := hide hc; clear hc)) | (refine at_alloc 23 rfl ?_; refine wl_alloc rfl 23 rfl _ zV HC.out ?_; intro b w' hn hc; (replace HC := hide hc; clear hc)) | (refine at_load 23 rfl ?_; refine wl_load_s rfl 23 _ rfl tyV rfl HC.out (by repeat (first | exact List.Mem.head _ | apply List.Mem.tail)) (GetS.all _) rfl ?_) | (refine at_load 3 rfl ?_; refine wl_load_c rfl 3 _ rfl tcI rfl HC.out (by repeat (first | exact List.Mem.head _ | apply List.Mem.tail)) (by repeat (first | exact GetS.cons _ (GetS.nil _) | apply GetS.skip)) ?_) | (go_at_call 16; (refine (HGO.out _).mono ?_; rintro e w2 ⟨rfl, hg⟩; (replace HC := hide (HC.out.g hg); clear hg))) | (go_at_call 27; (refine (HI.out _).mono ?_; rintro e w2 ⟨rfl, hg⟩; (replace HC := hide (HC.out.g hg); clear hg))) | (go_at_call 29; (refine (HI.out _).mono ?_; rintro e w2 ⟨rfl, hg⟩; (replace HC := hide (HC.out.g hg); clear hg))) | (go_at_call 28; (refine (HI.out _).mono ?_; rintro e w2 ⟨rfl, hg⟩; (replace HC := hide (HC.out.g hg); clear hg))) | (go_at_call 30; (refine (HNO.out _).mono ?_; rintro e w2 ⟨rfl, hg⟩; (replace HC := hide (HC.out.g hg); clear hg))) | (refine at_store 23 rfl ?_; refine wl_store rfl 23 _ _ rfl rfl rfl tyV.sz rfl HC.out (by repeat (first | exact List.Mem.head _ | apply List.Mem.tail)) (by exact PutS.all _ _ rfl) (by repeat (first | exact Upd.here _ _ _ | apply Upd.there)) ?_; intro w' hc; (replace HC := hide hc; clear hc))); refine ret_two Try.results13 rfl rfl HC.out (by repeat (first | exact List.Mem.head _ | apply List.Mem.tail)) tyV rfl ?_)
    exact ⟨rfl, HC.out.grown⟩
  | true =>
    rw [if_pos rfl]
    have HGO := hide (rgood_as hl hg)
    by_cases h1 : v.f = 1
    · have ht := good_t hg (by omega)
      have hn := good_1 hg h1
      obtain ⟨f, n, t⟩ := v
      dsimp only at h1 ht hn
      subst h1
      subst ht
      have hnr : -2147483648 ≤ n ∧ n < 2147483648 := by simpa [inR] using hn
      obtain ⟨n0, n1⟩ := hnr
      by_cases hs1 : s = [43]
      · have HR := hide (show rk onesE s ⟨1, n, []⟩ Vl.z = (⟨1, n, []⟩, 0) by rw [rk_hit ones_nd (c := .pos) (by rw [hs1]; exact .head _)]; exact intR_yes hn)
        have k1 := tE_tt hs1
        unfold vV
        clear hs1 hg hl hn
        (go_enter Try.func13, Try.ntmps13; go_wp2_with (first | (refine at_box 23 rfl ?_; refine wl_box rfl 23 _ rfl _ rfl HC.out ?_; intro b w' hn hc; (replace HC := hide hc; clear hc)) | (refine at_alloc 23 rfl ?_; refine wl_alloc rfl 23 rfl _ zV HC.out ?_; intro b w' hn hc; (replace HC := hide hc; clear hc)) | (refine at_load 23 rfl ?_; refine wl_load_s rfl 23 _ rfl tyV rfl HC.out (by repeat (first | exact List.Mem.head _ | apply List.Mem.tail)) (GetS.all _) rfl ?_) | (refine at_load 3 rfl ?_; refine wl_load_c rfl 3 _ rfl tcI rfl HC.out (by repeat (first | exact List.Mem.head _ | apply List.Mem.tail)) (by repeat (first | exact GetS.cons _ (GetS.nil _) | apply GetS.skip)) ?_) | (go_at_call 16; (refine (HGO.out _).mono ?_; rintro e w2 ⟨rfl, hg⟩; (replace HC := hide (HC.out.g hg); clear hg))) | (go_at_call 27; (refine (HI.out _).mono ?_; rintro e w2 ⟨rfl, hg⟩; (replace HC := hide (HC.out.g hg); clear hg))) | (go_at_call 29; (refine (HI.out _).mono ?_; rintro e w2 ⟨rfl, hg⟩; (replace HC := hide (HC.out.g hg); clear hg))) | (go_at_call 28; (refine (HI.out _).mono ?_; rintro e w2 ⟨rfl, hg⟩; (replace HC := hide (HC.out.g hg); clear hg))) | (go_at_call 30; (refine (HNO.out _).mono ?_; rintro e w2 ⟨rfl, hg⟩; (replace HC := hide (HC.out.g hg); clear hg))) | (refine at_store 23 rfl ?_; refine wl_store rfl 23 _ _ rfl rfl rfl tyV.sz rfl HC.out (by repeat (first | exact List.Mem.head _ | apply List.Mem.tail)) (by exact PutS.all _ _ rfl) (by repeat (first | exact Upd.here _ _ _ | apply Upd.there)) ?_; intro w' hc; (replace HC := hide hc; clear hc))); refine ret_two Try.results13 rfl rfl HC.out (by repeat (first | exact List.Mem.head _ | apply List.Mem.tail)) tyV rfl ?_)
        exact ⟨by rw [HR.out]; rfl, HC.out.grown⟩
      by_cases hs2 : s = [45]
      · obtain ⟨⟨⟨rf, rn, rt⟩, re⟩, hI⟩ : ∃ R, intR (-n) = R := ⟨_, rfl⟩
        have HR := hide (show rk onesE s ⟨1, n, []⟩ Vl.z = (⟨rf, rn, rt⟩, re) by rw [rk_hit ones_nd (c := .neg) (by rw [hs2]; exact .tail _ (.head _))]; exact hI)
        replace HI := hide (rinteger_as hI)
        have k1 := tE_ff hs1
        have k2 := tE_tt hs2
        unfold vV
        clear hs1 hs2 hg hl hn hI
        (go_enter Try.func13, Try.ntmps13; go_wp2_with (first | (refine at_box 23 rfl ?_; refine wl_box rfl 23 _ rfl _ rfl HC.out ?_; intro b w' hn hc; (replace HC := hide hc; clear hc)) | (refine at_alloc 23 rfl ?_; refine wl_alloc rfl 23 rfl _ zV HC.out ?_; intro b w' hn hc; (replace HC := hide hc; clear hc)) | (refine at_load 23 rfl ?_; refine wl_load_s rfl 23 _ rfl tyV rfl HC.out (by repeat (first | exact List.Mem.head _ | apply List.Mem.tail)) (GetS.all _) rfl ?_) | (refine at_load 3 rfl ?_; refine wl_load_c rfl 3 _ rfl tcI rfl HC.out (by repeat (first | exact List.Mem.head _ | apply List.Mem.tail)) (by repeat (first | exact GetS.cons _ (GetS.nil _) | apply GetS.skip)) ?_) | (go_at_call 16; (refine (HGO.out _).mono ?_; rintro e w2 ⟨rfl, hg⟩; (replace HC := hide (HC.out.g hg); clear hg))) | (go_at_call 27; (refine (HI.out _).mono ?_; rintro e w2 ⟨rfl, hg⟩; (replace HC := hide (HC.out.g hg); clear hg))) | (go_at_call 29; (refine (HI.out _).mono ?_; rintro e w2 ⟨rfl, hg⟩; (replace HC := hide (HC.out.g hg); clear hg))) | (go_at_call 28; (refine (HI.out _).mono ?_; rintro e w2 ⟨rfl, hg⟩; (replace HC := hide (HC.out.g hg); clear hg))) | (go_at_call 30; (refine (HNO.out _).mono ?_; rintro e w2 ⟨rfl, hg⟩; (replace HC := hide (HC.out.g hg); clear hg))) | (refine at_store 23 rfl ?_; refine wl_store rfl 23 _ _ rfl rfl rfl tyV.sz rfl HC.out (by repeat (first | exact List.Mem.head _ | apply List.Mem.tail)) (by exact PutS.all _ _ rfl) (by repeat (first | exact Upd.here _ _ _ | apply Upd.there)) ?_; intro w' hc; (replace HC := hide hc; clear hc))); refine ret_two Try.results13 rfl rfl HC.out (by repeat (first | exact List.Mem.head _ | apply List.Mem.tail)) tyV rfl ?_)
        exact ⟨by rw [HR.out]; rfl, HC.out.grown⟩
      · have HR := hide (show rk onesE s ⟨1, n, []⟩ Vl.z = noR from rk_no (by
          rw [show sub onesE (⟨1, n, []⟩ : Vl).f Vl.z.f = [([43], .pos), ([45], .neg)] by kernel_rfl]
          intro p hp e
          simp only [List.mem_cons, List.not_mem_nil, or_false] at hp
          rcases hp with rfl | rfl
          · exact hs1 e.symm
          · exact hs2 e.symm))
        have k1 := tE_ff hs1
        have k2 := tE_ff hs2
        unfold vV
        clear hs1 hs2 hg hl hn
        (go_enter Try.func13, Try.ntmps13; go_wp2_with (first | (refine at_box 23 rfl ?_; refine wl_box rfl 23 _ rfl _ rfl HC.out ?_; intro b w' hn hc; (replace HC := hide hc; clear hc)) | (refine at_alloc 23 rfl ?_; refine wl_alloc rfl 23 rfl _ zV HC.out ?_; intro b w' hn hc; (replace HC := hide hc; clear hc)) | (refine at_load 23 rfl ?_; refine wl_load_s rfl 23 _ rfl tyV rfl HC.out (by repeat (first | exact List.Mem.head _ | apply List.Mem.tail)) (GetS.all _) rfl ?_) | (refine at_load 3 rfl ?_; refine wl_load_c rfl 3 _ rfl tcI rfl HC.out (by repeat (first | exact List.Mem.head _ | apply List.Mem.tail)) (by repeat (first | exact GetS.cons _ (GetS.nil _) | apply GetS.skip)) ?_) | (go_at_call 16; (refine (HGO.out _).mono ?_; rintro e w2 ⟨rfl, hg⟩; (replace HC := hide (HC.out.g hg); clear hg))) | (go_at_call 27; (refine (HI.out _).mono ?_; rintro e w2 ⟨rfl, hg⟩; (replace HC := hide (HC.out.g hg); clear hg))) | (go_at_call 29; (refine (HI.out _).mono ?_; rintro e w2 ⟨rfl, hg⟩; (replace HC := hide (HC.out.g hg); clear hg))) | (go_at_call 28; (refine (HI.out _).mono ?_; rintro e w2 ⟨rfl, hg⟩; (replace HC := hide (HC.out.g hg); clear hg))) | (go_at_call 30; (refine (HNO.out _).mono ?_; rintro e w2 ⟨rfl, hg⟩; (replace HC := hide (HC.out.g hg); clear hg))) | (refine at_store 23 rfl ?_; refine wl_store rfl 23 _ _ rfl rfl rfl tyV.sz rfl HC.out (by repeat (first | exact List.Mem.head _ | apply List.Mem.tail)) (by exact PutS.all _ _ rfl) (by repeat (first | exact Upd.here _ _ _ | apply Upd.there)) ?_; intro w' hc; (replace HC := hide hc; clear hc))); refine ret_two Try.results13 rfl rfl HC.out (by repeat (first | exact List.Mem.head _ | apply List.Mem.tail)) tyV rfl ?_)
        exact ⟨by rw [HR.out]; rfl, HC.out.grown⟩
    have j1 : (v.f == 1) = false := by simpa using h1
    by_cases h4 : v.f = 4
    · have ht := good_t hg (by omega)
      obtain ⟨f, n, t⟩ := v
      dsimp only at h4 ht
      subst h4
      subst ht
      have hr := bits_xor IntKind.u32.max (n % 4294967296)
      by_cases hs2 : s = [45]
      · obtain ⟨X, hX⟩ : ∃ X, Go.bits .xor .u32 IntKind.u32.max (n % 4294967296) = X := ⟨_, rfl⟩
        obtain ⟨⟨⟨rf, rn, rt⟩, re⟩, hI⟩ : ∃ R, setR X = R := ⟨_, rfl⟩
        have HR := hide (show rk onesE s ⟨4, n, []⟩ Vl.z = (⟨rf, rn, rt⟩, re) by rw [rk_hit ones_nd (c := .cpl) (by rw [hs2]; exact .tail _ (.tail _ (.head _)))]; exact (congrArg setR hX).trans hI)
        rw [hX] at hr
        replace HI := hide (rset_as hr.1 hr.2 hI)
        have k2 := tE_tt hs2
        unfold vV
        clear hs2 hg hl hI h1
        (go_enter Try.func13, Try.ntmps13; go_wp2_with (first | (refine at_box 23 rfl ?_; refine wl_box rfl 23 _ rfl _ rfl HC.out ?_; intro b w' hn hc; (replace HC := hide hc; clear hc)) | (refine at_alloc 23 rfl ?_; refine wl_alloc rfl 23 rfl _ zV HC.out ?_; intro b w' hn hc; (replace HC := hide hc; clear hc)) | (refine at_load 23 rfl ?_; refine wl_load_s rfl 23 _ rfl tyV rfl HC.out (by repeat (first | exact List.Mem.head _ | apply List.Mem.tail)) (GetS.all _) rfl ?_) | (refine at_load 3 rfl ?_; refine wl_load_c rfl 3 _ rfl tcI rfl HC.out (by repeat (first | exact List.Mem.head _ | apply List.Mem.tail)) (by repeat (first | exact GetS.cons _ (GetS.nil _) | apply GetS.skip)) ?_) | (go_at_call 16; (refine (HGO.out _).mono ?_; rintro e w2 ⟨rfl, hg⟩; (replace HC := hide (HC.out.g hg); clear hg))) | (go_at_call 27; (refine (HI.out _).mono ?_; rintro e w2 ⟨rfl, hg⟩; (replace HC := hide (HC.out.g hg); clear hg))) | (go_at_call 29; (refine (HI.out _).mono ?_; rintro e w2 ⟨rfl, hg⟩; (replace HC := hide (HC.out.g hg); clear hg))) | (go_at_call 28; (refine (HI.out _).mono ?_; rintro e w2 ⟨rfl, hg⟩; (replace HC := hide (HC.out.g hg); clear hg))) | (go_at_call 30; (refine (HNO.out _).mono ?_; rintro e w2 ⟨rfl, hg⟩; (replace HC := hide (HC.out.g hg); clear hg))) | (refine at_store 23 rfl ?_; refine wl_store rfl 23 _ _ rfl rfl rfl tyV.sz rfl HC.out (by repeat (first | exact List.Mem.head _ | apply List.Mem.tail)) (by exact PutS.all _ _ rfl) (by repeat (first | exact Upd.here _ _ _ | apply Upd.there)) ?_; intro w' hc; (replace HC := hide hc; clear hc))); refine ret_two Try.results13 rfl rfl HC.out (by repeat (first | exact List.Mem.head _ | apply List.Mem.tail)) tyV rfl ?_)
        exact ⟨by rw [HR.out]; rfl, HC.out.grown⟩
      · have HR := hide (show rk onesE s ⟨4, n, []⟩ Vl.z = noR from rk_no (by
          rw [show sub onesE (⟨4, n, []⟩ : Vl).f Vl.z.f = [([45], .cpl)] by kernel_rfl]
          intro p hp e
          simp only [List.mem_cons, List.not_mem_nil, or_false] at hp
          subst hp
          exact hs2 e.symm))
        have k2 := tE_ff hs2
        unfold vV
        clear hs2 hg hl h1
        (go_enter Try.func13, Try.ntmps13; go_wp2_with (first | (refine at_box 23 rfl ?_; refine wl_box rfl 23 _ rfl _ rfl HC.out ?_; intro b w' hn hc; (replace HC := hide hc; clear hc)) | (refine at_alloc 23 rfl ?_; refine wl_alloc rfl 23 rfl _ zV HC.out ?_; intro b w' hn hc; (replace HC := hide hc; clear hc)) | (refine at_load 23 rfl ?_; refine wl_load_s rfl 23 _ rfl tyV rfl HC.out (by repeat (first | exact List.Mem.head _ | apply List.Mem.tail)) (GetS.all _) rfl ?_) | (refine at_load 3 rfl ?_; refine wl_load_c rfl 3 _ rfl tcI rfl HC.out (by repeat (first | exact List.Mem.head _ | apply List.Mem.tail)) (by repeat (first | exact GetS.cons _ (GetS.nil _) | apply GetS.skip)) ?_) | (go_at_call 16; (refine (HGO.out _).mono ?_; rintro e w2 ⟨rfl, hg⟩; (replace HC := hide (HC.out.g hg); clear hg))) | (go_at_call 27; (refine (HI.out _).mono ?_; rintro e w2 ⟨rfl, hg⟩; (replace HC := hide (HC.out.g hg); clear hg))) | (go_at_call 29; (refine (HI.out _).mono ?_; rintro e w2 ⟨rfl, hg⟩; (replace HC := hide (HC.out.g hg); clear hg))) | (go_at_call 28; (refine (HI.out _).mono ?_; rintro e w2 ⟨rfl, hg⟩; (replace HC := hide (HC.out.g hg); clear hg))) | (go_at_call 30; (refine (HNO.out _).mono ?_; rintro e w2 ⟨rfl, hg⟩; (replace HC := hide (HC.out.g hg); clear hg))) | (refine at_store 23 rfl ?_; refine wl_store rfl 23 _ _ rfl rfl rfl tyV.sz rfl HC.out (by repeat (first | exact List.Mem.head _ | apply List.Mem.tail)) (by exact PutS.all _ _ rfl) (by repeat (first | exact Upd.here _ _ _ | apply Upd.there)) ?_; intro w' hc; (replace HC := hide hc; clear hc))); refine ret_two Try.results13 rfl rfl HC.out (by repeat (first | exact List.Mem.head _ | apply List.Mem.tail)) tyV rfl ?_)
        exact ⟨by rw [HR.out]; rfl, HC.out.grown⟩
    have j4 : (v.f == 4) = false := by simpa using h4
    by_cases h2 : v.f = 2
    · have ht := good_t hg (by omega)
      obtain ⟨f, n, t⟩ := v
      dsimp only at h2 ht
      subst h2
      subst ht
      by_cases hs2 : s = [126]
      · obtain ⟨⟨⟨rf, rn, rt⟩, re⟩, hI⟩ : ∃ R, bolR (n == 0) = R := ⟨_, rfl⟩
        have HR := hide (show rk onesE s ⟨2, n, []⟩ Vl.z = (⟨rf, rn, rt⟩, re) by rw [rk_hit ones_nd (c := .not) (by rw [hs2]; exact .tail _ (.tail _ (.tail _ (.head _))))]; exact hI)
        replace HI := hide (rtruth_as hI)
        have k2 := tE_tt hs2
        unfold vV
        clear hs2 hg hl hI h1 h4
        (go_enter Try.func13, Try.ntmps13; go_wp2_with (first | (refine at_box 23 rfl ?_; refine wl_box rfl 23 _ rfl _ rfl HC.out ?_; intro b w' hn hc; (replace HC := hide hc; clear hc)) | (refine at_alloc 23 rfl ?_; refine wl_alloc rfl 23 rfl _ zV HC.out ?_; intro b w' hn hc; (replace HC := hide hc; clear hc)) | (refine at_load 23 rfl ?_; refine wl_load_s rfl 23 _ rfl tyV rfl HC.out (by repeat (first | exact List.Mem.head _ | apply List.Mem.tail)) (GetS.all _) rfl ?_) | (refine at_load 3 rfl ?_; refine wl_load_c rfl 3 _ rfl tcI rfl HC.out (by repeat (first | exact List.Mem.head _ | apply List.Mem.tail)) (by repeat (first | exact GetS.cons _ (GetS.nil _) | apply GetS.skip)) ?_) | (go_at_call 16; (refine (HGO.out _).mono ?_; rintro e w2 ⟨rfl, hg⟩; (replace HC := hide (HC.out.g hg); clear hg))) | (go_at_call 27; (refine (HI.out _).mono ?_; rintro e w2 ⟨rfl, hg⟩; (replace HC := hide (HC.out.g hg); clear hg))) | (go_at_call 29; (refine (HI.out _).mono ?_; rintro e w2 ⟨rfl, hg⟩; (replace HC := hide (HC.out.g hg); clear hg))) | (go_at_call 28; (refine (HI.out _).mono ?_; rintro e w2 ⟨rfl, hg⟩; (replace HC := hide (HC.out.g hg); clear hg))) | (go_at_call 30; (refine (HNO.out _).mono ?_; rintro e w2 ⟨rfl, hg⟩; (replace HC := hide (HC.out.g hg); clear hg))) | (refine at_store 23 rfl ?_; refine wl_store rfl 23 _ _ rfl rfl rfl tyV.sz rfl HC.out (by repeat (first | exact List.Mem.head _ | apply List.Mem.tail)) (by exact PutS.all _ _ rfl) (by repeat (first | exact Upd.here _ _ _ | apply Upd.there)) ?_; intro w' hc; (replace HC := hide hc; clear hc))); refine ret_two Try.results13 rfl rfl HC.out (by repeat (first | exact List.Mem.head _ | apply List.Mem.tail)) tyV rfl ?_)
        exact ⟨by rw [HR.out]; rfl, HC.out.grown⟩
      · have HR := hide (show rk onesE s ⟨2, n, []⟩ Vl.z = noR from rk_no (by
          rw [show sub onesE (⟨2, n, []⟩ : Vl).f Vl.z.f = [([126], .not)] by kernel_rfl]
          intro p hp e
          simp only [List.mem_cons, List.not_mem_nil, or_false] at hp
          subst hp
          exact hs2 e.symm))
        have k2 := tE_ff hs2
        unfold vV
        clear hs2 hg hl h1 h4
        (go_enter Try.func13, Try.ntmps13; go_wp2_with (first | (refine at_box 23 rfl ?_; refine wl_box rfl 23 _ rfl _ rfl HC.out ?_; intro b w' hn hc; (replace HC := hide hc; clear hc)) | (refine at_alloc 23 rfl ?_; refine wl_alloc rfl 23 rfl _ zV HC.out ?_; intro b w' hn hc; (replace HC := hide hc; clear hc)) | (refine at_load 23 rfl ?_; refine wl_load_s rfl 23 _ rfl tyV rfl HC.out (by repeat (first | exact List.Mem.head _ | apply List.Mem.tail)) (GetS.all _) rfl ?_) | (refine at_load 3 rfl ?_; refine wl_load_c rfl 3 _ rfl tcI rfl HC.out (by repeat (first | exact List.Mem.head _ | apply List.Mem.tail)) (by repeat (first | exact GetS.cons _ (GetS.nil _) | apply GetS.skip)) ?_) | (go_at_call 16; (refine (HGO.out _).mono ?_; rintro e w2 ⟨rfl, hg⟩; (replace HC := hide (HC.out.g hg); clear hg))) | (go_at_call 27; (refine (HI.out _).mono ?_; rintro e w2 ⟨rfl, hg⟩; (replace HC := hide (HC.out.g hg); clear hg))) | (go_at_call 29; (refine (HI.out _).mono ?_; rintro e w2 ⟨rfl, hg⟩; (replace HC := hide (HC.out.g hg); clear hg))) | (go_at_call 28; (refine (HI.out _).mono ?_; rintro e w2 ⟨rfl, hg⟩; (replace HC := hide (HC.out.g hg); clear hg))) | (go_at_call 30; (refine (HNO.out _).mono ?_; rintro e w2 ⟨rfl, hg⟩; (replace HC := hide (HC.out.g hg); clear hg))) | (refine at_store 23 rfl ?_; refine wl_store rfl 23 _ _ rfl rfl rfl tyV.sz rfl HC.out (by repeat (first | exact List.Mem.head _ | apply List.Mem.tail)) (by exact PutS.all _ _ rfl) (by repeat (first | exact Upd.here _ _ _ | apply Upd.there)) ?_; intro w' hc; (replace HC := hide hc; clear hc))); refine ret_two Try.results13 rfl rfl HC.out (by repeat (first | exact List.Mem.head _ | apply List.Mem.tail)) tyV rfl ?_)
        exact ⟨by rw [HR.out]; rfl, HC.out.grown⟩
    have j2 : (v.f == 2) = false := by simpa using h2
    have HR := hide (show rk onesE s v Vl.z = noR from rk_miss (by
      intro p hp e
      simp only [onesE, List.mem_cons, List.not_mem_nil, or_false] at hp
      rcases hp with rfl | rfl | rfl | rfl <;> (injection e with e1 e2; omega)))
    unfold vV
    clear hg hl h1 h4 h2
    (go_enter Try.func13, Try.ntmps13; go_wp2_with (first | (refine at_box 23 rfl ?_; refine wl_box rfl 23 _ rfl _ rfl HC.out ?_; intro b w' hn hc; (replace HC := hide hc; clear hc)) | (refine at_alloc 23 rfl ?_; refine wl_alloc rfl 23 rfl _ zV HC.out ?_; intro b w' hn hc; (replace HC := hide hc; clear hc)) | (refine at_load 23 rfl ?_; refine wl_load_s rfl 23 _ rfl tyV rfl HC.out (by repeat (first | exact List.Mem.head _ | apply List.Mem.tail)) (GetS.all _) rfl ?_) | (refine at_load 3 rfl ?_; refine wl_load_c rfl 3 _ rfl tcI rfl HC.out (by repeat (first | exact List.Mem.head _ | apply List.Mem.tail)) (by repeat (first | exact GetS.cons _ (GetS.nil _) | apply GetS.skip)) ?_) | (go_at_call 16; (refine (HGO.out _).mono ?_; rintro e w2 ⟨rfl, hg⟩; (replace HC := hide (HC.out.g hg); clear hg))) | (go_at_call 27; (refine (HI.out _).mono ?_; rintro e w2 ⟨rfl, hg⟩; (replace HC := hide (HC.out.g hg); clear hg))) | (go_at_call 29; (refine (HI.out _).mono ?_; rintro e w2 ⟨rfl, hg⟩; (replace HC := hide (HC.out.g hg); clear hg))) | (go_at_call 28; (refine (HI.out _).mono ?_; rintro e w2 ⟨rfl, hg⟩; (replace HC := hide (HC.out.g hg); clear hg))) | (go_at_call 30; (refine (HNO.out _).mono ?_; rintro e w2 ⟨rfl, hg⟩; (replace HC := hide (HC.out.g hg); clear hg))) | (refine at_store 23 rfl ?_; refine wl_store rfl 23 _ _ rfl rfl rfl tyV.sz rfl HC.out (by repeat (first | exact List.Mem.head _ | apply List.Mem.tail)) (by exact PutS.all _ _ rfl) (by repeat (first | exact Upd.here _ _ _ | apply Upd.there)) ?_; intro w' hc; (replace HC := hide hc; clear hc))); refine ret_two Try.results13 rfl rfl HC.out (by repeat (first | exact List.Mem.head _ | apply List.Mem.tail)) tyV rfl ?_)
    exact ⟨by rw [HR.out]; rfl, HC.out.grown⟩
theorem wr32 {a : Int} (h0 : -2147483648 ≤ a) (h1 : a < 2147483648) : wrap32 (a % 4294967296) = a := by unfold wrap32; omega
theorem wr32' {a : Int} (h0 : -2147483648 ≤ a) (h1 : a < 2147483648) : wrap32 a = a := by unfold wrap32; omega
def intsP (s : List UInt8) (a b : Int) : Rs := if s = [43] then intR (a + b) else if s = [45] then intR (a - b) else if s = [42] then intR (a * b) else if s = [68, 73, 86] then divR b (a / b) else if s = [77, 79, 68] then divR b (a % b) else noR
end Go.Proofs.Ytgdpcdpkaaefbaa.Cn
namespace Go.Proofs.Ytgdpcdpkaaefbaa.Cn
open Go.RowKit hiding Hid
open Go.Maps Go.Proofs.Ytgdpcdpkaaefbaa.Tx Go.Proofs.Ytgdpcdpkaaefbaa.Lx Go.Proofs.Ytgdpcdpkaaefbaa.Mp Go.Proofs.Ytgdpcdpkaaefbaa.Bits Go.Proofs.Ytgdpcdpkaaefbaa.Tr Go.Proofs.Ytgdpcdpkaaefbaa.Bm
set_option linter.unusedVariables false
set_option linter.unusedSimpArgs false
set_option maxRecDepth 100000

theorem rchar_as {a v : Vl} (ha : a.t.length ≤ 9223372036854775807) (h : chV a = v) : ∀ W, Calls Try.prog 37 #[.agg #[.int .i64 a.f, .int .i64 a.n, .string (bs a.t)]] W (Told W (.agg #[.int .i64 v.f, .int .i64 v.n, .string (bs v.t)])) := fun W => by
  have := rchar_at a ha W
  rw [h] at this
  exact this
theorem bes_y {a b : Vl} : (if a.f = 3 then chV b else b) = besV b a := by
  unfold besV chV
  by_cases h : a.f = 3
  · simp [h]
  · simp [h]
theorem bes_x {a b : Vl} : (if (besV b a).f = 3 then chV a else a) = besV a b := by
  unfold besV chV
  by_cases h3 : b.f = 3
  · have : ¬ (a.f = 3 ∧ b.f = 6 ∧ b.t.length = 1) := by omega
    rw [if_neg this, if_pos h3]
    simp [h3]
  · rw [if_neg (show ¬ (b.f = 3 ∧ a.f = 6 ∧ a.t.length = 1) from fun h => h3 h.1)]
    by_cases hc : a.f = 3 ∧ b.f = 6 ∧ b.t.length = 1
    · rw [if_pos hc]
      dsimp only
      rw [if_pos rfl, if_neg (by omega)]
    · rw [if_neg hc, if_neg h3]
theorem cells6 {w0 w : World} {A : Nat → Prop} {X : Option Nat} {p : Lc} {L : List Lc} {Rs : List Rw} {Ts : List (List Dt × List Value)} {b c : Nat} {u0 u1 u2 v0 v1 v2 : Value} {t t' : TypeId} (H : Cx w0 A X (p :: ⟨b, [u0, u1, u2], t⟩ :: ⟨c, [v0, v1, v2], t'⟩ :: L) Rs Ts w) : w.cell? ⟨b, 0, none⟩ = some u0 ∧ w.cell? ⟨b, 1, none⟩ = some u1 ∧ w.cell? ⟨b, 2, none⟩ = some u2 ∧ w.cell? ⟨c, 0, none⟩ = some v0 ∧ w.cell? ⟨c, 1, none⟩ = some v1 ∧ w.cell? ⟨c, 2, none⟩ = some v2 :=
  ⟨cell_of_row _ _ _ _ _ _ (H.loc _ (.tail _ (.head _))), cell_of_row _ _ _ _ _ _ (H.loc _ (.tail _ (.head _))), cell_of_row _ _ _ _ _ _ (H.loc _ (.tail _ (.head _))), cell_of_row _ _ _ _ _ _ (H.loc _ (.tail _ (.tail _ (.head _)))), cell_of_row _ _ _ _ _ _ (H.loc _ (.tail _ (.tail _ (.head _)))), cell_of_row _ _ _ _ _ _ (H.loc _ (.tail _ (.tail _ (.head _))))⟩
/- What the parts of a way tell, each as it is called. -/
def Gd (f n : Int) (t : List UInt8) (B : Bool) : Prop := ∀ W, Calls Try.prog 16 #[.agg #[.int .i64 f, .int .i64 n, .string (bs t)]] W (Told W (.bool B))
def Ch (f n : Int) (t : List UInt8) (g m : Int) (u : List UInt8) : Prop := ∀ W, Calls Try.prog 37 #[.agg #[.int .i64 f, .int .i64 n, .string (bs t)]] W (Told W (.agg #[.int .i64 g, .int .i64 m, .string (bs u)]))
def Rl (s : List UInt8) (o : Int) (B1 B2 : Bool) : Prop := ∀ W : World, Calls Try.prog 40 #[.string (bs s), .int .i64 o] W fun e w' => e = .returned (.tuple #[.bool B1, .bool B2]) ∧ w' = W
def Od (t u : List UInt8) (c : Int) : Prop := ∀ W : World, Calls Try.prog 39 #[.string (bs t), .string (bs u)] W fun e w' => e = .returned (.int .i64 c) ∧ w' = W
def Tr3 (F : FuncId) (ar : Array Value) (rf rn : Int) (rt : List UInt8) (re : Int) : Prop := ∀ W, Calls Try.prog F ar W (Told W (.tuple #[.agg #[.int .i64 rf, .int .i64 rn, .string (bs rt)], .int .i64 re]))
/- How two numbers lie to each other, and what the order is then. -/
def Nc (n m o : Int) : Prop := ((n != m) = false ∧ o = 0) ∨ ((n != m) = true ∧ n < m ∧ o = -1) ∨ ((n != m) = true ∧ ¬ n < m ∧ o = 1)
theorem nc_of (n m : Int) : Nc n m (cmI n m) := by
  unfold Nc cmI
  by_cases h1 : n < m
  · rw [if_pos h1]; exact .inr (.inl ⟨by simp; omega, h1, rfl⟩)
  · rw [if_neg h1]
    by_cases h2 : m < n
    · rw [if_pos h2]; exact .inr (.inr ⟨by simp; omega, h1, rfl⟩)
    · rw [if_neg h2]; exact .inl ⟨by simp; omega, rfl⟩
end Go.Proofs.Ytgdpcdpkaaefbaa.Cn
