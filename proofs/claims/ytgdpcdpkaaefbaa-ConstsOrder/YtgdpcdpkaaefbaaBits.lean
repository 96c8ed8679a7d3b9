/-
  What each function of package bits answers, for every word and number; and the like for the document's own functions of layer 1.
-/
import Derived.Test.YtgdpcdpkaaefbaaRows
import Derived.Test.YtgdpcdpkaaefbaaMath
import Derived.WalkKit
namespace Go.Proofs.Ytgdpcdpkaaefbaa.Bits
open Go.RowKit Go.Proofs.Ytgdpcdpkaaefbaa.Bm

def lslI (x n : Int) : Int := (lslN x.toNat (n.toNat % 32) : Nat)
def asrI (x n : Int) : Int := wrap32 x / 2 ^ (n.toNat % 32) % 4294967296
def rorI (x n : Int) : Int := (rorN x.toNat (n.toNat % 32) : Nat)
def okB (lo n : Int) : Bool := decide (0 ≤ lo ∧ 1 ≤ n ∧ n ≤ 32 - lo)
def getI (x lo n : Int) : Int := if 0 ≤ lo ∧ 1 ≤ n ∧ n ≤ 32 - lo then (getN x.toNat lo.toNat n.toNat : Nat) else 0
def putI (x lo n v : Int) : Int := if 0 ≤ lo ∧ 1 ≤ n ∧ n ≤ 32 - lo then (putN x.toNat lo.toNat n.toNat v.toNat : Nat) else x
def extI (v n : Int) : Int := if 1 ≤ n ∧ n ≤ 32 then extN v.toNat n.toNat else 0
def fitsB (v n : Int) : Bool := decide (1 ≤ n ∧ n ≤ 32 ∧ -(2 ^ n.toNat) ≤ 2 * v ∧ 2 * v < 2 ^ n.toNat)

theorem ret_int {k : IntKind} {a b : Int} (h : a = b) : Ending.returned (.int k a) = .returned (.int k b) := by rw [h]
theorem ret_bool {a b : Bool} (h : a = b) : Ending.returned (.bool a) = .returned (.bool b) := by rw [h]

/- The forms that a run leaves, as words. -/
theorem lower_eq (x n : Int) (h0 : 0 ≤ n) (h1 : n ≤ 32) (x0 : 0 ≤ x) (x1 : x < 4294967296) : Go.bits .and .u32 x ((2 ^ n.toNat - 1) % 4294967296) = x % 2 ^ n.toNat := by
  obtain ⟨X, rfl⟩ := Int.eq_ofNat_of_zero_le x0
  have hk : n.toNat ≤ 32 := by omega
  generalize n.toNat = k at *
  have h2 := p2pos k
  have h3 := p2le32 hk
  have e : ((2 : Int) ^ k - 1) % 4294967296 = ((2 ^ k - 1 : Nat) : Int) := by rw [← p2cast]; omega
  rw [e, u32_and_nat X (2 ^ k - 1) (by omega) (by omega), Nat.and_two_pow_sub_one_eq_mod]
  simp
theorem lsl_eq (x n : Int) (x0 : 0 ≤ x) (n0 : 0 ≤ n) : x * 2 ^ (n % 32).toNat % 4294967296 = lslI x n := by
  obtain ⟨X, rfl⟩ := Int.eq_ofNat_of_zero_le x0
  have e : (n % 32).toNat = n.toNat % 32 := by omega
  rw [e]; simp [lslI, lslN]
theorem rlsl_eq (x n : Int) (x0 : 0 ≤ x) (n0 : 0 ≤ n) : (IntKind.u64.wrap (x * 2 ^ (n % 32).toNat)).tmod 4294967296 % 4294967296 = lslI x n := by
  rw [← lsl_eq x n x0 n0]
  have h : 0 ≤ x * 2 ^ (n % 32).toNat := Int.mul_nonneg x0 (Int.le_of_lt (Int.pow_pos (by decide)))
  generalize x * 2 ^ (n % 32).toNat = a at *
  rw [IntKind.wrap_u64, Int.tmod_eq_emod_of_nonneg (Int.emod_nonneg _ (by decide))]
  omega
theorem asr_eq (x n : Int) (n0 : 0 ≤ n) : wrap32 x / 2 ^ (n % 32).toNat % 4294967296 = asrI x n := by
  have e : (n % 32).toNat = n.toNat % 32 := by omega
  rw [e]; rfl
theorem ror_eq (x n : Int) (x0 : 0 ≤ x) (x1 : x < 4294967296) (n0 : 0 ≤ n) : Go.bits .or .u32 (x / 2 ^ (n % 32).toNat) (x * 2 ^ (32 - n % 32).toNat % 4294967296) = rorI x n := by
  obtain ⟨X, rfl⟩ := Int.eq_ofNat_of_zero_le x0
  have e : (n % 32).toNat = n.toNat % 32 := by omega
  have e' : (32 - n % 32).toNat = 32 - n.toNat % 32 := by omega
  have hk : n.toNat % 32 ≤ 32 := by omega
  rw [e, e']
  unfold rorI
  generalize n.toNat % 32 = k at *
  have e1 : (X : Int) / 2 ^ k = ((X / 2 ^ k : Nat) : Int) := by simp
  have e2 : (X : Int) * 2 ^ (32 - k) % 4294967296 = ((X * 2 ^ (32 - k) % 4294967296 : Nat) : Int) := by simp
  have h1 : X / 2 ^ k ≤ X := Nat.div_le_self _ _
  rw [e1, e2, u32_or_nat _ _ (by omega) (by omega), ror_or X k hk (by omega)]
  rfl

theorem wrap32_lt (x : Int) : -2147483648 ≤ wrap32 x ∧ wrap32 x < 2147483648 := by unfold wrap32; omega
theorem wrap32_nat (a : Nat) (h : a < 4294967296) : wrap32 (a : Int) = if a < 2147483648 then (a : Int) else (a : Int) - 4294967296 := by
  unfold wrap32; split <;> omega
theorem signed_eq (x : Int) : wrap64 (wrap32 x) = wrap32 x := by have := wrap32_lt x; exact IntWalk.wrap64_in _ ⟨by omega, by omega⟩
theorem word_eq (x : Int) : Go.bits .and .u32 (x % 4294967296) 4294967295 = x % 4294967296 := by
  have h0 : 0 ≤ x % 4294967296 := Int.emod_nonneg _ (by decide)
  have h1 : x % 4294967296 < 4294967296 := Int.emod_lt_of_pos _ (by decide)
  rw [u32_and _ _ h0 h1 (by decide) (by decide)]
  have : (x % 4294967296).toNat &&& (4294967295 : Int).toNat = (x % 4294967296).toNat % 4294967296 := Nat.and_two_pow_sub_one_eq_mod _ 32
  rw [this]; omega
theorem get_eq (x lo n : Int) (x0 : 0 ≤ x) (h : 0 ≤ lo ∧ 1 ≤ n ∧ n ≤ 32 - lo) : x / 2 ^ lo.toNat % 2 ^ n.toNat = getI x lo n := by
  obtain ⟨X, rfl⟩ := Int.eq_ofNat_of_zero_le x0
  simp [getI, if_pos h, getN]
theorem div_range (x : Int) (k : Nat) (x0 : 0 ≤ x) (x1 : x < 4294967296) : 0 ≤ x / 2 ^ k ∧ x / 2 ^ k < 4294967296 := by
  obtain ⟨X, rfl⟩ := Int.eq_ofNat_of_zero_le x0
  have e1 : (X : Int) / 2 ^ k = ((X / 2 ^ k : Nat) : Int) := by simp
  have h1 : X / 2 ^ k ≤ X := Nat.div_le_self _ _
  rw [e1]
  generalize X / 2 ^ k = q at *
  omega
theorem ones_mod (m : Nat) (h : m ≤ 32) : 4294967295 % 2 ^ m = 2 ^ m - 1 := by
  have h0 := p2pos m
  have h1 := p2pos (32 - m)
  have e : 4294967295 = (2 ^ m - 1) + 2 ^ m * (2 ^ (32 - m) - 1) := by
    have : 4294967296 = 2 ^ m * 2 ^ (32 - m) := by rw [← Nat.pow_add, show m + (32 - m) = 32 by omega]
    rw [Nat.mul_sub, ← this]
    have := p2le32 h
    omega
  rw [e, Nat.add_mul_mod_self_left, Nat.mod_eq_of_lt (by omega)]
theorem hole_is (l m : Nat) (h : l + m ≤ 32) : (4294967295 : Int) % 2 ^ m * 2 ^ l % 4294967296 = (((2 ^ m - 1) * 2 ^ l : Nat) : Int) := by
  have e := ones_mod m (by omega)
  have e1 : (4294967295 : Int) % 2 ^ m = ((2 ^ m - 1 : Nat) : Int) := by rw [← e]; simp
  have h1 := hole_eq l m h
  rw [e1, ← p2cast l, ← Int.natCast_mul]
  have : (((2 ^ m - 1) * 2 ^ l : Nat) : Int) % 4294967296 = (((2 ^ m - 1) * 2 ^ l % 4294967296 : Nat) : Int) := by simp
  rw [this, h1]
theorem hole_lt (l m : Nat) (h : l + m ≤ 32) : (2 ^ m - 1) * 2 ^ l < 4294967296 := by rw [← hole_eq l m h]; exact Nat.mod_lt _ (by decide)
theorem andNot_is (x : Nat) (l m : Nat) (h : l + m ≤ 32) (x1 : x < 4294967296) : Go.bits .andNot .u32 (x : Int) ((4294967295 : Int) % 2 ^ m * 2 ^ l % 4294967296) = (putN x l m 0 : Nat) := by
  rw [hole_is l m h, u32_andNot_nat _ _ x1 (hole_lt l m h), andNot_hole x l m h x1]
theorem put_eq (x lo n v : Int) (x0 : 0 ≤ x) (x1 : x < 4294967296) (v0 : 0 ≤ v) (h : 0 ≤ lo ∧ 1 ≤ n ∧ n ≤ 32 - lo) :
    Go.bits .or .u32 (Go.bits .andNot .u32 x (4294967295 % 2 ^ n.toNat * 2 ^ lo.toNat % 4294967296)) (v % 2 ^ n.toNat * 2 ^ lo.toNat % 4294967296) = putI x lo n v := by
  obtain ⟨X, rfl⟩ := Int.eq_ofNat_of_zero_le x0
  obtain ⟨V, rfl⟩ := Int.eq_ofNat_of_zero_le v0
  have hs : lo.toNat + n.toNat ≤ 32 := by omega
  unfold putI
  rw [if_pos h]
  simp only [Int.toNat_natCast]
  generalize lo.toNat = l at *
  generalize n.toNat = m at *
  rw [andNot_is X l m hs (by omega)]
  have e : (V : Int) % 2 ^ m * 2 ^ l % 4294967296 = ((V % 2 ^ m * 2 ^ l : Nat) : Int) := by
    have h3 : V % 2 ^ m * 2 ^ l < 4294967296 := Nat.lt_of_lt_of_le (Nat.lt_of_le_of_lt (Nat.le_add_right _ 0) (mid_lt l m V 0 (p2pos l))) (p2le32 hs)
    have : (V : Int) % 2 ^ m * 2 ^ l = ((V % 2 ^ m * 2 ^ l : Nat) : Int) := by simp
    rw [this]; omega
  have h4 := put_lt X l m 0 hs (by omega)
  have h5 : V % 2 ^ m * 2 ^ l < 4294967296 := Nat.lt_of_lt_of_le (Nat.lt_of_le_of_lt (Nat.le_add_right _ 0) (mid_lt l m V 0 (p2pos l))) (p2le32 hs)
  rw [e, u32_or_nat _ _ h4 h5, or_put]
theorem ext_eq (v n : Int) (v0 : 0 ≤ v) (h1 : 1 ≤ n) (h2 : n ≤ 32) : wrap32 (v * 2 ^ (32 - n).toNat % 4294967296) / 2 ^ (32 - n).toNat = extI v n := by
  obtain ⟨V, rfl⟩ := Int.eq_ofNat_of_zero_le v0
  have e : (32 - n).toNat = 32 - n.toNat := by omega
  have hm : n.toNat ≤ 32 := by omega
  unfold extI
  rw [if_pos ⟨h1, h2⟩, e, Int.toNat_natCast]
  generalize n.toNat = m at *
  have e1 : (V : Int) * 2 ^ (32 - m) % 4294967296 = ((V * 2 ^ (32 - m) % 4294967296 : Nat) : Int) := by simp
  rw [e1, wrap32_nat _ (Nat.mod_lt _ (by decide)), ext_shift V m hm]

/- The answers are words. -/
theorem lsl_range (x n : Int) : 0 ≤ lslI x n ∧ lslI x n < 4294967296 := by
  unfold lslI lslN
  have := Nat.mod_lt (x.toNat * 2 ^ (n.toNat % 32)) (show 4294967296 > 0 by decide)
  omega
theorem ror_range (x n : Int) (x0 : 0 ≤ x) (x1 : x < 4294967296) : 0 ≤ rorI x n ∧ rorI x n < 4294967296 := by
  unfold rorI
  have := ror_lt x.toNat (n.toNat % 32) (by omega) (by omega)
  omega
theorem get_range (x lo n : Int) : 0 ≤ getI x lo n ∧ getI x lo n < 4294967296 := by
  unfold getI
  split
  · have := get_lt x.toNat lo.toNat n.toNat (by omega); omega
  · omega
theorem put_range (x lo n v : Int) (x0 : 0 ≤ x) (x1 : x < 4294967296) : 0 ≤ putI x lo n v ∧ putI x lo n v < 4294967296 := by
  unfold putI
  split
  · have := put_lt x.toNat lo.toNat n.toNat v.toNat (by omega) (by omega); omega
  · omega
theorem ext_bd (v n : Int) : -4294967296 ≤ extI v n ∧ extI v n ≤ 4294967296 := by
  unfold extI
  split
  · have := ext_range v.toNat n.toNat
    rw [← p2cast] at this
    have := p2le32 (k := n.toNat) (by omega)
    omega
  · omega
theorem fits_eq (v n : Int) (h : okB 0 n = true) : (extI (v % 4294967296) n == v) = fitsB v n := by
  obtain ⟨_, h1, h2⟩ := of_decide_eq_true h
  unfold extI fitsB
  rw [if_pos ⟨h1, by omega⟩]
  have := ext_fits v n.toNat (by omega)
  rw [Bool.eq_iff_iff, beq_iff_eq, this, decide_eq_true_iff]
  constructor
  · intro ⟨a, b⟩; exact ⟨h1, by omega, a, b⟩
  · intro ⟨_, _, a, b⟩; exact ⟨a, b⟩
theorem fits_no (v n : Int) (h : okB 0 n = false) : fitsB v n = false := by
  have h' := of_decide_eq_false h
  unfold fitsB
  rw [decide_eq_false_iff_not]
  intro ⟨a, b, _⟩; exact h' ⟨by omega, a, by omega⟩

theorem lower_any (x n : Int) (w : World) (h0 : 0 ≤ n) (h1 : n ≤ 32) (x0 : 0 ≤ x) (x1 : x < 4294967296) :
    Calls Try.prog 90 #[.int .u32 x, .int .u64 n] w fun e w' => e = .returned (.int .u32 (x % 2 ^ n.toNat)) ∧ w' = w := by
  go_enter Try.func90, Try.ntmps90
  go_wp2
  go_ret
  exact ⟨ret_int (lower_eq x n h0 h1 x0 x1), rfl⟩
theorem lower5 (x : Int) (w : World) (x0 : 0 ≤ x) (x1 : x < 4294967296) :
    Calls Try.prog 90 #[.int .u32 x, .int .u64 5] w fun e w' => e = .returned (.int .u32 (x % 32)) ∧ w' = w :=
  lower_any x 5 w (by decide) (by decide) x0 x1
set_option maxHeartbeats 400000 in
theorem lowerI_any (x : Int) (w : World) :
    Calls Try.prog 111 #[.int .i64 x, .int .u64 32] w fun e w' => e = .returned (.int .u32 (x % 4294967296)) ∧ w' = w := by
  go_enter Try.func111, Try.ntmps111
  go_wp2
  go_ret
  exact ⟨ret_int (word_eq x), rfl⟩
theorem lsl_any (x n : Int) (w : World) (x0 : 0 ≤ x) (n0 : 0 ≤ n) (n1 : n < 4294967296) :
    Calls Try.prog 81 #[.int .u32 x, .int .u32 n] w fun e w' => e = .returned (.int .u32 (lslI x n)) ∧ w' = w := by
  go_enter Try.func81, Try.ntmps81
  go_wp2_with (go_at_call 90; refine (lower5 _ _ n0 n1).mono ?_; rintro e w' ⟨rfl, rfl⟩)
  go_ret
  exact ⟨ret_int (lsl_eq x n x0 n0), rfl⟩
theorem asr_any (x n : Int) (w : World) (n0 : 0 ≤ n) (n1 : n < 4294967296) :
    Calls Try.prog 82 #[.int .u32 x, .int .u32 n] w fun e w' => e = .returned (.int .u32 (asrI x n)) ∧ w' = w := by
  go_enter Try.func82, Try.ntmps82
  go_wp2_with (go_at_call 90; refine (lower5 _ _ n0 n1).mono ?_; rintro e w' ⟨rfl, rfl⟩)
  go_ret
  exact ⟨ret_int (asr_eq x n n0), rfl⟩
theorem ror_any (x n : Int) (w : World) (x0 : 0 ≤ x) (x1 : x < 4294967296) (n0 : 0 ≤ n) (n1 : n < 4294967296) :
    Calls Try.prog 83 #[.int .u32 x, .int .u32 n] w fun e w' => e = .returned (.int .u32 (rorI x n)) ∧ w' = w := by
  go_enter Try.func83, Try.ntmps83
  go_wp2_with (go_at_call 90; refine (lower5 _ _ n0 n1).mono ?_; rintro e w' ⟨rfl, rfl⟩)
  go_ret
  exact ⟨ret_int (ror_eq x n x0 x1 n0), rfl⟩
theorem signed_any (x : Int) (w : World) :
    Calls Try.prog 110 #[.int .u32 x] w fun e w' => e = .returned (.int .i64 (wrap32 x)) ∧ w' = w := by
  go_enter Try.func110, Try.ntmps110
  go_wp2
  go_ret
  exact ⟨ret_int (signed_eq x), rfl⟩
theorem word_any (n : Int) (w : World) :
    Calls Try.prog 94 #[.int .i64 n] w fun e w' => e = .returned (.int .u32 (n % 4294967296)) ∧ w' = w := by
  go_enter Try.func94, Try.ntmps94
  go_wp2_with (go_at_call 111; refine (lowerI_any _ _).mono ?_; rintro e w' ⟨rfl, rfl⟩)
  go_ret
  exact ⟨rfl, rfl⟩
theorem inword_yes (lo n : Int) (w : World) (h : okB lo n = true) :
    Calls Try.prog 89 #[.int .i64 lo, .int .i64 n] w fun e w' => e = .returned (.bool true) ∧ w' = w := by
  have h' := of_decide_eq_true h
  obtain ⟨h1, h2, h3⟩ := h'
  clear h
  go_enter Try.func89, Try.ntmps89
  go_wp2
  go_ret
  exact ⟨rfl, rfl⟩
theorem inword_no (lo n : Int) (w : World) (h : okB lo n = false) (l1 : lo ≤ 9223372036854775807) :
    Calls Try.prog 89 #[.int .i64 lo, .int .i64 n] w fun e w' => e = .returned (.bool false) ∧ w' = w := by
  have h' := of_decide_eq_false h
  clear h
  by_cases h1 : 0 ≤ lo
  · by_cases h2 : 1 ≤ n
    · have h3 : ¬ n ≤ 32 - lo := fun x => h' ⟨h1, h2, x⟩
      clear h'
      go_enter Try.func89, Try.ntmps89
      go_wp2
      go_ret
      exact ⟨rfl, rfl⟩
    · clear h'
      go_enter Try.func89, Try.ntmps89
      go_wp2
      go_ret
      exact ⟨rfl, rfl⟩
  · clear h'
    go_enter Try.func89, Try.ntmps89
    go_wp2
    go_ret
    exact ⟨rfl, rfl⟩
theorem get_any (x lo n : Int) (w : World) (x0 : 0 ≤ x) (x1 : x < 4294967296) (l1 : lo ≤ 9223372036854775807) :
    Calls Try.prog 99 #[.int .u32 x, .int .i64 lo, .int .i64 n] w fun e w' => e = .returned (.int .u32 (getI x lo n)) ∧ w' = w := by
  by_cases h : okB lo n = true
  · have h' := of_decide_eq_true h
    have E : Hid (x / 2 ^ lo.toNat % 2 ^ n.toNat = getI x lo n) := get_eq x lo n x0 h'
    obtain ⟨h1, h2, h3⟩ := h'
    have hd := div_range x lo.toNat x0 x1
    have H : Hid (okB lo n = true) := h
    clear h
    go_enter Try.func99, Try.ntmps99
    go_wp2_with (first | (go_at_call 89; refine (inword_yes _ _ _ H.out).mono ?_; rintro e w' ⟨rfl, rfl⟩) | (go_at_call 90; refine (lower_any _ _ _ (by omega) (by omega) (by omega) (by omega)).mono ?_; rintro e w' ⟨rfl, rfl⟩))
    go_ret
    exact ⟨ret_int E.out, rfl⟩
  · have h' : okB lo n = false := by simpa using h
    have E : Hid (0 = getI x lo n) := by unfold getI; rw [if_neg (of_decide_eq_false h')]; trivial
    have H : Hid (okB lo n = false) := h'
    clear h h'
    go_enter Try.func99, Try.ntmps99
    go_wp2_with (go_at_call 89; refine (inword_no _ _ _ H.out l1).mono ?_; rintro e w' ⟨rfl, rfl⟩)
    go_ret
    exact ⟨ret_int E.out, rfl⟩
theorem put_any (x lo n v : Int) (w : World) (x0 : 0 ≤ x) (x1 : x < 4294967296) (v0 : 0 ≤ v) (v1 : v < 4294967296) (l1 : lo ≤ 9223372036854775807) :
    Calls Try.prog 50 #[.int .u32 x, .int .i64 lo, .int .i64 n, .int .u32 v] w fun e w' => e = .returned (.int .u32 (putI x lo n v)) ∧ w' = w := by
  by_cases h : okB lo n = true
  · have h' := of_decide_eq_true h
    have E : Hid (Go.bits .or .u32 (Go.bits .andNot .u32 x (4294967295 % 2 ^ n.toNat * 2 ^ lo.toNat % 4294967296)) (v % 2 ^ n.toNat * 2 ^ lo.toNat % 4294967296) = putI x lo n v) := put_eq x lo n v x0 x1 v0 h'
    obtain ⟨h1, h2, h3⟩ := h'
    have H : Hid (okB lo n = true) := h
    clear h
    go_enter Try.func50, Try.ntmps50
    go_wp2_with (first | (go_at_call 89; refine (inword_yes _ _ _ H.out).mono ?_; rintro e w' ⟨rfl, rfl⟩) | (go_at_call 90; refine (lower_any _ _ _ (by omega) (by omega) (by omega) (by omega)).mono ?_; rintro e w' ⟨rfl, rfl⟩))
    go_ret
    exact ⟨ret_int E.out, rfl⟩
  · have h' : okB lo n = false := by simpa using h
    have E : Hid (x = putI x lo n v) := by unfold putI; rw [if_neg (of_decide_eq_false h')]; trivial
    have H : Hid (okB lo n = false) := h'
    clear h h'
    go_enter Try.func50, Try.ntmps50
    go_wp2_with (go_at_call 89; refine (inword_no _ _ _ H.out l1).mono ?_; rintro e w' ⟨rfl, rfl⟩)
    go_ret
    exact ⟨ret_int E.out, rfl⟩
theorem extend_any (v n : Int) (w : World) (v0 : 0 ≤ v) :
    Calls Try.prog 97 #[.int .u32 v, .int .i64 n] w fun e w' => e = .returned (.int .i64 (extI v n)) ∧ w' = w := by
  by_cases h : okB 0 n = true
  · obtain ⟨_, h2, h3⟩ := of_decide_eq_true h
    have h4 : n ≤ 32 := by omega
    have E : Hid (wrap32 (v * 2 ^ (32 - n).toNat % 4294967296) / 2 ^ (32 - n).toNat = extI v n) := ext_eq v n v0 h2 h4
    have H : Hid (okB 0 n = true) := h
    clear h h3
    go_enter Try.func97, Try.ntmps97
    go_wp2_with (first | (go_at_call 89; refine (inword_yes _ _ _ H.out).mono ?_; rintro e w' ⟨rfl, rfl⟩) | (go_at_call 110; refine (signed_any _ _).mono ?_; rintro e w' ⟨rfl, rfl⟩))
    go_ret
    exact ⟨ret_int E.out, rfl⟩
  · have h' : okB 0 n = false := by simpa using h
    have E : Hid (0 = extI v n) := by
      unfold extI; rw [if_neg (fun x => of_decide_eq_false h' ⟨by omega, x.1, by omega⟩)]; trivial
    have H : Hid (okB 0 n = false) := h'
    clear h h'
    go_enter Try.func97, Try.ntmps97
    go_wp2_with (go_at_call 89; refine (inword_no _ _ _ H.out (by decide)).mono ?_; rintro e w' ⟨rfl, rfl⟩)
    go_ret
    exact ⟨ret_int E.out, rfl⟩
theorem fits_any (v n : Int) (w : World) :
    Calls Try.prog 60 #[.int .i64 v, .int .i64 n] w fun e w' => e = .returned (.bool (fitsB v n)) ∧ w' = w := by
  have hw : 0 ≤ v % 4294967296 := Int.emod_nonneg _ (by decide)
  by_cases h : okB 0 n = true
  · have E : Hid ((extI (v % 4294967296) n == v) = fitsB v n) := fits_eq v n h
    have H : Hid (okB 0 n = true) := h
    clear h
    go_enter Try.func60, Try.ntmps60
    go_wp2_with (first | (go_at_call 89; refine (inword_yes _ _ _ H.out).mono ?_; rintro e w' ⟨rfl, rfl⟩) | (go_at_call 94; refine (word_any _ _).mono ?_; rintro e w' ⟨rfl, rfl⟩) | (go_at_call 97; refine (extend_any _ _ _ hw).mono ?_; rintro e w' ⟨rfl, rfl⟩))
    go_ret
    exact ⟨ret_bool E.out, rfl⟩
  · have h' : okB 0 n = false := by simpa using h
    have E : Hid (false = fitsB v n) := (fits_no v n h').symm
    have H : Hid (okB 0 n = false) := h'
    clear h h'
    go_enter Try.func60, Try.ntmps60
    go_wp2_with (go_at_call 89; refine (inword_no _ _ _ H.out (by decide)).mono ?_; rintro e w' ⟨rfl, rfl⟩)
    go_ret
    exact ⟨ret_bool E.out, rfl⟩
end Go.Proofs.Ytgdpcdpkaaefbaa.Bits
