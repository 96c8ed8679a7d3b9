/-
  Package alu's inner functions: what each answers, for every word.
-/
import Derived.Test.YtfdofleohichiaaGreatDoorBits
import Derived.Test.YtfdofleohichiaaGreatDoorGrow
import Derived.RegionTactic
namespace Go.Proofs.YtfdofleohichiaaGreatDoor.Alu
open Go.RowKit Go.Proofs.YtfdofleohichiaaGreatDoor.Bits Go.Proofs.YtfdofleohichiaaGreatDoor.Gw

def cI (u c : Bool) : Int := if (u && c) = true then 1 else 0
def mayB (op : Int) : Bool := decide (op = 0 ∨ op = 8 ∨ op = 9 ∨ op = 10)
def fl (N Z C V : Bool) : Value := .agg #[.bool N, .bool Z, .bool C, .bool V]
def addC (b n c : Int) : Bool := decide (4294967296 ≤ b + n + c)
def addV (b n c : Int) : Bool := !fitsB (wrap32 b + wrap32 n + c) 32
def subC (b n c : Int) : Bool := decide (b - n - c < 0)
def subV (b n c : Int) : Bool := !fitsB (wrap32 b - wrap32 n - c) 32
def mulP (u : Bool) (b n : Int) : Int := if u = true then b * n else wrap32 b * wrap32 n
def divQ (b n : Int) : Int := if wrap32 n ≤ 0 then 0 else wrap32 b / wrap32 n % 4294967296
def divR (b n : Int) : Int := if wrap32 n ≤ 0 then b else wrap32 b % wrap32 n
def bitI (op b n : Int) : Int :=
  if op = 1 then lslI b n else if op = 2 then asrI b n else if op = 3 then rorI b n else if op = 4 then Go.bits .and .u32 b n
  else if op = 5 then Go.bits .andNot .u32 b n else if op = 6 then Go.bits .or .u32 b n else Go.bits .xor .u32 b n

theorem cI_bd (u c : Bool) : 0 ≤ cI u c ∧ cI u c ≤ 1 := by cases u <;> cases c <;> decide
theorem fits32 (v : Int) : fitsB v 32 = decide (-2147483648 ≤ v ∧ v < 2147483648) := by
  have e : (32 : Int).toNat = 32 := rfl
  unfold fitsB; rw [e, decide_eq_decide]
  have e2 : (2 : Int) ^ 32 = 4294967296 := by decide
  rw [e2]; omega
theorem over_eq (v : Int) (h0 : -8589934592 ≤ v) (h1 : v < 8589934592) : (v != wrap32 (v % 4294967296)) = !fitsB v 32 := by
  rw [fits32]
  have e : (v == wrap32 (v % 4294967296)) = decide (-2147483648 ≤ v ∧ v < 2147483648) := by
    rw [Bool.eq_iff_iff, beq_iff_eq, decide_eq_true_iff]; unfold wrap32; omega
  rw [bne, e]

theorem ret_ibb {k : IntKind} {a b : Int} {p q r s : Bool} (h : a = b) (i : p = q) (j : r = s) : Ending.returned (.tuple #[.int k a, .bool p, .bool r]) = .returned (.tuple #[.int k b, .bool q, .bool s]) := by rw [h, i, j]
theorem ret_ii {k l : IntKind} {a b c d : Int} (h : a = b) (i : c = d) : Ending.returned (.tuple #[.int k a, .int l c]) = .returned (.tuple #[.int k b, .int l d]) := by rw [h, i]
theorem mul_bd (b n : Int) (b0 : 0 ≤ b) (b1 : b < 4294967296) (n0 : 0 ≤ n) (n1 : n < 4294967296) : 0 ≤ b * n ∧ b * n < 18446744073709551616 := by
  refine ⟨Int.mul_nonneg b0 n0, ?_⟩
  have h1 : b * n ≤ 4294967295 * n := Int.mul_le_mul_of_nonneg_right (by omega) n0
  omega
theorem smul_bd (b n : Int) (b0 : -2147483648 ≤ b) (b1 : b < 2147483648) (n0 : -2147483648 ≤ n) (n1 : n < 2147483648) : -4611686018427387904 ≤ b * n ∧ b * n ≤ 4611686018427387904 := by
  have h1 := Int.mul_nonneg (show 0 ≤ b + 2147483648 by omega) (show 0 ≤ n + 2147483648 by omega)
  have h2 := Int.mul_nonneg (show 0 ≤ 2147483648 - b by omega) (show 0 ≤ 2147483648 - n by omega)
  have h3 := Int.mul_nonneg (show 0 ≤ b + 2147483648 by omega) (show 0 ≤ 2147483648 - n by omega)
  have h4 := Int.mul_nonneg (show 0 ≤ 2147483648 - b by omega) (show 0 ≤ n + 2147483648 by omega)
  simp only [Int.add_mul, Int.mul_add, Int.sub_mul, Int.mul_sub] at h1 h2 h3 h4
  have e : b * 2147483648 = 2147483648 * b := Int.mul_comm _ _
  omega
theorem tdiv_facts (b m : Int) (b0 : -2147483648 ≤ b) (b1 : b < 2147483648) (m0 : 0 < m) (m1 : m < 2147483648) :
    -2147483648 ≤ b.tdiv m ∧ b.tdiv m ≤ 2147483648 ∧ -2147483648 < b.tmod m ∧ b.tmod m < 2147483648 ∧ ((0 ≤ b.tmod m → b.tdiv m = b / m ∧ b.tmod m = b % m) ∧ (b.tmod m < 0 → b.tdiv m - 1 = b / m ∧ b.tmod m + m = b % m)) := by
  by_cases h : 0 ≤ b
  · rw [Int.tdiv_eq_ediv_of_nonneg h, Int.tmod_eq_emod_of_nonneg h]
    have r0 := Int.emod_nonneg b (show m ≠ 0 by omega)
    have r1 := Int.emod_lt_of_pos b m0
    have q0 := Int.ediv_nonneg h (Int.le_of_lt m0)
    have q1 := Int.ediv_le_self m h
    exact ⟨by omega, by omega, by omega, by omega, fun _ => ⟨rfl, rfl⟩, fun hh => by omega⟩
  · have h' : 0 ≤ -b := by omega
    have e1 : b.tdiv m = -(-b / m) := by rw [← Int.tdiv_eq_ediv_of_nonneg h', Int.neg_tdiv, Int.neg_neg]
    have e2 : b.tmod m = -(-b % m) := by rw [← Int.tmod_eq_emod_of_nonneg h', Int.neg_tmod, Int.neg_neg]
    rw [e1, e2]
    have r0 := Int.emod_nonneg (-b) (show m ≠ 0 by omega)
    have r1 := Int.emod_lt_of_pos (-b) m0
    have q0 := Int.ediv_nonneg h' (Int.le_of_lt m0)
    have q1 := Int.ediv_le_self m h'
    have e3 := Int.mul_ediv_add_emod (-b) m
    generalize -b / m = q at *
    generalize -b % m = r at *
    refine ⟨by omega, by omega, by omega, by omega, fun hh => ?_, fun hh => ?_⟩
    · have hr : r = 0 := by omega
      subst hr
      have := (Int.ediv_emod_unique (a := b) (r := 0) (q := -q) m0).2 ⟨by rw [Int.mul_neg]; omega, by omega, by omega⟩
      exact ⟨this.1.symm, by rw [this.2]; omega⟩
    · have := (Int.ediv_emod_unique (a := b) (r := -r + m) (q := -q - 1) m0).2 ⟨by rw [Int.mul_sub, Int.mul_neg, Int.mul_one]; omega, by omega, by omega⟩
      exact ⟨this.1.symm, this.2.symm⟩
theorem sgn_any (x : Int) (w : World) :
    Calls Tryz.prog 130 #[.int .u32 x] w fun e w' => e = .returned (.int .i64 (wrap32 x)) ∧ w' = w := by
  go_enter Tryz.func130, Tryz.ntmps130
  go_wp2_with (go_at_call 119; refine (signed_any _ _).mono ?_; rintro e w' ⟨rfl, rfl⟩)
  go_ret
  exact ⟨rfl, rfl⟩
theorem mayU_any (op : Int) (w : World) :
    Calls Tryz.prog 123 #[.int .i64 op] w fun e w' => e = .returned (.bool (mayB op)) ∧ w' = w := by
  cases e0 : (op == 0)
  · cases e8 : (op == 8)
    · cases e9 : (op == 9)
      · skip
        go_enter Tryz.func123, Tryz.ntmps123
        go_wp2
        go_ret
        exact ⟨ret_bool (by simp at e0 e8 e9; simp [mayB, e0, e8, e9]; rfl), rfl⟩
      · skip
        go_enter Tryz.func123, Tryz.ntmps123
        go_wp2
        go_ret
        exact ⟨ret_bool (by simp at e9; simp [mayB, e9]), rfl⟩
    · skip
      go_enter Tryz.func123, Tryz.ntmps123
      go_wp2
      go_ret
      exact ⟨ret_bool (by simp at e8; simp [mayB, e8]), rfl⟩
  · skip
    go_enter Tryz.func123, Tryz.ntmps123
    go_wp2
    go_ret
    exact ⟨ret_bool (by simp at e0; simp [mayB, e0]), rfl⟩
theorem moved_any (u : Bool) (n h : Int) (w : World) :
    Calls Tryz.prog 124 #[.bool u, .int .u32 n, .int .u32 h] w fun e w' => e = .returned (.int .u32 (if u = true then h else n)) ∧ w' = w := by
  cases u
  · go_enter Tryz.func124, Tryz.ntmps124
    go_wp2
    go_ret
    exact ⟨rfl, rfl⟩
  · go_enter Tryz.func124, Tryz.ntmps124
    go_wp2
    go_ret
    exact ⟨rfl, rfl⟩
theorem carry_any (u N Z C V : Bool) (w : World) :
    Calls Tryz.prog 126 #[.bool u, fl N Z C V] w fun e w' => e = .returned (.int .i64 (cI u C)) ∧ w' = w.alloc (.cells #[.bool N, .bool Z, .bool C, .bool V] 68) := by
  unfold fl
  cases u
  · go_enter Tryz.func126, Tryz.ntmps126
    go_wp2
    go_ret
    exact ⟨rfl, rfl⟩
  · cases C
    · go_enter Tryz.func126, Tryz.ntmps126
      go_wp2
      go_ret
      exact ⟨rfl, rfl⟩
    · go_enter Tryz.func126, Tryz.ntmps126
      go_wp2
      go_ret
      exact ⟨rfl, rfl⟩
theorem sum_add (b n c : Int) (w : World) (b0 : 0 ≤ b) (b1 : b < 4294967296) (n0 : 0 ≤ n) (n1 : n < 4294967296) (c0 : 0 ≤ c) (c1 : c ≤ 1) :
    Calls Tryz.prog 125 #[.int .i64 8, .int .u32 b, .int .u32 n, .int .i64 c] w fun e w' => e = .returned (.tuple #[.int .u32 ((b + n + c) % 4294967296), .bool (addC b n c), .bool (addV b n c)]) ∧ w' = w := by
  obtain ⟨sb0, sb1⟩ := wrap32_lt b
  obtain ⟨sn0, sn1⟩ := wrap32_lt n
  obtain ⟨B, hB⟩ : ∃ B, wrap32 b = B := ⟨_, rfl⟩
  obtain ⟨M, hM⟩ : ∃ M, wrap32 n = M := ⟨_, rfl⟩
  rw [hB] at sb0 sb1
  rw [hM] at sn0 sn1
  go_enter Tryz.func125, Tryz.ntmps125
  go_wp2_with (go_at_call 130; refine (sgn_any _ _).mono ?_; rintro e w' ⟨rfl, rfl⟩)
  go_ret3
  exact ⟨ret_ibb (by rw [Int.add_assoc]) (by unfold addC; rw [Bool.eq_iff_iff, bne_iff_ne, decide_eq_true_iff]; omega) (by unfold addV; rw [hB, hM, Int.add_assoc]; exact over_eq _ (by omega) (by omega)), rfl⟩
theorem sum_sub (b n c : Int) (w : World) (b0 : 0 ≤ b) (b1 : b < 4294967296) (n0 : 0 ≤ n) (n1 : n < 4294967296) (c0 : 0 ≤ c) (c1 : c ≤ 1) :
    Calls Tryz.prog 125 #[.int .i64 9, .int .u32 b, .int .u32 n, .int .i64 c] w fun e w' => e = .returned (.tuple #[.int .u32 ((b - n - c) % 4294967296), .bool (subC b n c), .bool (subV b n c)]) ∧ w' = w := by
  obtain ⟨sb0, sb1⟩ := wrap32_lt b
  obtain ⟨sn0, sn1⟩ := wrap32_lt n
  obtain ⟨B, hB⟩ : ∃ B, wrap32 b = B := ⟨_, rfl⟩
  obtain ⟨M, hM⟩ : ∃ M, wrap32 n = M := ⟨_, rfl⟩
  rw [hB] at sb0 sb1
  rw [hM] at sn0 sn1
  go_enter Tryz.func125, Tryz.ntmps125
  go_wp2_with (go_at_call 130; refine (sgn_any _ _).mono ?_; rintro e w' ⟨rfl, rfl⟩)
  go_ret3
  exact ⟨ret_ibb (by congr 1; omega) (by unfold subC; rw [Bool.eq_iff_iff, bne_iff_ne, decide_eq_true_iff]; omega) (by unfold subV; rw [hB, hM, show B - M - c = B + -(M + c) by omega]; exact over_eq _ (by omega) (by omega)), rfl⟩
theorem prod_u (b n : Int) (w : World) (b0 : 0 ≤ b) (b1 : b < 4294967296) (n0 : 0 ≤ n) (n1 : n < 4294967296) :
    Calls Tryz.prog 127 #[.bool true, .int .u32 b, .int .u32 n] w fun e w' => e = .returned (.tuple #[.int .u32 (b * n % 4294967296), .int .u32 (b * n / 4294967296 % 4294967296)]) ∧ w' = w := by
  obtain ⟨p0, p1⟩ := mul_bd b n b0 b1 n0 n1
  obtain ⟨P, hP⟩ : ∃ P, b * n = P := ⟨_, rfl⟩
  rw [hP] at p0 p1 ⊢
  go_enter Tryz.func127, Tryz.ntmps127
  go_wp2
  go_ret2
  exact ⟨ret_ii rfl (by omega), rfl⟩
theorem prod_s (b n : Int) (w : World) (b0 : 0 ≤ b) (b1 : b < 4294967296) (n0 : 0 ≤ n) (n1 : n < 4294967296) :
    Calls Tryz.prog 127 #[.bool false, .int .u32 b, .int .u32 n] w fun e w' => e = .returned (.tuple #[.int .u32 (wrap32 b * wrap32 n % 4294967296), .int .u32 (wrap32 b * wrap32 n / 4294967296 % 4294967296)]) ∧ w' = w := by
  obtain ⟨p0, p1⟩ := mul_bd b n b0 b1 n0 n1
  obtain ⟨Q, hQ⟩ : ∃ Q, b * n = Q := ⟨_, rfl⟩
  rw [hQ] at p0 p1
  obtain ⟨sb0, sb1⟩ := wrap32_lt b
  obtain ⟨sn0, sn1⟩ := wrap32_lt n
  obtain ⟨B, hB⟩ : ∃ B, wrap32 b = B := ⟨_, rfl⟩
  obtain ⟨M, hM⟩ : ∃ M, wrap32 n = M := ⟨_, rfl⟩
  rw [hB] at sb0 sb1
  rw [hM] at sn0 sn1
  obtain ⟨r0, r1⟩ := smul_bd B M sb0 sb1 sn0 sn1
  rw [hB, hM]
  obtain ⟨P, hP⟩ : ∃ P, B * M = P := ⟨_, rfl⟩
  rw [hP] at r0 r1 ⊢
  go_enter Tryz.func127, Tryz.ntmps127
  go_wp2_with (go_at_call 130; refine (sgn_any _ _).mono ?_; rintro e w' ⟨rfl, rfl⟩)
  go_ret2
  exact ⟨ret_ii (by rw [IntKind.wrap_u64]; omega) (by rw [IntKind.wrap_u64]; omega), rfl⟩
theorem quot_no (b n : Int) (w : World) (h : wrap32 n ≤ 0) :
    Calls Tryz.prog 128 #[.int .u32 b, .int .u32 n] w fun e w' => e = .returned (.tuple #[.int .u32 (divQ b n), .int .u32 (divR b n)]) ∧ w' = w := by
  obtain ⟨sb0, sb1⟩ := wrap32_lt b
  obtain ⟨sn0, sn1⟩ := wrap32_lt n
  unfold divQ divR
  obtain ⟨B, hB⟩ : ∃ B, wrap32 b = B := ⟨_, rfl⟩
  obtain ⟨M, hM⟩ : ∃ M, wrap32 n = M := ⟨_, rfl⟩
  rw [hB] at sb0 sb1 ⊢
  rw [hM] at sn0 sn1 h ⊢
  rw [if_pos h, if_pos h]
  go_enter Tryz.func128, Tryz.ntmps128
  go_wp2_with (go_at_call 130; refine (sgn_any _ _).mono ?_; rintro e w' ⟨rfl, rfl⟩)
  go_ret2
  exact ⟨rfl, rfl⟩
theorem quot_yes (b n : Int) (w : World) (hm : 0 < wrap32 n) :
    Calls Tryz.prog 128 #[.int .u32 b, .int .u32 n] w fun e w' => e = .returned (.tuple #[.int .u32 (divQ b n), .int .u32 (divR b n)]) ∧ w' = w.drew := by
  obtain ⟨sb0, sb1⟩ := wrap32_lt b
  obtain ⟨sn0, sn1⟩ := wrap32_lt n
  unfold divQ divR
  obtain ⟨B, hB⟩ : ∃ B, wrap32 b = B := ⟨_, rfl⟩
  obtain ⟨M, hM⟩ : ∃ M, wrap32 n = M := ⟨_, rfl⟩
  rw [hB] at sb0 sb1 ⊢
  rw [hM] at sn0 sn1 hm ⊢
  rw [if_neg (by omega), if_neg (by omega)]
  obtain ⟨t1, t2, t3, t4, t5⟩ := tdiv_facts B M sb0 sb1 hm sn1
  obtain ⟨D, hD⟩ : ∃ D, B.tdiv M = D := ⟨_, rfl⟩
  obtain ⟨R, hR⟩ : ∃ R, B.tmod M = R := ⟨_, rfl⟩
  rw [hD, hR] at t5
  rw [hD] at t1 t2
  rw [hR] at t3 t4
  have E : Hid _ := t5
  clear t5
  cases hr : decide (R < 0)
  · have hr' : 0 ≤ R := by simpa using hr
    have E' := E.out.1 hr'
    have EE : Hid _ := E'
    clear hr E E'
    go_enter Tryz.func128, Tryz.ntmps128
    go_wp2_with (go_at_call 130; refine (sgn_any _ _).mono ?_; rintro e w' ⟨rfl, rfl⟩)
    go_region
    go_wp2
    go_ret2
    exact ⟨ret_ii (by rw [EE.out.1]) (by rw [EE.out.2]), rfl⟩
  · have hr' : R < 0 := by simpa using hr
    have E' := E.out.2 hr'
    have EE : Hid _ := E'
    clear hr E E'
    go_enter Tryz.func128, Tryz.ntmps128
    go_wp2_with (go_at_call 130; refine (sgn_any _ _).mono ?_; rintro e w' ⟨rfl, rfl⟩)
    go_region
    go_wp2
    go_ret2
    have hb := Int.emod_nonneg B (show M ≠ 0 by omega)
    exact ⟨ret_ii (by rw [EE.out.1]) (by rw [← EE.out.2] at hb ⊢; omega), rfl⟩
theorem prod_any (u : Bool) (b n : Int) (w : World) (b0 : 0 ≤ b) (b1 : b < 4294967296) (n0 : 0 ≤ n) (n1 : n < 4294967296) :
    Calls Tryz.prog 127 #[.bool u, .int .u32 b, .int .u32 n] w fun e w' => e = .returned (.tuple #[.int .u32 (mulP u b n % 4294967296), .int .u32 (mulP u b n / 4294967296 % 4294967296)]) ∧ w' = w := by
  cases u
  · exact prod_s b n w b0 b1 n0 n1
  · exact prod_u b n w b0 b1 n0 n1
theorem bitwise_any (op b n : Int) (w : World) (b0 : 0 ≤ b) (b1 : b < 4294967296) (n0 : 0 ≤ n) (n1 : n < 4294967296) :
    Calls Tryz.prog 129 #[.int .i64 op, .int .u32 b, .int .u32 n] w fun e w' => e = .returned (.int .u32 (bitI op b n)) ∧ w' = w := by
  unfold bitI
  by_cases h1 : op = 1
  · subst h1
    go_enter Tryz.func129, Tryz.ntmps129
    go_wp2_with (go_at_call 77; refine (lsl_any _ _ _ b0 n0 n1).mono ?_; rintro e w' ⟨rfl, rfl⟩)
    go_ret
    exact ⟨rfl, rfl⟩
  rw [if_neg h1]
  by_cases h2 : op = 2
  · subst h2
    clear h1
    go_enter Tryz.func129, Tryz.ntmps129
    go_wp2_with (go_at_call 156; refine (asr_any _ _ _ n0 n1).mono ?_; rintro e w' ⟨rfl, rfl⟩)
    go_ret
    exact ⟨rfl, rfl⟩
  rw [if_neg h2]
  by_cases h3 : op = 3
  · subst h3
    clear h1 h2
    go_enter Tryz.func129, Tryz.ntmps129
    go_wp2_with (go_at_call 157; refine (ror_any _ _ _ b0 b1 n0 n1).mono ?_; rintro e w' ⟨rfl, rfl⟩)
    go_ret
    exact ⟨rfl, rfl⟩
  rw [if_neg h3]
  by_cases h4 : op = 4
  · subst h4
    clear h1 h2 h3
    go_enter Tryz.func129, Tryz.ntmps129
    go_wp2
    go_ret
    exact ⟨rfl, rfl⟩
  rw [if_neg h4]
  by_cases h5 : op = 5
  · subst h5
    clear h1 h2 h3 h4
    go_enter Tryz.func129, Tryz.ntmps129
    go_wp2
    go_ret
    exact ⟨rfl, rfl⟩
  rw [if_neg h5]
  by_cases h6 : op = 6
  · subst h6
    clear h1 h2 h3 h4 h5
    go_enter Tryz.func129, Tryz.ntmps129
    go_wp2
    go_ret
    exact ⟨rfl, rfl⟩
  rw [if_neg h6]
  have f1 : (op == 1) = false := by simp [h1]
  have f2 : (op == 2) = false := by simp [h2]
  have f3 : (op == 3) = false := by simp [h3]
  have f4 : (op == 4) = false := by simp [h4]
  have f5 : (op == 5) = false := by simp [h5]
  have f6 : (op == 6) = false := by simp [h6]
  clear h1 h2 h3 h4 h5 h6
  go_enter Tryz.func129, Tryz.ntmps129
  go_wp2
  go_ret
  exact ⟨rfl, rfl⟩
end Go.Proofs.YtfdofleohichiaaGreatDoor.Alu
