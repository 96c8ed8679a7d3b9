/-
  The document's own tokens (package spinetref09): Good.
-/
import Derived.Test.YthnkkcamfcmhmaaGreatDoorLr9
namespace Go.Proofs.YthnkkcamfcmhmaaGreatDoor.Lx
open Go.RowKit Go.Proofs.YthnkkcamfcmhmaaGreatDoor.Tx
set_option linter.unusedVariables false
set_option linter.unusedSimpArgs false
set_option maxRecDepth 100000

def goodT (t : Tk) : Bool :=
  if t.k = 1 then t.n == 0 && nameB t.t
  else if t.k = 2 then t.n == 0 && keyB t.t
  else if t.k = 3 then t.t == [] && (decide (-2147483648 ≤ t.n) && decide (t.n < 2147483648))
  else if t.k = 4 then t.t == [] && (decide (0 ≤ t.n) && decide (t.n < 256))
  else if t.k = 5 then t.n == 0 && strB t.t
  else if t.k = 6 then t.n == 0 && signB t.t
  else false
def aggT (t : Tk) : Value := .agg #[.int .i64 t.k, .string (bs t.t), .int .i64 t.n, .int .i64 t.a]
/- With a number where there is none. -/
set_option maxHeartbeats 2000000 in
theorem good_n (k n a : Int) (t : List UInt8) (w : World) (h3 : k ≠ 3) (h4 : k ≠ 4) (hn : n ≠ 0) : Calls Tryz.prog 16 #[.agg #[.int .i64 k, .string (bs t), .int .i64 n, .int .i64 a]] w fun e w' => e = .returned (.bool false) ∧ w.grownBy w' none := by
  have k3 : (k != 3) = true := by simpa using h3
  have k4 : (k != 4) = true := by simpa using h4
  have n0 : (n != 0) = true := by simpa using hn
  go_enter Tryz.func16, Tryz.ntmps16
  go_wp2
  go_ret
  exact ⟨rfl, alloc_g _ _⟩
set_option maxHeartbeats 2000000 in
theorem good_k (k a : Int) (t : List UInt8) (w : World) (h1 : k ≠ 1) (h2 : k ≠ 2) (h3 : k ≠ 3) (h4 : k ≠ 4) (h5 : k ≠ 5) (h6 : k ≠ 6) : Calls Tryz.prog 16 #[.agg #[.int .i64 k, .string (bs t), .int .i64 0, .int .i64 a]] w fun e w' => e = .returned (.bool false) ∧ w.grownBy w' none := by
  have k3 : (k != 3) = true := by simpa using h3
  have k4 : (k != 4) = true := by simpa using h4
  have e1 : (k == 1) = false := by simpa using h1
  have e2 : (k == 2) = false := by simpa using h2
  have e3 : (k == 3) = false := by simpa using h3
  have e4 : (k == 4) = false := by simpa using h4
  have e5 : (k == 5) = false := by simpa using h5
  have e6 : (k == 6) = false := by simpa using h6
  clear h1 h2 h3 h4 h5 h6
  go_enter Tryz.func16, Tryz.ntmps16
  go_wp2
  go_ret
  exact ⟨rfl, alloc_g _ _⟩
set_option maxHeartbeats 2000000 in
theorem good_1 (a : Int) (t : List UInt8) (w : World) (ht : t.length ≤ 9223372036854775807) : Calls Tryz.prog 16 #[.agg #[.int .i64 1, .string (bs t), .int .i64 0, .int .i64 a]] w fun e w' => e = .returned (.bool (nameB t)) ∧ w.grownBy w' none := by
  have HN := hide (fun W => name_any t W ht)
  clear ht
  go_enter Tryz.func16, Tryz.ntmps16
  go_wp2_with (go_at_call 25; refine (HN.out _).mono ?_; rintro e wk ⟨rfl, hg⟩; have HG := hide hg; clear hg)
  go_ret
  exact ⟨rfl, grown_trans (alloc_g _ _) HG.out⟩
set_option maxHeartbeats 2000000 in
theorem good_2 (a : Int) (t : List UInt8) (w : World) : Calls Tryz.prog 16 #[.agg #[.int .i64 2, .string (bs t), .int .i64 0, .int .i64 a]] w fun e w' => e = .returned (.bool (keyB t)) ∧ w.grownBy w' none := by
  have HN := hide (fun W => key_any t W)
  go_enter Tryz.func16, Tryz.ntmps16
  go_wp2_with (go_at_call 26; refine (HN.out _).mono ?_; rintro e wk ⟨rfl, hg⟩; have HG := hide hg; clear hg)
  go_ret
  exact ⟨rfl, grown_trans (alloc_g _ _) HG.out⟩
set_option maxHeartbeats 2000000 in
theorem good_6 (a : Int) (t : List UInt8) (w : World) : Calls Tryz.prog 16 #[.agg #[.int .i64 6, .string (bs t), .int .i64 0, .int .i64 a]] w fun e w' => e = .returned (.bool (signB t)) ∧ w.grownBy w' none := by
  have HN := hide (fun W => sign_any t W)
  go_enter Tryz.func16, Tryz.ntmps16
  go_wp2_with (go_at_call 28; refine (HN.out _).mono ?_; rintro e wk ⟨rfl, hg⟩; have HG := hide hg; clear hg)
  go_ret
  exact ⟨rfl, grown_trans (alloc_g _ _) HG.out⟩
set_option maxHeartbeats 2000000 in
theorem good_5 (a : Int) (t : List UInt8) (w : World) (ht : t.length ≤ 9223372036854775807) : Calls Tryz.prog 16 #[.agg #[.int .i64 5, .string (bs t), .int .i64 0, .int .i64 a]] w fun e w' => e = .returned (.bool (strB t)) ∧ w.grownBy w' none := by
  have HN := hide (fun W => string_any t W ht)
  clear ht
  go_enter Tryz.func16, Tryz.ntmps16
  go_wp2_with (go_at_call 27; refine (HN.out _).mono ?_; rintro e w' ⟨rfl, hw⟩; replace hw := hw.symm; subst hw)
  go_ret
  exact ⟨rfl, alloc_g _ _⟩
set_option maxHeartbeats 2000000 in
theorem good_3 (n a : Int) (t : List UInt8) (w : World) : Calls Tryz.prog 16 #[.agg #[.int .i64 3, .string (bs t), .int .i64 n, .int .i64 a]] w fun e w' => e = .returned (.bool (t == [] && (decide (-2147483648 ≤ n) && decide (n < 2147483648)))) ∧ w.grownBy w' none := by
  cases he : (t == [])
  · have hq : ¬ (bs t).toList = [] := by rw [bs_toList]; simpa using he
    clear he
    go_enter Tryz.func16, Tryz.ntmps16
    go_wp2
    go_ret
    exact ⟨rfl, alloc_g _ _⟩
  · have hq : (bs t).toList = [] := by rw [bs_toList]; simpa using he
    clear he
    by_cases h1 : -2147483648 ≤ n <;> by_cases h2 : n < 2147483648
    all_goals first
      | (exfalso; omega)
      | (go_enter Tryz.func16, Tryz.ntmps16
         go_wp2
         go_ret
         exact ⟨by simp [h1, h2], alloc_g _ _⟩)
set_option maxHeartbeats 2000000 in
theorem good_4 (n a : Int) (t : List UInt8) (w : World) : Calls Tryz.prog 16 #[.agg #[.int .i64 4, .string (bs t), .int .i64 n, .int .i64 a]] w fun e w' => e = .returned (.bool (t == [] && (decide (0 ≤ n) && decide (n < 256)))) ∧ w.grownBy w' none := by
  cases he : (t == [])
  · have hq : ¬ (bs t).toList = [] := by rw [bs_toList]; simpa using he
    clear he
    go_enter Tryz.func16, Tryz.ntmps16
    go_wp2
    go_ret
    exact ⟨rfl, alloc_g _ _⟩
  · have hq : (bs t).toList = [] := by rw [bs_toList]; simpa using he
    clear he
    by_cases h1 : 0 ≤ n <;> by_cases h2 : n < 256
    all_goals first
      | (exfalso; omega)
      | (go_enter Tryz.func16, Tryz.ntmps16
         go_wp2
         go_ret
         exact ⟨by simp [h1, h2], alloc_g _ _⟩)
theorem good_at (t : Tk) (w : World) (ht : t.t.length ≤ 9223372036854775807) : Calls Tryz.prog 16 #[aggT t] w fun e w' => e = .returned (.bool (goodT t)) ∧ w.grownBy w' none := by
  obtain ⟨k, t, n, a⟩ := t
  unfold goodT aggT
  dsimp only at ht ⊢
  by_cases h3 : k = 3
  · subst h3; exact good_3 n a t w
  by_cases h4 : k = 4
  · subst h4; exact good_4 n a t w
  by_cases hn : n = 0
  · subst hn
    by_cases h1 : k = 1
    · subst h1; exact good_1 a t w ht
    by_cases h2 : k = 2
    · subst h2; exact good_2 a t w
    by_cases h5 : k = 5
    · subst h5; exact good_5 a t w ht
    by_cases h6 : k = 6
    · subst h6; exact good_6 a t w
    rw [if_neg h1, if_neg h2, if_neg h3, if_neg h4, if_neg h5, if_neg h6]
    exact good_k k a t w h1 h2 h3 h4 h5 h6
  · have e : (n == 0) = false := by simpa using hn
    rw [if_neg h3, if_neg h4, e]
    simp only [Bool.false_and, ite_self]
    exact good_n k n a t w h3 h4 hn
end Go.Proofs.YthnkkcamfcmhmaaGreatDoor.Lx
