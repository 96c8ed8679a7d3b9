/-
  The document's own constants (package spinetref12): Good, Same, One.
-/
import Derived.Test.YtgdpcdpkaaefbaaCr1
namespace Go.Proofs.Ytgdpcdpkaaefbaa.Cn
open Go.RowKit hiding Hid
open Go.Maps Go.Proofs.Ytgdpcdpkaaefbaa.Tx Go.Proofs.Ytgdpcdpkaaefbaa.Lx Go.Proofs.Ytgdpcdpkaaefbaa.Mp Go.Proofs.Ytgdpcdpkaaefbaa.Bits Go.Proofs.Ytgdpcdpkaaefbaa.Tr Go.Proofs.Ytgdpcdpkaaefbaa.Bm
set_option linter.unusedVariables false
set_option linter.unusedSimpArgs false
set_option maxRecDepth 100000

theorem wi_of (n l : Int) : wiB n l = (decide (0 ≤ n) && decide (n < l + 1)) := by unfold wiB; congr 1; rw [Bool.eq_iff_iff]; simp only [decide_eq_true_eq]; omega
theorem wi_1 (n : Int) : wiB n 1 = ((n == 0) || (n == 1)) := by unfold wiB; rw [Bool.eq_iff_iff]; simp only [Bool.and_eq_true, Bool.or_eq_true, decide_eq_true_eq, beq_iff_eq]; omega
set_option maxHeartbeats 3200000 in
theorem rgood_at (v : Vl) (hl : v.t.length ≤ 9223372036854775807) (w : World) : Calls Try.prog 16 #[vV v] w (Told w (.bool (goodV v))) := by
  obtain ⟨f, n, t⟩ := v
  unfold vV
  dsimp only at hl ⊢
  have HL := hide hl
  clear hl
  by_cases h6 : f = 6
  · subst h6
    rw [goodV_6 rfl]
    dsimp only
    cases hn : (n == 0) with
    | true => (go_enter Try.func16, Try.ntmps16; go_wp2_with (first | (go_at_call 33; refine (rfits_any _ _ _).mono ?_; rw [fits32]; rintro e w2 ⟨rfl, rfl⟩) | (go_at_call 34; refine (string_any _ _ HL.out).mono ?_; rintro e w2 ⟨rfl, rfl⟩)); go_ret); exact ⟨rfl, (gal (gr_ref _ none) _)⟩
    | false => (go_enter Try.func16, Try.ntmps16; go_wp2_with (first | (go_at_call 33; refine (rfits_any _ _ _).mono ?_; rw [fits32]; rintro e w2 ⟨rfl, rfl⟩) | (go_at_call 34; refine (string_any _ _ HL.out).mono ?_; rintro e w2 ⟨rfl, rfl⟩)); go_ret); exact ⟨rfl, (gal (gr_ref _ none) _)⟩
  · rw [goodV_n (v := ⟨f, n, t⟩) h6]
    dsimp only
    have k6 : (f == 6) = false := by simpa using h6
    have k6' : (f != 6) = true := by simp [h6]
    cases he : t.isEmpty with
    | false =>
      have e1 : (bs t).toList.isEmpty = false := by rw [bs_toList]; exact he
      have e2 : ¬ (bs t).toList = [] := by rw [bs_toList]; intro e; rw [e] at he; cases he
      clear he h6
      (go_enter Try.func16, Try.ntmps16; go_wp2_with (first | (go_at_call 33; refine (rfits_any _ _ _).mono ?_; rw [fits32]; rintro e w2 ⟨rfl, rfl⟩) | (go_at_call 34; refine (string_any _ _ HL.out).mono ?_; rintro e w2 ⟨rfl, rfl⟩)); go_ret)
      exact ⟨rfl, (gal (gr_ref _ none) _)⟩
    | true =>
      have e1 : (bs t).toList.isEmpty = true := by rw [bs_toList]; exact he
      have e2 : (bs t).toList = [] := by rw [bs_toList]; simpa using he
      rw [Bool.true_and]
      clear he h6
      by_cases h1 : f = 1
      · subst h1; rw [goodN_1]; (go_enter Try.func16, Try.ntmps16; go_wp2_with (first | (go_at_call 33; refine (rfits_any _ _ _).mono ?_; rw [fits32]; rintro e w2 ⟨rfl, rfl⟩) | (go_at_call 34; refine (string_any _ _ HL.out).mono ?_; rintro e w2 ⟨rfl, rfl⟩)); go_ret); exact ⟨rfl, (gal (gr_ref _ none) _)⟩
      by_cases h2 : f = 2
      · subst h2
        rw [goodN_2, wi_1]
        cases hn : (n == 0) with
        | true => (go_enter Try.func16, Try.ntmps16; go_wp2_with (first | (go_at_call 33; refine (rfits_any _ _ _).mono ?_; rw [fits32]; rintro e w2 ⟨rfl, rfl⟩) | (go_at_call 34; refine (string_any _ _ HL.out).mono ?_; rintro e w2 ⟨rfl, rfl⟩)); go_ret); exact ⟨rfl, (gal (gr_ref _ none) _)⟩
        | false => (go_enter Try.func16, Try.ntmps16; go_wp2_with (first | (go_at_call 33; refine (rfits_any _ _ _).mono ?_; rw [fits32]; rintro e w2 ⟨rfl, rfl⟩) | (go_at_call 34; refine (string_any _ _ HL.out).mono ?_; rintro e w2 ⟨rfl, rfl⟩)); go_ret); exact ⟨rfl, (gal (gr_ref _ none) _)⟩
      by_cases h3 : f = 3
      · subst h3
        rw [goodN_3, wi_of]
        by_cases h0 : 0 ≤ n
        · rw [decide_eq_true h0]; (go_enter Try.func16, Try.ntmps16; go_wp2_with (first | (go_at_call 33; refine (rfits_any _ _ _).mono ?_; rw [fits32]; rintro e w2 ⟨rfl, rfl⟩) | (go_at_call 34; refine (string_any _ _ HL.out).mono ?_; rintro e w2 ⟨rfl, rfl⟩)); go_ret); exact ⟨rfl, (gal (gr_ref _ none) _)⟩
        · rw [decide_eq_false h0]; (go_enter Try.func16, Try.ntmps16; go_wp2_with (first | (go_at_call 33; refine (rfits_any _ _ _).mono ?_; rw [fits32]; rintro e w2 ⟨rfl, rfl⟩) | (go_at_call 34; refine (string_any _ _ HL.out).mono ?_; rintro e w2 ⟨rfl, rfl⟩)); go_ret); exact ⟨rfl, (gal (gr_ref _ none) _)⟩
      by_cases h4 : f = 4
      · subst h4
        rw [goodN_4, wi_of]
        by_cases h0 : 0 ≤ n
        · rw [decide_eq_true h0]; (go_enter Try.func16, Try.ntmps16; go_wp2_with (first | (go_at_call 33; refine (rfits_any _ _ _).mono ?_; rw [fits32]; rintro e w2 ⟨rfl, rfl⟩) | (go_at_call 34; refine (string_any _ _ HL.out).mono ?_; rintro e w2 ⟨rfl, rfl⟩)); go_ret); exact ⟨rfl, (gal (gr_ref _ none) _)⟩
        · rw [decide_eq_false h0]; (go_enter Try.func16, Try.ntmps16; go_wp2_with (first | (go_at_call 33; refine (rfits_any _ _ _).mono ?_; rw [fits32]; rintro e w2 ⟨rfl, rfl⟩) | (go_at_call 34; refine (string_any _ _ HL.out).mono ?_; rintro e w2 ⟨rfl, rfl⟩)); go_ret); exact ⟨rfl, (gal (gr_ref _ none) _)⟩
      by_cases h5 : f = 5
      · subst h5; rw [goodN_5]; (go_enter Try.func16, Try.ntmps16; go_wp2_with (first | (go_at_call 33; refine (rfits_any _ _ _).mono ?_; rw [fits32]; rintro e w2 ⟨rfl, rfl⟩) | (go_at_call 34; refine (string_any _ _ HL.out).mono ?_; rintro e w2 ⟨rfl, rfl⟩)); go_ret); exact ⟨rfl, (gal (gr_ref _ none) _)⟩
      rw [goodN_no h1 h2 h3 h4 h5]
      have k1 : (f == 1) = false := by simpa using h1
      have k2 : (f == 2) = false := by simpa using h2
      have k3 : (f == 3) = false := by simpa using h3
      have k4 : (f == 4) = false := by simpa using h4
      have k5 : (f == 5) = false := by simpa using h5
      (go_enter Try.func16, Try.ntmps16; go_wp2_with (first | (go_at_call 33; refine (rfits_any _ _ _).mono ?_; rw [fits32]; rintro e w2 ⟨rfl, rfl⟩) | (go_at_call 34; refine (string_any _ _ HL.out).mono ?_; rintro e w2 ⟨rfl, rfl⟩)); go_ret)
      exact ⟨rfl, (gal (gr_ref _ none) _)⟩
set_option maxHeartbeats 3200000 in
theorem same_at (a b : Vl) (w : World) : Calls Try.prog 14 #[vV a, vV b] w (Told w (.bool (eqB a b))) := by
  have he : eqB a b = ((a.f == b.f) && ((a.n == b.n) && ((bs a.t).toList == (bs b.t).toList))) := by unfold eqB; rw [bs_toList, bs_toList]
  rw [he]
  clear he
  unfold vV
  cases h1 : (a.f == b.f) with
  | false =>
    go_enter Try.func14, Try.ntmps14
    go_wp2
    go_ret
    exact ⟨rfl, (gal (gal (gr_ref _ none) _) _)⟩
  | true =>
    cases h2 : (a.n == b.n) with
    | false =>
      go_enter Try.func14, Try.ntmps14
      go_wp2
      go_ret
      exact ⟨rfl, (gal (gal (gr_ref _ none) _) _)⟩
    | true =>
      go_enter Try.func14, Try.ntmps14
      go_wp2
      go_ret
      exact ⟨rfl, (gal (gal (gr_ref _ none) _) _)⟩
theorem eqB_self (v : Vl) : eqB v v = true := by unfold eqB; simp
theorem same_self (v : Vl) (W : World) : Calls Try.prog 14 #[.agg #[.int .i64 v.f, .int .i64 v.n, .string (bs v.t)], .agg #[.int .i64 v.f, .int .i64 v.n, .string (bs v.t)]] W (Told W (.bool true)) := by
  have := same_at v v W
  rw [eqB_self] at this
  exact this
end Go.Proofs.Ytgdpcdpkaaefbaa.Cn
