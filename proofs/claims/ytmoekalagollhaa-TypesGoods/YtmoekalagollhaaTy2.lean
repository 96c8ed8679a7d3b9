/-
  Package types: places and forms.
-/
import Derived.Test.YtmoekalagollhaaTy1
namespace Go.Proofs.Ytmoekalagollhaa.Ty
open Go.RowKit hiding Hid
open Go.Proofs.Ytmoekalagollhaa.Tx Go.Proofs.Ytmoekalagollhaa.Lx Go.Proofs.Ytmoekalagollhaa.Tr
set_option linter.unusedVariables false
set_option linter.unusedSimpArgs false
set_option maxRecDepth 100000

theorem within_at (w : World) (o : Option Addr) (n cp : Nat) (a : Int) (hn : n ≤ 1000000) : Calls Try.prog 77 #[.slice o n cp, .int .i64 a] w fun e w' => e = .returned (.bool (inT n a)) ∧ w' = w := by
  unfold inT
  by_cases h0 : 0 ≤ a
  · by_cases h1 : a < n
    · go_enter Try.func77, Try.ntmps77
      go_wp2
      go_ret
      simp [h0, h1]
    · go_enter Try.func77, Try.ntmps77
      go_wp2
      go_ret
      simp [h0, h1]
  · go_enter Try.func77, Try.ntmps77
    go_wp2
    go_ret
    refine ⟨?_, rfl⟩
    rw [decide_eq_false (by omega)]
    rfl
set_option maxHeartbeats 1000000 in
theorem form_at {w : World} {o : Option Addr} {T : List Tt} (cp : Nat) (a : Int) (H : Tab w o T) : Calls Try.prog 67 #[.slice o T.length cp, .int .i64 a] w fun e w' => e = .returned (.int .i64 (fmA T a)) ∧ w' = w := by
  have hn := H.1
  cases hi : inT T.length a with
  | false =>
    have HI := hide hi
    have HE := hide (fmA_out hi)
    clear hi H
    go_enter Try.func67, Try.ntmps67
    go_wp2_with (go_at_call 77; refine (within_at _ _ _ _ _ (by omega)).mono ?_; rw [HI.out]; rintro e w' ⟨rfl, hw⟩; replace hw := hw.symm; subst hw)
    go_ret
    rw [HE.out]
    exact ⟨rfl, rfl⟩
  | true =>
    have HI := hide hi
    unfold inT at hi
    simp only [Bool.and_eq_true, decide_eq_true_eq] at hi
    obtain ⟨i, rfl⟩ := Int.eq_ofNat_of_zero_le hi.1
    have h1 : i < T.length := by omega
    have j1 : (i : Int) < T.length := hi.2
    obtain ⟨x, hx⟩ : ∃ x, T[i]? = some x := ⟨T[i], List.getElem?_eq_getElem h1⟩
    have HE := hide (fmA_at hx)
    obtain ⟨ad, la, rfl, rfl, hc, hp⟩ := H.at hx
    obtain ⟨B, hB⟩ : ∃ B, ad.add (i * 10) = B := ⟨_, rfl⟩
    rw [hB] at hc
    obtain ⟨c0, _⟩ := ten_of hc
    have bl := block_lt_of_cell c0
    clear hx H hc hp hi
    go_enter Try.func67, Try.ntmps67
    go_wp2_with (go_at_call 77; refine (within_at _ _ _ _ _ (by omega)).mono ?_; rw [HI.out]; rintro e w' ⟨rfl, hw⟩; replace hw := hw.symm; subst hw)
    go_ret
    rw [HE.out]
    exact ⟨rfl, rfl⟩
set_option maxHeartbeats 2000000 in
theorem plain_at {w : World} {o : Option Addr} {T : List Tt} (cp : Nat) (a : Int) (H : Tab w o T) : Calls Try.prog 91 #[.slice o T.length cp, .int .i64 a] w fun e w' => e = .returned (.bool (plainF (fmA T a))) ∧ w' = w := by
  have HT := hide H
  obtain ⟨f, hf⟩ : ∃ f, fmA T a = f := ⟨_, rfl⟩
  have HF := hide hf
  rw [hf]
  clear H hf
  unfold plainF
  go_enter Try.func91, Try.ntmps91
  go_wp2_with ((go_at_call 67; refine (form_at _ _ HT.out).mono ?_; rintro e w' ⟨rfl, hw⟩; replace hw := hw.symm; subst hw); rw [HF.out])
  all_goals go_ret
  all_goals simp_all
set_option maxHeartbeats 2000000 in
theorem element_at {w : World} {o : Option Addr} {T : List Tt} (cp : Nat) (a : Int) (H : Tab w o T) : Calls Try.prog 63 #[.slice o T.length cp, .int .i64 a] w fun e w' => e = .returned (.bool (elemF (fmA T a))) ∧ w' = w := by
  have HT := hide H
  obtain ⟨f, hf⟩ : ∃ f, fmA T a = f := ⟨_, rfl⟩
  have HF := hide hf
  have hp := plain_at (o := o) cp a H
  rw [hf] at hp ⊢
  have HP := hide hp
  clear H hf hp
  unfold elemF
  by_cases h7 : f = 7
  · subst h7
    go_enter Try.func63, Try.ntmps63
    go_wp2_with (first | ((go_at_call 67; refine (form_at _ _ HT.out).mono ?_; rintro e w' ⟨rfl, hw⟩; replace hw := hw.symm; subst hw); rw [HF.out]))
    go_ret
    exact ⟨rfl, rfl⟩
  by_cases h9 : f = 9
  · subst h9
    go_enter Try.func63, Try.ntmps63
    go_wp2_with (first | ((go_at_call 67; refine (form_at _ _ HT.out).mono ?_; rintro e w' ⟨rfl, hw⟩; replace hw := hw.symm; subst hw); rw [HF.out]))
    go_ret
    exact ⟨rfl, rfl⟩
  have e7 : (f == 7) = false := by simpa using h7
  have e9 : (f == 9) = false := by simpa using h9
  go_enter Try.func63, Try.ntmps63
  go_wp2_with (first | ((go_at_call 67; refine (form_at _ _ HT.out).mono ?_; rintro e w' ⟨rfl, hw⟩; replace hw := hw.symm; subst hw); rw [HF.out]) | (go_at_call 91; refine HP.out.mono ?_; rintro e w' ⟨rfl, hw⟩; replace hw := hw.symm; subst hw))
  go_ret
  simp [e7, e9]
set_option maxHeartbeats 2000000 in
theorem open_at {w : World} {o : Option Addr} {T : List Tt} (cp : Nat) (a : Int) (H : Tab w o T) : Calls Try.prog 64 #[.slice o T.length cp, .int .i64 a] w fun e w' => e = .returned (.bool (openF (fmA T a))) ∧ w' = w := by
  have HT := hide H
  obtain ⟨f, hf⟩ : ∃ f, fmA T a = f := ⟨_, rfl⟩
  have HF := hide hf
  have hp := element_at (o := o) cp a H
  rw [hf] at hp ⊢
  have HP := hide hp
  clear H hf hp
  unfold openF
  by_cases h7 : f = 8
  · subst h7
    go_enter Try.func64, Try.ntmps64
    go_wp2_with (first | ((go_at_call 67; refine (form_at _ _ HT.out).mono ?_; rintro e w' ⟨rfl, hw⟩; replace hw := hw.symm; subst hw); rw [HF.out]))
    go_ret
    exact ⟨rfl, rfl⟩
  have e7 : (f == 8) = false := by simpa using h7
  go_enter Try.func64, Try.ntmps64
  go_wp2_with (first | ((go_at_call 67; refine (form_at _ _ HT.out).mono ?_; rintro e w' ⟨rfl, hw⟩; replace hw := hw.symm; subst hw); rw [HF.out]) | (go_at_call 63; refine HP.out.mono ?_; rintro e w' ⟨rfl, hw⟩; replace hw := hw.symm; subst hw))
  go_ret
  simp [e7]
set_option maxHeartbeats 2000000 in
theorem base_at {w : World} {o : Option Addr} {T : List Tt} (cp : Nat) (a : Int) (H : Tab w o T) : Calls Try.prog 65 #[.slice o T.length cp, .int .i64 a] w fun e w' => e = .returned (.bool (baseA T a)) ∧ w' = w := by
  have HT := hide H
  obtain ⟨f, hf⟩ : ∃ f, fmA T a = f := ⟨_, rfl⟩
  have HF := hide hf
  unfold baseA
  rw [hf]
  clear H hf
  by_cases h7 : a = 0
  · subst h7
    go_enter Try.func65, Try.ntmps65
    go_wp2_with (first | ((go_at_call 67; refine (form_at _ _ HT.out).mono ?_; rintro e w' ⟨rfl, hw⟩; replace hw := hw.symm; subst hw); rw [HF.out]))
    go_ret
    exact ⟨rfl, rfl⟩
  have e7 : (a == 0) = false := by simpa using h7
  go_enter Try.func65, Try.ntmps65
  go_wp2_with (first | ((go_at_call 67; refine (form_at _ _ HT.out).mono ?_; rintro e w' ⟨rfl, hw⟩; replace hw := hw.symm; subst hw); rw [HF.out]))
  go_ret
  simp [e7]
set_option maxHeartbeats 2000000 in
theorem result_at {w : World} {o : Option Addr} {T : List Tt} (cp : Nat) (a : Int) (H : Tab w o T) : Calls Try.prog 69 #[.slice o T.length cp, .int .i64 a] w fun e w' => e = .returned (.bool (resA T a)) ∧ w' = w := by
  have HP := hide (plain_at (o := o) cp a H)
  unfold resA
  clear H
  by_cases h7 : a = 0
  · subst h7
    go_enter Try.func69, Try.ntmps69
    go_wp2_with (first | (go_at_call 91; refine HP.out.mono ?_; rintro e w' ⟨rfl, hw⟩; replace hw := hw.symm; subst hw))
    go_ret
    exact ⟨rfl, rfl⟩
  have e7 : (a == 0) = false := by simpa using h7
  go_enter Try.func69, Try.ntmps69
  go_wp2_with (first | (go_at_call 91; refine HP.out.mono ?_; rintro e w' ⟨rfl, hw⟩; replace hw := hw.symm; subst hw))
  go_ret
  simp [e7]
end Go.Proofs.Ytmoekalagollhaa.Ty
