/-
  The document's own tables (package spinetref13): places, what may stand in a type, words.
-/
import Derived.Test.YtmoekalagollhaaTy18
namespace Go.Proofs.Ytmoekalagollhaa.Ty
open Go.RowKit hiding Hid
open Go.Maps Go.Proofs.Ytmoekalagollhaa.Tx Go.Proofs.Ytmoekalagollhaa.Lx Go.Proofs.Ytmoekalagollhaa.Tr Go.Proofs.Ytmoekalagollhaa.Mp
set_option linter.unusedVariables false
set_option linter.unusedSimpArgs false
set_option maxRecDepth 100000

theorem place_at (w : World) (o : Option Addr) (n cp : Nat) (a : Int) (hn : n ≤ 1000000) : Calls Try.prog 75 #[.slice o n cp, .int .i64 a] w fun e w' => e = .returned (.bool (inT n a)) ∧ w' = w := by
  unfold inT
  by_cases h0 : 0 ≤ a
  · by_cases h1 : a < n
    · go_enter Try.func75, Try.ntmps75
      go_wp2
      go_ret
      simp [h0, h1]
    · go_enter Try.func75, Try.ntmps75
      go_wp2
      go_ret
      simp [h0, h1]
  · go_enter Try.func75, Try.ntmps75
    go_wp2
    go_ret
    refine ⟨?_, rfl⟩
    rw [decide_eq_false (by omega)]
    rfl
theorem rword_at (s : List UInt8) (w : World) (hs : s.length ≤ 9223372036854775807) : Calls Try.prog 73 #[.string (bs s)] w fun e w' => e = .returned (.bool (wordB s)) ∧ w' = w := by
  have H := hide (word_any s w hs)
  go_enter Try.func73, Try.ntmps73
  go_wp2_with (go_at_call 59; refine H.out.mono ?_; rintro e w' ⟨rfl, hw⟩; replace hw := hw.symm; subst hw)
  go_ret
  exact ⟨rfl, rfl⟩
def holdsF (f : Int) : Bool := f != 0 && (f != 5 && (f != 6 && f != 8))
def holdsA (T : List Tt) (a : Int) : Bool := inT T.length a && holdsF (fmA T a)
set_option maxHeartbeats 4000000 in
theorem holds_at {w : World} {o : Option Addr} {T : List Tt} (cp : Nat) (a : Int) (H : Tab w o T) : Calls Try.prog 74 #[.slice o T.length cp, .int .i64 a] w fun e w' => e = .returned (.bool (holdsA T a)) ∧ w' = w := by
  have hn := H.1
  unfold holdsA holdsF
  cases hi : inT T.length a with
  | false =>
    have HI := hide hi
    clear hi H
    (go_enter Try.func74, Try.ntmps74; go_wp2_with (go_at_call 75; refine (place_at _ _ _ _ _ (by omega)).mono ?_; rw [HI.out]; rintro e w' ⟨rfl, hw⟩; replace hw := hw.symm; subst hw); go_ret)
    exact ⟨rfl, rfl⟩
  | true =>
    have HI := hide hi
    unfold inT at hi
    simp only [Bool.and_eq_true, decide_eq_true_eq] at hi
    obtain ⟨i, rfl⟩ := Int.eq_ofNat_of_zero_le hi.1
    have h1 : i < T.length := by omega
    have j1 : (i : Int) < T.length := hi.2
    obtain ⟨x, hx⟩ : ∃ x, T[i]? = some x := ⟨T[i], List.getElem?_eq_getElem h1⟩
    have HE := hide (fmA_at hx)
    obtain ⟨ad, la, rfl, rfl, hc, hp⟩ := H.at hx
    obtain ⟨B, hB⟩ : ∃ B, ad.add (i * 10) = B := ⟨_, rfl⟩
    rw [hB] at hc
    obtain ⟨c0, hrest⟩ := ten_of hc
    have bl := block_lt_of_cell c0
    rw [HE.out]
    obtain ⟨f, hf⟩ : ∃ f, la.x.fm = f := ⟨_, rfl⟩
    rw [hf] at c0 ⊢
    clear hx H hc hp hi hrest hf HE
    by_cases f0 : f = 0
    · subst f0; (go_enter Try.func74, Try.ntmps74; go_wp2_with (go_at_call 75; refine (place_at _ _ _ _ _ (by omega)).mono ?_; rw [HI.out]; rintro e w' ⟨rfl, hw⟩; replace hw := hw.symm; subst hw); go_ret); exact ⟨rfl, rfl⟩
    by_cases f5 : f = 5
    · subst f5; (go_enter Try.func74, Try.ntmps74; go_wp2_with (go_at_call 75; refine (place_at _ _ _ _ _ (by omega)).mono ?_; rw [HI.out]; rintro e w' ⟨rfl, hw⟩; replace hw := hw.symm; subst hw); go_ret); exact ⟨rfl, rfl⟩
    by_cases f6 : f = 6
    · subst f6; (go_enter Try.func74, Try.ntmps74; go_wp2_with (go_at_call 75; refine (place_at _ _ _ _ _ (by omega)).mono ?_; rw [HI.out]; rintro e w' ⟨rfl, hw⟩; replace hw := hw.symm; subst hw); go_ret); exact ⟨rfl, rfl⟩
    by_cases f8 : f = 8
    · subst f8; (go_enter Try.func74, Try.ntmps74; go_wp2_with (go_at_call 75; refine (place_at _ _ _ _ _ (by omega)).mono ?_; rw [HI.out]; rintro e w' ⟨rfl, hw⟩; replace hw := hw.symm; subst hw); go_ret); exact ⟨rfl, rfl⟩
    (go_enter Try.func74, Try.ntmps74; go_wp2_with (go_at_call 75; refine (place_at _ _ _ _ _ (by omega)).mono ?_; rw [HI.out]; rintro e w' ⟨rfl, hw⟩; replace hw := hw.symm; subst hw); go_ret)
    refine ⟨?_, rfl⟩
    simp [Bool.and_assoc]
end Go.Proofs.Ytmoekalagollhaa.Ty
