/-
  Package rider's reader: Text.
-/
import Derived.Test.YtolfhkcfepkfdaaPr2
import Derived.BigCall
namespace Go.Proofs.Ytolfhkcfepkfdaa.Ri
open Go.RowKit Go.Proofs.Ytolfhkcfepkfdaa.Tx Go.Proofs.Ytolfhkcfepkfdaa.Bm
set_option linter.unusedVariables false
set_option linter.unusedSimpArgs false
set_option maxRecDepth 100000

section
variable {W : World} {q p : Nat} {s : List UInt8} {bad : Bool}
theorem ib_is {l : List UInt8} {W : World} {n : Int} (h : Lib.indexByte l 0 = n) : Calls Try.prog 43 #[.string (bs l), .int .u8 0] W fun e W' => e = .returned (.int .i64 n) ∧ W' = W := h ▸ ib_any l W
theorem ptext_nil (W : World) : Calls Try.prog 23 #[.pointer none] W fun e W' => e = .returned (.string (bs [])) ∧ W' = W := by
  have hz : (bs []).size = 0 := rfl
  have hx := bs_upto [] 0
  simp only [List.take_nil] at hx
  have HIB := hide (ib_is (W := W) (idx_no [] (by simp)))
  have HRS := hide (rest_nil W)
  go_enter Try.func23, Try.ntmps23
  go_wp2_with (first | (go_at_call 45; refine HRS.out.mono ?_; rintro e w' ⟨rfl, hw⟩; replace hw := hw.symm; subst hw) | (go_at_call 43; refine HIB.out.mono ?_; rintro e w' ⟨rfl, hw⟩; replace hw := hw.symm; subst hw) | (go_at_call 27; refine (praw_nil _ _).mono ?_; rintro e w' ⟨rfl, hw⟩; replace hw := hw.symm; subst hw))
  go_ret
  exact ⟨rfl, rfl⟩
theorem lf_le (r : Pb W q s p bad) : (lfL s p bad).length ≤ 1000000 := by
  have := r.max
  cases bad <;> simp [lfL]
  omega
set_option maxHeartbeats 600000 in
theorem ptext_no (r : Pb W q s p bad) (h : bad = true ∨ noEnd s p) :
    Calls Try.prog 23 #[.pointer (some ⟨q, 0, none⟩)] W fun e W' => e = .returned (.string (bs [])) ∧ Pb W' q s p true ∧ W.grownBy W' (some q) := by
  have hmax := lf_le r
  have HN : Lib.indexByte ((lfL s p bad).take (min (lfL s p bad).length 65)) 0 = -1 := by
    apply idx_no
    intro c hc
    rcases h with rfl | h
    · simp [lfL] at hc
    · cases bad
      · obtain ⟨i, hi, rfl⟩ := List.mem_iff_getElem.1 hc
        simp [lfL] at hi
        refine h i _ (by omega) ?_
        rw [List.getElem?_eq_getElem (by omega)]
        simp [lfL]
      · simp [lfL] at hc
  have HRS := hide (rest_at r)
  have HRW := hide (praw_no r (-1) (by cases bad <;> simp [canB]))
  generalize lfL s p bad = L at HN HRS hmax
  have HIB := hide (ib_is (W := W) HN)
  clear r h HN
  have hsz := bs_size L
  by_cases h65 : L.length ≤ 65
  · have e1 : min L.length 65 = L.length := by omega
    rw [e1, List.take_length] at HIB
    have j1 : (L.length : Int) ≤ 65 := by omega
    have hx := bs_upto L L.length
    rw [List.take_length] at hx
    have hm : min (L.length : Int) 65 = L.length := by omega
    go_enter Try.func23, Try.ntmps23
    go_wp2_with (first | (go_at_call 45; refine HRS.out.mono ?_; rintro e w' ⟨rfl, hw⟩; replace hw := hw.symm; subst hw) | (go_at_call 43; refine HIB.out.mono ?_; rintro e w' ⟨rfl, hw⟩; replace hw := hw.symm; subst hw) | (go_at_call 27; refine (praw_no H1.out ((1 : Nat) : Int) (no_more (.inl rfl))).mono ?_; rintro e w2 ⟨rfl, h1, h2⟩; have H2 := hide h1; have G2 := hide (then_g G1.out h2); clear h1 h2) | (go_at_call 27; refine HRW.out.mono ?_; rintro e w1 ⟨rfl, h1, h2⟩; have H1 := hide h1; have G1 := hide h2; clear h1 h2))
    go_ret
    exact ⟨rfl, H2.out, G2.out⟩
  · have e1 : min L.length 65 = 65 := by omega
    rw [e1] at HIB
    have j1 : (65 : Int) ≤ L.length := by omega
    have hx := bs_upto L 65
    have hm : min (L.length : Int) 65 = 65 := by omega
    go_enter Try.func23, Try.ntmps23
    go_wp2_with (first | (go_at_call 45; refine HRS.out.mono ?_; rintro e w' ⟨rfl, hw⟩; replace hw := hw.symm; subst hw) | (go_at_call 43; refine HIB.out.mono ?_; rintro e w' ⟨rfl, hw⟩; replace hw := hw.symm; subst hw) | (go_at_call 27; refine (praw_no H1.out ((1 : Nat) : Int) (no_more (.inl rfl))).mono ?_; rintro e w2 ⟨rfl, h1, h2⟩; have H2 := hide h1; have G2 := hide (then_g G1.out h2); clear h1 h2) | (go_at_call 27; refine HRW.out.mono ?_; rintro e w1 ⟨rfl, h1, h2⟩; have H1 := hide h1; have G1 := hide h2; clear h1 h2))
    go_ret
    exact ⟨rfl, H2.out, G2.out⟩
set_option maxHeartbeats 600000 in
theorem ptext_yes {n : Nat} (r : Pb W q s p false) (hn : n ≤ 64) (h0 : s[p + n]? = some 0) (hz : ∀ i c, i < n → s[p + i]? = some c → c ≠ 0) :
    Calls Try.prog 23 #[.pointer (some ⟨q, 0, none⟩)] W fun e W' => e = .returned (.string (bs ((s.drop p).take n))) ∧ Pb W' q s (p + n + 1) false ∧ W.grownBy W' (some q) := by
  have hmax := lf_le r
  have hpn := (List.getElem?_eq_some_iff.1 h0).1
  have hLn : n < (lfL s p false).length := by rw [lf_len r]; omega
  have HN : Lib.indexByte ((lfL s p false).take (min (lfL s p false).length 65)) 0 = n := by
    apply idx_at
    · rw [List.getElem?_take, if_pos (by omega)]
      simp [lfL, h0]
    · intro i c hi hc
      rw [List.getElem?_take, if_pos (by omega)] at hc
      simp [lfL] at hc
      exact hz i c hi hc
  have HRS := hide (rest_at r)
  have HRW := hide (praw_yes r n (by omega))
  have HL1 := hide (show p + n + 1 ≤ s.length by omega)
  generalize lfL s p false = L at HN HRS hmax hLn
  have HIB := hide (ib_is (W := W) HN)
  clear r h0 hz HN hpn
  have hsz := bs_size L
  by_cases h65 : L.length ≤ 65
  · have e1 : min L.length 65 = L.length := by omega
    rw [e1, List.take_length] at HIB
    have j1 : (L.length : Int) ≤ 65 := by omega
    have hx := bs_upto L L.length
    rw [List.take_length] at hx
    have hm : min (L.length : Int) 65 = L.length := by omega
    go_enter Try.func23, Try.ntmps23
    go_wp2_with (first | (go_at_call 45; refine HRS.out.mono ?_; rintro e w' ⟨rfl, hw⟩; replace hw := hw.symm; subst hw) | (go_at_call 43; refine HIB.out.mono ?_; rintro e w' ⟨rfl, hw⟩; replace hw := hw.symm; subst hw) | (go_at_call 27; refine (praw_yes H1.out 1 HL1.out).mono ?_; rintro e w2 ⟨rfl, h1, h2⟩; have H2 := hide h1; have G2 := hide (then_g G1.out h2); clear h1 h2) | (go_at_call 27; refine HRW.out.mono ?_; rintro e w1 ⟨rfl, h1, h2⟩; have H1 := hide h1; have G1 := hide h2; clear h1 h2))
    go_ret
    exact ⟨rfl, H2.out, G2.out⟩
  · have e1 : min L.length 65 = 65 := by omega
    rw [e1] at HIB
    have j1 : (65 : Int) ≤ L.length := by omega
    have hx := bs_upto L 65
    have hm : min (L.length : Int) 65 = 65 := by omega
    go_enter Try.func23, Try.ntmps23
    go_wp2_with (first | (go_at_call 45; refine HRS.out.mono ?_; rintro e w' ⟨rfl, hw⟩; replace hw := hw.symm; subst hw) | (go_at_call 43; refine HIB.out.mono ?_; rintro e w' ⟨rfl, hw⟩; replace hw := hw.symm; subst hw) | (go_at_call 27; refine (praw_yes H1.out 1 HL1.out).mono ?_; rintro e w2 ⟨rfl, h1, h2⟩; have H2 := hide h1; have G2 := hide (then_g G1.out h2); clear h1 h2) | (go_at_call 27; refine HRW.out.mono ?_; rintro e w1 ⟨rfl, h1, h2⟩; have H1 := hide h1; have G1 := hide h2; clear h1 h2))
    go_ret
    exact ⟨rfl, H2.out, G2.out⟩
end
end Go.Proofs.Ytolfhkcfepkfdaa.Ri
