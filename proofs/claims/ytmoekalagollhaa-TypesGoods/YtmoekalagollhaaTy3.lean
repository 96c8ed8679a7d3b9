/-
  Letters, digits, names: package types, and the document's own (package spinetref09).
-/
import Derived.Test.YtmoekalagollhaaTy1
namespace Go.Proofs.Ytmoekalagollhaa.Ty
open Go.RowKit hiding Hid
open Go.Proofs.Ytmoekalagollhaa.Tx Go.Proofs.Ytmoekalagollhaa.Lx Go.Proofs.Ytmoekalagollhaa.Tr
set_option linter.unusedVariables false
set_option linter.unusedSimpArgs false
set_option maxRecDepth 100000

def wordB : List UInt8 → Bool
  | [] => false
  | c :: r => decide (r.length ≤ 23) && (letN c && r.all ldN)
theorem wordB_cons (c : UInt8) (r : List UInt8) : wordB (c :: r) = (decide (r.length ≤ 23) && (letN c && r.all ldN)) := rfl
theorem wordB_long {s : List UInt8} (h : 24 < s.length) : wordB s = false := by
  cases s with
  | nil => rfl
  | cons c r => rw [wordB_cons, decide_eq_false (by simp at h; omega)]; rfl
theorem wordB_in {c : UInt8} {r : List UInt8} (h : ¬ 24 < (c :: r).length) : wordB (c :: r) = (letN c && r.all ldN) := by
  rw [wordB_cons, decide_eq_true (by simp at h; omega)]; rfl
theorem letter_any (c : Int) (w : World) : Calls Try.prog 87 #[.int .u8 c] w fun e w' => e = .returned (.bool (ltI c)) ∧ w' = w := by
  unfold ltI
  by_cases h1 : 65 ≤ c <;> by_cases h2 : c ≤ 90 <;> by_cases h3 : 97 ≤ c <;> by_cases h4 : c ≤ 122
  all_goals first
    | (exfalso; omega)
    | (go_enter Try.func87, Try.ntmps87
       go_wp2
       go_ret
       exact ⟨by simp [h1, h2, h3, h4], rfl⟩)
theorem digit_any (c : Int) (w : World) : Calls Try.prog 88 #[.int .u8 c] w fun e w' => e = .returned (.bool (digI c)) ∧ w' = w := by
  unfold digI
  by_cases h1 : 48 ≤ c <;> by_cases h2 : c ≤ 57
  all_goals first
    | (exfalso; omega)
    | (go_enter Try.func88, Try.ntmps88
       go_wp2
       go_ret
       exact ⟨by simp [h1, h2], rfl⟩)
theorem pletter_any (c : Int) (w : World) : Calls Try.prog 89 #[.int .u8 c] w fun e w' => e = .returned (.bool (ltI c)) ∧ w' = w := by
  unfold ltI
  by_cases h1 : 65 ≤ c <;> by_cases h2 : c ≤ 90 <;> by_cases h3 : 97 ≤ c <;> by_cases h4 : c ≤ 122
  all_goals first
    | (exfalso; omega)
    | (go_enter Try.func89, Try.ntmps89
       go_wp2
       go_ret
       exact ⟨by simp [h1, h2, h3, h4], rfl⟩)
theorem pdigit_any (c : Int) (w : World) : Calls Try.prog 90 #[.int .u8 c] w fun e w' => e = .returned (.bool (digI c)) ∧ w' = w := by
  unfold digI
  by_cases h1 : 48 ≤ c <;> by_cases h2 : c ≤ 57
  all_goals first
    | (exfalso; omega)
    | (go_enter Try.func90, Try.ntmps90
       go_wp2
       go_ret
       exact ⟨by simp [h1, h2], rfl⟩)
set_option maxHeartbeats 2000000 in
theorem word_any (s : List UInt8) (w : World) (hs : s.length ≤ 9223372036854775807) : Calls Try.prog 59 #[.string (bs s)] w fun e w' => e = .returned (.bool (wordB s)) ∧ w' = w := by
  have hsz := bs_size s
  have hs' : (s.length : Int) ≤ 9223372036854775807 := by omega
  by_cases h0 : s.length = 0
  · obtain rfl := List.length_eq_zero_iff.1 h0
    have k0 : ((([] : List UInt8).length : Nat) : Int) < 1 := by simp
    clear h0 hs'
    go_enter Try.func59, Try.ntmps59
    go_wp2
    go_ret
    exact ⟨rfl, rfl⟩
  have k0 : ¬ (s.length : Int) < 1 := by omega
  by_cases h24 : 24 < s.length
  · have k1 : (24 : Int) < s.length := by omega
    go_enter Try.func59, Try.ntmps59
    go_wp2
    go_ret
    refine ⟨?_, rfl⟩
    rw [wordB_long h24]
    rfl
  have k1 : ¬ (24 : Int) < s.length := by omega
  have k2 : (0 : Int) < s.length := by omega
  have k3 : 0 < s.length := by omega
  obtain ⟨c, hc⟩ : ∃ c, s[0] = c := ⟨_, rfl⟩
  have hb0 : ∀ h, (bs s)[0]'h = c := fun h => hc
  have HE := hide (show wordB s = (letN c && (s.drop 1).all ldN) by
    cases s with
    | nil => simp at k3
    | cons c' r => rw [wordB_in h24]; simp at hc; subst hc; rfl)
  clear hc
  cases hl : letN c
  · have HL := hide (show ltI (c.toNat : Int) = false from hl)
    rw [hl] at HE
    go_enter Try.func59, Try.ntmps59
    go_wp2_with (go_at_call 87; refine (letter_any _ _).mono ?_; rw [HL.out]; rintro e w' ⟨rfl, hw⟩; replace hw := hw.symm; subst hw)
    go_ret
    refine ⟨?_, rfl⟩
    rw [HE.out]
    rfl
  · have HL := hide (show ltI (c.toNat : Int) = true from hl)
    rw [hl] at HE
    go_enter Try.func59, Try.ntmps59
    go_wp2_with (go_at_call 87; refine (letter_any _ _).mono ?_; rw [HL.out]; rintro e w' ⟨rfl, hw⟩; replace hw := hw.symm; subst hw)
    go_loop [3] (fun iv => ∃ i : Nat, 1 ≤ i ∧ i ≤ s.length ∧ iv = .int .i64 i ∧ Hid (((s.drop 1).take (i - 1)).all ldN = true)) (fun iv => s.length - (intOf iv).toNat)
    case atStart => exact ⟨1, by omega, by omega, rfl, hide (by simp)⟩
    case round =>
      obtain ⟨q, hq0, hq, rfl, HH⟩ := hrel
      clear hb0
      by_cases hlt : q < s.length
      · have j1 : (q : Int) < s.length := by omega
        obtain ⟨c2, hc2⟩ : ∃ c, s[q] = c := ⟨_, rfl⟩
        have hb : ∀ h, (bs s)[q]'h = c2 := fun h => hc2
        have HSq := hide (show (s.drop 1)[q - 1]? = some c2 by rw [List.getElem?_drop, show 1 + (q - 1) = q by omega, List.getElem?_eq_getElem hlt, hc2])
        clear hc2
        have HQ := hide (show q - 1 + 1 = q + 1 - 1 by omega)
        cases hl2 : letN c2
        · have HL2 := hide (show ltI (c2.toNat : Int) = false from hl2)
          cases hd2 : digN c2
          · have HD2 := hide (show digI (c2.toNat : Int) = false from hd2)
            have HS := hide (show ldN c2 = false by unfold ldN; rw [hl2, hd2]; rfl)
            go_wp2_with (first | (go_at_call 87; refine (letter_any _ _).mono ?_; rw [HL2.out]; rintro e w' ⟨rfl, hw⟩; replace hw := hw.symm; subst hw) | (go_at_call 88; refine (digit_any _ _).mono ?_; rw [HD2.out]; rintro e w' ⟨rfl, hw⟩; replace hw := hw.symm; subst hw))
            go_ret
            refine ⟨?_, rfl⟩
            rw [HE.out, all_not HSq.out HS.out]; rfl
          · have HD2 := hide (show digI (c2.toNat : Int) = true from hd2)
            have HS := hide (show ldN c2 = true by unfold ldN; rw [hl2, hd2]; rfl)
            go_wp2_with (first | (go_at_call 87; refine (letter_any _ _).mono ?_; rw [HL2.out]; rintro e w' ⟨rfl, hw⟩; replace hw := hw.symm; subst hw) | (go_at_call 88; refine (digit_any _ _).mono ?_; rw [HD2.out]; rintro e w' ⟨rfl, hw⟩; replace hw := hw.symm; subst hw))
            exact ⟨⟨q + 1, by omega, by omega, by go_num, hide (by rw [← HQ.out]; exact all_on HSq.out HH.out HS.out)⟩, by simp [intOf]; omega⟩
        · have HL2 := hide (show ltI (c2.toNat : Int) = true from hl2)
          have HS := hide (show ldN c2 = true by unfold ldN; rw [hl2]; rfl)
          go_wp2_with (go_at_call 87; refine (letter_any _ _).mono ?_; rw [HL2.out]; rintro e w' ⟨rfl, hw⟩; replace hw := hw.symm; subst hw)
          exact ⟨⟨q + 1, by omega, by omega, by go_num, hide (by rw [← HQ.out]; exact all_on HSq.out HH.out HS.out)⟩, by simp [intOf]; omega⟩
      · obtain rfl : q = s.length := by omega
        go_wp2
        go_ret
        refine ⟨?_, rfl⟩
        have := HH.out
        rw [List.take_of_length_le (by simp)] at this
        rw [HE.out, this]
        rfl
theorem wordB_not0 {c : UInt8} {r : List UInt8} (h : letN c = false) : wordB (c :: r) = false := by rw [wordB_cons, h]; simp
theorem bs_toList (l : List UInt8) : (bs l).toList = l := by rw [ByteArray.toList_eq]; simp [bs]
theorem wordB_all {s : List UInt8} (h0 : s ≠ []) (h24 : ¬ 24 < s.length) {c : UInt8} (hc : s[0]? = some c) (hl : letN c = true) : wordB s = s.all ldN := by
  cases s with
  | nil => exact absurd rfl h0
  | cons c' r =>
    simp at hc
    subst hc
    rw [wordB_in h24, List.all_cons, hl, show ldN c' = true by unfold ldN; rw [hl]; rfl]
set_option maxHeartbeats 2000000 in
theorem isName_any (s : List UInt8) (w : World) (hs : s.length ≤ 9223372036854775807) : Calls Try.prog 62 #[.string (bs s)] w fun e w' => e = .returned (.bool (wordB s)) ∧ w' = w := by
  have hsz := bs_size s
  have hs' : (s.length : Int) ≤ 9223372036854775807 := by omega
  by_cases h0 : s = []
  · subst h0
    have e0 : ((bs []).toList == []) = true := by rw [bs_toList]; rfl
    go_enter Try.func62, Try.ntmps62
    go_wp2
    go_ret
    exact ⟨rfl, rfl⟩
  have e0 : ((bs s).toList == []) = false := by rw [bs_toList]; simpa using h0
  have hpos : 0 < s.length := List.length_pos_iff.2 h0
  by_cases h24 : 24 < s.length
  · have k1 : (24 : Int) < s.length := by omega
    go_enter Try.func62, Try.ntmps62
    go_wp2
    go_ret
    refine ⟨?_, rfl⟩
    rw [wordB_long h24]
    rfl
  have k1 : ¬ (24 : Int) < s.length := by omega
  have k2 : (0 : Int) < s.length := by omega
  obtain ⟨c, hc⟩ : ∃ c, s[0] = c := ⟨_, rfl⟩
  have hb0 : ∀ h, (bs s)[0]'h = c := fun h => hc
  have hc' : s[0]? = some c := by rw [List.getElem?_eq_getElem hpos, hc]
  clear hc
  cases hl : letN c
  · have HL := hide (show ltI (c.toNat : Int) = false from hl)
    have HE := hide (show wordB s = false by
      cases s with
      | nil => exact absurd rfl h0
      | cons c' r => simp at hc'; subst hc'; exact wordB_not0 hl)
    clear hc'
    go_enter Try.func62, Try.ntmps62
    go_wp2_with (go_at_call 89; refine (pletter_any _ _).mono ?_; rw [HL.out]; rintro e w' ⟨rfl, hw⟩; replace hw := hw.symm; subst hw)
    go_ret
    refine ⟨?_, rfl⟩
    rw [HE.out]
    rfl
  · have HL := hide (show ltI (c.toNat : Int) = true from hl)
    have HE := hide (wordB_all h0 h24 hc' hl)
    clear hc'
    go_enter Try.func62, Try.ntmps62
    go_wp2_with (go_at_call 89; refine (pletter_any _ _).mono ?_; rw [HL.out]; rintro e w' ⟨rfl, hw⟩; replace hw := hw.symm; subst hw)
    go_loop [19] (fun iv => ∃ i : Nat, i ≤ s.length ∧ iv = .int .i64 i ∧ Hid ((s.take i).all ldN = true)) (fun iv => s.length - (intOf iv).toNat)
    case atStart => exact ⟨0, by omega, rfl, hide (by simp)⟩
    case round =>
      obtain ⟨q, hq, rfl, HH⟩ := hrel
      clear hb0
      by_cases hlt : q < s.length
      · have j1 : (q : Int) < s.length := by omega
        obtain ⟨c2, hc2⟩ : ∃ c, s[q] = c := ⟨_, rfl⟩
        have hb : ∀ h, (bs s)[q]'h = c2 := fun h => hc2
        have HSq := hide (show s[q]? = some c2 by rw [List.getElem?_eq_getElem hlt, hc2])
        clear hc2
        cases hl2 : letN c2
        · have HL2 := hide (show ltI (c2.toNat : Int) = false from hl2)
          cases hd2 : digN c2
          · have HD2 := hide (show digI (c2.toNat : Int) = false from hd2)
            have HS := hide (show ldN c2 = false by unfold ldN; rw [hl2, hd2]; rfl)
            go_wp2_with (first | (go_at_call 89; refine (pletter_any _ _).mono ?_; rw [HL2.out]; rintro e w' ⟨rfl, hw⟩; replace hw := hw.symm; subst hw) | (go_at_call 90; refine (pdigit_any _ _).mono ?_; rw [HD2.out]; rintro e w' ⟨rfl, hw⟩; replace hw := hw.symm; subst hw))
            go_ret
            refine ⟨?_, rfl⟩
            rw [HE.out, all_not HSq.out HS.out]; rfl
          · have HD2 := hide (show digI (c2.toNat : Int) = true from hd2)
            have HS := hide (show ldN c2 = true by unfold ldN; rw [hl2, hd2]; rfl)
            go_wp2_with (first | (go_at_call 89; refine (pletter_any _ _).mono ?_; rw [HL2.out]; rintro e w' ⟨rfl, hw⟩; replace hw := hw.symm; subst hw) | (go_at_call 90; refine (pdigit_any _ _).mono ?_; rw [HD2.out]; rintro e w' ⟨rfl, hw⟩; replace hw := hw.symm; subst hw))
            exact ⟨⟨q + 1, by omega, by go_num, hide (all_on HSq.out HH.out HS.out)⟩, by simp [intOf]; omega⟩
        · have HL2 := hide (show ltI (c2.toNat : Int) = true from hl2)
          have HS := hide (show ldN c2 = true by unfold ldN; rw [hl2]; rfl)
          go_wp2_with (go_at_call 89; refine (pletter_any _ _).mono ?_; rw [HL2.out]; rintro e w' ⟨rfl, hw⟩; replace hw := hw.symm; subst hw)
          exact ⟨⟨q + 1, by omega, by go_num, hide (all_on HSq.out HH.out HS.out)⟩, by simp [intOf]; omega⟩
      · obtain rfl : q = s.length := by omega
        go_wp2
        go_ret
        refine ⟨?_, rfl⟩
        have := HH.out
        rw [List.take_of_length_le (by simp)] at this
        rw [HE.out, this]
        rfl
end Go.Proofs.Ytmoekalagollhaa.Ty
