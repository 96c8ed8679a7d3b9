/-
  The document's own tokens (package spinetref09): Word, Name, String, Good.
-/
import Derived.Test.YthnkkcamfcmhmaaGreatDoorLr8
namespace Go.Proofs.YthnkkcamfcmhmaaGreatDoor.Lx
open Go.RowKit Go.Proofs.YthnkkcamfcmhmaaGreatDoor.Tx
set_option linter.unusedVariables false
set_option linter.unusedSimpArgs false
set_option maxRecDepth 100000

def wordB : List UInt8 → Bool
  | [] => false
  | c :: r => decide (r.length ≤ 23) && (letN c && r.all ldN)
def nameB (s : List UInt8) : Bool := wordB s && !keyB s
def strB (s : List UInt8) : Bool := decide (s.length ≤ 64) && s.all strN
theorem strB_long {s : List UInt8} (h : 64 < s.length) : strB s = false := by unfold strB; rw [decide_eq_false (by omega)]; rfl
theorem strB_in {s : List UInt8} (h : ¬ 64 < s.length) : strB s = s.all strN := by unfold strB; rw [decide_eq_true (by omega)]; rfl
theorem all_not {f : UInt8 → Bool} {s : List UInt8} {q : Nat} {c : UInt8} (h : s[q]? = some c) (hf : f c = false) : s.all f = false := by
  obtain ⟨hq, rfl⟩ := List.getElem?_eq_some_iff.1 h
  rw [Bool.eq_false_iff]
  intro ha
  have := List.all_eq_true.1 ha _ (List.getElem_mem hq)
  rw [hf] at this
  cases this
theorem all_on {f : UInt8 → Bool} {s : List UInt8} {q : Nat} {c : UInt8} (h : s[q]? = some c) (ha : (s.take q).all f = true) (hf : f c = true) : (s.take (q + 1)).all f = true := by
  obtain ⟨hq, rfl⟩ := List.getElem?_eq_some_iff.1 h
  rw [List.take_succ_eq_append_getElem hq, List.all_append, ha]
  simp [hf]
set_option maxHeartbeats 2000000 in
theorem string_any (s : List UInt8) (w : World) (hs : s.length ≤ 9223372036854775807) : Calls Tryz.prog 27 #[.string (bs s)] w fun e w' => e = .returned (.bool (strB s)) ∧ w' = w := by
  have hsz := bs_size s
  have hs' : (s.length : Int) ≤ 9223372036854775807 := by omega
  by_cases h64 : 64 < s.length
  · have k1 : (64 : Int) < s.length := by omega
    go_enter Tryz.func27, Tryz.ntmps27
    go_wp2
    go_ret
    refine ⟨?_, rfl⟩
    rw [strB_long h64]
    rfl
  · have k1 : ¬ (64 : Int) < s.length := by omega
    go_enter Tryz.func27, Tryz.ntmps27
    go_wp2
    go_loop [3] (fun iv => ∃ i : Nat, i ≤ s.length ∧ iv = .int .i64 i ∧ Hid ((s.take i).all strN = true)) (fun iv => s.length - (intOf iv).toNat)
    case atStart => exact ⟨0, Nat.zero_le _, rfl, hide (by simp)⟩
    case round =>
      obtain ⟨q, hq, rfl, HH⟩ := hrel
      by_cases hlt : q < s.length
      · have j1 : (q : Int) < s.length := by omega
        obtain ⟨c2, hc2⟩ : ∃ c, s[q] = c := ⟨_, rfl⟩
        have hb : ∀ h, (bs s)[q]'h = c2 := fun h => hc2
        have HSq := hide (show s[q]? = some c2 by rw [List.getElem?_eq_getElem hlt, hc2])
        obtain ⟨C, hC⟩ : ∃ C : Int, (c2.toNat : Int) = C := ⟨_, rfl⟩
        have HCc := hide hC
        clear hc2
        by_cases h32 : C < 32
        · have HS := hide (show strN c2 = false by simp [strN]; omega)
          go_wp2
          go_ret
          refine ⟨?_, rfl⟩
          rw [strB_in h64, all_not HSq.out HS.out]; rfl
        · by_cases h34 : C = 34
          · have n34 : (C == 34) = true := by rw [h34]; rfl
            have hc34 : c2 = 34 := UInt8.toNat_inj.1 (by show c2.toNat = 34; omega)
            have HS := hide (show strN c2 = false by rw [hc34]; decide)
            clear hc34
            go_wp2
            go_ret
            refine ⟨?_, rfl⟩
            rw [strB_in h64, all_not HSq.out HS.out]; rfl
          · have n34 : (C == 34) = false := by simpa using h34
            have HS := hide (show strN c2 = true by simp [strN]; constructor; omega; intro e; apply h34; rw [← hC, e]; rfl)
            go_wp2
            exact ⟨⟨q + 1, by omega, by go_num, hide (all_on HSq.out HH.out HS.out)⟩, by simp [intOf]; omega⟩
      · obtain rfl : q = s.length := by omega
        go_wp2
        go_ret
        refine ⟨?_, rfl⟩
        have := HH.out
        rw [List.take_length] at this
        rw [strB_in h64, this]
        rfl
theorem wordB_cons (c : UInt8) (r : List UInt8) : wordB (c :: r) = (decide (r.length ≤ 23) && (letN c && r.all ldN)) := rfl
theorem wordB_long {s : List UInt8} (h : 24 < s.length) : wordB s = false := by
  cases s with
  | nil => rfl
  | cons c r => rw [wordB_cons, decide_eq_false (by simp at h; omega)]; rfl
theorem wordB_in {c : UInt8} {r : List UInt8} (h : ¬ 24 < (c :: r).length) : wordB (c :: r) = (letN c && r.all ldN) := by
  rw [wordB_cons, decide_eq_true (by simp at h; omega)]; rfl
set_option maxHeartbeats 2000000 in
theorem word_any (s : List UInt8) (w : World) (hs : s.length ≤ 9223372036854775807) : Calls Tryz.prog 43 #[.string (bs s)] w fun e w' => e = .returned (.bool (wordB s)) ∧ w' = w := by
  have hsz := bs_size s
  have hs' : (s.length : Int) ≤ 9223372036854775807 := by omega
  by_cases h0 : s.length = 0
  · obtain rfl := List.length_eq_zero_iff.1 h0
    have k0 : ((([] : List UInt8).length : Nat) : Int) < 1 := by simp
    clear h0 hs'
    go_enter Tryz.func43, Tryz.ntmps43
    go_wp2
    go_ret
    exact ⟨rfl, rfl⟩
  have k0 : ¬ (s.length : Int) < 1 := by omega
  by_cases h24 : 24 < s.length
  · have k1 : (24 : Int) < s.length := by omega
    go_enter Tryz.func43, Tryz.ntmps43
    go_wp2
    go_ret
    refine ⟨?_, rfl⟩
    rw [wordB_long h24]
    rfl
  have k1 : ¬ (24 : Int) < s.length := by omega
  have k2 : (0 : Int) < s.length := by omega
  have k3 : 0 < s.length := by omega
  obtain ⟨c, hc⟩ : ∃ c, s[0] = c := ⟨_, rfl⟩
  have hb0 : ∀ h, (bs s)[0]'h = c := fun h => hc
  have HE := hide (show wordB s = (letN c && (s.drop 1).all ldN) by
    cases s with
    | nil => simp at k3
    | cons c' r => rw [wordB_in h24]; simp at hc; subst hc; rfl)
  clear hc
  cases hl : letN c
  · have HL := hide (show ltI (c.toNat : Int) = false from hl)
    rw [hl] at HE
    go_enter Tryz.func43, Tryz.ntmps43
    go_wp2_with (go_at_call 45; refine (letter_any _ _).mono ?_; rw [HL.out]; rintro e w' ⟨rfl, hw⟩; replace hw := hw.symm; subst hw)
    go_ret
    refine ⟨?_, rfl⟩
    rw [HE.out]
    rfl
  · have HL := hide (show ltI (c.toNat : Int) = true from hl)
    rw [hl] at HE
    go_enter Tryz.func43, Tryz.ntmps43
    go_wp2_with (go_at_call 45; refine (letter_any _ _).mono ?_; rw [HL.out]; rintro e w' ⟨rfl, hw⟩; replace hw := hw.symm; subst hw)
    go_loop [3] (fun iv => ∃ i : Nat, 1 ≤ i ∧ i ≤ s.length ∧ iv = .int .i64 i ∧ Hid (((s.drop 1).take (i - 1)).all ldN = true)) (fun iv => s.length - (intOf iv).toNat)
    case atStart => exact ⟨1, by omega, by omega, rfl, hide (by simp)⟩
    case round =>
      obtain ⟨q, hq0, hq, rfl, HH⟩ := hrel
      clear hb0
      by_cases hlt : q < s.length
      · have j1 : (q : Int) < s.length := by omega
        obtain ⟨c2, hc2⟩ : ∃ c, s[q] = c := ⟨_, rfl⟩
        have hb : ∀ h, (bs s)[q]'h = c2 := fun h => hc2
        have HSq := hide (show (s.drop 1)[q - 1]? = some c2 by rw [List.getElem?_drop, show 1 + (q - 1) = q by omega, List.getElem?_eq_getElem hlt, hc2])
        clear hc2
        have HQ := hide (show q - 1 + 1 = q + 1 - 1 by omega)
        cases hl2 : letN c2
        · have HL2 := hide (show ltI (c2.toNat : Int) = false from hl2)
          cases hd2 : digN c2
          · have HD2 := hide (show digI (c2.toNat : Int) = false from hd2)
            have HS := hide (show ldN c2 = false by unfold ldN; rw [hl2, hd2]; rfl)
            go_wp2_with (first | (go_at_call 45; refine (letter_any _ _).mono ?_; rw [HL2.out]; rintro e w' ⟨rfl, hw⟩; replace hw := hw.symm; subst hw) | (go_at_call 55; refine (digit_any _ _).mono ?_; rw [HD2.out]; rintro e w' ⟨rfl, hw⟩; replace hw := hw.symm; subst hw))
            go_ret
            refine ⟨?_, rfl⟩
            rw [HE.out, all_not HSq.out HS.out]; rfl
          · have HD2 := hide (show digI (c2.toNat : Int) = true from hd2)
            have HS := hide (show ldN c2 = true by unfold ldN; rw [hl2, hd2]; rfl)
            go_wp2_with (first | (go_at_call 45; refine (letter_any _ _).mono ?_; rw [HL2.out]; rintro e w' ⟨rfl, hw⟩; replace hw := hw.symm; subst hw) | (go_at_call 55; refine (digit_any _ _).mono ?_; rw [HD2.out]; rintro e w' ⟨rfl, hw⟩; replace hw := hw.symm; subst hw))
            exact ⟨⟨q + 1, by omega, by omega, by go_num, hide (by rw [← HQ.out]; exact all_on HSq.out HH.out HS.out)⟩, by simp [intOf]; omega⟩
        · have HL2 := hide (show ltI (c2.toNat : Int) = true from hl2)
          have HS := hide (show ldN c2 = true by unfold ldN; rw [hl2]; rfl)
          go_wp2_with (go_at_call 45; refine (letter_any _ _).mono ?_; rw [HL2.out]; rintro e w' ⟨rfl, hw⟩; replace hw := hw.symm; subst hw)
          exact ⟨⟨q + 1, by omega, by omega, by go_num, hide (by rw [← HQ.out]; exact all_on HSq.out HH.out HS.out)⟩, by simp [intOf]; omega⟩
      · obtain rfl : q = s.length := by omega
        go_wp2
        go_ret
        refine ⟨?_, rfl⟩
        have := HH.out
        rw [List.take_of_length_le (by simp)] at this
        rw [HE.out, this]
        rfl
set_option maxHeartbeats 1000000 in
theorem name_any (s : List UInt8) (w : World) (hs : s.length ≤ 9223372036854775807) : Calls Tryz.prog 25 #[.string (bs s)] w fun e w' => e = .returned (.bool (nameB s)) ∧ w.grownBy w' none := by
  have HW := hide (word_any s w hs)
  have HK := hide (fun W => key_any s W)
  unfold nameB
  cases hw : wordB s
  · rw [hw] at HW
    go_enter Tryz.func25, Tryz.ntmps25
    go_wp2_with (go_at_call 43; refine HW.out.mono ?_; rintro e w' ⟨rfl, hw⟩; replace hw := hw.symm; subst hw)
    go_ret
    exact ⟨rfl, ⟨rfl, rfl, rfl, Nat.le_refl _, fun _ _ _ => rfl⟩⟩
  · rw [hw] at HW
    go_enter Tryz.func25, Tryz.ntmps25
    go_wp2_with (first | (go_at_call 43; refine HW.out.mono ?_; rintro e w' ⟨rfl, hw⟩; replace hw := hw.symm; subst hw) | (go_at_call 26; refine (HK.out _).mono ?_; rintro e wk ⟨rfl, hg⟩; have HG := hide hg; clear hg))
    go_ret
    exact ⟨rfl, HG.out⟩
end Go.Proofs.YthnkkcamfcmhmaaGreatDoor.Lx
