/-
  Names of files: what they are, as lists of bytes; package store's letter, letterDigitDot, Name and the document's own answer the same.
-/
import Derived.Test.YtaekljpijnkjoaaDoorRows
import Derived.Test.YtaekljpijnkjoaaDoorTx1
import Derived.WalkKit
import Derived.Deep.QuietTactic
import Derived.BigQuiet
namespace Go.Proofs.YtaekljpijnkjoaaDoor.St
open Go.RowKit Go.Proofs.YtaekljpijnkjoaaDoor.Tx
set_option linter.unusedVariables false
set_option linter.unusedSimpArgs false

def letB (c : Int) : Bool := (decide (65 ≤ c) && decide (c ≤ 90)) || (decide (97 ≤ c) && decide (c ≤ 122))
def lddB (c : Int) : Bool := letB c || (decide (48 ≤ c) && decide (c ≤ 57)) || (c == 46)
def lett (c : UInt8) : Bool := letB c.toNat
def ldd (c : UInt8) : Bool := lddB c.toNat
def nmB (s : List UInt8) : Bool := match s with
  | [] => false
  | c :: _ => decide (s.length ≤ 24) && lett c && s.all ldd

theorem hide {p : Prop} (h : p) : Hid p := h
theorem bs_get (t : List UInt8) (k : Nat) (h : k < (bs t).size) : (bs t)[k]'h = t[k]'h := rfl
theorem bs_toList (l : List UInt8) : (bs l).toList = l := by rw [ByteArray.toList_eq]; simp [bs]
theorem bs_test {a b : List UInt8} (h : a ≠ b) : ((bs a).toList == (bs b).toList) = false := by rw [bs_toList, bs_toList]; simpa using h
theorem bs_nil {t : List UInt8} (h : t ≠ []) : (bs t).toList.isEmpty = false := by
  rw [← decide_eq_emptyBytes]
  exact decide_eq_false (fun e => h (by have := congrArg (fun z : ByteArray => z.data.toList) e; simpa [bs] using this))

theorem letter_any (c : Int) (w : World) : Calls Tryd.prog 34 #[.int .u8 c] w fun e w' => e = .returned (.bool (letB c)) ∧ w' = w := by
  unfold letB
  by_cases h1 : 65 ≤ c <;> by_cases h2 : c ≤ 90 <;> by_cases h3 : 97 ≤ c <;> by_cases h4 : c ≤ 122
  all_goals first
    | (exfalso; omega)
    | (go_enter Tryd.func34, Tryd.ntmps34
       go_wp2
       go_ret
       exact ⟨by simp [h1, h2, h3, h4], rfl⟩)
theorem rletter_any (c : Int) (w : World) : Calls Tryd.prog 29 #[.int .u8 c] w fun e w' => e = .returned (.bool (letB c)) ∧ w' = w := by
  unfold letB
  by_cases h1 : 65 ≤ c <;> by_cases h2 : c ≤ 90 <;> by_cases h3 : 97 ≤ c <;> by_cases h4 : c ≤ 122
  all_goals first
    | (exfalso; omega)
    | (go_enter Tryd.func29, Tryd.ntmps29
       go_wp2
       go_ret
       exact ⟨by simp [h1, h2, h3, h4], rfl⟩)
theorem ldd_any (c : Int) (w : World) : Calls Tryd.prog 35 #[.int .u8 c] w fun e w' => e = .returned (.bool (lddB c)) ∧ w' = w := by
  unfold lddB
  cases hl : letB c
  · by_cases h3 : c = 46
    · subst h3
      go_enter Tryd.func35, Tryd.ntmps35
      go_wp2_with (go_at_call 34; refine (letter_any _ _).mono ?_; rw [hl]; rintro e w' ⟨rfl, rfl⟩)
      go_ret
      exact ⟨rfl, rfl⟩
    · by_cases h1 : 48 ≤ c <;> by_cases h2 : c ≤ 57
      all_goals first
        | (exfalso; omega)
        | (go_enter Tryd.func35, Tryd.ntmps35
           go_wp2_with (go_at_call 34; refine (letter_any _ _).mono ?_; rw [hl]; rintro e w' ⟨rfl, rfl⟩)
           go_ret
           exact ⟨by simp [h1, h2, h3], rfl⟩)
  · go_enter Tryd.func35, Tryd.ntmps35
    go_wp2_with (go_at_call 34; refine (letter_any _ _).mono ?_; rw [hl]; rintro e w' ⟨rfl, rfl⟩)
    go_ret
    exact ⟨by simp, rfl⟩
set_option maxHeartbeats 1000000 in
theorem name_any (s : List UInt8) (w : World) (hm : s.length ≤ maxLen) : Calls Tryd.prog 30 #[.string (bs s)] w fun e w' => e = .returned (.bool (nmB s)) ∧ w' = w := by
  have hsz := bs_size s
  cases s with
  | nil =>
    have hemp : (bs []).toList.isEmpty = true := by rw [← decide_eq_emptyBytes]; exact decide_eq_true rfl
    go_enter Tryd.func30, Tryd.ntmps30
    go_wp2
    go_ret
    exact ⟨rfl, rfl⟩
  | cons c r =>
    have hne := bs_nil (t := c :: r) (by simp)
    have hg0 : ∀ h, (bs (c :: r))[0]'h = c := fun h => rfl
    by_cases hl : (c :: r).length ≤ 24
    · have hN : nmB (c :: r) = (lett c && (c :: r).all ldd) := by simp only [nmB, hl]; simp
      rw [hN]
      have hg : ∀ (k : Nat) (d : UInt8), (c :: r)[k]? = some d → ∀ h, (bs (c :: r))[k]'h = d := fun k d hk h => by
        rw [bs_get]; obtain ⟨h', e⟩ := List.getElem?_eq_some_iff.1 hk; exact e
      have HG := hide hg
      clear hg hN
      obtain ⟨S, hS⟩ : ∃ S, S = bs (c :: r) := ⟨_, rfl⟩
      rw [← hS] at hsz hne hg0 HG ⊢
      clear hS
      obtain ⟨L, hL⟩ : ∃ L, L = c :: r := ⟨_, rfl⟩
      rw [← hL] at hsz HG hl ⊢
      obtain ⟨N, hN⟩ : ∃ N, L.length = N := ⟨_, rfl⟩
      have hN1 : 1 ≤ N := by rw [← hN, hL]; simp
      rw [hN] at hsz hl
      have HL := hide hL
      have HN := hide hN
      clear hL hN hm
      cases hlt : lett c
      · go_enter Tryd.func30, Tryd.ntmps30
        go_wp2_with (go_at_call 34; refine (letter_any _ _).mono ?_; rw [show letB c.toNat = false from hlt]; rintro e w' ⟨rfl, rfl⟩)
        go_ret
        exact ⟨by simp, rfl⟩
      · go_enter Tryd.func30, Tryd.ntmps30
        go_wp2_with (go_at_call 34; refine (letter_any _ _).mono ?_; rw [show letB c.toNat = true from hlt]; rintro e w' ⟨rfl, rfl⟩)
        go_loop [19] (fun iv => ∃ i : Nat, i ≤ N ∧ iv = .int .i64 i ∧ (L.take i).all ldd = true) (fun iv => N - (intOf iv).toNat)
        case atStart => exact ⟨0, by omega, rfl, rfl⟩
        case round =>
          obtain ⟨i, hi, rfl, hall⟩ := hrel
          have HA := hide hall
          clear hall
          by_cases hlt : i < N
          · obtain ⟨d, hd⟩ : ∃ d, L[i]? = some d := ⟨_, List.getElem?_eq_getElem (by rw [HN.out]; exact hlt)⟩
            have hgc := HG.out i d hd
            have htk : L.take (i + 1) = L.take i ++ [d] := by rw [List.take_add_one, hd]; rfl
            have HTK := hide htk
            have HD := hide hd
            clear htk hd
            cases hdd : ldd d
            · go_wp2_with (go_at_call 35; refine (ldd_any _ _).mono ?_; rw [show lddB d.toNat = false from hdd]; rintro e w' ⟨rfl, rfl⟩)
              go_ret
              refine ⟨?_, rfl⟩
              have : L.all ldd = false := by
                cases h : L.all ldd with
                | false => rfl
                | true => rw [List.all_eq_true.1 h d (List.mem_of_getElem? HD.out)] at hdd; cases hdd
              rw [this]; rfl
            · go_wp2_with (go_at_call 35; refine (ldd_any _ _).mono ?_; rw [show lddB d.toNat = true from hdd]; rintro e w' ⟨rfl, rfl⟩)
              exact ⟨⟨i + 1, by omega, by go_num, by rw [HTK.out]; simp [HA.out, hdd]⟩, by simp [intOf]; omega⟩
          · obtain rfl : i = N := by omega
            go_wp2
            go_ret
            refine ⟨?_, rfl⟩
            have := HA.out
            rw [← HN.out, List.take_length] at this
            rw [this]; rfl
    · have hN : nmB (c :: r) = false := by simp only [nmB, hl]; simp
      rw [hN]
      obtain ⟨N, hN⟩ : ∃ N, (c :: r).length = N := ⟨_, rfl⟩
      rw [hN] at hsz hl hm
      have hm' : (N : Int) ≤ 9223372036854775807 := by unfold maxLen at hm; omega
      clear hm
      go_enter Tryd.func30, Tryd.ntmps30
      go_wp2
      go_ret
      exact ⟨rfl, rfl⟩
theorem rletter_v (c : Int) (w : World) {v : Bool} (h : letB c = v) : Calls Tryd.prog 29 #[.int .u8 c] w fun e w' => e = .returned (.bool v) ∧ w' = w := by
  have := rletter_any c w
  rwa [h] at this
set_option maxHeartbeats 2000000 in
theorem rname_any (s : List UInt8) (w : World) (hm : s.length ≤ maxLen) : Calls Tryd.prog 21 #[.string (bs s)] w fun e w' => e = .returned (.bool (nmB s)) ∧ w' = w := by
  have hsz := bs_size s
  cases s with
  | nil =>
    go_enter Tryd.func21, Tryd.ntmps21
    go_wp2
    go_ret
    exact ⟨rfl, rfl⟩
  | cons c r =>
    have hg0 : ∀ h, (bs (c :: r))[0]'h = c := fun h => rfl
    by_cases hl : (c :: r).length ≤ 24
    · have hN : nmB (c :: r) = (lett c && (c :: r).all ldd) := by simp only [nmB, hl]; simp
      rw [hN]
      have hg : ∀ (k : Nat) (d : UInt8), (c :: r)[k]? = some d → ∀ h, (bs (c :: r))[k]'h = d := fun k d hk h => by
        rw [bs_get]; obtain ⟨h', e⟩ := List.getElem?_eq_some_iff.1 hk; exact e
      have HG := hide hg
      clear hg hN
      obtain ⟨S, hS⟩ : ∃ S, S = bs (c :: r) := ⟨_, rfl⟩
      rw [← hS] at hsz hg0 HG ⊢
      clear hS
      obtain ⟨L, hL⟩ : ∃ L, L = c :: r := ⟨_, rfl⟩
      rw [← hL] at hsz HG hl ⊢
      obtain ⟨N, hN⟩ : ∃ N, L.length = N := ⟨_, rfl⟩
      have hN1 : 1 ≤ N := by rw [← hN, hL]; simp
      rw [hN] at hsz hl
      have HL := hide hL
      have HN := hide hN
      clear hL hN hm
      cases hlt : lett c
      · replace hlt : letB c.toNat = false := hlt
        go_enter Tryd.func21, Tryd.ntmps21
        go_wp2_with (go_at_call 29; refine (rletter_v _ _ (v := false) (by first | assumption | decide)).mono ?_; rintro e w' ⟨rfl, rfl⟩)
        go_ret
        exact ⟨by simp, rfl⟩
      · replace hlt : letB c.toNat = true := hlt
        go_enter Tryd.func21, Tryd.ntmps21
        go_wp2_with (go_at_call 29; refine (rletter_v _ _ (v := true) (by first | assumption | decide)).mono ?_; rintro e w' ⟨rfl, rfl⟩)
        clear hlt hg0
        go_loop [3] (fun iv => ∃ i : Nat, i ≤ N ∧ iv = .int .i64 i ∧ (L.take i).all ldd = true) (fun iv => N - (intOf iv).toNat)
        case atStart => exact ⟨0, by omega, rfl, rfl⟩
        case round =>
          obtain ⟨i, hi, rfl, hall⟩ := hrel
          have HA := hide hall
          clear hall
          by_cases hlt : i < N
          · obtain ⟨d, hd⟩ : ∃ d, L[i]? = some d := ⟨_, List.getElem?_eq_getElem (by rw [HN.out]; exact hlt)⟩
            have hgc := HG.out i d hd
            have htk : L.take (i + 1) = L.take i ++ [d] := by rw [List.take_add_one, hd]; rfl
            have hstep : ldd d = true → (L.take (i + 1)).all ldd = true := fun h => by rw [htk]; simp [HA.out, h]
            have hstop : ldd d = false → L.all ldd = false := fun hdd => by
              cases h : L.all ldd with
              | false => rfl
              | true => rw [List.all_eq_true.1 h d (List.mem_of_getElem? hd)] at hdd; cases hdd
            have HST := hide hstep
            have HSP := hide hstop
            clear htk hd hstep hstop
            cases hle : letB d.toNat
            · by_cases h3 : d.toNat = 46
              · have HD := hide (show ldd d = true by simp [ldd, lddB, h3])
                go_wp2_with (go_at_call 29; refine (rletter_v _ _ (v := false) (by first | assumption | decide)).mono ?_; rintro e w' ⟨rfl, rfl⟩)
                exact ⟨⟨i + 1, by omega, by go_num, HST.out HD.out⟩, by simp [intOf]; omega⟩
              · have hq : ((d.toNat : Int) != 46) = true := by simp; omega
                by_cases h1 : 48 ≤ d.toNat <;> by_cases h2 : d.toNat ≤ 57
                · have HD := hide (show ldd d = true by unfold ldd lddB; rw [hle]; simp; omega)
                  go_wp2_with (go_at_call 29; refine (rletter_v _ _ (v := false) (by first | assumption | decide)).mono ?_; rintro e w' ⟨rfl, rfl⟩)
                  exact ⟨⟨i + 1, by omega, by go_num, HST.out HD.out⟩, by simp [intOf]; omega⟩
                · have HD := hide (show ldd d = false by unfold ldd lddB; rw [hle]; simp; omega)
                  go_wp2_with (go_at_call 29; refine (rletter_v _ _ (v := false) (by first | assumption | decide)).mono ?_; rintro e w' ⟨rfl, rfl⟩)
                  go_ret
                  exact ⟨by rw [HSP.out HD.out]; rfl, rfl⟩
                · have HD := hide (show ldd d = false by unfold ldd lddB; rw [hle]; simp; omega)
                  go_wp2_with (go_at_call 29; refine (rletter_v _ _ (v := false) (by first | assumption | decide)).mono ?_; rintro e w' ⟨rfl, rfl⟩)
                  go_ret
                  exact ⟨by rw [HSP.out HD.out]; rfl, rfl⟩
                · exfalso; omega
            · have HD := hide (show ldd d = true by unfold ldd lddB; rw [hle]; simp)
              go_wp2_with (go_at_call 29; refine (rletter_v _ _ (v := true) (by first | assumption | decide)).mono ?_; rintro e w' ⟨rfl, rfl⟩)
              exact ⟨⟨i + 1, by omega, by go_num, HST.out HD.out⟩, by simp [intOf]; omega⟩
          · obtain rfl : i = N := by omega
            go_wp2
            go_ret
            refine ⟨?_, rfl⟩
            have := HA.out
            rw [← HN.out, List.take_length] at this
            rw [this]; rfl
    · have hN : nmB (c :: r) = false := by simp only [nmB, hl]; simp
      rw [hN]
      obtain ⟨N, hN⟩ : ∃ N, (c :: r).length = N := ⟨_, rfl⟩
      rw [hN] at hsz hl hm
      have hm' : (N : Int) ≤ 9223372036854775807 := by unfold maxLen at hm; omega
      clear hm
      go_enter Tryd.func21, Tryd.ntmps21
      go_wp2
      go_ret
      exact ⟨rfl, rfl⟩
end Go.Proofs.YtaekljpijnkjoaaDoor.St
