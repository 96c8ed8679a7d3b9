/-
  Decimal digits as Go's own strconv.ParseInt reads them, purely; hexadecimal digits, small and capital.
-/
import Derived.Test.YthnkkcamfcmhmaaGreatDoorLx9
import Derived.Lib.ParseIntB
import Derived.Lib.Case
namespace Go.Proofs.YthnkkcamfcmhmaaGreatDoor.Lx
open Go.RowKit Go.Proofs.YthnkkcamfcmhmaaGreatDoor.Tx
set_option linter.unusedVariables false
set_option linter.unusedSimpArgs false
set_option maxRecDepth 100000

def valF (b n : Nat) (l : List UInt8) : Nat := l.foldl (fun n c => n * b + dvN c) n
theorem valF_zero (b : Nat) (l : List UInt8) : valF b 0 l = valB b l := rfl
theorem valF_ge (b : Nat) (hb : 1 ≤ b) : ∀ (l : List UInt8) (n : Nat), n ≤ valF b n l
  | [], n => Nat.le_refl _
  | c :: r, n => by
    have h1 : n ≤ n * b + dvN c := Nat.le_trans (Nat.le_mul_of_pos_right n hb) (Nat.le_add_right _ _)
    exact Nat.le_trans h1 (valF_ge b hb r _)
theorem dig_val {c : UInt8} (h : digN c = true) : 48 ≤ c.toNat ∧ c.toNat ≤ 57 ∧ dvN c = c.toNat - 48 := by
  have hl := dig_let h
  have h' : digI c.toNat = true := h
  simp [digI] at h'
  refine ⟨by omega, by omega, ?_⟩
  unfold dvN
  rw [if_neg (by simp [hl])]
theorem pm_is : ∀ (l : List UInt8) (acc : Nat), l.all digN = true → acc ≤ 4294967295 → Lib.parseUintM 4294967295 acc l = if valF 10 acc l ≤ 4294967295 then .ok (valF 10 acc l) else .range
  | [], acc, _, h => by rw [Lib.parseUintM, show valF 10 acc [] = acc from rfl, if_pos h]
  | c :: r, acc, ha, h => by
    simp only [List.all_cons, Bool.and_eq_true] at ha
    obtain ⟨d0, d1, dv⟩ := dig_val ha.1
    rw [Lib.parseUintM, if_pos ⟨d0, d1⟩, if_neg (by omega), ← dv]
    have e : valF 10 acc (c :: r) = valF 10 (acc * 10 + dvN c) r := rfl
    rw [e]
    by_cases hm : 4294967295 < acc * 10 + dvN c
    · have := valF_ge 10 (by decide) r (acc * 10 + dvN c)
      rw [if_pos hm, if_neg (by omega)]
    · rw [if_neg hm]
      exact pm_is r _ ha.2 (by omega)
theorem pi_is {l : List UInt8} (hne : l ≠ []) (ha : l.all digN = true) : Lib.parseIntB 32 l = if valB 10 l < 2147483648 then .ok (valB 10 l : Int) else .range := by
  cases l with
  | nil => exact absurd rfl hne
  | cons c r =>
    have ha' := ha
    simp only [List.all_cons, Bool.and_eq_true] at ha'
    obtain ⟨d0, d1, _⟩ := dig_val ha'.1
    have hp : Lib.parseUintB 32 (c :: r) = if valB 10 (c :: r) ≤ 4294967295 then .ok (valB 10 (c :: r)) else .range := by
      rw [Lib.parseUintB, if_neg (by simp)]
      exact pm_is (c :: r) 0 ha (by decide)
    unfold Lib.parseIntB
    simp only []
    rw [if_neg (by omega), hp]
    by_cases h1 : valB 10 (c :: r) ≤ 4294967295
    · rw [if_pos h1]
      by_cases h2 : valB 10 (c :: r) < 2147483648
      · simp only []
        rw [if_pos h2, if_neg (by simp; omega), if_neg (by omega), if_neg (by omega)]
      · simp only []
        rw [if_neg h2, if_pos ⟨by omega, by simp; omega⟩]
    · rw [if_neg h1, if_neg (by omega)]
/- Small hexadecimal digits. -/
def hdl (r : Nat) : UInt8 := UInt8.ofNat (if r < 10 then 48 + r else 87 + r)
def hlF : Nat → Nat → List UInt8
  | 0, _ => []
  | k + 1, n => if n < 16 then [hdl n] else hlF k (n / 16) ++ [hdl (n % 16)]
theorem hdl_facts : ∀ r : Fin 16, Lib.upperB (hdl r.1) = hd r.1 ∧ (hdl r.1).toNat < 128 := by decide
theorem hlF_up : ∀ (k n : Nat), (hlF k n).map Lib.upperB = hxF k n
  | 0, n => rfl
  | k + 1, n => by
    rw [hlF, hxF]
    split
    · rename_i h
      simp [(hdl_facts ⟨n, h⟩).1]
    · rw [List.map_append, hlF_up k]
      simp [(hdl_facts ⟨n % 16, by omega⟩).1]
theorem hlF_ascii : ∀ (k n : Nat), ∀ c ∈ hlF k n, c.toNat < 128
  | 0, n, c, h => by simp [hlF] at h
  | k + 1, n, c, h => by
    rw [hlF] at h
    split at h
    · rename_i hn
      simp at h
      rw [h]
      exact (hdl_facts ⟨n, hn⟩).2
    · rcases List.mem_append.1 h with h | h
      · exact hlF_ascii k _ c h
      · simp at h
        rw [h]
        exact (hdl_facts ⟨n % 16, by omega⟩).2
theorem hlF_len : ∀ (k n : Nat), (hlF k n).length ≤ k
  | 0, n => by simp [hlF]
  | k + 1, n => by
    have := hlF_len k (n / 16)
    rw [hlF]
    split
    · simp
    · simp; omega
theorem hlF_pos (k n : Nat) : hlF (k + 1) n ≠ [] := by
  rw [hlF]
  split <;> simp
theorem hxF_hxN {n : Nat} (h : n < 4294967296) : hxF 16 n = hxN n := by
  have h1 := hxF_le 8 7 n (by show n < 68719476736; omega)
  exact h1
end Go.Proofs.YthnkkcamfcmhmaaGreatDoor.Lx
