/-
  Whatever token stands at a text's beginning is one that may be written; the classes of bytes, purely.
-/
import Derived.Test.YthnkkcamfcmhmaaGreatDoorLx8
namespace Go.Proofs.YthnkkcamfcmhmaaGreatDoor.Lx
open Go.RowKit Go.Proofs.YthnkkcamfcmhmaaGreatDoor.Tx
set_option linter.unusedVariables false
set_option linter.unusedSimpArgs false
set_option maxRecDepth 100000

theorem hex_dv {c : UInt8} (h : hexN c = true) : dvN c ≤ 15 := dv_le h
theorem numV_good {lim v len : Nat} {k a : Int} {t : Tk} {l : Nat} (h : numV lim v len k a = .ok (t, l)) : v < lim ∧ t = ⟨k, [], if 2147483648 ≤ v then (v : Int) - 4294967296 else v, a⟩ := by
  unfold numV at h
  split at h
  · cases h
  · rename_i hv
    cases h
    exact ⟨by omega, rfl⟩
theorem num_good {x : List UInt8} {a : Int} {t : Tk} {l : Nat} (h : numT x a = .ok (t, l)) : goodT t = true := by
  unfold numT at h
  simp only [] at h
  split at h
  · obtain ⟨h1, rfl⟩ := numV_good h
    simp [goodT]
    split <;> omega
  split at h
  · obtain ⟨h1, rfl⟩ := numV_good h
    simp [goodT]
    split <;> omega
  split at h
  · cases h
  split at h
  · cases h
  · obtain ⟨h1, rfl⟩ := numV_good h
    simp [goodT]
    split <;> omega
theorem one_good {x : List UInt8} {a : Int} {t : Tk} {l : Nat} (h : oneT x a = .ok (t, l)) : goodT t = true := by
  cases x with
  | nil => cases h
  | cons c r =>
    by_cases hl : letN c = true
    · rw [oneT_let hl] at h
      split at h
      · rename_i hk
        cases h
        simp [goodT, hk]
      split at h
      · cases h
      · rename_i hk h24
        cases h
        have hk' : keyB ((c :: r).takeWhile ldN) = false := by simpa using hk
        have hw : wordB ((c :: r).takeWhile ldN) = true := by
          have hc : ldN c = true := by simp [ldN, hl]
          have ha := tw_allp ldN r
          rw [List.takeWhile_cons, if_pos hc] at h24 ⊢
          rw [wordB_cons, hl, ha]
          simp at h24 ⊢
          omega
        simp [goodT, nameB, hk', hw]
    · have hl' : letN c = false := by simpa using hl
      by_cases hd : digN c = true
      · rw [oneT_dig hl' hd] at h
        exact num_good h
      · have hd' : digN c = false := by simpa using hd
        by_cases hq : c = 34
        · subst hq
          rw [oneT_quo] at h
          split at h
          · cases h
          split at h
          · cases h
          · rename_i h64
            cases h
            have ha := tw_allp strN r
            simp [goodT, strB, ha]
            omega
        · rw [oneT_sign hl' hd' hq] at h
          split at h
          · rename_i hs
            cases h
            have h2 := hs.2
            generalize (c :: r).take 2 = z at h2 ⊢
            simp [goodT, h2]
          split at h
          · rename_i hs
            cases h
            simp [goodT, hs]
          · cases h
/- The classes: nine ranges of bytes, each with its mark. -/
def rngs : List (Nat × Nat × Nat) := [(9, 10, 1), (13, 13, 1), (32, 32, 1), (97, 122, 2), (65, 90, 2), (48, 57, 12), (65, 70, 8), (32, 33, 16), (35, 255, 16)]
def inR (r : Nat × Nat × Nat) (j : Nat) : Bool := decide (r.1 ≤ j) && decide (j ≤ r.2.1)
def clN (i j : Nat) : Nat := (rngs.take i).foldl (fun n r => if inR r j = true then n + r.2.2 else n) 0
/- Behind i ranges and the bytes below b of the next one. -/
def clP (i b j : Nat) : Nat := if decide (((rngs[i]?).map (·.1)).getD 0 ≤ j) && decide (j < b) then clN (i + 1) j else clN i j
def cls (j : Nat) : Nat := clN 9 j
theorem cls_all : ∀ j : Fin 256, cls j.1 < 32 ∧ ((bits .and .u8 (cls j.1 : Int) 1 != 0) = blkN (UInt8.ofNat j.1)) ∧ ((bits .and .u8 (cls j.1 : Int) 2 != 0) = letN (UInt8.ofNat j.1)) ∧ ((bits .and .u8 (cls j.1 : Int) 4 != 0) = digN (UInt8.ofNat j.1)) ∧ ((bits .and .u8 (cls j.1 : Int) 6 != 0) = ldN (UInt8.ofNat j.1)) ∧ ((bits .and .u8 (cls j.1 : Int) 8 != 0) = hexN (UInt8.ofNat j.1)) ∧ ((bits .and .u8 (cls j.1 : Int) 16 != 0) = strN (UInt8.ofNat j.1)) := by decide +kernel
/- One step of a range: the mark is not there yet. -/
theorem cl_step : ∀ i : Fin 9, ∀ j : Fin 256, inR (rngs[i.1]?.getD (0, 0, 0)) j.1 = true → bits .or .u8 (clN i.1 j.1 : Int) ((rngs[i.1]?.getD (0, 0, 0)).2.2 : Int) = (clN (i.1 + 1) j.1 : Int) := by decide +kernel
theorem cl_lt : ∀ i : Fin 10, ∀ j : Fin 256, clN i.1 j.1 < 32 := by decide +kernel
end Go.Proofs.YthnkkcamfcmhmaaGreatDoor.Lx
