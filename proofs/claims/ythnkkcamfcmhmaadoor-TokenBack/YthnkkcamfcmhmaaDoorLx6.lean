/-
  A text's tokens, purely: TokenJoins' three cases; what a token needs behind it.
-/
import Derived.Test.YthnkkcamfcmhmaaDoorLx5
namespace Go.Proofs.YthnkkcamfcmhmaaDoor.Lx
open Go.Proofs.YthnkkcamfcmhmaaDoor.Tx
set_option linter.unusedVariables false
set_option linter.unusedSimpArgs false
set_option maxRecDepth 100000

theorem lexP_few {s : List UInt8} (h : s.length ≤ 6000) : lexP s = lexV s 0 := by
  rw [lexP, if_neg (by omega)]
  have := lexG_few (s.length + 1) s 0 0 (by omega)
  rw [List.drop_zero, Nat.zero_add] at this
  exact this
theorem join_both {s t : List UInt8} {ts us : List Tk} (h : s.length + t.length ≤ 4000) (h1 : lexP s = .ok ts) (h2 : lexP t = .ok us) : lexP (s ++ 10 :: t) = .ok (ts ++ us.map (shT ((s.length + 1 : Nat) : Int))) := by
  rw [lexP_few (by omega)] at h1 h2
  rw [lexP_few (by simp; omega), lexV_join (by decide) t s.length s 0 ts (Nat.le_refl _) h1, show 0 + s.length + 1 = 0 + (s.length + 1) by omega, lexV_sh (s.length + 1) t.length t 0 (Nat.le_refl _), h2]
  rfl
theorem join_second {s t : List UInt8} {ts : List Tk} {p e : Int} (h : s.length + t.length ≤ 4000) (h1 : lexP s = .ok ts) (h2 : lexP t = .error (p, e)) : lexP (s ++ 10 :: t) = .error (p + ((s.length + 1 : Nat) : Int), e) := by
  rw [lexP_few (by omega)] at h1 h2
  rw [lexP_few (by simp; omega), lexV_join (by decide) t s.length s 0 ts (Nat.le_refl _) h1, show 0 + s.length + 1 = 0 + (s.length + 1) by omega, lexV_sh (s.length + 1) t.length t 0 (Nat.le_refl _), h2]
  rfl
theorem join_first_err {s t : List UInt8} {p e : Int} (h : s.length + t.length ≤ 4000) (h1 : lexP s = .error (p, e)) (he : e ≠ 90) : lexP (s ++ 10 :: t) = .error (p, e) := by
  rw [lexP_few (by omega)] at h1
  rw [lexP_few (by simp; omega)]
  exact lexV_stay (by decide) t s.length s 0 p e (Nat.le_refl _) he h1
/- A byte that ends every token: a blank, or a comment's first. -/
def stp (d : UInt8) : Bool := blkN d || d == 40
theorem stp_no {d : UInt8} (h : stp d = true) : ldN d = false ∧ hexN d = false ∧ d ≠ 72 ∧ d ≠ 88 ∧ d ≠ 46 := by
  have : d = 9 ∨ d = 10 ∨ d = 13 ∨ d = 32 ∨ d = 40 := by simpa [stp, blkN, or_assoc] using h
  rcases this with rfl | rfl | rfl | rfl | rfl <;> decide
theorem sign_stp {c d : UInt8} (h : stp d = true) : signB [c, d] = false := by
  have : d = 9 ∨ d = 10 ∨ d = 13 ∨ d = 32 ∨ d = 40 := by simpa [stp, blkN, or_assoc] using h
  rcases this with rfl | rfl | rfl | rfl | rfl <;> simp [signB, hasT, signs]
theorem take_tw (p : UInt8 → Bool) : ∀ x : List UInt8, x.take (x.takeWhile p).length = x.takeWhile p
  | [] => rfl
  | c :: r => by
    rw [List.takeWhile_cons]
    split
    · simp [take_tw p r]
    · rfl
theorem tw_allp (p : UInt8 → Bool) : ∀ x : List UInt8, (x.takeWhile p).all p = true
  | [] => rfl
  | c :: r => by
    rw [List.takeWhile_cons]
    split
    · rename_i h; simp [h]
    · rfl
theorem take_next {p : UInt8 → Bool} {x : List UInt8} {d : UInt8} (h : (x.drop (x.takeWhile p).length).head? = some d) : x.take ((x.takeWhile p).length + 1) = x.takeWhile p ++ [d] := by
  rw [List.head?_drop] at h
  obtain ⟨hi, hd⟩ := List.getElem?_eq_some_iff.1 h
  rw [List.take_succ_eq_append_getElem hi, take_tw, hd]
theorem numV_len {lim v len : Nat} {k a : Int} {t : Tk} {l : Nat} (h : numV lim v len k a = .ok (t, l)) : l = len := by
  unfold numV at h
  split at h
  · cases h
  · cases h; rfl
theorem ht_ne {x : List UInt8} {d : UInt8} (h1 : x.head? ≠ some d) : x.head? = some d → False := h1
/- A token's own bytes, and a byte that ends it. -/
theorem num_cut {x : List UInt8} {a : Int} {t : Tk} {len : Nat} (h : numT x a = .ok (t, len)) {d : UInt8} (hd : stp d = true) (y : List UInt8) : numT (x.take len ++ d :: y) a = .ok (t, len) := by
  obtain ⟨_, hx, h72, h88, h46⟩ := stp_no hd
  have ha := tw_allp hexN x
  unfold numT at h
  simp only [] at h
  split at h
  · rename_i e
    have hl := numV_len h
    subst hl
    rw [take_next e, List.append_assoc]
    unfold numT
    simp only []
    rw [List.singleton_append, tw_end ha (by decide), List.drop_left, if_pos (by rfl)]
    exact h
  split at h
  · rename_i e
    have hl := numV_len h
    subst hl
    rw [take_next e, List.append_assoc]
    unfold numT
    simp only []
    rw [List.singleton_append, tw_end ha (by decide), List.drop_left, if_neg (by simp), if_pos (by rfl)]
    exact h
  split at h
  · cases h
  rename_i hdg
  split at h
  · cases h
  have hl := numV_len h
  subst hl
  rw [take_tw]
  unfold numT
  simp only []
  rw [tw_end ha hx, List.drop_left, if_neg (by simp [h72]), if_neg (by simp [h88]), if_neg hdg, if_neg (by simp [h46])]
  exact h
end Go.Proofs.YthnkkcamfcmhmaaDoor.Lx
