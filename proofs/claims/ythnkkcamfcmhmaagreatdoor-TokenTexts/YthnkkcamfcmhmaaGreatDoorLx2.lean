/-
  A text's tokens, purely: one behind the other.
-/
import Derived.Test.YthnkkcamfcmhmaaGreatDoorLx1
namespace Go.Proofs.YthnkkcamfcmhmaaGreatDoor.Lx
open Go.Proofs.YthnkkcamfcmhmaaGreatDoor.Tx
set_option linter.unusedVariables false
set_option linter.unusedSimpArgs false
set_option maxRecDepth 100000

theorem numV_is {lim v len : Nat} {k a : Int} {o : Except Int (Tk × Nat)} (h : numV lim v len k a = o) : o = .error 91 ∨ ∃ t, o = .ok (t, len) := by
  unfold numV at h
  split at h
  · exact .inl h.symm
  · exact .inr ⟨_, h.symm⟩
theorem tw_pos {p : UInt8 → Bool} {c : UInt8} {r : List UInt8} (h : p c = true) : 1 ≤ ((c :: r).takeWhile p).length := by rw [List.takeWhile_cons, if_pos h]; simp
theorem tw_head {p : UInt8 → Bool} {t : List UInt8} {d : UInt8} (h : (t.drop (t.takeWhile p).length).head? = some d) : (t.takeWhile p).length + 1 ≤ t.length := by
  rw [List.head?_drop] at h
  have := (List.getElem?_eq_some_iff.1 h).1
  omega
theorem numT_is {c : UInt8} {r : List UInt8} {a : Int} (hc : digN c = true) : (numT (c :: r) a = .error 90 ∨ numT (c :: r) a = .error 91) ∨ ∃ t len, numT (c :: r) a = .ok (t, len) ∧ 1 ≤ len ∧ len ≤ (c :: r).length := by
  have hx : hexN c = true := by simp [hexN, hexI, show digI c.toNat = true from hc]
  have hp := tw_pos (r := r) hx
  have hl := tw_le hexN (c :: r)
  unfold numT
  simp only []
  split
  · rename_i h
    have := tw_head h
    rcases numV_is (o := _) rfl with h1 | ⟨t, h1⟩
    · exact .inl (.inr h1)
    · exact .inr ⟨t, _, h1, by omega, by omega⟩
  · split
    · rename_i h
      have := tw_head h
      rcases numV_is (o := _) rfl with h1 | ⟨t, h1⟩
      · exact .inl (.inr h1)
      · exact .inr ⟨t, _, h1, by omega, by omega⟩
    · split
      · exact .inl (.inl rfl)
      · split
        · exact .inl (.inl rfl)
        · rcases numV_is (o := _) rfl with h1 | ⟨t, h1⟩
          · exact .inl (.inr h1)
          · exact .inr ⟨t, _, h1, hp, hl⟩
/- What stands at the beginning is one of the errors, or has one byte at least. -/
theorem oneT_is {t : List UInt8} {a : Int} : (oneT t a = .error 90 ∨ oneT t a = .error 91 ∨ oneT t a = .error 2) ∨ ∃ k len, oneT t a = .ok (k, len) ∧ 1 ≤ len ∧ len ≤ t.length := by
  cases t with
  | nil => exact .inl (.inl rfl)
  | cons c r =>
    unfold oneT
    simp only []
    split
    · rename_i h
      have hp := tw_pos (r := r) (p := ldN) (c := c) (by simp [ldN, h])
      have hl := tw_le ldN (c :: r)
      split
      · exact .inr ⟨_, _, rfl, hp, hl⟩
      · split
        · exact .inl (.inr (.inr rfl))
        · exact .inr ⟨_, _, rfl, hp, hl⟩
    · split
      · rename_i h
        rcases numT_is (r := r) (a := a) h with (h1 | h1) | h1
        · exact .inl (.inl h1)
        · exact .inl (.inr (.inl h1))
        · exact .inr (by obtain ⟨x, y, h2, h3, h4⟩ := h1; exact ⟨x, y, h2, h3, h4⟩)
      · split
        · split
          · exact .inl (.inl rfl)
          · rename_i h
            have h2 : (r.drop (r.takeWhile strN).length).head? = some 34 := by
              by_cases h3 : (r.drop (r.takeWhile strN).length).head? = some 34
              · exact h3
              · exact absurd h3 h
            have := tw_head h2
            split
            · exact .inl (.inr (.inr rfl))
            · exact .inr ⟨_, _, rfl, by omega, by simp only [List.length_cons]; omega⟩
        · split
          · rename_i h
            exact .inr ⟨_, _, rfl, by omega, by have := h.1; simp only [List.length_cons]; omega⟩
          · split
            · exact .inr ⟨_, _, rfl, by omega, by simp only [List.length_cons]; omega⟩
            · exact .inl (.inl rfl)
/- From place q on, where blanks have been passed over (or not: ok), behind k tokens. -/
def lexG : Nat → List UInt8 → Nat → Bool → Nat → Except (Int × Int) (List Tk)
  | 0, _, _, _, _ => .ok []
  | n + 1, s, q, ok, k =>
    if ok = false then .error ((q : Int), 90)
    else if q < s.length then
      match oneT (s.drop q) q with
      | .error e => .error ((q : Int), e)
      | .ok (t, len) => if k = 6000 then .error ((q : Int), 3) else (lexG n s (q + len + (skP (s.drop (q + len))).1) (skP (s.drop (q + len))).2 (k + 1)).map (t :: ·)
    else .ok []
def lexP (s : List UInt8) : Except (Int × Int) (List Tk) := if 16384 < s.length then .error (0, 2) else lexG (s.length + 1) s (skP s).1 (skP s).2 0
/- Tokens ahead. -/
def ahead (d : List Tk) (o : Except (Int × Int) (List Tk)) : Except (Int × Int) (List Tk) := o.map (d ++ ·)
theorem ahead_nil (o : Except (Int × Int) (List Tk)) : ahead [] o = o := by cases o <;> rfl
theorem ahead_cons (d : List Tk) (t : Tk) (o : Except (Int × Int) (List Tk)) : ahead d (o.map (t :: ·)) = ahead (d ++ [t]) o := by cases o <;> simp [ahead, Except.map]
theorem lexG_bad {n : Nat} {s : List UInt8} {q k : Nat} : lexG (n + 1) s q false k = .error ((q : Int), 90) := by rw [lexG, if_pos rfl]
theorem lexG_end {n : Nat} {s : List UInt8} {q k : Nat} (h : ¬ q < s.length) : lexG (n + 1) s q true k = .ok [] := by rw [lexG, if_neg (by simp), if_neg h]
theorem lexG_err {n : Nat} {s : List UInt8} {q k : Nat} {e : Int} (h : q < s.length) (ho : oneT (s.drop q) q = .error e) : lexG (n + 1) s q true k = .error ((q : Int), e) := by rw [lexG, if_neg (by simp), if_pos h, ho]
theorem lexG_many {n : Nat} {s : List UInt8} {q len : Nat} {t : Tk} (h : q < s.length) (ho : oneT (s.drop q) q = .ok (t, len)) : lexG (n + 1) s q true 6000 = .error ((q : Int), 3) := by rw [lexG, if_neg (by simp), if_pos h, ho]; rfl
theorem lexG_on {n : Nat} {s : List UInt8} {q k len : Nat} {t : Tk} (h : q < s.length) (hk : k ≠ 6000) (ho : oneT (s.drop q) q = .ok (t, len)) : lexG (n + 1) s q true k = (lexG n s (q + len + (skP (s.drop (q + len))).1) (skP (s.drop (q + len))).2 (k + 1)).map (t :: ·) := by
  rw [lexG, if_neg (by simp), if_pos h, ho]
  simp only []
  rw [if_neg hk]
end Go.Proofs.YthnkkcamfcmhmaaGreatDoor.Lx
