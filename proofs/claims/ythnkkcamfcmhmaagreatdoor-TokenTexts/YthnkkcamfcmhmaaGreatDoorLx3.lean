/-
  A text's tokens, purely: without a limit, and with a blank behind.
-/
import Derived.Test.YthnkkcamfcmhmaaGreatDoorLx2
namespace Go.Proofs.YthnkkcamfcmhmaaGreatDoor.Lx
open Go.Proofs.YthnkkcamfcmhmaaGreatDoor.Tx
set_option linter.unusedVariables false
set_option linter.unusedSimpArgs false
set_option maxRecDepth 100000

def lexU : Nat → List UInt8 → Nat → Except (Int × Int) (List Tk)
  | 0, _, _ => .ok []
  | n + 1, x, a =>
    if (skP x).2 = false then .error (((a + (skP x).1 : Nat) : Int), 90)
    else if (skP x).1 < x.length then
      match oneT (x.drop (skP x).1) ((a + (skP x).1 : Nat) : Int) with
      | .error e => .error (((a + (skP x).1 : Nat) : Int), e)
      | .ok (t, len) => (lexU n (x.drop ((skP x).1 + len)) (a + (skP x).1 + len)).map (t :: ·)
    else .ok []
theorem map_ok {o : Except (Int × Int) (List Tk)} {t : Tk} {ts : List Tk} (h : o.map (t :: ·) = .ok ts) : ∃ us, o = .ok us ∧ ts = t :: us := by
  cases o with
  | error e => cases h
  | ok us => exact ⟨us, rfl, by simpa [Except.map] using h.symm⟩
/- As many tokens as may be: the same. -/
theorem lexG_of : ∀ (n : Nat) (s : List UInt8) (p k : Nat) (ts : List Tk), lexU n (s.drop p) p = .ok ts → k + ts.length ≤ 6000 → lexG n s (p + (skP (s.drop p)).1) (skP (s.drop p)).2 k = .ok ts
  | 0, s, p, k, ts, h, _ => by rw [lexU] at h; rw [lexG]; exact h
  | n + 1, s, p, k, ts, h, hk => by
    rw [lexU] at h
    rw [lexG]
    split at h
    · cases h
    rename_i h1
    rw [if_neg h1]
    split at h
    · rename_i h2
      rw [List.length_drop] at h2
      rw [if_pos (by omega)]
      rw [List.drop_drop] at h
      split at h
      · cases h
      · rename_i t len ho
        rw [ho]
        simp only []
        obtain ⟨us, h3, rfl⟩ := map_ok h
        simp only [List.length_cons] at hk
        rw [if_neg (by omega)]
        have ih := lexG_of n s (p + (skP (s.drop p)).1 + len) (k + 1) us (by
          rw [List.drop_drop] at h3
          rw [show p + (skP (s.drop p)).1 + len = p + ((skP (s.drop p)).1 + len) by omega] at h3 ⊢
          exact h3) (by omega)
        rw [ih]
        rfl
    · rename_i h2
      rw [List.length_drop] at h2
      rw [if_neg (by omega)]
      exact h
/- Few bytes: the same, whatever it is. -/
theorem lexG_few : ∀ (n : Nat) (s : List UInt8) (p k : Nat), k + (s.length - p) ≤ 6000 → lexG n s (p + (skP (s.drop p)).1) (skP (s.drop p)).2 k = lexU n (s.drop p) p
  | 0, s, p, k, _ => rfl
  | n + 1, s, p, k, hk => by
    rw [lexU, lexG]
    split
    · rfl
    · by_cases h2 : (skP (s.drop p)).1 < (s.drop p).length
      · rw [if_pos h2]
        rw [List.length_drop] at h2
        rw [if_pos (by omega), List.drop_drop]
        cases ho : oneT (s.drop (p + (skP (s.drop p)).1)) ((p + (skP (s.drop p)).1 : Nat) : Int) with
        | error e => rfl
        | ok tl =>
          obtain ⟨t, len⟩ := tl
          simp only []
          rw [if_neg (by omega), List.drop_drop]
          have hl : 1 ≤ len := by
            rcases oneT_is (t := s.drop (p + (skP (s.drop p)).1)) (a := ((p + (skP (s.drop p)).1 : Nat) : Int)) with h | ⟨_, _, h, h1, _⟩
            · rw [ho] at h; rcases h with h | h | h <;> cases h
            · rw [ho] at h; cases h; exact h1
          have ih := lexG_few n s (p + (skP (s.drop p)).1 + len) (k + 1) (by omega)
          rw [ih, show p + ((skP (s.drop p)).1 + len) = p + (skP (s.drop p)).1 + len by omega]
      · rw [if_neg h2]
        rw [List.length_drop] at h2
        rw [if_neg (by omega)]
/- A blank behind. -/
theorem blk_is {d : UInt8} (h : blkN d = true) : d = 9 ∨ d = 10 ∨ d = 13 ∨ d = 32 := by simpa [blkN, or_assoc] using h
theorem blk_no {d : UInt8} (h : blkN d = true) : ldN d = false ∧ hexN d = false ∧ d ≠ 72 ∧ d ≠ 88 ∧ d ≠ 46 ∧ d ≠ 42 ∧ d ≠ 61 ∧ d ≠ 40 := by
  rcases blk_is h with rfl | rfl | rfl | rfl <;> decide
theorem tw_more {p : UInt8 → Bool} {d : UInt8} (hd : p d = false) : ∀ x y : List UInt8, (x ++ d :: y).takeWhile p = x.takeWhile p
  | [], y => by rw [List.nil_append, List.takeWhile_cons, if_neg (by simp [hd])]; rfl
  | c :: r, y => by
    rw [List.cons_append, List.takeWhile_cons, List.takeWhile_cons, tw_more hd r y]
theorem head_more {d : UInt8} (x y : List UInt8) {v : UInt8} (hv : d ≠ v) : ((x ++ d :: y).head? = some v) = (x.head? = some v) := by
  cases x with
  | nil => simp [hv]
  | cons c r => rfl
theorem tail_more {d : UInt8} (x y : List UInt8) {v : UInt8} (hv : d ≠ v) (hx : x ≠ []) : ((x ++ d :: y).tail.head? = some v) = (x.tail.head? = some v) := by
  cases x with
  | nil => exact absurd rfl hx
  | cons c r => exact head_more r y hv
theorem numT_more {d : UInt8} (hd : blkN d = true) (x y : List UInt8) (a : Int) : numT (x ++ d :: y) a = numT x a := by
  obtain ⟨_, h1, h2, h3, h4, _⟩ := blk_no hd
  have hl := tw_le hexN x
  unfold numT
  simp only []
  rw [tw_more h1, List.drop_append_of_le_length hl]
  generalize hr : x.drop (x.takeWhile hexN).length = r
  cases r with
  | nil => simp [h2, h3, h4]
  | cons u z =>
    cases z with
    | nil => simp [h4]
    | cons v z => rfl
theorem sign_blank {c d : UInt8} (hd : blkN d = true) : signB [c, d] = false := by
  rcases blk_is hd with rfl | rfl | rfl | rfl <;> simp [signB, hasT, signs]
theorem one_more {d : UInt8} (hd : blkN d = true) (x y : List UInt8) (a : Int) (h : oneT x a ≠ .error 90) : oneT (x ++ d :: y) a = oneT x a := by
  cases x with
  | nil => exact absurd rfl h
  | cons c r =>
    obtain ⟨h1, _⟩ := blk_no hd
    have e1 : (c :: (r ++ d :: y)).takeWhile ldN = (c :: r).takeWhile ldN := tw_more h1 (c :: r) y
    have e2 : numT (c :: (r ++ d :: y)) a = numT (c :: r) a := numT_more hd (c :: r) y a
    rw [List.cons_append]
    unfold oneT at h ⊢
    simp only [] at h ⊢
    rw [e1, e2]
    split
    · rfl
    · rename_i n1
      rw [if_neg n1] at h
      split
      · rfl
      · rename_i n2
        rw [if_neg n2] at h
        split
        · rename_i n3
          rw [if_pos n3] at h
          split at h
          · exact absurd rfl h
          · rename_i n4
            have n4' : (r.drop (r.takeWhile strN).length).head? = some 34 := Classical.not_not.1 n4
            have hl := tw_le strN r
            obtain ⟨b, hb⟩ : ∃ b, r.takeWhile strN = b := ⟨_, rfl⟩
            rw [hb] at n4' hl
            obtain ⟨z, hz⟩ : ∃ z, r.drop b.length = 34 :: z := by
              cases hr : r.drop b.length with
              | nil => rw [hr] at n4'; simp at n4'
              | cons u z => rw [hr] at n4'; simp at n4'; exact ⟨z, by rw [n4']⟩
            have hrb : r = b ++ 34 :: z := by
              have := List.takeWhile_append_dropWhile (p := strN) (l := r)
              rw [hb] at this
              rw [← this, List.drop_left] at hz
              rw [← this, hz]
            have e3 : (r ++ d :: y).takeWhile strN = b := by
              rw [hrb, List.append_assoc, List.cons_append, tw_more (by decide), ← tw_more (p := strN) (d := 34) (by decide) b z, ← hrb, hb]
            rw [e3, hb, List.drop_append_of_le_length hl, hz]
            rfl
        · cases r with
          | nil => simp [sign_blank hd]
          | cons e r => simp
end Go.Proofs.YthnkkcamfcmhmaaGreatDoor.Lx
