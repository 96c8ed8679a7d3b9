/-
  A text's tokens, purely: two texts with a blank between; places.
-/
import Derived.Test.YthnkkcamfcmhmaaGreatDoorLx3
namespace Go.Proofs.YthnkkcamfcmhmaaGreatDoor.Lx
open Go.Proofs.YthnkkcamfcmhmaaGreatDoor.Tx
set_option linter.unusedVariables false
set_option linter.unusedSimpArgs false
set_option maxRecDepth 100000

theorem cmt_more : ∀ (t : List UInt8) (d k : Nat) (z : List UInt8), cmt d t = some k → cmt d (t ++ z) = some k
  | [], _, _, _, h => by cases h
  | [_], _, _, _, h => by cases h
  | a :: b :: r, d, k, z, h => by
    rw [cmt] at h
    show cmt d (a :: b :: (r ++ z)) = some k
    rw [cmt]
    split at h
    · rename_i e
      rw [if_pos e]
      obtain ⟨j, hj, rfl⟩ := Option.map_eq_some_iff.1 h
      rw [cmt_more r _ j z hj]; rfl
    · rename_i e
      rw [if_neg e]
      split at h
      · rename_i e2
        rw [if_pos e2]
        split at h
        · rename_i e3; rw [if_pos e3]; exact h
        · rename_i e3
          rw [if_neg e3]
          obtain ⟨j, hj, rfl⟩ := Option.map_eq_some_iff.1 h
          rw [cmt_more r _ j z hj]; rfl
      · rename_i e2
        rw [if_neg e2]
        obtain ⟨j, hj, rfl⟩ := Option.map_eq_some_iff.1 h
        have := cmt_more (b :: r) _ j z hj
        rw [List.cons_append] at this
        rw [this]; rfl
theorem cmB_more {d : UInt8} (hd : blkN d = true) (c : UInt8) (r y : List UInt8) : cmB (c :: (r ++ d :: y)) = cmB (c :: r) := by
  cases r with
  | nil =>
    have := (blk_no hd).2.2.2.2.2.1
    show (c == 40 && d == 42) = false
    simp [this]
  | cons b r => rfl
/- Blanks and comments, where a blank comes behind. -/
theorem skP_more {d : UInt8} (hd : blkN d = true) (y : List UInt8) : ∀ (n : Nat) (x : List UInt8), x.length ≤ n → (skP x).2 = true → skP (x ++ d :: y) = if (skP x).1 < x.length then skP x else (x.length + 1 + (skP y).1, (skP y).2)
  | n, [], _, _ => by
    rw [skP_nil, List.nil_append, skP_blank hd, if_neg (by simp)]
    simp [Nat.add_comm]
  | 0, c :: r, h, _ => by simp at h
  | n + 1, c :: r, h, h2 => by
    have hr : r.length ≤ n := by simpa using h
    rw [List.cons_append]
    cases hb : blkN c
    · cases hc : cmB (c :: r)
      · have hc' := (cmB_more hd c r y).trans hc
        rw [skP_stop hb hc, skP_stop hb hc', if_pos (by simp)]
      · have hc' := (cmB_more hd c r y).trans hc
        cases hk : cmt 0 (c :: r) with
        | none => rw [skP_none hb hc hk] at h2; cases h2
        | some k =>
          have hk' : cmt 0 (c :: (r ++ d :: y)) = some k := cmt_more (c :: r) 0 k (d :: y) hk
          have hle := cmt_le _ _ _ hk
          rw [skP_cmt hb hc hk] at h2 ⊢
          rw [skP_cmt hb hc' hk']
          have hdr : (c :: (r ++ d :: y)).drop k = (c :: r).drop k ++ d :: y := by rw [← List.cons_append, List.drop_append_of_le_length hle.2]
          have ih := skP_more hd y n ((c :: r).drop k) (by rw [List.length_drop]; simp only [List.length_cons] at h ⊢; omega) h2
          have hl2 : ((c :: r).drop k).length = (c :: r).length - k := List.length_drop
          rw [hdr, ih]
          by_cases e : (skP ((c :: r).drop k)).1 < ((c :: r).drop k).length
          · rw [if_pos e, if_pos (by show (skP ((c :: r).drop k)).1 + k < _; omega)]
          · rw [if_neg e, if_neg (by show ¬ (skP ((c :: r).drop k)).1 + k < _; omega)]
            simp only [Prod.mk.injEq, and_true]
            omega
    · rw [skP_blank hb] at h2 ⊢
      rw [skP_blank hb, skP_more hd y n r hr h2]
      by_cases e : (skP r).1 < r.length
      · rw [if_pos e, if_pos (by simp only [List.length_cons]; omega)]
      · rw [if_neg e, if_neg (by simp only [List.length_cons]; omega)]
        simp only [Prod.mk.injEq, and_true, List.length_cons]
        omega
/- Enough steps: the same. -/
theorem lexU_more : ∀ (n m : Nat) (x : List UInt8) (a : Nat), x.length < n → x.length < m → lexU n x a = lexU m x a
  | 0, _, _, _, h, _ => by omega
  | _, 0, _, _, _, h => by omega
  | n + 1, m + 1, x, a, h1, h2 => by
    rw [lexU, lexU]
    by_cases e : (skP x).1 < x.length
    · rw [if_pos e, if_pos e]
      cases ho : oneT (x.drop (skP x).1) ((a + (skP x).1 : Nat) : Int) with
      | error e => rfl
      | ok tl =>
        obtain ⟨t, len⟩ := tl
        have hl : 1 ≤ len := by
          rcases oneT_is (t := x.drop (skP x).1) (a := ((a + (skP x).1 : Nat) : Int)) with h | ⟨_, _, h, h1, _⟩
          · rw [ho] at h; rcases h with h | h | h <;> cases h
          · rw [ho] at h; cases h; exact h1
        simp only []
        rw [lexU_more n m _ _ (by rw [List.length_drop]; omega) (by rw [List.length_drop]; omega)]
    · rw [if_neg e, if_neg e]
def lexV (x : List UInt8) (a : Nat) : Except (Int × Int) (List Tk) := lexU (x.length + 1) x a
theorem lexV_bad {x : List UInt8} {a : Nat} (h : (skP x).2 = false) : lexV x a = .error (((a + (skP x).1 : Nat) : Int), 90) := by rw [lexV, lexU, if_pos h]
theorem lexV_end {x : List UInt8} {a : Nat} (h : (skP x).2 = true) (h2 : ¬ (skP x).1 < x.length) : lexV x a = .ok [] := by rw [lexV, lexU, if_neg (by simp [h]), if_neg h2]
theorem lexV_err {x : List UInt8} {a : Nat} {e : Int} (h : (skP x).2 = true) (h2 : (skP x).1 < x.length) (ho : oneT (x.drop (skP x).1) ((a + (skP x).1 : Nat) : Int) = .error e) : lexV x a = .error (((a + (skP x).1 : Nat) : Int), e) := by rw [lexV, lexU, if_neg (by simp [h]), if_pos h2, ho]
theorem one_len {t : List UInt8} {a : Int} {k : Tk} {len : Nat} (h : oneT t a = .ok (k, len)) : 1 ≤ len ∧ len ≤ t.length := by
  rcases oneT_is (t := t) (a := a) with h' | ⟨_, _, h', h1, h2⟩
  · rw [h] at h'; rcases h' with h' | h' | h' <;> cases h'
  · rw [h] at h'; cases h'; exact ⟨h1, h2⟩
theorem lexV_on {x : List UInt8} {a len : Nat} {t : Tk} (h : (skP x).2 = true) (h2 : (skP x).1 < x.length) (ho : oneT (x.drop (skP x).1) ((a + (skP x).1 : Nat) : Int) = .ok (t, len)) : lexV x a = (lexV (x.drop ((skP x).1 + len)) (a + (skP x).1 + len)).map (t :: ·) := by
  have hl := (one_len ho).1
  rw [lexV, lexU, if_neg (by simp [h]), if_pos h2, ho]
  simp only []
  rw [lexV, lexU_more _ ((x.drop ((skP x).1 + len)).length + 1) _ _ (by rw [List.length_drop]; omega) (by omega)]
/- What begins with nothing but blanks and comments. -/
theorem lexV_skip {z y : List UInt8} {m a : Nat} (h : skP z = (m + (skP y).1, (skP y).2)) (hz : z.drop m = y) (hm : m ≤ z.length) : lexV z a = lexV y (a + m) := by
  have hl : z.length = m + y.length := by rw [← hz, List.length_drop]; omega
  have e1 : (skP z).1 = m + (skP y).1 := by rw [h]
  have e2 : (skP z).2 = (skP y).2 := by rw [h]
  cases hb : (skP y).2
  · rw [lexV_bad (e2.trans hb), lexV_bad hb, e1, Nat.add_assoc]
  · by_cases hlt : (skP y).1 < y.length
    · have hd : z.drop (skP z).1 = y.drop (skP y).1 := by rw [e1, ← hz, List.drop_drop]
      have ha : a + (skP z).1 = a + m + (skP y).1 := by omega
      cases ho : oneT (y.drop (skP y).1) ((a + m + (skP y).1 : Nat) : Int) with
      | error e =>
        rw [lexV_err hb hlt ho, lexV_err (e2.trans hb) (by omega) (by rw [hd, ha]; exact ho), ha]
      | ok tl =>
        obtain ⟨t, len⟩ := tl
        rw [lexV_on hb hlt ho, lexV_on (e2.trans hb) (by omega) (by rw [hd, ha]; exact ho), ha]
        have : z.drop ((skP z).1 + len) = y.drop ((skP y).1 + len) := by rw [← List.drop_drop, hd, List.drop_drop]
        rw [this]
    · rw [lexV_end hb hlt, lexV_end (e2.trans hb) (by omega)]
theorem map_ahead {t : Tk} {us : List Tk} {o : Except (Int × Int) (List Tk)} : (ahead us o).map (t :: ·) = ahead (t :: us) o := by cases o <;> simp [ahead, Except.map]
/- Two texts, a blank between. -/
theorem lexV_join {d : UInt8} (hd : blkN d = true) (y : List UInt8) : ∀ (n : Nat) (x : List UInt8) (a : Nat) (ts : List Tk), x.length ≤ n → lexV x a = .ok ts → lexV (x ++ d :: y) a = ahead ts (lexV y (a + x.length + 1)) := by
  intro n
  induction n with
  | zero =>
    intro x a ts hn h
    have : x = [] := List.length_eq_zero_iff.1 (by omega)
    subst this
    have h' : lexV [] a = .ok [] := rfl
    rw [h'] at h
    cases h
    rw [ahead_nil]
    exact lexV_skip (by rw [List.nil_append, skP_blank hd]; simp [Nat.add_comm]) rfl (by simp)
  | succ n ih =>
    intro x a ts hn h
    cases hb : (skP x).2
    · rw [lexV_bad hb] at h; cases h
    · have hm := skP_more hd y x.length x (Nat.le_refl _) hb
      by_cases hlt : (skP x).1 < x.length
      · rw [if_pos hlt] at hm
        cases ho : oneT (x.drop (skP x).1) ((a + (skP x).1 : Nat) : Int) with
        | error e => rw [lexV_err hb hlt ho] at h; cases h
        | ok tl =>
          obtain ⟨t, len⟩ := tl
          have hl := one_len ho
          rw [List.length_drop] at hl
          rw [lexV_on hb hlt ho] at h
          obtain ⟨us, h3, rfl⟩ := map_ok h
          have hd1 : (x ++ d :: y).drop (skP (x ++ d :: y)).1 = x.drop (skP x).1 ++ d :: y := by rw [hm, List.drop_append_of_le_length (by omega)]
          have ho' : oneT ((x ++ d :: y).drop (skP (x ++ d :: y)).1) ((a + (skP (x ++ d :: y)).1 : Nat) : Int) = .ok (t, len) := by
            rw [hd1, hm, one_more hd _ _ _ (by rw [ho]; intro e; cases e), ho]
          rw [lexV_on (by rw [hm]; exact hb) (by rw [hm, List.length_append]; omega) ho', hm, List.drop_append_of_le_length (by omega), ih _ _ us (by rw [List.length_drop]; omega) h3, map_ahead, List.length_drop]
          congr 2
          omega
      · rw [if_neg hlt] at hm
        rw [lexV_end hb hlt] at h
        cases h
        rw [ahead_nil]
        have e := lexV_skip (z := x ++ d :: y) (y := y) (m := x.length + 1) (a := a) hm (by rw [← List.drop_drop, List.drop_left]; rfl) (by simp)
        rw [e, Nat.add_assoc]
/- An error that stays, whatever comes behind. -/
theorem lexV_stay {d : UInt8} (hd : blkN d = true) (y : List UInt8) : ∀ (n : Nat) (x : List UInt8) (a : Nat) (p e : Int), x.length ≤ n → e ≠ 90 → lexV x a = .error (p, e) → lexV (x ++ d :: y) a = .error (p, e) := by
  intro n
  induction n with
  | zero =>
    intro x a p e hn _ h
    have : x = [] := List.length_eq_zero_iff.1 (by omega)
    subst this
    have h' : lexV [] a = .ok [] := rfl
    rw [h'] at h
    cases h
  | succ n ih =>
    intro x a p e hn he h
    cases hb : (skP x).2
    · rw [lexV_bad hb] at h; cases h; exact absurd rfl he
    · have hm := skP_more hd y x.length x (Nat.le_refl _) hb
      by_cases hlt : (skP x).1 < x.length
      · rw [if_pos hlt] at hm
        have hd1 : (x ++ d :: y).drop (skP (x ++ d :: y)).1 = x.drop (skP x).1 ++ d :: y := by rw [hm, List.drop_append_of_le_length (by omega)]
        have hb' : (skP (x ++ d :: y)).2 = true := by rw [hm]; exact hb
        have hlt' : (skP (x ++ d :: y)).1 < (x ++ d :: y).length := by rw [hm, List.length_append]; omega
        cases ho : oneT (x.drop (skP x).1) ((a + (skP x).1 : Nat) : Int) with
        | error e' =>
          rw [lexV_err hb hlt ho] at h
          cases h
          have ho' : oneT ((x ++ d :: y).drop (skP (x ++ d :: y)).1) ((a + (skP (x ++ d :: y)).1 : Nat) : Int) = .error e := by
            rw [hd1, hm, one_more hd _ _ _ (by rw [ho]; intro e; cases e; exact he rfl), ho]
          rw [lexV_err hb' hlt' ho', hm]
        | ok tl =>
          obtain ⟨t, len⟩ := tl
          have hl := one_len ho
          rw [List.length_drop] at hl
          rw [lexV_on hb hlt ho] at h
          have ho' : oneT ((x ++ d :: y).drop (skP (x ++ d :: y)).1) ((a + (skP (x ++ d :: y)).1 : Nat) : Int) = .ok (t, len) := by
            rw [hd1, hm, one_more hd _ _ _ (by rw [ho]; intro e; cases e), ho]
          have h3 : lexV (x.drop ((skP x).1 + len)) (a + (skP x).1 + len) = .error (p, e) := by
            cases hx : lexV (x.drop ((skP x).1 + len)) (a + (skP x).1 + len) with
            | error q => rw [hx] at h; simpa [Except.map] using h
            | ok us => rw [hx] at h; cases h
          rw [lexV_on hb' hlt' ho', hm, List.drop_append_of_le_length (by omega), ih _ _ _ _ (by rw [List.length_drop]; omega) he h3]
          rfl
      · rw [lexV_end hb hlt] at h; cases h
end Go.Proofs.YthnkkcamfcmhmaaGreatDoor.Lx
