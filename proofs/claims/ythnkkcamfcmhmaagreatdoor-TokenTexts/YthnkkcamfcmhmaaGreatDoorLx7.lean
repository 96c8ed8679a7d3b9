/-
  A text's tokens, purely: a token's own bytes and what ends it; blanks and comments ahead of anything.
-/
import Derived.Test.YthnkkcamfcmhmaaGreatDoorLx6
namespace Go.Proofs.YthnkkcamfcmhmaaGreatDoor.Lx
open Go.Proofs.YthnkkcamfcmhmaaGreatDoor.Tx
set_option linter.unusedVariables false
set_option linter.unusedSimpArgs false
set_option maxRecDepth 100000

theorem one_cut {x : List UInt8} {a : Int} {t : Tk} {len : Nat} (h : oneT x a = .ok (t, len)) {d : UInt8} (hd : stp d = true) (y : List UInt8) : oneT (x.take len ++ d :: y) a = .ok (t, len) := by
  obtain ⟨hld, _⟩ := stp_no hd
  have hlen := one_len h
  cases x with
  | nil => cases h
  | cons c r =>
    by_cases n1 : letN c = true
    · have hw : (c :: r).takeWhile ldN = c :: r.takeWhile ldN := by rw [List.takeWhile_cons, if_pos (by simp [ldN, n1])]
      have key : len = ((c :: r).takeWhile ldN).length := by
        unfold oneT at h
        simp only [] at h
        rw [if_pos n1] at h
        split at h
        · cases h; rfl
        split at h
        · cases h
        · cases h; rfl
      have e1 : (c :: r).take len ++ d :: y = c :: (r.takeWhile ldN ++ d :: y) := by rw [key, take_tw, hw]; rfl
      have e2 : (c :: (r.takeWhile ldN ++ d :: y)).takeWhile ldN = (c :: r).takeWhile ldN := by
        rw [← List.cons_append, ← hw]
        exact tw_end (tw_allp ldN _) hld y
      rw [e1]
      unfold oneT at h ⊢
      simp only [] at h ⊢
      rw [if_pos n1] at h ⊢
      rw [e2]
      exact h
    · by_cases n2 : digN c = true
      · rw [oneT_num n2] at h
        have hc := num_cut h hd y
        obtain ⟨m, rfl⟩ : ∃ m, len = m + 1 := ⟨len - 1, by omega⟩
        rw [List.take_succ_cons, List.cons_append] at hc ⊢
        rw [oneT_num n2]
        exact hc
      · unfold oneT at h
        simp only [] at h
        rw [if_neg n1, if_neg n2] at h
        split at h
        · rename_i n3
          subst n3
          split at h
          · cases h
          rename_i n4
          have n4' : (r.drop (r.takeWhile strN).length).head? = some 34 := Classical.not_not.1 n4
          split at h
          · cases h
          rename_i n5
          cases h
          rw [List.take_succ_cons, take_next n4', List.cons_append, List.append_assoc, List.singleton_append]
          unfold oneT
          simp only []
          rw [if_neg n1, if_neg n2, if_pos trivial, tw_end (tw_allp strN r) (by decide), List.drop_left, if_neg (by simp), if_neg n5]
        · rename_i n3
          split at h
          · rename_i n4
            cases h
            cases r with
            | nil => have := n4.1; simp at this
            | cons e r =>
              have n4' : signB [c, e] = true := n4.2
              show oneT (c :: e :: d :: y) a = _
              unfold oneT
              simp only []
              rw [if_neg n1, if_neg n2, if_neg n3, if_pos ⟨by simp, n4'⟩]
              rfl
          · split at h
            · rename_i n4 n5
              cases h
              show oneT (c :: d :: y) a = _
              unfold oneT
              simp only []
              rw [if_neg n1, if_neg n2, if_neg n3, if_neg (by intro hh; have h2 : signB [c, d] = true := hh.2; rw [sign_stp hd] at h2; cases h2), if_pos n5]
            · cases h
theorem cmt_take : ∀ (t : List UInt8) (d k : Nat), cmt d t = some k → cmt d (t.take k) = some k
  | [], _, _, h => by cases h
  | [_], _, _, h => by cases h
  | a :: b :: r, d, k, h => by
    have hk := cmt_le _ _ _ h
    rw [cmt] at h
    obtain ⟨m, rfl⟩ : ∃ m, k = m + 2 := ⟨k - 2, by omega⟩
    rw [List.take_succ_cons, List.take_succ_cons, cmt]
    split at h
    · rename_i e
      rw [if_pos e]
      obtain ⟨j, hj, hjk⟩ := Option.map_eq_some_iff.1 h
      obtain rfl : j = m := by omega
      rw [cmt_take r _ _ hj]; rfl
    · rename_i e
      rw [if_neg e]
      split at h
      · rename_i e2
        rw [if_pos e2]
        split at h
        · rename_i e3; rw [if_pos e3]; exact h
        · rename_i e3
          rw [if_neg e3]
          obtain ⟨j, hj, hjk⟩ := Option.map_eq_some_iff.1 h
          obtain rfl : j = m := by omega
          rw [cmt_take r _ _ hj]; rfl
      · rename_i e2
        rw [if_neg e2]
        obtain ⟨j, hj, hjk⟩ := Option.map_eq_some_iff.1 h
        obtain rfl : j = m + 1 := by omega
        have := cmt_take (b :: r) _ _ hj
        rw [List.take_succ_cons] at this
        rw [this]; rfl
/- What was passed over, ahead of anything. -/
theorem skP_gap (z : List UInt8) : ∀ (n : Nat) (x : List UInt8), x.length ≤ n → (skP x).2 = true → skP (x.take (skP x).1 ++ z) = ((skP x).1 + (skP z).1, (skP z).2)
  | n, [], _, _ => by rw [skP_nil]; simp
  | 0, c :: r, h, _ => by simp at h
  | n + 1, c :: r, h, h2 => by
    have hr : r.length ≤ n := by simpa using h
    cases hb : blkN c
    · cases hc : cmB (c :: r)
      · rw [skP_stop hb hc]; simp
      · cases hk : cmt 0 (c :: r) with
        | none => rw [skP_none hb hc hk] at h2; cases h2
        | some k =>
          have hle := cmt_le _ _ _ hk
          rw [skP_cmt hb hc hk] at h2 ⊢
          have ih := skP_gap z n ((c :: r).drop k) (by rw [List.length_drop]; simp only [List.length_cons] at h ⊢; omega) h2
          simp only [] at h2 ⊢
          have e1 : (c :: r).take ((skP ((c :: r).drop k)).1 + k) = (c :: r).take k ++ ((c :: r).drop k).take (skP ((c :: r).drop k)).1 := by rw [Nat.add_comm, List.take_add]
          rw [e1, List.append_assoc]
          generalize hw : ((c :: r).drop k).take (skP ((c :: r).drop k)).1 ++ z = W at ih
          have hk' : cmt 0 ((c :: r).take k ++ W) = some k := cmt_more _ _ _ _ (cmt_take _ _ _ hk)
          have hlk : ((c :: r).take k).length = k := by rw [List.length_take]; omega
          obtain ⟨b, r', hr'⟩ : ∃ b r', r = b :: r' := by
            cases r with
            | nil => cases hc
            | cons b r' => exact ⟨b, r', rfl⟩
          obtain ⟨m, hm⟩ : ∃ m, k = m + 2 := ⟨k - 2, by omega⟩
          have e2 : (c :: r).take k ++ W = c :: (b :: (r'.take m ++ W)) := by rw [hr', hm]; rfl
          have hc' : cmB ((c :: r).take k ++ W) = true := by rw [e2]; rw [hr'] at hc; exact hc
          have e3 : ((c :: r).take k ++ W).drop k = W := by
            have := List.drop_left (l₁ := (c :: r).take k) (l₂ := W)
            rwa [hlk] at this
          have hsk := skP_cmt (c := c) (r := b :: (r'.take m ++ W)) (k := k) hb (by rw [← e2]; exact hc') (by rw [← e2]; exact hk')
          rw [← e2, e3, ih] at hsk
          rw [hsk]
          simp only [Prod.mk.injEq, and_true]
          omega
    · rw [skP_blank hb] at h2 ⊢
      have ih := skP_gap z n r hr h2
      rw [List.take_succ_cons, List.cons_append, skP_blank hb, ih]
      simp only [Prod.mk.injEq, and_true]
      omega
/- Where it stops. -/
theorem skP_stops : ∀ (n : Nat) (x : List UInt8), x.length ≤ n → (skP x).2 = true → ∀ c r, x.drop (skP x).1 = c :: r → blkN c = false ∧ cmB (c :: r) = false
  | n, [], _, _, c, r, h => by simp at h
  | 0, _ :: _, h, _, _, _, _ => by simp at h
  | n + 1, c :: r, h, h2, c', r', hx => by
    have hr : r.length ≤ n := by simpa using h
    cases hb : blkN c
    · cases hc : cmB (c :: r)
      · rw [skP_stop hb hc] at hx
        simp at hx
        obtain ⟨rfl, rfl⟩ := hx
        exact ⟨hb, hc⟩
      · cases hk : cmt 0 (c :: r) with
        | none => rw [skP_none hb hc hk] at h2; cases h2
        | some k =>
          have hle := cmt_le _ _ _ hk
          rw [skP_cmt hb hc hk] at h2 hx
          simp only [] at h2 hx
          rw [Nat.add_comm, ← List.drop_drop] at hx
          exact skP_stops n ((c :: r).drop k) (by rw [List.length_drop]; simp only [List.length_cons] at h ⊢; omega) h2 c' r' hx
    · rw [skP_blank hb] at h2 hx
      simp only [List.drop_succ_cons] at hx
      exact skP_stops n r hr h2 c' r' hx
end Go.Proofs.YthnkkcamfcmhmaaGreatDoor.Lx
