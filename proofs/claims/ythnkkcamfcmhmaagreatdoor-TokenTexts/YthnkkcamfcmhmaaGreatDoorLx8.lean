/-
  A text's tokens, purely: blanks and comments ahead of every token change places alone.
-/
import Derived.Test.YthnkkcamfcmhmaaGreatDoorLx7
namespace Go.Proofs.YthnkkcamfcmhmaaGreatDoor.Lx
open Go.Proofs.YthnkkcamfcmhmaaGreatDoor.Tx
set_option linter.unusedVariables false
set_option linter.unusedSimpArgs false
set_option maxRecDepth 100000

def cB : List UInt8 := [40, 42, 32, 120, 32, 40, 42, 32, 42, 41, 32, 34, 32, 42, 41]
def tB : List UInt8 := [32, 40, 42, 42, 42, 41]
theorem skP_cB (z : List UInt8) : skP (cB ++ z) = (15 + (skP z).1, (skP z).2) := by
  have h : skP cB = (15, true) := by decide
  have := skP_gap z 15 cB (by decide) (by rw [h])
  rw [h] at this
  exact this
theorem skP_bl (z : List UInt8) : ∀ (l : List UInt8), l.all blkN = true → skP (l ++ z) = (l.length + (skP z).1, (skP z).2)
  | [], _ => by simp
  | c :: l, h => by
    simp only [List.all_cons, Bool.and_eq_true] at h
    rw [List.cons_append, skP_blank h.1, skP_bl z l h.2]
    simp only [List.length_cons, Prod.mk.injEq, and_true]
    omega
theorem skP_pre {l : List UInt8} (h : l.all blkN = true) (z : List UInt8) : skP ((l ++ cB) ++ z) = ((l ++ cB).length + (skP z).1, (skP z).2) := by
  rw [List.append_assoc, skP_bl _ l h, skP_cB, List.length_append, Nat.add_assoc]
  rfl
theorem pre_first {l : List UInt8} (h : l.all blkN = true) : ∃ d y, l ++ cB = d :: y ∧ stp d = true := by
  cases l with
  | nil => exact ⟨40, _, rfl, rfl⟩
  | cons c l =>
    simp only [List.all_cons, Bool.and_eq_true] at h
    exact ⟨c, _, rfl, by simp [stp, h.1]⟩
theorem skP_first {x : List UInt8} (h : 0 < (skP x).1) : ∃ d y, x = d :: y ∧ stp d = true := by
  cases x with
  | nil => rw [skP_nil] at h; simp at h
  | cons c r =>
    refine ⟨c, r, rfl, ?_⟩
    cases hb : blkN c
    · cases hc : cmB (c :: r)
      · rw [skP_stop hb hc] at h; simp at h
      · cases r with
        | nil => cases hc
        | cons b r =>
          have hc' : (c == 40 && b == 42) = true := hc
          simp only [Bool.and_eq_true] at hc'
          simp [stp, hc'.1]
    · simp [stp, hb]
theorem numV_place {lim v len : Nat} {k a : Int} {t : Tk} {l : Nat} (h : numV lim v len k a = .ok (t, l)) : t.a = a := by
  unfold numV at h
  split at h
  · cases h
  · cases h; rfl
theorem one_place {x : List UInt8} {a : Int} {t : Tk} {len : Nat} (h : oneT x a = .ok (t, len)) : t.a = a := by
  cases x with
  | nil => cases h
  | cons c r =>
    unfold oneT at h
    simp only [] at h
    split at h
    · split at h
      · cases h; rfl
      split at h
      · cases h
      · cases h; rfl
    split at h
    · unfold numT at h
      simp only [] at h
      split at h
      · exact numV_place h
      split at h
      · exact numV_place h
      split at h
      · cases h
      split at h
      · cases h
      exact numV_place h
    split at h
    · split at h
      · cases h
      split at h
      · cases h
      · cases h; rfl
    split at h
    · cases h; rfl
    split at h
    · cases h; rfl
    · cases h
theorem one_any {x : List UInt8} {a : Int} {t : Tk} {len : Nat} (h : oneT x a = .ok (t, len)) (b : Int) : oneT x b = .ok (pl t b, len) := by
  have hp := one_place h
  have := oneT_sh x a (b - a)
  rw [show a + (b - a) = b by omega, h] at this
  rw [this]
  show Except.ok (shT (b - a) t, len) = _
  simp only [shT, pl, hp]
  rw [show a + (b - a) = b by omega]
def spr (B x : List UInt8) (a : Nat) : List Tk → List UInt8
  | [] => x ++ tB
  | t :: ts => x.take (t.a.toNat - a) ++ (B ++ spr B (x.drop (t.a.toNat - a)) t.a.toNat ts)
/- What lexV says of the first token. -/
theorem lexV_cons {x : List UInt8} {a : Nat} {t : Tk} {us : List Tk} (h : lexV x a = .ok (t :: us)) : (skP x).2 = true ∧ (skP x).1 < x.length ∧ t.a = ((a + (skP x).1 : Nat) : Int) ∧ ∃ len, oneT (x.drop (skP x).1) ((a + (skP x).1 : Nat) : Int) = .ok (t, len) ∧ 1 ≤ len ∧ (skP x).1 + len ≤ x.length ∧ lexV (x.drop ((skP x).1 + len)) (a + (skP x).1 + len) = .ok us := by
  cases hb : (skP x).2
  · rw [lexV_bad hb] at h; cases h
  · by_cases hlt : (skP x).1 < x.length
    · cases ho : oneT (x.drop (skP x).1) ((a + (skP x).1 : Nat) : Int) with
      | error e => rw [lexV_err hb hlt ho] at h; cases h
      | ok tl =>
        obtain ⟨t', len⟩ := tl
        rw [lexV_on hb hlt ho] at h
        obtain ⟨us', h3, h4⟩ := map_ok h
        cases h4
        have hl := one_len ho
        rw [List.length_drop] at hl
        exact ⟨rfl, hlt, one_place ho, len, rfl, hl.1, by omega, h3⟩
    · rw [lexV_end hb hlt] at h; cases h
theorem lexV_nil {x : List UInt8} {a : Nat} (h : lexV x a = .ok []) : (skP x).2 = true ∧ (skP x).1 = x.length := by
  cases hb : (skP x).2
  · rw [lexV_bad hb] at h; cases h
  · by_cases hlt : (skP x).1 < x.length
    · cases ho : oneT (x.drop (skP x).1) ((a + (skP x).1 : Nat) : Int) with
      | error e => rw [lexV_err hb hlt ho] at h; cases h
      | ok tl =>
        obtain ⟨t', len⟩ := tl
        rw [lexV_on hb hlt ho] at h
        obtain ⟨us', h3, h4⟩ := map_ok h
        cases h4
    · have := skP_le x
      exact ⟨rfl, by omega⟩
theorem spr_cut {B x : List UInt8} {a len : Nat} {us : List Tk} (hl : len ≤ x.length) (h : lexV (x.drop len) (a + len) = .ok us) : spr B x a us = x.take len ++ spr B (x.drop len) (a + len) us := by
  cases us with
  | nil => rw [spr, spr, ← List.append_assoc, List.take_append_drop]
  | cons u vs =>
    obtain ⟨_, _, hp, _⟩ := lexV_cons h
    rw [spr, spr]
    have e1 : u.a.toNat - a = len + (skP (x.drop len)).1 := by rw [hp]; omega
    have e2 : u.a.toNat - (a + len) = (skP (x.drop len)).1 := by rw [hp]; omega
    rw [e1, e2, List.take_add, List.drop_drop, List.append_assoc]
theorem cm_first {X R : List UInt8} {len : Nat} {c : UInt8} {r : List UInt8} (hX : X = c :: r) (h1 : 1 ≤ len) (hc : cmB X = false) {d : UInt8} {y : List UInt8} (hR : R = d :: y) (hd : d ≠ 42) : ∃ r', X.take len ++ R = c :: r' ∧ cmB (c :: r') = false := by
  subst hX hR
  obtain ⟨m, rfl⟩ : ∃ m, len = m + 1 := ⟨len - 1, by omega⟩
  rw [List.take_succ_cons, List.cons_append]
  refine ⟨_, rfl, ?_⟩
  cases r with
  | nil =>
    rw [List.take_nil, List.nil_append]
    show (c == 40 && d == 42) = false
    simp [hd]
  | cons b r =>
    cases m with
    | zero =>
      show (c == 40 && d == 42) = false
      simp [hd]
    | succ m => exact hc
theorem spr_lex {B : List UInt8} (hB : ∀ z, skP (B ++ z) = (B.length + (skP z).1, (skP z).2)) (hB2 : ∃ d y, B = d :: y ∧ stp d = true) : ∀ (ts : List Tk) (x : List UInt8) (a b : Nat), lexV x a = .ok ts → (∃ us, lexV (spr B x a ts) b = .ok us ∧ us.length = ts.length ∧ sameL false ts us = true) ∧ ∃ d y, spr B x a ts = d :: y ∧ stp d = true
  | [], x, a, b, h => by
    obtain ⟨h1, h2⟩ := lexV_nil h
    constructor
    · refine ⟨[], ?_, rfl, rfl⟩
      have hg := skP_gap tB x.length x (Nat.le_refl _) h1
      rw [h2, List.take_length] at hg
      have ht : skP tB = (6, true) := by decide
      rw [ht] at hg
      rw [spr]
      exact lexV_end (by rw [hg]) (by rw [hg, List.length_append]; simp [tB])
    · rw [spr]
      by_cases hx : 0 < (skP x).1
      · obtain ⟨d, y, rfl, hd⟩ := skP_first hx
        exact ⟨d, _, rfl, hd⟩
      · have : x = [] := List.length_eq_zero_iff.1 (by omega)
        subst this
        exact ⟨32, _, rfl, rfl⟩
  | t :: us, x, a, b, h => by
    obtain ⟨h1, h2, hp, len, ho, l1, l2, h3⟩ := lexV_cons h
    have e1 : t.a.toNat - a = (skP x).1 := by rw [hp]; omega
    have e2 : t.a.toNat = a + (skP x).1 := by rw [hp]; omega
    have hd1 : (x.drop (skP x).1).drop len = x.drop ((skP x).1 + len) := List.drop_drop
    have hc := spr_cut (B := B) (x := x.drop (skP x).1) (a := a + (skP x).1) (len := len) (us := us) (by rw [List.length_drop]; omega) (by rw [hd1]; exact h3)
    have hs : spr B x a (t :: us) = x.take (skP x).1 ++ (B ++ ((x.drop (skP x).1).take len ++ spr B (x.drop ((skP x).1 + len)) (a + (skP x).1 + len) us)) := by
      rw [spr, e1, e2, hc, hd1]
    obtain ⟨⟨vs, i1, i2, i3⟩, d, y, i4, i5⟩ := spr_lex hB hB2 us (x.drop ((skP x).1 + len)) (a + (skP x).1 + len) (b + ((skP x).1 + B.length) + 0 + len) h3
    obtain ⟨R, hR⟩ : ∃ R, spr B (x.drop ((skP x).1 + len)) (a + (skP x).1 + len) us = R := ⟨_, rfl⟩
    rw [hR] at hs i1 i4
    obtain ⟨T, hT⟩ : ∃ T, (x.drop (skP x).1).take len ++ R = T := ⟨_, rfl⟩
    rw [hT] at hs
    constructor
    · refine ⟨pl t ((b + ((skP x).1 + B.length) : Nat) : Int) :: vs, ?_, by simp [i2], by rw [sameL, same_pl, i3]; rfl⟩
      have hlo : (x.take (skP x).1).length = (skP x).1 := by rw [List.length_take]; omega
      have hsk : skP (spr B x a (t :: us)) = (((skP x).1 + B.length) + (skP T).1, (skP T).2) := by
        rw [hs, skP_gap _ x.length x (Nat.le_refl _) h1, hB, Nat.add_assoc]
      have hdr : (spr B x a (t :: us)).drop ((skP x).1 + B.length) = T := by
        have e : (x.take (skP x).1 ++ B).length = (skP x).1 + B.length := by rw [List.length_append, hlo]
        rw [hs, ← List.append_assoc, ← e, List.drop_left]
      rw [lexV_skip hsk hdr (by rw [hs, List.length_append, List.length_append, hlo]; omega)]
      obtain ⟨c, r, hX⟩ : ∃ c r, x.drop (skP x).1 = c :: r := by
        cases hX : x.drop (skP x).1 with
        | nil => have := congrArg List.length hX; rw [List.length_drop] at this; simp at this; omega
        | cons c r => exact ⟨c, r, rfl⟩
      obtain ⟨hb, hcm⟩ := skP_stops x.length x (Nat.le_refl _) h1 c r hX
      obtain ⟨r', hT', hcm'⟩ := cm_first (R := R) (len := len) hX l1 (by rw [hX]; exact hcm) i4 (by
        intro e
        rw [e] at i5
        exact absurd i5 (by decide))
      rw [hT] at hT'
      have hz : skP T = (0, true) := by rw [hT']; exact skP_stop hb hcm'
      have hoT : oneT T ((b + ((skP x).1 + B.length) : Nat) : Int) = .ok (pl t ((b + ((skP x).1 + B.length) : Nat) : Int), len) := by
        rw [← hT, i4]
        exact one_cut (one_any ho _) i5 y
      have hlT : ((x.drop (skP x).1).take len).length = len := by rw [List.length_take, List.length_drop]; omega
      have hdT : T.drop len = R := by
        have := List.drop_left (l₁ := (x.drop (skP x).1).take len) (l₂ := R)
        rwa [hlT, hT] at this
      have hTl : 0 < T.length := by rw [hT']; simp
      rw [lexV_on (x := T) (t := pl t ((b + ((skP x).1 + B.length) : Nat) : Int)) (len := len) (by rw [hz]) (by rw [hz]; exact hTl) (by rw [hz]; exact hoT), hz]
      simp only [Nat.zero_add]
      rw [hdT, i1]
      rfl
    · rw [hs]
      by_cases hx : 0 < (skP x).1
      · obtain ⟨d', y', hx', hd'⟩ := skP_first hx
        obtain ⟨m, hm⟩ : ∃ m, (skP x).1 = m + 1 := ⟨(skP x).1 - 1, by omega⟩
        rw [hm]
        rw [hx']
        exact ⟨d', _, rfl, hd'⟩
      · have hz : (skP x).1 = 0 := by omega
        rw [hz]
        obtain ⟨d', y', rfl, hd'⟩ := hB2
        exact ⟨d', _, rfl, hd'⟩
theorem skP_bad : ∀ (n : Nat) (x : List UInt8), x.length ≤ n → (skP x).2 = false → (skP x).1 < x.length
  | n, [], _, h => by rw [skP_nil] at h; cases h
  | 0, _ :: _, h, _ => by simp at h
  | n + 1, c :: r, h, h2 => by
    have hr : r.length ≤ n := by simpa using h
    cases hb : blkN c
    · cases hc : cmB (c :: r)
      · rw [skP_stop hb hc] at h2; cases h2
      · cases hk : cmt 0 (c :: r) with
        | none => rw [skP_none hb hc hk]; simp
        | some k =>
          have hle := cmt_le _ _ _ hk
          rw [skP_cmt hb hc hk] at h2 ⊢
          have ih := skP_bad n ((c :: r).drop k) (by rw [List.length_drop]; simp only [List.length_cons] at h ⊢; omega) h2
          rw [List.length_drop] at ih
          show (skP ((c :: r).drop k)).1 + k < _
          omega
    · rw [skP_blank hb] at h2 ⊢
      have ih := skP_bad n r hr h2
      simp only [List.length_cons]
      omega
/- An error's place lies in the text. -/
theorem lexV_place : ∀ (n : Nat) (x : List UInt8) (a : Nat) (p e : Int), x.length ≤ n → lexV x a = .error (p, e) → (a : Int) ≤ p ∧ p < a + x.length := by
  intro n
  induction n with
  | zero =>
    intro x a p e hn h
    have : x = [] := List.length_eq_zero_iff.1 (by omega)
    subst this
    have h' : lexV [] a = .ok [] := rfl
    rw [h'] at h
    cases h
  | succ n ih =>
    intro x a p e hn h
    cases hb : (skP x).2
    · have := skP_bad x.length x (Nat.le_refl _) hb
      rw [lexV_bad hb] at h
      cases h
      omega
    · by_cases hlt : (skP x).1 < x.length
      · cases ho : oneT (x.drop (skP x).1) ((a + (skP x).1 : Nat) : Int) with
        | error e' =>
          rw [lexV_err hb hlt ho] at h
          cases h
          omega
        | ok tl =>
          obtain ⟨t, len⟩ := tl
          have hl := one_len ho
          rw [List.length_drop] at hl
          rw [lexV_on hb hlt ho] at h
          have h3 : lexV (x.drop ((skP x).1 + len)) (a + (skP x).1 + len) = .error (p, e) := by
            cases hx : lexV (x.drop ((skP x).1 + len)) (a + (skP x).1 + len) with
            | error q => rw [hx] at h; simpa [Except.map] using h
            | ok us => rw [hx] at h; cases h
          have := ih _ _ _ _ (by rw [List.length_drop]; omega) h3
          rw [List.length_drop] at this
          omega
      · rw [lexV_end hb hlt] at h; cases h
end Go.Proofs.YthnkkcamfcmhmaaGreatDoor.Lx
