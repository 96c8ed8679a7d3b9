/-
  Scope, purely: levels, innermost first; what is found, declared, opened, closed.
-/
import Derived.Test.YtmoekalagollhaaSc2
namespace Go.Proofs.Ytmoekalagollhaa.So
open Go.RowKit hiding Hid
open Go.Proofs.Ytmoekalagollhaa.Tx Go.Proofs.Ytmoekalagollhaa.Lx Go.Proofs.Ytmoekalagollhaa.Tr Go.Proofs.Ytmoekalagollhaa.Ty
set_option linter.unusedVariables false
set_option linter.unusedSimpArgs false

abbrev Lv1 := List (Nm × Int)
abbrev Sx := List Lv1
def lev : Sx → Nat → Lv1
  | [], _ => []
  | l :: r, k => if k = r.length then l else lev r k
def ents : Sx → List En
  | [] => []
  | l :: r => l.map (fun p => ((r.length, p.1), p.2)) ++ ents r
/- The first of a name: its place, its number. -/
def idx : Lv1 → Nm → Option Nat
  | [], _ => none
  | p :: l, s => if p.1 = s then some 0 else (idx l s).map (· + 1)
def fnd : Lv1 → Nm → Option Int
  | [], _ => none
  | p :: l, s => if p.1 = s then some p.2 else fnd l s
def fndS : Sx → Nm → Option (Int × Nat)
  | [], _ => none
  | l :: r, s => match fnd l s with
    | some n => some (n, r.length)
    | none => fndS r s
structure GdL (l : Lv1) : Prop where
  nd : (l.map Prod.fst).Nodup
  le : l.length ≤ 256
  nm : ∀ p ∈ l, p.1.length ≤ 24
def Gd (M : Sx) : Prop := ∀ l ∈ M, GdL l
theorem lev_out : ∀ {M : Sx} {k : Nat}, M.length ≤ k → lev M k = []
  | [], _, _ => rfl
  | l :: r, k, h => by
    rw [lev, if_neg (by simp at h; omega)]
    exact lev_out (by simp at h; omega)
theorem lev_top (l : Lv1) (r : Sx) : lev (l :: r) r.length = l := by rw [lev, if_pos rfl]
theorem lev_low {l : Lv1} {r : Sx} {k : Nat} (h : k < r.length) : lev (l :: r) k = lev r k := by rw [lev, if_neg (by omega)]
theorem lev_gd {M : Sx} (h : Gd M) (k : Nat) : GdL (lev M k) := by
  induction M with
  | nil => exact ⟨by simp [lev], by simp [lev], by simp [lev]⟩
  | cons l r ih =>
    rw [lev]
    split
    · exact h l (.head _)
    · exact ih (fun x hx => h x (.tail _ hx))
theorem mem_ents : ∀ {M : Sx} {k : Nat} {s : Nm} {v : Int}, ((k, s), v) ∈ ents M ↔ (s, v) ∈ lev M k
  | [], k, s, v => by simp [ents, lev]
  | l :: r, k, s, v => by
    rw [ents, List.mem_append, mem_ents (M := r), lev]
    by_cases e : k = r.length
    · rw [if_pos e, e, lev_out (Nat.le_refl _)]
      simp
    · rw [if_neg e]
      constructor
      · rintro (h | h)
        · simp only [List.mem_map, Prod.mk.injEq] at h
          obtain ⟨p, _, ⟨h1, _⟩, _⟩ := h
          exact absurd h1.symm e
        · exact h
      · exact .inr
theorem ents_low {r : Sx} {p : En} (h : p ∈ ents r) : p.1.1 < r.length := by
  obtain ⟨⟨k, s⟩, v⟩ := p
  have := mem_ents.1 h
  by_cases e : k < r.length
  · exact e
  · rw [lev_out (by omega)] at this
    cases this
theorem ents_len (M : Sx) (h : Gd M) : (ents M).length ≤ 256 * M.length := by
  induction M with
  | nil => simp [ents]
  | cons l r ih =>
    have := ih (fun x hx => h x (.tail _ hx))
    have h2 := (h l (.head _)).le
    simp only [ents, List.length_append, List.length_map, List.length_cons]
    omega
theorem ents_kok {M : Sx} (h : Gd M) (hl : M.length ≤ 64) : ∀ p ∈ ents M, kok p.1 := by
  rintro ⟨⟨k, s⟩, v⟩ hp
  have h1 := ents_low hp
  have h2 := (lev_gd h k).nm _ (mem_ents.1 hp)
  simp only at h1 h2
  exact ⟨by simp only; omega, by simp only; unfold maxLen; omega⟩
theorem fnd_none {l : Lv1} {s : Nm} : fnd l s = none ↔ ∀ p ∈ l, p.1 ≠ s := by
  induction l with
  | nil => simp [fnd]
  | cons p l ih =>
    rw [fnd]
    by_cases e : p.1 = s
    · rw [if_pos e]
      simp [e]
    · rw [if_neg e, ih]
      simp [e]
theorem fnd_some {l : Lv1} (h : (l.map Prod.fst).Nodup) {s : Nm} {v : Int} : fnd l s = some v ↔ (s, v) ∈ l := by
  induction l with
  | nil => simp [fnd]
  | cons p l ih =>
    obtain ⟨h1, h2⟩ := List.nodup_cons.1 h
    rw [fnd]
    by_cases e : p.1 = s
    · rw [if_pos e]
      constructor
      · intro hv
        simp only [Option.some.injEq] at hv
        rw [← e, ← hv]
        exact .head _
      · intro hm
        rcases List.mem_cons.1 hm with hm | hm
        · rw [← hm]
        · exact absurd (List.mem_map.2 ⟨(s, v), hm, e.symm⟩) h1
    · rw [if_neg e, ih h2]
      constructor
      · exact .tail _
      · intro hm
        rcases List.mem_cons.1 hm with hm | hm
        · exact absurd (by rw [← hm]) e
        · exact hm
theorem idx_fnd (l : Lv1) (s : Nm) : fnd l s = match idx l s with
    | none => none
    | some i => (l[i]?).map Prod.snd := by
  induction l with
  | nil => rfl
  | cons p l ih =>
    rw [fnd, idx]
    by_cases e : p.1 = s
    · rw [if_pos e, if_pos e]; rfl
    · rw [if_neg e, if_neg e, ih]
      cases idx l s <;> simp
theorem idx_at {l : Lv1} {s : Nm} : ∀ {i : Nat}, (∀ j p, j < i → l[j]? = some p → p.1 ≠ s) → ∀ {p}, l[i]? = some p → p.1 = s → idx l s = some i := by
  induction l with
  | nil => intro i _ p h; simp at h
  | cons q l ih =>
    intro i h1 p h2 h3
    rw [idx]
    cases i with
    | zero =>
      simp at h2
      subst h2
      rw [if_pos h3]
    | succ i =>
      rw [if_neg (h1 0 q (by omega) (by simp)), ih (i := i) (fun j p hj hp => h1 (j + 1) p (by omega) (by simpa using hp)) (by simpa using h2) h3]
      rfl
theorem idx_none {l : Lv1} {s : Nm} (h : ∀ p ∈ l, p.1 ≠ s) : idx l s = none := by
  induction l with
  | nil => rfl
  | cons q l ih => rw [idx, if_neg (h q (.head _)), ih (fun p hp => h p (.tail _ hp))]; rfl
theorem idx_lt {l : Lv1} {s : Nm} {i : Nat} (h : idx l s = some i) : i < l.length := by
  induction l generalizing i with
  | nil => cases h
  | cons q l ih =>
    rw [idx] at h
    split at h
    · cases h; simp
    · obtain ⟨j, hj, rfl⟩ := Option.map_eq_some_iff.1 h
      have := ih hj
      simp
      exact this
/- A suffix of the levels. -/
theorem fndS_skip : ∀ (A r : Sx) (s : Nm), (∀ k, r.length ≤ k → k < (A ++ r).length → fnd (lev (A ++ r) k) s = none) → fndS (A ++ r) s = fndS r s
  | [], r, s, _ => rfl
  | l :: A, r, s, h => by
    have h0 := h (A ++ r).length (by simp) (by simp)
    rw [List.cons_append, lev_top] at h0
    rw [List.cons_append, fndS, h0]
    exact fndS_skip A r s (fun k h1 h2 => by
      have := h k h1 (by simp at h2 ⊢; omega)
      rw [List.cons_append, lev_low h2] at this
      exact this)
theorem lev_suf : ∀ (A r : Sx) (k : Nat), k < r.length → lev (A ++ r) k = lev r k
  | [], _, _, _ => rfl
  | l :: A, r, k, h => by
    rw [List.cons_append, lev_low (by simp; omega)]
    exact lev_suf A r k h
theorem suf_of : ∀ (M : Sx) (k : Nat), k ≤ M.length → ∃ A r, M = A ++ r ∧ r.length = k
  | M, k, h => ⟨M.take (M.length - k), M.drop (M.length - k), (List.take_append_drop _ _).symm, by simp; omega⟩
/- Found at the level k, none above it has the name. -/
theorem fndS_at {M : Sx} {s : Nm} {k : Nat} {v : Int} (hk : k < M.length) (hn : ∀ j, k < j → j < M.length → fnd (lev M j) s = none) (hf : fnd (lev M k) s = some v) : fndS M s = some (v, k) := by
  obtain ⟨A, r, rfl, hr⟩ := suf_of M (k + 1) hk
  rw [fndS_skip A r s (fun j h1 h2 => hn j (by omega) h2)]
  rw [lev_suf A r k (by omega)] at hf
  cases r with
  | nil => simp at hr
  | cons l r =>
    simp at hr
    subst hr
    rw [lev_top] at hf
    rw [fndS, hf]
theorem fndS_no {M : Sx} {s : Nm} (hn : ∀ j, j < M.length → fnd (lev M j) s = none) : fndS M s = none := by
  have := fndS_skip M [] s (fun j _ h2 => by rw [List.append_nil] at h2 ⊢; exact hn j h2)
  rw [List.append_nil] at this
  rw [this]
  rfl
/- What Declare tells, and what it makes. -/
def decE (l : Lv1) (s : Nm) : Int := if wordB s = false then 150 else if fnd l s ≠ none then 151 else if l.length = 256 then 3 else 0
def decL (l : Lv1) (s : Nm) (n : Int) : Lv1 := if decE l s = 0 then l ++ [(s, n)] else l
theorem word_len {s : Nm} (h : wordB s = true) : s.length ≤ 24 := by
  by_cases h1 : 24 < s.length
  · rw [wordB_long h1] at h; cases h
  · omega
theorem decL_gd {l : Lv1} (h : GdL l) (s : Nm) (n : Int) : GdL (decL l s n) := by
  unfold decL
  split
  · rename_i he
    unfold decE at he
    split at he
    · cases he
    rename_i h1
    split at he
    · cases he
    rename_i h2
    split at he
    · cases he
    rename_i h3
    have h2' : fnd l s = none := Classical.byContradiction h2
    refine ⟨?_, by have := h.le; simp; omega, fun p hp => ?_⟩
    · rw [List.map_append, List.nodup_append]
      refine ⟨h.nd, by simp, fun a ha b hb e => ?_⟩
      simp at hb
      subst hb
      subst e
      obtain ⟨p, hp, rfl⟩ := List.mem_map.1 ha
      exact fnd_none.1 h2' p hp rfl
    · rcases List.mem_append.1 hp with hp | hp
      · exact h.nm p hp
      · simp at hp
        subst hp
        exact word_len (by simpa using h1)
  · exact h
theorem gd_cons {l : Lv1} {r : Sx} : Gd (l :: r) ↔ GdL l ∧ Gd r := ⟨fun h => ⟨h l (.head _), fun x hx => h x (.tail _ hx)⟩, fun h x hx => by
  rcases List.mem_cons.1 hx with rfl | hx
  · exact h.1
  · exact h.2 x hx⟩
theorem gd_nil : GdL [] := ⟨by simp, by simp, by simp⟩
theorem decL_gd' {l : Lv1} {r : Sx} (h : Gd (l :: r)) (s : Nm) (n : Int) : Gd (decL l s n :: r) := gd_cons.2 ⟨decL_gd (gd_cons.1 h).1 s n, (gd_cons.1 h).2⟩
/- The map behind a Declare, and while a level is taken away. -/
theorem ents_key {l : Lv1} {r : Sx} {s : Nm} (h : fnd l s = none) : ∀ p ∈ ents (l :: r), p.1 ≠ (r.length, s) := by
  rintro ⟨⟨k, t⟩, v⟩ hp e
  simp only [Prod.mk.injEq] at e
  obtain ⟨rfl, rfl⟩ := e
  have := mem_ents.1 hp
  rw [lev_top] at this
  exact fnd_none.1 h _ this rfl
theorem ents_put {l : Lv1} {r : Sx} {s : Nm} (n : Int) (h : fnd l s = none) : (((r.length, s), n) :: without (r.length, s) (ents (l :: r))).Perm (ents ((l ++ [(s, n)]) :: r)) := by
  have e : without (r.length, s) (ents (l :: r)) = ents (l :: r) := List.filter_eq_self.2 (fun p hp => by simpa using ents_key h p hp)
  rw [e, ents, ents, List.map_append, List.append_assoc, List.map_cons, List.map_nil, List.singleton_append]
  exact (List.perm_middle).symm
theorem ents_drop {p : Nm × Int} {l : Lv1} {r : Sx} (h : ((p :: l).map Prod.fst).Nodup) : without (r.length, p.1) (ents ((p :: l) :: r)) = ents (l :: r) := by
  obtain ⟨h1, h2⟩ := List.nodup_cons.1 h
  rw [ents, List.map_cons, List.cons_append]
  unfold without
  rw [List.filter_cons_of_neg (by simp)]
  rw [show List.map (fun p => ((r.length, p.1), p.2)) l ++ ents r = ents (l :: r) from rfl]
  refine List.filter_eq_self.2 (fun q hq => ?_)
  obtain ⟨⟨k, t⟩, v⟩ := q
  simp only [bne_iff_ne, ne_eq, Prod.mk.injEq, not_and]
  rintro rfl rfl
  have := mem_ents.1 hq
  rw [lev_top] at this
  exact h1 (List.mem_map.2 ⟨_, this, rfl⟩)
theorem ents_nil (r : Sx) : ents ([] :: r) = ents r := rfl
end Go.Proofs.Ytmoekalagollhaa.So
