/-
  What a good table is, purely.
-/
import Derived.Test.YthmldhppmpbadaaTy14
namespace Go.Proofs.Ythmldhppmpbadaa.Ty
open Go.RowKit hiding Hid
open Go.Proofs.Ythmldhppmpbadaa.Tx Go.Proofs.Ythmldhppmpbadaa.Lx Go.Proofs.Ythmldhppmpbadaa.Tr
set_option linter.unusedVariables false
set_option linter.unusedSimpArgs false

def basicB (i : Int) (x : Tt) : Bool := x.fm == i && (x.md == [] && (x.nm == [] && bareB x))
structure Loc (T : List Tt) : Prop where
  lo : 7 ≤ T.length
  hi : T.length ≤ 256
  bas : ∀ (i : Nat) x, i < 7 → T[i]? = some x → basicB i x = true
  oth : ∀ (i : Nat) x, 7 ≤ i → T[i]? = some x → namesB x = true ∧ partsB T x = true
structure GoodP (T : List Tt) : Prop where
  loc : Loc T
  rank : ∃ r, RankOf T r
  rcd : ∀ i, RecD T i
theorem fmA_in {T : List Tt} {a : Int} (h : fmA T a ≠ -1) : 0 ≤ a ∧ a < T.length ∧ ∃ x, T[a.toNat]? = some x ∧ x.fm = fmA T a := by
  unfold fmA at h ⊢
  by_cases hi : inT T.length a = true
  · rw [if_pos hi] at h ⊢
    unfold inT at hi
    simp only [Bool.and_eq_true, decide_eq_true_eq] at hi
    have : a.toNat < T.length := by omega
    refine ⟨hi.1, hi.2, T[a.toNat], List.getElem?_eq_getElem this, ?_⟩
    rw [List.getElem?_eq_getElem this]
  · rw [if_neg hi] at h
    exact absurd rfl h
theorem elemF_in {T : List Tt} {a : Int} (h : elemF (fmA T a) = true) : 0 ≤ a ∧ a < T.length := by
  have : fmA T a ≠ -1 := fun e => by rw [e] at h; revert h; decide
  exact ⟨(fmA_in this).1, (fmA_in this).2.1⟩
theorem openF_in {T : List Tt} {a : Int} (h : openF (fmA T a) = true) : 0 ≤ a ∧ a < T.length := by
  have : fmA T a ≠ -1 := fun e => by rw [e] at h; revert h; decide
  exact ⟨(fmA_in this).1, (fmA_in this).2.1⟩
theorem Loc.form {T : List Tt} (h : Loc T) {i : Nat} {x : Tt} (hi : i < 7) (hx : T[i]? = some x) : x.fm = i ∧ bareB x = true := by
  have := h.bas i x hi hx
  unfold basicB at this
  simp only [Bool.and_eq_true, beq_iff_eq] at this
  exact ⟨this.1, this.2.2.2⟩
theorem bare_fl {x : Tt} (h : bareB x = true) : x.fl = [] ∧ x.ba = 0 ∧ x.pm = [] ∧ x.el = 0 ∧ x.ln = 0 ∧ x.rs = 0 ∧ x.ds = 0 := by
  unfold bareB at h
  simp only [Bool.and_eq_true, beq_iff_eq, List.length_eq_zero_iff] at h
  obtain ⟨⟨⟨⟨⟨⟨h1, h2⟩, h3⟩, h4⟩, h5⟩, h6⟩, h7⟩ := h
  exact ⟨h4, h3, h5, h2, h1, h6, h7⟩
theorem parts_7 {T : List Tt} {x : Tt} (h : partsB T x = true) (hf : x.fm = 7) : 1 ≤ x.ln ∧ x.ln ≤ 4096 ∧ elemF (fmA T x.el) = true ∧ bareB { x with ln := 0, el := 0 } = true := by
  unfold partsB at h
  rw [if_pos hf] at h
  simp only [Bool.and_eq_true, decide_eq_true_eq] at h
  exact ⟨h.1.1, h.1.2.1, h.1.2.2, h.2⟩
theorem parts_8 {T : List Tt} {x : Tt} (h : partsB T x = true) (hf : x.fm = 8) : openF (fmA T x.el) = true ∧ bareB { x with el := 0 } = true := by
  unfold partsB at h
  rw [if_neg (by omega), if_pos hf] at h
  simpa only [Bool.and_eq_true] using h
theorem parts_9 {T : List Tt} {x : Tt} (h : partsB T x = true) (hf : x.fm = 9) : baseA T x.ba = true ∧ flsB T x.fl = true ∧ -1 ≤ x.ds ∧ x.ds < 64 ∧ bareB { x with ba := 0, fl := [], ds := 0 } = true := by
  unfold partsB at h
  rw [if_neg (by omega), if_neg (by omega), if_pos hf] at h
  simp only [Bool.and_eq_true, decide_eq_true_eq] at h
  exact ⟨h.1.1, h.1.2.1, h.1.2.2.1, h.1.2.2.2, h.2⟩
theorem parts_10 {T : List Tt} {x : Tt} (h : partsB T x = true) (hf : x.fm = 10) : fmA T x.el = 9 ∧ bareB { x with el := 0 } = true := by
  unfold partsB at h
  rw [if_neg (by omega), if_neg (by omega), if_neg (by omega), if_pos hf] at h
  simpa only [Bool.and_eq_true, beq_iff_eq] using h
theorem parts_11 {T : List Tt} {x : Tt} (h : partsB T x = true) (hf : x.fm = 11) : pmsB T x.pm = true ∧ resA T x.rs = true ∧ bareB { x with pm := [], rs := 0 } = true := by
  unfold partsB at h
  rw [if_neg (by omega), if_neg (by omega), if_neg (by omega), if_neg (by omega), if_pos hf] at h
  simp only [Bool.and_eq_true] at h
  exact ⟨h.1.1, h.1.2, h.2⟩
theorem parts_fm {T : List Tt} {x : Tt} (h : partsB T x = true) : x.fm = 7 ∨ x.fm = 8 ∨ x.fm = 9 ∨ x.fm = 10 ∨ x.fm = 11 := by
  by_cases h7 : x.fm = 7; · exact .inl h7
  by_cases h8 : x.fm = 8; · exact .inr (.inl h8)
  by_cases h9 : x.fm = 9; · exact .inr (.inr (.inl h9))
  by_cases h10 : x.fm = 10; · exact .inr (.inr (.inr (.inl h10)))
  by_cases h11 : x.fm = 11; · exact .inr (.inr (.inr (.inr h11)))
  unfold partsB at h
  rw [if_neg h7, if_neg h8, if_neg h9, if_neg h10, if_neg h11] at h
  cases h
theorem Loc.far {T : List Tt} (h : Loc T) {i : Nat} {x : Tt} (hx : T[i]? = some x) (hf : 7 ≤ x.fm) : 7 ≤ i := by
  apply Nat.le_of_not_lt
  intro hi
  have := (h.form hi hx).1
  omega
theorem Loc.inP {T : List Tt} (h : Loc T) : InP T := by
  intro i x hx j hj
  have h0 := h.lo
  unfold partsI at hj
  by_cases f : x.fm = 7 ∨ x.fm = 8
  · rw [if_pos f, List.mem_singleton] at hj
    subst hj
    have hi := h.far hx (by omega)
    rcases f with f | f
    · exact elemF_in (parts_7 (h.oth i x hi hx).2 f).2.2.1
    · exact openF_in (parts_8 (h.oth i x hi hx).2 f).1
  · rw [if_neg f] at hj
    by_cases f9 : x.fm = 9
    · rw [if_pos f9] at hj
      have hi := h.far hx (by omega)
      obtain ⟨h1, h2, _⟩ := parts_9 (h.oth i x hi hx).2 f9
      rcases List.mem_append.1 hj with hj | hj
      · obtain ⟨f, hf, rfl⟩ := List.mem_map.1 hj
        unfold flsB at h2
        simp only [Bool.and_eq_true] at h2
        have := List.all_eq_true.1 h2.2 f hf
        unfold flB at this
        simp only [Bool.and_eq_true] at this
        exact elemF_in this.2
      · rw [List.mem_singleton] at hj
        subst hj
        unfold baseA at h1
        simp only [Bool.or_eq_true, beq_iff_eq] at h1
        rcases h1 with h1 | h1
        · omega
        · have := fmA_in (T := T) (a := x.ba) (by rw [h1]; decide)
          exact ⟨this.1, this.2.1⟩
    · rw [if_neg f9] at hj
      cases hj
/- A record's base is a record of lower rank. -/
theorem Loc.base {T : List Tt} (h : Loc T) {r : Nat → Nat} (hr : RankOf T r) {i : Nat} {x : Tt} (hx : T[i]? = some x) (hf : x.fm = 9) (h0 : x.ba ≠ 0) : 0 ≤ x.ba ∧ r x.ba.toNat < r i ∧ ∃ y, T[x.ba.toNat]? = some y ∧ y.fm = 9 := by
  have hi := h.far hx (by omega)
  obtain ⟨h1, _⟩ := parts_9 (h.oth i x hi hx).2 hf
  unfold baseA at h1
  simp only [Bool.or_eq_true, beq_iff_eq] at h1
  rcases h1 with h1 | h1
  · exact absurd h1 h0
  · obtain ⟨a, _, y, hy, e⟩ := fmA_in (T := T) (a := x.ba) (by rw [h1]; decide)
    refine ⟨a, hr i x hx x.ba ?_, y, hy, by rw [e, h1]⟩
    unfold partsI
    rw [if_neg (by omega), if_pos hf]
    simp
theorem Loc.lv {T : List Tt} (h : Loc T) {r : Nat → Nat} (hr : RankOf T r) : ∀ (k i : Nat) (x : Tt), r i ≤ k → T[i]? = some x → x.fm = 9 → ∃ n, Lv T n i
  | k, i, x, hk, hx, hf => by
    by_cases h0 : x.ba = 0
    · exact ⟨0, x, hx, h0⟩
    · obtain ⟨h1, h2, y, hy, hy9⟩ := h.base hr hx hf h0
      cases k with
      | zero => omega
      | succ k =>
        obtain ⟨n, hn⟩ := Loc.lv h hr k x.ba.toNat y (by omega) hy hy9
        exact ⟨n + 1, x, hx, h0, h1, hn⟩
theorem lv_le {T : List Tt} (h : Loc T) {r : Nat → Nat} (hr : RankOf T r) : ∀ (n i : Nat) (x : Tt) (U : List Nat), Lv T n i → T[i]? = some x → x.fm = 9 → (∀ j, j < T.length → r j ≤ r i → j ∈ U) → n + 1 ≤ U.length
  | 0, i, x, U, hl, hx, hf, hU => by
    have := hU i (List.getElem?_eq_some_iff.1 hx).1 (Nat.le_refl _)
    have := List.length_pos_of_mem this
    omega
  | n + 1, i, x, U, hl, hx, hf, hU => by
    obtain ⟨x', hx', h0, h1, hl2⟩ := hl
    rw [hx] at hx'
    cases hx'
    obtain ⟨_, h2, y, hy, hy9⟩ := h.base hr hx hf h0
    have hi := hU i (List.getElem?_eq_some_iff.1 hx).1 (Nat.le_refl _)
    have := lv_le h hr n x.ba.toNat y (U.erase i) hl2 hy hy9 (fun j hj hle => by
      have hne : j ≠ i := fun e => by rw [e] at hle; omega
      exact (List.mem_erase_of_ne hne).2 (hU j hj (by omega)))
    rw [List.length_erase_of_mem hi] at this
    have := List.length_pos_of_mem hi
    omega
theorem Loc.recPre {T : List Tt} (h : Loc T) (hr : ∃ r, RankOf T r) : RecPre T := by
  obtain ⟨r, hr⟩ := hr
  refine ⟨fun i x hx hf => ?_, fun i x hx => ?_, fun x hx e => ?_, h.hi⟩
  · have hi := h.far hx (by omega)
    obtain ⟨_, _, h3, h4, _⟩ := parts_9 (h.oth i x hi hx).2 hf
    obtain ⟨n, hn⟩ := h.lv hr _ i x (Nat.le_refl _) hx hf
    have := lv_le h hr n i x (List.range T.length) hn hx hf (fun j hj _ => List.mem_range.2 hj)
    rw [List.length_range] at this
    have := h.hi
    exact ⟨⟨n, by omega, hn⟩, h3, h4⟩
  · by_cases hi : i < 7
    · rw [(bare_fl (h.form hi hx).2).1]; simp
    · have hp := (h.oth i x (by omega) hx).2
      rcases parts_fm hp with f | f | f | f | f
      · have := (bare_fl (parts_7 hp f).2.2.2).1; simp only at this; rw [this]; simp
      · have := (bare_fl (parts_8 hp f).2).1; simp only at this; rw [this]; simp
      · have := (parts_9 hp f).2.1
        unfold flsB at this
        simp only [Bool.and_eq_true, decide_eq_true_eq] at this
        exact this.1
      · have := (bare_fl (parts_10 hp f).2).1; simp only at this; rw [this]; simp
      · have := (bare_fl (parts_11 hp f).2.2).1; simp only at this; rw [this]; simp
  · have := (h.form (by decide) hx).1
    omega
end Go.Proofs.Ythmldhppmpbadaa.Ty
