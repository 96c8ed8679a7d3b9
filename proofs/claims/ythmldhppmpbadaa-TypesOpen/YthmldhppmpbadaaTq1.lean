/-
  Types in types, purely, as the document goes through them: ranks, and the states of its search.
-/
import Derived.Test.YthmldhppmpbadaaY3
namespace Go.Proofs.Ythmldhppmpbadaa.Ty
open Go.RowKit hiding Hid
open Go.Proofs.Ythmldhppmpbadaa.Tx Go.Proofs.Ythmldhppmpbadaa.Lx Go.Proofs.Ythmldhppmpbadaa.Tr
set_option linter.unusedVariables false
set_option linter.unusedSimpArgs false

/- What stands in a type. -/
def partsR (x : Tt) : List Int := if x.fm = 7 ∨ x.fm = 8 then [x.el] else if x.fm = 9 then (if x.ba = 0 then [] else [x.ba]) ++ x.fl.map (·.t) else []
def RankR (T : List Tt) (r : Nat → Nat) : Prop := ∀ (i : Nat) (x : Tt), T[i]? = some x → ∀ j ∈ partsR x, r j.toNat < r i
def InR (T : List Tt) : Prop := ∀ (i : Nat) (x : Tt), T[i]? = some x → ∀ j ∈ partsR x, 0 ≤ j ∧ j < T.length
/- Marks. -/
def DnR (T : List Tt) (M : List Int) : Prop := ∃ r : Nat → Nat, ∀ (i : Nat) (x : Tt), T[i]? = some x → mk M i = 2 → ∀ j ∈ partsR x, mk M j.toNat = 2 ∧ r j.toNat < r i
/- The outcome of a visit at a; of a visit of what stands in a. -/
structure OyR (T : List Tt) (M M' : List Int) : Prop where
  le : Lm M M'
  dn : DnR T M'
  vm : Vm M'
def OnR (T : List Tt) (M : List Int) (a : Nat) : Prop := ∀ r, RankR T r → (∀ i, mk M i = 1 → r a < r i) → False
def OpR (T : List Tt) (M : List Int) (a : Nat) : Prop := ∀ r, RankR T r → (∀ i, mk M i = 1 → r a ≤ r i) → False
theorem onR_begun {T : List Tt} {M : List Int} {a : Nat} (h : mk M a = 1) : OnR T M a := fun r _ hb => Nat.lt_irrefl _ (hb a h)
theorem onR_parts {T : List Tt} {M : List Int} {a : Nat} (ha : a < M.length) (h : OpR T (M.set a 1) a) : OnR T M a := fun r hr hb => h r hr (fun i e => by
  rw [mk_set ha] at e
  by_cases ei : i = a
  · rw [ei]; exact Nat.le_refl _
  · rw [if_neg ei] at e
    exact Nat.le_of_lt (hb i e))
theorem opR_part {T : List Tt} {M M' : List Int} {a : Nat} {x : Tt} {j : Int} (hx : T[a]? = some x) (hj : j ∈ partsR x) (hl : Lm M M') (h : OnR T M' j.toNat) : OpR T M a := fun r hr hb => h r hr (fun i e => Nat.lt_of_lt_of_le (hr a x hx j hj) (hb i ((hl.one i).2 e)))
theorem DnR.begin {T : List Tt} {M : List Int} {a : Nat} (h : DnR T M) (ha : a < M.length) (h0 : mk M a = 0) : DnR T (M.set a 1) := by
  obtain ⟨r, hr⟩ := h
  refine ⟨r, fun i x hx e j hj => ?_⟩
  rw [mk_set ha] at e
  by_cases ei : i = a
  · simp [ei] at e
  · rw [if_neg ei] at e
    obtain ⟨h1, h2⟩ := hr i x hx e j hj
    rw [mk_set ha]
    refine ⟨?_, h2⟩
    by_cases ej : j.toNat = a
    · rw [ej, h0] at h1; cases h1
    · rw [if_neg ej]; exact h1
theorem doneR_at {T : List Tt} {M M2 : List Int} {a : Nat} {x : Tt} (hx : T[a]? = some x) (ha : a < M.length) (ha2 : a < M2.length) (h0 : mk M a = 0) (hy : OyR T (M.set a 1) M2) (hp : ∀ j ∈ partsR x, mk M2 j.toNat = 2) : OyR T M (M2.set a 2) := by
  have hb : mk M2 a = 1 := (hy.le.one a).1 (by rw [mk_set ha, if_pos rfl])
  refine ⟨⟨fun i => ?_, fun i e => ?_, fun i e => ?_⟩, ?_, hy.vm.set ha2 (.inr (.inr rfl))⟩
  · rw [mk_set ha2]
    by_cases ei : i = a
    · subst ei; rw [if_pos rfl, h0]; decide
    · rw [if_neg ei, ← hy.le.one i, mk_set ha, if_neg ei]
  · rw [mk_set ha2]
    by_cases ei : i = a
    · rw [if_pos ei]
    · rw [if_neg ei]
      exact hy.le.two i (by rw [mk_set ha, if_neg ei]; exact e)
  · rw [mk_set ha2] at e
    by_cases ei : i = a
    · rw [ei]; exact h0
    · rw [if_neg ei] at e
      have := hy.le.nil i e
      rw [mk_set ha, if_neg ei] at this
      exact this
  · obtain ⟨r, hr⟩ := hy.dn
    refine ⟨fun i => if i = a then mxR r (partsR x) + 1 else r i, fun i y hyi e j hj => ?_⟩
    rw [mk_set ha2] at e ⊢
    by_cases ei : i = a
    · subst ei
      rw [hx] at hyi
      cases hyi
      have h2 := hp j hj
      have ej : j.toNat ≠ i := fun e => by rw [e, hb] at h2; cases h2
      rw [if_neg ej]
      dsimp only
      rw [if_neg ej, if_pos rfl]
      exact ⟨h2, Nat.lt_succ_of_le (mxR_le r _ j hj)⟩
    · rw [if_neg ei] at e
      obtain ⟨h1, h2⟩ := hr i y hyi e j hj
      have ej : j.toNat ≠ a := fun e => by rw [e, hb] at h1; cases h1
      rw [if_neg ej]
      dsimp only
      rw [if_neg ej, if_neg ei]
      exact ⟨h1, h2⟩
theorem rankR_of_dn {T : List Tt} {M : List Int} (h : DnR T M) (hd : ∀ i, i < T.length → mk M i = 2) : ∃ r, RankR T r := by
  obtain ⟨r, hr⟩ := h
  exact ⟨r, fun i x hx j hj => (hr i x hx (hd i (List.getElem?_eq_some_iff.1 hx).1) j hj).2⟩
end Go.Proofs.Ythmldhppmpbadaa.Ty
