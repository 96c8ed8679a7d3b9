/-
  Types in types, purely: ranks, and the marks of a search.
-/
import Derived.Test.YtmoekalagollhaaTy1
namespace Go.Proofs.Ytmoekalagollhaa.Ty
open Go.RowKit hiding Hid
open Go.Proofs.Ytmoekalagollhaa.Tx Go.Proofs.Ytmoekalagollhaa.Lx Go.Proofs.Ytmoekalagollhaa.Tr
set_option linter.unusedVariables false
set_option linter.unusedSimpArgs false

/- What stands in a type. -/
def partsI (x : Tt) : List Int := if x.fm = 7 ∨ x.fm = 8 then [x.el] else if x.fm = 9 then x.fl.map (·.t) ++ [x.ba] else []
def RankOf (T : List Tt) (r : Nat → Nat) : Prop := ∀ (i : Nat) (x : Tt), T[i]? = some x → ∀ j ∈ partsI x, r j.toNat < r i
def InP (T : List Tt) : Prop := ∀ (i : Nat) (x : Tt), T[i]? = some x → ∀ j ∈ partsI x, 0 ≤ j ∧ j < T.length
/- Marks. -/
def mk (M : List Int) (i : Nat) : Int := (M[i]?).getD 0
def Vm (M : List Int) : Prop := ∀ i, mk M i = 0 ∨ mk M i = 1 ∨ mk M i = 2
def Dn (T : List Tt) (M : List Int) : Prop := ∃ r : Nat → Nat, ∀ (i : Nat) (x : Tt), T[i]? = some x → mk M i = 2 → ∀ j ∈ partsI x, mk M j.toNat = 2 ∧ r j.toNat < r i
structure Lm (M M' : List Int) : Prop where
  one : ∀ i, mk M i = 1 ↔ mk M' i = 1
  two : ∀ i, mk M i = 2 → mk M' i = 2
  nil : ∀ i, mk M' i = 0 → mk M i = 0
theorem Lm.refl (M : List Int) : Lm M M := ⟨fun _ => Iff.rfl, fun _ h => h, fun _ h => h⟩
theorem Lm.trans {A B C : List Int} (h : Lm A B) (k : Lm B C) : Lm A C := ⟨fun i => (h.one i).trans (k.one i), fun i e => k.two i (h.two i e), fun i e => h.nil i (k.nil i e)⟩
theorem mk_set {M : List Int} {a : Nat} (h : a < M.length) (v : Int) (i : Nat) : mk (M.set a v) i = if i = a then v else mk M i := by
  unfold mk
  rw [List.getElem?_set]
  by_cases e : i = a
  · subst e
    simp [h]
  · simp [e, Ne.symm e]
def Cov (U : List Nat) (M : List Int) : Prop := ∀ i, i < 256 → mk M i = 0 → i ∈ U
theorem Cov.mono {U : List Nat} {M M' : List Int} (h : Cov U M) (k : Lm M M') : Cov U M' := fun i hi e => h i hi (k.nil i e)
theorem Cov.less {U : List Nat} {M : List Int} {a : Nat} (h : Cov U M) (ha : a < M.length) : Cov (U.erase a) (M.set a 1) := fun i hi e => by
  rw [mk_set ha] at e
  by_cases ei : i = a
  · simp [ei] at e
  · rw [if_neg ei] at e
    exact (List.mem_erase_of_ne ei).2 (h i hi e)
/- The outcome of a visit at a; of a visit of what stands in a. -/
structure Oy (T : List Tt) (M M' : List Int) : Prop where
  le : Lm M M'
  dn : Dn T M'
  vm : Vm M'
def On (T : List Tt) (M : List Int) (a : Nat) : Prop := ∀ r, RankOf T r → (∀ i, mk M i = 1 → r a < r i) → False
def Op1 (T : List Tt) (M : List Int) (a : Nat) : Prop := ∀ r, RankOf T r → (∀ i, mk M i = 1 → r a ≤ r i) → False
theorem on_begun {T : List Tt} {M : List Int} {a : Nat} (h : mk M a = 1) : On T M a := fun r _ hb => Nat.lt_irrefl _ (hb a h)
theorem on_parts {T : List Tt} {M : List Int} {a : Nat} (ha : a < M.length) (h : Op1 T (M.set a 1) a) : On T M a := fun r hr hb => h r hr (fun i e => by
  rw [mk_set ha] at e
  by_cases ei : i = a
  · rw [ei]; exact Nat.le_refl _
  · rw [if_neg ei] at e
    exact Nat.le_of_lt (hb i e))
theorem op_part {T : List Tt} {M M' : List Int} {a : Nat} {x : Tt} {j : Int} (hx : T[a]? = some x) (hj : j ∈ partsI x) (hl : Lm M M') (h : On T M' j.toNat) : Op1 T M a := fun r hr hb => h r hr (fun i e => Nat.lt_of_lt_of_le (hr a x hx j hj) (hb i ((hl.one i).2 e)))
theorem Vm.set {M : List Int} (h : Vm M) {a : Nat} (ha : a < M.length) {v : Int} (hv : v = 0 ∨ v = 1 ∨ v = 2) : Vm (M.set a v) := fun i => by
  rw [mk_set ha]
  split
  · exact hv
  · exact h i
theorem Dn.begin {T : List Tt} {M : List Int} {a : Nat} (h : Dn T M) (ha : a < M.length) (h0 : mk M a = 0) : Dn T (M.set a 1) := by
  obtain ⟨r, hr⟩ := h
  refine ⟨r, fun i x hx e j hj => ?_⟩
  rw [mk_set ha] at e
  by_cases ei : i = a
  · simp [ei] at e
  · rw [if_neg ei] at e
    obtain ⟨h1, h2⟩ := hr i x hx e j hj
    rw [mk_set ha]
    refine ⟨?_, h2⟩
    by_cases ej : j.toNat = a
    · rw [ej, h0] at h1; cases h1
    · rw [if_neg ej]; exact h1
def mxR (r : Nat → Nat) (l : List Int) : Nat := l.foldr (fun j m => max (r j.toNat) m) 0
theorem mxR_le (r : Nat → Nat) : ∀ (l : List Int) (j : Int), j ∈ l → r j.toNat ≤ mxR r l
  | [], j, h => by cases h
  | k :: l, j, h => by
    rcases List.mem_cons.1 h with rfl | h
    · exact Nat.le_max_left _ _
    · exact Nat.le_trans (mxR_le r l j h) (Nat.le_max_right _ _)
theorem done_at {T : List Tt} {M M2 : List Int} {a : Nat} {x : Tt} (hx : T[a]? = some x) (ha : a < M.length) (ha2 : a < M2.length) (h0 : mk M a = 0) (hy : Oy T (M.set a 1) M2) (hp : ∀ j ∈ partsI x, mk M2 j.toNat = 2) : Oy T M (M2.set a 2) := by
  have hb : mk M2 a = 1 := (hy.le.one a).1 (by rw [mk_set ha, if_pos rfl])
  refine ⟨⟨fun i => ?_, fun i e => ?_, fun i e => ?_⟩, ?_, hy.vm.set ha2 (.inr (.inr rfl))⟩
  · rw [mk_set ha2]
    by_cases ei : i = a
    · subst ei; rw [if_pos rfl, h0]; decide
    · rw [if_neg ei, ← hy.le.one i, mk_set ha, if_neg ei]
  · rw [mk_set ha2]
    by_cases ei : i = a
    · rw [if_pos ei]
    · rw [if_neg ei]
      exact hy.le.two i (by rw [mk_set ha, if_neg ei]; exact e)
  · rw [mk_set ha2] at e
    by_cases ei : i = a
    · rw [ei]; exact h0
    · rw [if_neg ei] at e
      have := hy.le.nil i e
      rw [mk_set ha, if_neg ei] at this
      exact this
  · obtain ⟨r, hr⟩ := hy.dn
    refine ⟨fun i => if i = a then mxR r (partsI x) + 1 else r i, fun i y hyi e j hj => ?_⟩
    rw [mk_set ha2] at e ⊢
    by_cases ei : i = a
    · subst ei
      rw [hx] at hyi
      cases hyi
      have h2 := hp j hj
      have ej : j.toNat ≠ i := fun e => by rw [e, hb] at h2; cases h2
      rw [if_neg ej]
      dsimp only
      rw [if_neg ej, if_pos rfl]
      exact ⟨h2, Nat.lt_succ_of_le (mxR_le r _ j hj)⟩
    · rw [if_neg ei] at e
      obtain ⟨h1, h2⟩ := hr i y hyi e j hj
      have ej : j.toNat ≠ a := fun e => by rw [e, hb] at h1; cases h1
      rw [if_neg ej]
      dsimp only
      rw [if_neg ej, if_neg ei]
      exact ⟨h1, h2⟩
theorem rank_of_dn {T : List Tt} {M : List Int} (h : Dn T M) (hd : ∀ i, i < T.length → mk M i = 2) : ∃ r, RankOf T r := by
  obtain ⟨r, hr⟩ := h
  exact ⟨r, fun i x hx j hj => (hr i x hx (hd i (List.getElem?_eq_some_iff.1 hx).1) j hj).2⟩
end Go.Proofs.Ytmoekalagollhaa.Ty
