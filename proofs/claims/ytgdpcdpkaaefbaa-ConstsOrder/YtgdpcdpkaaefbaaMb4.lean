/-
  The entries and the values of a map literal, as lists.
-/
import Derived.Test.YtgdpcdpkaaefbaaMb3
namespace Go.Proofs.Ytgdpcdpkaaefbaa.Mb
open Go.RowKit Go.Maps Go.Proofs.Ytgdpcdpkaaefbaa.Tx Go.Proofs.Ytgdpcdpkaaefbaa.Mp Go.Proofs.Ytgdpcdpkaaefbaa.Tr
set_option linter.unusedVariables false
set_option linter.unusedSimpArgs false

/- The entries and the values of a literal, as lists. -/
def ents (ops : Array Oper) : List (Nat × Operand) := ops.toList.filterMap fun o => match rl o with
  | .ins kd v => some (kd, v)
  | _ => none
theorem ents_mem {ops : Array Oper} {kd : Nat} {v : Operand} : (kd, v) ∈ ents ops ↔ ∃ (i : Nat) (o : Oper), ops[i]? = some o ∧ rl o = .ins kd v := by
  unfold ents
  rw [List.mem_filterMap]
  constructor
  · rintro ⟨o, ho, h⟩
    obtain ⟨i, hi⟩ := List.getElem?_of_mem ho
    refine ⟨i, o, by simpa using hi, ?_⟩
    split at h
    · rename_i k u hr; injection h with h; injection h with h1 h2; subst h1; subst h2; exact hr
    · cases h
  · rintro ⟨i, o, ho, hr⟩
    exact ⟨o, by simpa using Array.mem_of_getElem? ho, by rw [hr]⟩
def vls (ops : Array Oper) : List (Nat × Nat) := (List.range ops.size).filterMap fun i => match ops[i]? with
  | some o => (match rl o with | .vl d => some (i, d) | _ => none)
  | none => none
theorem vls_mem {ops : Array Oper} {i d : Nat} {o : Oper} (ho : ops[i]? = some o) (hr : rl o = .vl d) : (i, d) ∈ vls ops := by
  unfold vls
  rw [List.mem_filterMap]
  exact ⟨i, List.mem_range.2 (Array.getElem?_eq_some_iff.1 ho).1, by rw [ho]; simp only [hr]⟩
theorem inv0 {P : Program} {K N : Nat} {ops : Array Oper} {w : World} {Φ : Nat → Value → World → Prop} {a : Act} (hs : a.tmps.size = N) : MInv P K N ops w Φ a (Array.replicate ops.size false) a w.drew [] := by
  have no : ∀ i, ¬ (Array.replicate ops.size false).getD i false = true := fun i h => by
    have e : (Array.replicate ops.size false).getD i false = false := by unfold Array.getD; split <;> simp
    rw [e] at h
    cases h
  refine ⟨hs, rfl, ?_, d1_g w, fun i o h => absurd h (no i), fun i o d h => absurd h (no i), fun i o h => absurd h (no i), by simp, fun i o kd v h => absurd h (no i), fun i o d h => absurd h (no i), fun i o d h => absurd h (no i)⟩
  unfold unl
  have := List.countP_le_length (p := fun b => !b) (l := (Array.replicate ops.size false).toList)
  simp at this ⊢
  exact this
end Go.Proofs.Ytgdpcdpkaaefbaa.Mb
