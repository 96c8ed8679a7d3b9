/-
  Package types: which lists are tables.
-/
import Derived.Test.YthmldhppmpbadaaTy16
import Derived.Test.YthmldhppmpbadaaTy17
namespace Go.Proofs.Ythmldhppmpbadaa.Ty
open Go.RowKit hiding Hid
open Go.Maps Go.Proofs.Ythmldhppmpbadaa.Tx Go.Proofs.Ythmldhppmpbadaa.Lx Go.Proofs.Ythmldhppmpbadaa.Tr Go.Proofs.Ythmldhppmpbadaa.Mp
set_option linter.unusedVariables false
set_option linter.unusedSimpArgs false
set_option maxRecDepth 100000

theorem good_at {w : World} {o : Option Addr} {T : List Tt} (cp : Nat) (H : Tab w o T) (hcp : T.length ≤ cp) : Calls Try.prog 30 #[.slice o T.length cp] w (GdO w T) := by
  by_cases hf : 7 ≤ T.length ∧ T.length ≤ 256
  case neg => exact good_few cp H hf
  by_cases hb : ∃ (i : Nat) (x : Tt), i < 7 ∧ T[i]? = some x ∧ basicB i x = false
  · exact good_bas cp H hcp hf.1 hf.2 hb
  have hb' : ∀ (i : Nat) (x : Tt), i < 7 → T[i]? = some x → basicB i x = true := fun i x h1 h2 => by
    cases h : basicB i x with
    | true => rfl
    | false => exact absurd ⟨i, x, h1, h2, h⟩ hb
  by_cases ho : ∃ (i : Nat) (x : Tt), 7 ≤ i ∧ T[i]? = some x ∧ (namesB x = false ∨ partsB T x = false)
  · exact good_oth cp H hcp hf.1 hf.2 hb' ho
  refine good_fin cp H hcp hf.1 hf.2 hb' (fun i x h1 h2 => ?_)
  cases h3 : namesB x with
  | false => exact absurd ⟨i, x, h1, h2, .inl h3⟩ ho
  | true =>
    cases h4 : partsB T x with
    | false => exact absurd ⟨i, x, h1, h2, .inr h4⟩ ho
    | true => exact ⟨rfl, rfl⟩
end Go.Proofs.Ythmldhppmpbadaa.Ty
