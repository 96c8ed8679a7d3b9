/-
  The document's own tables (package spinetref13): whether a type stands in itself, the whole.
-/
import Derived.Test.YthmldhppmpbadaaTg14
namespace Go.Proofs.Ythmldhppmpbadaa.Ty
open Go.RowKit hiding Hid
open Go.Maps Go.Proofs.Ythmldhppmpbadaa.Tx Go.Proofs.Ythmldhppmpbadaa.Lx Go.Proofs.Ythmldhppmpbadaa.Tr Go.Proofs.Ythmldhppmpbadaa.Mp
set_option linter.unusedVariables false
set_option linter.unusedSimpArgs false

section
variable {w0 : World} {o : Option Addr} {cp : Nat} {T : List Tt} {sb : Nat}
theorem round_step {U : List Nat} (hE : ∀ a, a ∈ U → RndOk w0 o cp T sb (U.erase a)) (hin : InR T) (hT : T.length ≤ 256) (hfl : ∀ (i : Nat) x, T[i]? = some x → x.fl.length ≤ 1000) : RndOk w0 o cp T sb U := by
  intro M w a H ha hv hd hc
  by_cases h0 : mk M a = 0
  case neg => exact round_seen (U := U) H ha hv hd h0 hT
  have haM : a < M.length := by rw [H.len]; exact ha
  obtain ⟨x, hx⟩ : ∃ x, T[a]? = some x := ⟨T[a], List.getElem?_eq_getElem ha⟩
  obtain ⟨ad, la, rfl, _⟩ := H.tab.at hx
  have N : Nw w0 ad cp T sb U M w a x := ⟨hE a (hc a (by omega) h0), H, hx, h0, hv.set haM (.inr (.inl rfl)), hd.begin haM h0, hc.less haM, hin, hT⟩
  by_cases f7 : x.fm = 7
  · exact round_7 N f7
  by_cases f8 : x.fm = 8
  · exact round_8 N f8
  by_cases f9 : x.fm = 9
  · by_cases hb : x.ba = 0
    · exact round_9z N f9 hb (hfl a x hx)
    · exact round_9b N f9 hb (hfl a x hx)
  · exact round_none N ⟨f7, f8, f9⟩
theorem round_all (hin : InR T) (hT : T.length ≤ 256) (hfl : ∀ (i : Nat) x, T[i]? = some x → x.fl.length ≤ 1000) : ∀ (n : Nat) (U : List Nat), U.length ≤ n → RndOk w0 o cp T sb U
  | 0, U, h => round_step (fun a ha => by rw [List.eq_nil_of_length_eq_zero (Nat.le_zero.1 h)] at ha; cases ha) hin hT hfl
  | n + 1, U, h => round_step (fun a ha => round_all hin hT hfl n _ (by rw [List.length_erase_of_mem ha]; omega)) hin hT hfl
end
end Go.Proofs.Ythmldhppmpbadaa.Ty
