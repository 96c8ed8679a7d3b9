/-
  For every row of pairs: the set of them is as the document says (ConstsSets, P12.5); no condition.
-/
import Derived.Test.YtgdpcdpkaaefbaaRows
import Derived.Test.YtgdpcdpkaaefbaaCnarg
import Derived.WalkKit
import Derived.ProofKit
import Derived.Below
import Derived.Test.YtgdpcdpkaaefbaaCl7
namespace Go.Proofs.Ytgdpcdpkaaefbaa.constsSets
open Go.ChangeShapes Go.WideShapes Go.ChangeAt Go.ChangeMaps Go.Proofs.Ytgdpcdpkaaefbaa.Cn Go.Proofs.Ytgdpcdpkaaefbaa.Tx
open Go.RowKit hiding Hid
set_option linter.unusedVariables false
set_option linter.unusedSimpArgs false
set_option maxRecDepth 100000


theorem walk (w : World) (o0 : Option Addr) (c0 : Nat) (l0 : List Pr) (S0 : Cls w o0 (l0.flatMap prC)) (K0 : ∀ v ∈ l0, prOk v) (m0 : l0.length ≤ maxLen) (N0 : o0 = none → c0 = 0) :
    Calls Try.prog 6 #[.slice o0 l0.length c0] w fun e w' => e = .returned (.bool true) ∧ w.grownBy w' none := by
  exact lsets_walk m0 S0 N0

set_option maxRecDepth 100000 in
theorem lifted (os : Os) (started : os.Started) (H : Type) (enc : TypeId × Value → H) :
    ReturnsInHanded {} Try.checked os 6 .any (Rows.constsSetsSpec.pre6 enc Try.prog Try.f6 Rows.constsSetsRow.domain false) (Rows.constsSetsSpec.post enc Try.prog Try.f6 false true false false) := by
  refine returnsInHanded_of_change (C := Try.checked) own started (by kernel_rfl) Try.func6
    (ChangeSpec.witness6 (enc := enc) (C := Try.checked) false ⟨#[], #[.slice none 0 0], []⟩ 8 (by kernel_rfl) (by kernel_rfl) (by kernel_rfl) (by kernel_rfl)) ?_
  intro W base args ds gs before hval0 hW hcnd _
  have hval : ∀ (j : Nat) t v, Try.f6.params[j]? = some t → args[j]? = some v → Value.okWide Try.prog W .any base t v := hval0
  have hW' := hW
  obtain ⟨p, q, hA0, hV, rfl, hfz, hnd⟩ := hW
  have hA : DataW.TrodAll enc Try.prog W 0 (fun _ => true) true Try.f6.params.toList args.toList ds p := hA0
  rw [Try.params6] at hA hval
  obtain ⟨v0, vs0, d0, ds0, p0, q0, hargs, rfl, rfl, h0, r0⟩ := trodAll_cons hA
  obtain ⟨rfl, rfl, rfl⟩ := trodAll_nil r0
  obtain rfl : args = #[v0] := by cases args; simp_all
  obtain ⟨rfl, rfl⟩ := trodVars_none hV
  have k0 := h0
  have lt0 : ∀ x ∈ p0, x.block < W.heap.size := by obtain ⟨m, hm⟩ := k0; exact DataW.trod_lt m _ _ _ hm
  obtain ⟨o0, n0, c0, rfl⟩ := okWide_slice Try.underlying41 (hval 0 41 v0 rfl rfl)
  obtain ⟨l0, rfl, S0, K0, m0, N0⟩ := open_pairs h0
  clear hA0 hval0
  refine (walk W o0 c0 l0 S0 K0 m0 N0).mono fun e W' ⟨he, hg⟩ => ?_
  subst he
  have bel : Below W.heap.size W W' := ⟨hg.os, hg.tape, hg.output, hg.size, fun k hk => hg.block k hk (by simp)⟩
  exact ⟨_, rfl, _, _, _, [], _, [], hW', trodAll_mk1 (shut_bool Try.underlying4 _), (trodAll_cons_mk (Below.trod laidOut (by kernel_rfl) (of_decide_eq_true (by kernel_rfl)) k0 bel lt0) trodAll_mk0), rfl, bel.frame _, fun h => by cases h⟩

theorem proved : Rows.ConstsSetsSaid :=
  OpenClaim.holds_of_wide 6 Try.f6 rfl rfl rfl rfl rfl rfl rfl ⟨rfl, rfl, rfl, rfl, rfl⟩ rfl rfl rfl rfl rfl (by kernel_rfl) Try.func6 (by kernel_rfl)
    (of_decide_eq_true (by kernel_rfl)) (by unfold Func.isWrapper; first | (rw [if_pos (by decide +kernel)]; kernel_rfl) | (rw [if_neg (by decide +kernel)]; exact ⟨rfl, rfl⟩))
    (fun os started H enc _ => lifted os started H enc)
end Go.Proofs.Ytgdpcdpkaaefbaa.constsSets

namespace Go.Proofs.Ytgdpcdpkaaefbaa
theorem constsSets_holds : Rows.ConstsSetsSaid := constsSets.proved
#print axioms constsSets_holds
end Go.Proofs.Ytgdpcdpkaaefbaa
