/-
  For every two rows of texts: behind a level that was opened, filled and closed all is found as it was (ScopeBack, P15.3); no condition.
-/
import Derived.Test.YtmoekalagollhaaRows
import Derived.Test.YtmoekalagollhaaScarg
import Derived.WalkKit
import Derived.ProofKit
import Derived.Below
import Derived.Test.YtmoekalagollhaaSw5
namespace Go.Proofs.Ytmoekalagollhaa.scopeBack
open Go.ChangeShapes Go.WideShapes Go.ChangeAt Go.ChangeMaps Go.Proofs.Ytmoekalagollhaa.So Go.Proofs.Ytmoekalagollhaa.Tx Go.Proofs.Ytmoekalagollhaa.Ty
open Go.RowKit hiding Hid
set_option linter.unusedVariables false
set_option linter.unusedSimpArgs false
set_option maxRecDepth 100000


theorem walk (w : World) (o0 : Option Addr) (c0 : Nat) (l0 : List Nm) (S0 : Cls w o0 (l0.flatMap txC)) (N0 : ∀ s ∈ l0, s.length ≤ maxLen) (m0 : l0.length ≤ maxLen) (o1 : Option Addr) (c1 : Nat) (l1 : List Nm) (S1 : Cls w o1 (l1.flatMap txC)) (N1 : ∀ s ∈ l1, s.length ≤ maxLen) (m1 : l1.length ≤ maxLen) :
    Calls Try.prog 8 #[.slice o0 l0.length c0, .slice o1 l1.length c1] w fun e w' => e = .returned (.bool true) ∧ w.grownBy w' none := by
  exact back_walk w o0 c0 l0 S0 N0 m0 o1 c1 l1 S1 N1 m1

set_option maxRecDepth 100000 in
theorem lifted (os : Os) (started : os.Started) (H : Type) (enc : TypeId × Value → H) :
    ReturnsInHanded {} Try.checked os 8 .any (Rows.scopeBackSpec.pre6 enc Try.prog Try.f8 Rows.scopeBackRow.domain false) (Rows.scopeBackSpec.post enc Try.prog Try.f8 false true false false) := by
  refine returnsInHanded_of_change_sized (C := Try.checked) own started (by kernel_rfl) Try.func8
    (ChangeSpec.witness6 (enc := enc) (C := Try.checked) false ⟨#[], #[.slice none 0 0, .slice none 0 0], []⟩ 8 (by kernel_rfl) (by kernel_rfl) (by kernel_rfl) (by kernel_rfl)) ?_
  intro W base args ds gs before hval0 hW hcnd hwt _
  have hval : ∀ (j : Nat) t v, Try.f8.params[j]? = some t → args[j]? = some v → Value.okWide Try.prog W .any base t v := hval0
  have hW' := hW
  obtain ⟨p, q, hA0, hV, rfl, hfz, hnd⟩ := hW
  have hA : DataW.TrodAll enc Try.prog W 0 (fun _ => true) true Try.f8.params.toList args.toList ds p := hA0
  rw [Try.params8] at hA hval hwt
  obtain ⟨v0, vs0, d0, ds0, p0, q0, hargs, rfl, rfl, h0, r0⟩ := trodAll_cons hA
  obtain ⟨v1, vs1, d1, ds1, p1, q1, rfl, rfl, rfl, h1, r1⟩ := trodAll_cons r0
  obtain ⟨rfl, rfl, rfl⟩ := trodAll_nil r1
  obtain rfl : args = #[v0, v1] := by cases args; simp_all
  obtain ⟨rfl, rfl⟩ := trodVars_none hV
  have k0 := h0
  have lt0 : ∀ x ∈ p0, x.block < W.heap.size := by obtain ⟨m, hm⟩ := k0; exact DataW.trod_lt m _ _ _ hm
  obtain ⟨o0, n0, c0, rfl⟩ := okWide_slice Try.underlying54 (hval 0 54 v0 rfl rfl)
  obtain ⟨l0, rfl, S0, N0, m0⟩ := open_texts h0
  have k1 := h1
  have lt1 : ∀ x ∈ p1, x.block < W.heap.size := by obtain ⟨m, hm⟩ := k1; exact DataW.trod_lt m _ _ _ hm
  obtain ⟨o1, n1, c1, rfl⟩ := okWide_slice Try.underlying54 (hval 1 54 v1 rfl rfl)
  obtain ⟨l1, rfl, S1, N1, m1⟩ := open_texts h1
  clear hA0 hval0
  refine (walk W o0 c0 l0 S0 N0 m0 o1 c1 l1 S1 N1 m1).mono fun e W' ⟨he, hg⟩ => ?_
  subst he
  have bel : Below W.heap.size W W' := ⟨hg.os, hg.tape, hg.output, hg.size, fun k hk => hg.block k hk (by simp)⟩
  exact ⟨_, rfl, _, _, _, [], _, [], hW', trodAll_mk1 (shut_bool Try.underlying4 _), (trodAll_cons_mk (Below.trod laidSo (by kernel_rfl) (of_decide_eq_true (by kernel_rfl)) k0 bel lt0) (trodAll_cons_mk (Below.trod laidSo (by kernel_rfl) (of_decide_eq_true (by kernel_rfl)) k1 bel lt1) trodAll_mk0)), rfl, bel.frame _, fun h => by cases h⟩

theorem proved : Rows.ScopeBackSaid :=
  OpenClaim.holds_of_wide 8 Try.f8 rfl rfl rfl rfl rfl rfl rfl ⟨rfl, rfl, rfl, rfl, rfl⟩ rfl rfl rfl rfl rfl (by kernel_rfl) Try.func8 (by kernel_rfl)
    (of_decide_eq_true (by kernel_rfl)) (by unfold Func.isWrapper; first | (rw [if_pos (by decide +kernel)]; kernel_rfl) | (rw [if_neg (by decide +kernel)]; exact ⟨rfl, rfl⟩))
    (fun os started H enc _ => lifted os started H enc)
end Go.Proofs.Ytmoekalagollhaa.scopeBack

namespace Go.Proofs.Ytmoekalagollhaa
theorem scopeBack_holds : Rows.ScopeBackSaid := scopeBack.proved
#print axioms scopeBack_holds
end Go.Proofs.Ytmoekalagollhaa
