/-
  For every number and every count of bits, the law BitsFits answers true: a number that fits is what its lower bits say, and one that does not is not; no conditions.
-/
import Derived.Test.YtnefkppmkgdakabRows
import Derived.WalkKit
import Derived.Test.YtnefkppmkgdakabWakes
import Derived.ProofKit
import Derived.OpenShut
namespace Go.Proofs.Ytnefkppmkgdakab.bitsFits
open Go.ChangeShapes Go.WideShapes Go.ChangeAt Go.RowKit
set_option linter.unusedVariables false

theorem own : ownKnob Try.prog.godebug = none := by kernel_rfl

open Go.Proofs.Ytnefkppmkgdakab.Bits Go.Proofs.Ytnefkppmkgdakab.Bm
theorem ext_none (v n : Int) (h : n < 1 ∨ 32 < n) : extI v n = 0 := by unfold extI; rw [if_neg (by omega)]
theorem fits_none (v n : Int) (h : n < 1 ∨ 32 < n) : fitsB v n = false := by unfold fitsB; rw [decide_eq_false_iff_not]; omega
theorem ext_all (v : Int) : extI (v % 4294967296) 32 = wrap32 (v % 4294967296) := by
  have := ext_eq (v % 4294967296) 32 (Int.emod_nonneg _ (by decide)) (by decide) (by decide)
  rw [← this]
  have e : (32 - 32 : Int).toNat = 0 := rfl
  rw [e]
  simp
theorem fits_all (v : Int) : fitsB v 32 = (wrap32 (v % 4294967296) == v) := by
  rw [← fits_eq v 32 (by decide), ext_all]
set_option maxHeartbeats 1000000 in

theorem walk (a0 : Int) (a1 : Int) (w0 : (Lit.int .i64 a0).wf = true) (w1 : (Lit.int .i64 a1).wf = true) (w : World) :
    Calls Try.prog 3 #[.int .i64 a0, .int .i64 a1] w fun e w' => e = .returned (.bool true) ∧ Grown w w' := by
  have hw : 0 ≤ a0 % 4294967296 := Int.emod_nonneg _ (by decide)
  by_cases h1 : a1 < 1
  · have e1 : (!fitsB a0 a1) = true := by rw [fits_none a0 a1 (Or.inl h1)]; rfl
    have e2 : (extI (a0 % 4294967296) a1 == 0) = true := by rw [ext_none _ a1 (Or.inl h1)]; rfl
    go_enter Try.func3, Try.ntmps3
    go_wp2_with (first | (go_at_call 4; refine (fits_any _ _ _).mono ?_; rintro e w' ⟨rfl, rfl⟩) | (go_at_call 6; refine (word_any _ _).mono ?_; rintro e w' ⟨rfl, rfl⟩) | (go_at_call 5; refine (extend_any _ _ _ hw).mono ?_; rintro e w' ⟨rfl, rfl⟩) | (go_at_call 7; refine (wakes_any _).mono ?_; rintro e w' ⟨rfl, rfl⟩))
    go_ret
    exact ⟨rfl, Grown.refl _⟩
  · by_cases h2 : 32 < a1
    · have e1 : (!fitsB a0 a1) = true := by rw [fits_none a0 a1 (Or.inr h2)]; rfl
      have e2 : (extI (a0 % 4294967296) a1 == 0) = true := by rw [ext_none _ a1 (Or.inr h2)]; rfl
      go_enter Try.func3, Try.ntmps3
      go_wp2_with (first | (go_at_call 4; refine (fits_any _ _ _).mono ?_; rintro e w' ⟨rfl, rfl⟩) | (go_at_call 6; refine (word_any _ _).mono ?_; rintro e w' ⟨rfl, rfl⟩) | (go_at_call 5; refine (extend_any _ _ _ hw).mono ?_; rintro e w' ⟨rfl, rfl⟩) | (go_at_call 7; refine (wakes_any _).mono ?_; rintro e w' ⟨rfl, rfl⟩))
      go_ret
      exact ⟨rfl, Grown.refl _⟩
    · have hok : okB 0 a1 = true := by unfold okB; rw [decide_eq_true_iff]; omega
      have e1 : (fitsB a0 a1 == (extI (a0 % 4294967296) a1 == a0)) = true := by rw [fits_eq a0 a1 hok]; simp
      have e2 : (fitsB a0 32 == (wrap32 (a0 % 4294967296) == a0)) = true := by rw [fits_all]; simp
      have h3 : 1 ≤ a1 := by omega
      have h4 : a1 ≤ 32 := by omega
      clear hok h1 h2
      go_enter Try.func3, Try.ntmps3
      go_wp2_with (first | (go_at_call 4; refine (fits_any _ _ _).mono ?_; rintro e w' ⟨rfl, rfl⟩) | (go_at_call 6; refine (word_any _ _).mono ?_; rintro e w' ⟨rfl, rfl⟩) | (go_at_call 8; refine (signed_any _ _).mono ?_; rintro e w' ⟨rfl, rfl⟩) | (go_at_call 5; refine (extend_any _ _ _ hw).mono ?_; rintro e w' ⟨rfl, rfl⟩) | (go_at_call 7; refine (wakes_any _).mono ?_; rintro e w' ⟨rfl, rfl⟩))
      go_ret
      exact ⟨rfl, Grown.refl _⟩

set_option maxRecDepth 100000 in
theorem lifted (os : Os) (started : os.Started) (H : Type) (enc : TypeId × Value → H) :
    ReturnsInHanded {} Try.checked os 3 .any (Rows.bitsFitsSpec.pre6 enc Try.prog Try.f3 Rows.bitsFitsRow.domain false) (Rows.bitsFitsSpec.post enc Try.prog Try.f3 false true false false) := by
  refine returnsInHanded_of_change (C := Try.checked) own started (by kernel_rfl) Try.func3
    (ChangeSpec.witness6 (enc := enc) (C := Try.checked) false ⟨#[], #[.int .i64 0, .int .i64 0], []⟩ 8 (by kernel_rfl) (by kernel_rfl) (by kernel_rfl) (by kernel_rfl)) ?_
  intro W base args ds gs before hval0 hW hcnd _
  have hval : ∀ (j : Nat) t v, Try.f3.params[j]? = some t → args[j]? = some v → Value.okWide Try.prog W .any base t v := hval0
  have hW' := hW
  obtain ⟨p, q, hA0, hV, rfl, hfz, hnd⟩ := hW
  have hA : DataW.TrodAll enc Try.prog W 0 (fun _ => true) true Try.f3.params.toList args.toList ds p := hA0
  rw [Try.params3] at hA hval
  obtain ⟨v0, vs0, d0, ds0, p0, q0, hargs, rfl, rfl, h0, r0⟩ := trodAll_cons hA
  obtain ⟨v1, vs1, d1, ds1, p1, q1, rfl, rfl, rfl, h1, r1⟩ := trodAll_cons r0
  obtain ⟨rfl, rfl, rfl⟩ := trodAll_nil r1
  obtain rfl : args = #[v0, v1] := by cases args; simp_all
  obtain ⟨rfl, rfl⟩ := trodVars_none hV
  obtain ⟨a0, rfl, rfl, rfl, w0⟩ := open_int Try.underlying3 (hval 0 3 v0 rfl rfl) h0
  obtain ⟨a1, rfl, rfl, rfl, w1⟩ := open_int Try.underlying3 (hval 1 3 v1 rfl rfl) h1
  clear hA0 hval0
  simp only [List.append_nil] at hW'
  refine (walk a0 a1 w0 w1 W).mono fun e W' ⟨he, hg⟩ => ?_
  subst he
  exact ⟨_, rfl, post_of_same (pa := []) (pv := []) hW' (fun _ _ _ => (trodAll_cons_mk (shut_bool Try.underlying4 _) trodAll_mk0)) (fun sp _ => (trodAll_cons_mk (shut_int Try.underlying3 w0) (trodAll_cons_mk (shut_int Try.underlying3 w1) trodAll_mk0))) (fun _ _ => rfl) rfl
    (hg.frame _) hg.2.1 (ok_one (by kernel_rfl) rfl (okWide_bool_mk Try.underlying4 _))⟩

theorem over : Rows.bitsFitsRow.holds Try.pinned (OpenSpec.ofChange Rows.bitsFitsSpec) :=
  OpenClaim.holds_of_wide 3 Try.f3 rfl rfl rfl rfl rfl rfl rfl ⟨rfl, rfl, rfl, rfl, rfl⟩ rfl rfl rfl rfl rfl (by kernel_rfl) Try.func3 (by kernel_rfl)
    (of_decide_eq_true (by kernel_rfl)) (by unfold Func.isWrapper; first | (rw [if_pos (by decide +kernel)]; kernel_rfl) | (rw [if_neg (by decide +kernel)]; exact ⟨rfl, rfl⟩))
    (fun os started H enc _ => lifted os started H enc)

theorem proved : Rows.BitsFitsSaid :=
  over
end Go.Proofs.Ytnefkppmkgdakab.bitsFits

namespace Go.Proofs.Ytnefkppmkgdakab
theorem bitsFits_holds : Rows.BitsFitsSaid := bitsFits.proved
#print axioms bitsFits_holds
end Go.Proofs.Ytnefkppmkgdakab
