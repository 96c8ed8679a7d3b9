/-
  For every condition's number and all flags, package alu's Holds answers what the document's own conditions answer, and the conditions 8 to 15 are the opposites of 0 to 7; no conditions.
-/
import Derived.Test.YtgbbppgedeikkaaRows
import Derived.Test.YtgbbppgedeikkaaAargs
import Derived.WalkKit
import Derived.ProofKit
import Derived.Test.YtgbbppgedeikkaaAown
import Derived.Test.YtgbbppgedeikkaaAlu7
namespace Go.Proofs.Ytgbbppgedeikkaa.aluHolds
open Go.ChangeShapes Go.WideShapes Go.ChangeAt Go.RowKit Go.Joins Go.Proofs.Ytgbbppgedeikkaa.Alu Go.Proofs.Ytgbbppgedeikkaa.Bits Go.Proofs.Ytgbbppgedeikkaa.Gw
set_option linter.unusedVariables false

theorem opposite (c : Int) (N Z C V : Bool) (h0 : 0 ≤ c) (h1 : c ≤ 7) : holdsB (c + 8) N Z C V = !holdsB c N Z C V := by
  unfold holdsB
  rw [if_pos (by omega), if_neg (by omega), show c + 8 - 8 = c by omega]

set_option maxHeartbeats 2000000 in
set_option maxRecDepth 100000 in
theorem walk (n0 : Int) (w0 : (Lit.int .i64 n0).wf = true) (N Z C V : Bool) (w : World) :
    Calls Try.prog 4 #[.int .i64 n0, fl N Z C V] w fun e w' => e = .returned (.bool true) ∧ Grown w w' := by
  obtain ⟨c0, c1⟩ := bounds_i64 w0
  have D := fun w => holds_any n0 N Z C V w (by omega)
  have R := fun w => rholds_any n0 N Z C V w (by omega) (by omega)
  by_cases hl : n0 < 0
  · generalize holdsB n0 N Z C V = q at D R
    clear w0
    unfold fl at D R ⊢
    go_enter Try.func4, Try.ntmps4
    go_wp2_with (first | (go_at_call 13; refine (D _).mono ?_; rintro e w1 ⟨rfl, h1⟩; have O1 : Own 24 w1 w.heap.size #[.bool N, .bool Z, .bool C, .bool V] := Own.g h1 (by with_reducible repeat' (first | exact Own.new _ _ _ | assumption | apply Own.alloc | apply Own.drew)); have G1 : G w w1 := G.then (by with_reducible repeat' (first | exact G.refl _ | assumption | apply G.alloc | apply G.drew)) h1; obtain ⟨s1, f01, f11, f21, f31⟩ := O1.fl) | (go_at_call 14; refine (R _).mono ?_; rintro e w2 ⟨rfl, h2⟩; have O2 : Own 24 w2 w.heap.size #[.bool N, .bool Z, .bool C, .bool V] := Own.g h2 (by with_reducible repeat' (first | exact Own.new _ _ _ | assumption | apply Own.alloc | apply Own.drew)); have G2 : G w w2 := G.then (by with_reducible repeat' (first | exact G.refl _ | assumption | apply G.alloc | apply G.drew)) h2; obtain ⟨s2, f02, f12, f22, f32⟩ := O2.fl) | (go_at_call 12; refine (wakes_any _).mono ?_; rintro e w4 ⟨rfl, h4⟩; have G4 : G w w4 := G.then (by with_reducible repeat' (first | exact G.refl _ | assumption | apply G.alloc | apply G.drew)) h4))
    go_ret
    exact ⟨rfl, G.grown (by with_reducible repeat' (first | exact G.refl _ | assumption | apply G.alloc | apply G.drew))⟩
  by_cases hh : 7 < n0
  · generalize holdsB n0 N Z C V = q at D R
    clear w0 hl
    unfold fl at D R ⊢
    go_enter Try.func4, Try.ntmps4
    go_wp2_with (first | (go_at_call 13; refine (D _).mono ?_; rintro e w1 ⟨rfl, h1⟩; have O1 : Own 24 w1 w.heap.size #[.bool N, .bool Z, .bool C, .bool V] := Own.g h1 (by with_reducible repeat' (first | exact Own.new _ _ _ | assumption | apply Own.alloc | apply Own.drew)); have G1 : G w w1 := G.then (by with_reducible repeat' (first | exact G.refl _ | assumption | apply G.alloc | apply G.drew)) h1; obtain ⟨s1, f01, f11, f21, f31⟩ := O1.fl) | (go_at_call 14; refine (R _).mono ?_; rintro e w2 ⟨rfl, h2⟩; have O2 : Own 24 w2 w.heap.size #[.bool N, .bool Z, .bool C, .bool V] := Own.g h2 (by with_reducible repeat' (first | exact Own.new _ _ _ | assumption | apply Own.alloc | apply Own.drew)); have G2 : G w w2 := G.then (by with_reducible repeat' (first | exact G.refl _ | assumption | apply G.alloc | apply G.drew)) h2; obtain ⟨s2, f02, f12, f22, f32⟩ := O2.fl) | (go_at_call 12; refine (wakes_any _).mono ?_; rintro e w4 ⟨rfl, h4⟩; have G4 : G w w4 := G.then (by with_reducible repeat' (first | exact G.refl _ | assumption | apply G.alloc | apply G.drew)) h4))
    go_ret
    exact ⟨rfl, G.grown (by with_reducible repeat' (first | exact G.refl _ | assumption | apply G.alloc | apply G.drew))⟩
  · have D8 := fun w => holds_any (n0 + 8) N Z C V w (by omega)
    rw [opposite n0 N Z C V (by omega) (by omega)] at D8
    generalize holdsB n0 N Z C V = q at D R D8
    have g0 : 0 ≤ n0 := by omega
    have g7 : n0 ≤ 7 := by omega
    clear w0 hl hh
    unfold fl at D R D8 ⊢
    go_enter Try.func4, Try.ntmps4
    go_upto_region 2 with (go_at_call 13; refine (D _).mono ?_; rintro e w1 ⟨rfl, h1⟩; have O1 : Own 24 w1 w.heap.size #[.bool N, .bool Z, .bool C, .bool V] := Own.g h1 (by with_reducible repeat' (first | exact Own.new _ _ _ | assumption | apply Own.alloc | apply Own.drew)); have G1 : G w w1 := G.then (by with_reducible repeat' (first | exact G.refl _ | assumption | apply G.alloc | apply G.drew)) h1; obtain ⟨s1, f01, f11, f21, f31⟩ := O1.fl)
    go_wp2_with (first | (go_at_call 13; refine (D8 _).mono ?_; rintro e w3 ⟨rfl, h3⟩; have O3 : Own 24 w3 w.heap.size #[.bool N, .bool Z, .bool C, .bool V] := Own.g h3 (by with_reducible repeat' (first | exact Own.new _ _ _ | assumption | apply Own.alloc | apply Own.drew)); have G3 : G w w3 := G.then (by with_reducible repeat' (first | exact G.refl _ | assumption | apply G.alloc | apply G.drew)) h3; obtain ⟨s3, f03, f13, f23, f33⟩ := O3.fl) | (go_at_call 14; refine (R _).mono ?_; rintro e w2 ⟨rfl, h2⟩; have O2 : Own 24 w2 w.heap.size #[.bool N, .bool Z, .bool C, .bool V] := Own.g h2 (by with_reducible repeat' (first | exact Own.new _ _ _ | assumption | apply Own.alloc | apply Own.drew)); have G2 : G w w2 := G.then (by with_reducible repeat' (first | exact G.refl _ | assumption | apply G.alloc | apply G.drew)) h2; obtain ⟨s2, f02, f12, f22, f32⟩ := O2.fl) | (go_at_call 12; refine (wakes_any _).mono ?_; rintro e w4 ⟨rfl, h4⟩; have G4 : G w w4 := G.then (by with_reducible repeat' (first | exact G.refl _ | assumption | apply G.alloc | apply G.drew)) h4))
    all_goals go_ret
    all_goals exact ⟨rfl, G.grown (by with_reducible repeat' (first | exact G.refl _ | assumption | apply G.alloc | apply G.drew))⟩

set_option maxRecDepth 100000 in
theorem lifted (os : Os) (started : os.Started) (H : Type) (enc : TypeId × Value → H) :
    ReturnsInHanded {} Try.checked os 4 .any (Rows.aluHoldsSpec.pre6 enc Try.prog Try.f4 Rows.aluHoldsRow.domain false) (Rows.aluHoldsSpec.post enc Try.prog Try.f4 false true false false) := by
  refine returnsInHanded_of_change (C := Try.checked) own started (by kernel_rfl) Try.func4
    (ChangeSpec.witness6 (enc := enc) (C := Try.checked) false ⟨#[], #[.int .i64 0, .agg #[.bool false, .bool false, .bool false, .bool false]], []⟩ 8 (by kernel_rfl) (by kernel_rfl) (by kernel_rfl) (by kernel_rfl)) ?_
  intro W base args ds gs before hval0 hW hcnd _
  have hval : ∀ (j : Nat) t v, Try.f4.params[j]? = some t → args[j]? = some v → Value.okWide Try.prog W .any base t v := hval0
  have hW' := hW
  obtain ⟨p, q, hA0, hV, rfl, hfz, hnd⟩ := hW
  have hA : DataW.TrodAll enc Try.prog W 0 (fun _ => true) true Try.f4.params.toList args.toList ds p := hA0
  rw [Try.params4] at hA hval
  obtain ⟨v0, vs0, d0, ds0, p0, q0, hargs, rfl, rfl, h0, r0⟩ := trodAll_cons hA
  obtain ⟨v1, vs1, d1, ds1, p1, q1, rfl, rfl, rfl, h1, r1⟩ := trodAll_cons r0
  obtain ⟨rfl, rfl, rfl⟩ := trodAll_nil r1
  obtain rfl : args = #[v0, v1] := by cases args; simp_all
  obtain ⟨rfl, rfl⟩ := trodVars_none hV
  obtain ⟨n0, rfl, rfl, rfl, w0⟩ := open_int Try.underlying3 (hval 0 3 v0 rfl rfl) h0
  obtain ⟨N, Z, C, V, rfl, rfl, rfl⟩ := open_fl (hval 1 24 v1 rfl rfl) h1
  clear hA0 hval0
  simp only [List.append_nil] at hW'
  refine (walk n0 w0 N Z C V W).mono fun e W' ⟨he, hg⟩ => ?_
  subst he
  exact ⟨_, rfl, post_of_same (pa := []) (pv := []) hW' (fun _ _ _ => (trodAll_cons_mk (shut_bool Try.underlying4 _) trodAll_mk0)) (fun sp _ => (trodAll_cons_mk (shut_int Try.underlying3 w0) (trodAll_cons_mk shut_fl trodAll_mk0))) (fun _ _ => rfl) rfl
    (hg.frame _) hg.2.1 (ok_one (by kernel_rfl) rfl (okWide_bool_mk Try.underlying4 _))⟩

theorem proved : Rows.AluHoldsSaid :=
  OpenClaim.holds_of_wide 4 Try.f4 rfl rfl rfl rfl rfl rfl rfl ⟨rfl, rfl, rfl, rfl, rfl⟩ rfl rfl rfl rfl rfl (by kernel_rfl) Try.func4 (by kernel_rfl)
    (of_decide_eq_true (by kernel_rfl)) (by unfold Func.isWrapper; first | (rw [if_pos (by decide +kernel)]; kernel_rfl) | (rw [if_neg (by decide +kernel)]; exact ⟨rfl, rfl⟩))
    (fun os started H enc _ => lifted os started H enc)
end Go.Proofs.Ytgbbppgedeikkaa.aluHolds

namespace Go.Proofs.Ytgbbppgedeikkaa
theorem aluHolds_holds : Rows.AluHoldsSaid := aluHolds.proved
#print axioms aluHolds_holds
end Go.Proofs.Ytgbbppgedeikkaa
