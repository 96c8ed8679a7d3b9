/-
  For every operation's number, mark, words and flags, package alu's Do answers what the document's own operation answers; no conditions.
-/
import Derived.Test.YtgbbppgedeikkaaRows
import Derived.Test.YtgbbppgedeikkaaAargs
import Derived.WalkKit
import Derived.ProofKit
import Derived.Test.YtgbbppgedeikkaaAown
import Derived.Test.YtgbbppgedeikkaaAlu7
namespace Go.Proofs.Ytgbbppgedeikkaa.aluDoes
open Go.ChangeShapes Go.WideShapes Go.ChangeAt Go.RowKit Go.Joins Go.Proofs.Ytgbbppgedeikkaa.Alu Go.Proofs.Ytgbbppgedeikkaa.Bits Go.Proofs.Ytgbbppgedeikkaa.Gw
set_option linter.unusedVariables false


set_option maxHeartbeats 2000000 in
set_option maxRecDepth 100000 in
theorem walk (op : Int) (u : Bool) (b n g : Int) (N Z C V : Bool) (wo : (Lit.int .i64 op).wf = true) (wb : (Lit.int .u32 b).wf = true) (wn : (Lit.int .u32 n).wf = true) (wg : (Lit.int .u32 g).wf = true) (w : World) :
    Calls Try.prog 3 #[askV op u b n g N Z C V] w fun e w' => e = .returned (.bool true) ∧ Grown w w' := by
  obtain ⟨b0, b1⟩ := bounds_u32 wb
  obtain ⟨n0, n1⟩ := bounds_u32 wn
  obtain ⟨g0, g1⟩ := bounds_u32 wg
  have D := fun w => do_any op u b n g N Z C V w (by omega) (by omega) (by omega) (by omega)
  have R := fun w => rdo_any op u b n g N Z C V w (by omega) (by omega) (by omega) (by omega) (by omega) (by omega)
  have S := same_any
  clear wo wb wn wg b0 b1 n0 n1 g0 g1
  have E : ∃ (r h : Int) (N' Z' C' V' k : Bool), doV op u b n g C V = .tuple #[.int .u32 r, .int .u32 h, .agg #[.bool N', .bool Z', .bool C', .bool V'], .bool k] ∧
      rdoV op u b n g C V = .agg #[.int .u32 r, .int .u32 h, .bool N', .bool Z', .bool C', .bool V', .bool k] := by
    unfold doV rdoV
    cases okB op u
    · exact ⟨_, _, _, _, _, _, _, rfl, rfl⟩
    · exact ⟨_, _, _, _, _, _, _, rfl, rfl⟩
  obtain ⟨r, h, N', Z', C', V', k, e1, e2⟩ := E
  rw [e1] at D
  rw [e2] at R
  clear e1 e2
  unfold fl at D R S
  unfold askV
  go_enter Try.func3, Try.ntmps3
  go_upto_region 2 with (go_at_call 9; refine (D _).mono ?_; rintro e w1 ⟨rfl, h1⟩; have O1 : Own 26 w1 w.heap.size #[.int .i64 op, .bool u, .int .u32 b, .int .u32 n, .int .u32 g, .bool N, .bool Z, .bool C, .bool V] := Own.g h1 (by with_reducible repeat' (first | exact Own.new _ _ _ | assumption | apply Own.alloc | apply Own.drew)); have G1 : G w w1 := G.then (by with_reducible repeat' (first | exact G.refl _ | assumption | apply G.alloc | apply G.drew)) h1; obtain ⟨s1, k0, k1, k2, k3, k4, k5, k6, k7, k8⟩ := O1.ask)
  clear D
  go_upto_region 3 with (go_at_call 10; refine (R _).mono ?_; rintro e w2 ⟨rfl, h2⟩; have O2 : Own 24 w2 w1.heap.size #[.bool N', .bool Z', .bool C', .bool V'] := Own.g h2 (by with_reducible repeat' (first | exact Own.new _ _ _ | assumption | apply Own.alloc | apply Own.drew)); have G2 : G w w2 := G.then (by with_reducible repeat' (first | exact G.refl _ | assumption | apply G.alloc | apply G.drew)) h2; obtain ⟨s2, f0, f1, f2, f3⟩ := O2.fl)
  clear R
  go_wp2_with (first | (go_at_call 11; refine (S _ _ _ _ _).mono ?_; rintro e w3 ⟨rfl, h3⟩; have O3 := Own.g h3 (Own.new 30 w2 _); have G3 : G w w3 := G.then (by with_reducible repeat' (first | exact G.refl _ | assumption | apply G.alloc | apply G.drew)) h3; obtain ⟨s3, t0, t1, t2, t3, t4, t5, t6⟩ := O3.told) | (go_at_call 12; refine (wakes_any _).mono ?_; rintro e w4 ⟨rfl, h4⟩; have G4 : G w w4 := G.then (by with_reducible repeat' (first | exact G.refl _ | assumption | apply G.alloc | apply G.drew)) h4))
  go_ret
  exact ⟨rfl, G.grown (by with_reducible repeat' (first | exact G.refl _ | assumption | apply G.alloc | apply G.drew))⟩

set_option maxRecDepth 100000 in
theorem lifted (os : Os) (started : os.Started) (H : Type) (enc : TypeId × Value → H) :
    ReturnsInHanded {} Try.checked os 3 .any (Rows.aluDoesSpec.pre6 enc Try.prog Try.f3 Rows.aluDoesRow.domain false) (Rows.aluDoesSpec.post enc Try.prog Try.f3 false true false false) := by
  refine returnsInHanded_of_change (C := Try.checked) own started (by kernel_rfl) Try.func3
    (ChangeSpec.witness6 (enc := enc) (C := Try.checked) false ⟨#[], #[.agg #[.int .i64 0, .bool false, .int .u32 0, .int .u32 0, .int .u32 0, .bool false, .bool false, .bool false, .bool false]], []⟩ 8 (by kernel_rfl) (by kernel_rfl) (by kernel_rfl) (by kernel_rfl)) ?_
  intro W base args ds gs before hval0 hW hcnd _
  have hval : ∀ (j : Nat) t v, Try.f3.params[j]? = some t → args[j]? = some v → Value.okWide Try.prog W .any base t v := hval0
  have hW' := hW
  obtain ⟨p, q, hA0, hV, rfl, hfz, hnd⟩ := hW
  have hA : DataW.TrodAll enc Try.prog W 0 (fun _ => true) true Try.f3.params.toList args.toList ds p := hA0
  rw [Try.params3] at hA hval
  obtain ⟨v0, d0, rfl, rfl, h0⟩ := trodAll_one hA
  obtain ⟨rfl, rfl⟩ := trodVars_none hV
  obtain ⟨op, u, b, n, g, N, Z, C, V, rfl, rfl, rfl, wo, wb, wn, wg⟩ := open_ask (hval 0 26 v0 rfl rfl) h0
  clear hA0 hval0
  simp only [List.append_nil] at hW'
  refine (walk op u b n g N Z C V wo wb wn wg W).mono fun e W' ⟨he, hg⟩ => ?_
  subst he
  exact ⟨_, rfl, post_of_same (pa := []) (pv := []) hW' (fun _ _ _ => (trodAll_cons_mk (shut_bool Try.underlying4 _) trodAll_mk0)) (fun sp _ => (trodAll_cons_mk (shut_ask wo wb wn wg) trodAll_mk0)) (fun _ _ => rfl) rfl
    (hg.frame _) hg.2.1 (ok_one (by kernel_rfl) rfl (okWide_bool_mk Try.underlying4 _))⟩

theorem proved : Rows.AluDoesSaid :=
  OpenClaim.holds_of_wide 3 Try.f3 rfl rfl rfl rfl rfl rfl rfl ⟨rfl, rfl, rfl, rfl, rfl⟩ rfl rfl rfl rfl rfl (by kernel_rfl) Try.func3 (by kernel_rfl)
    (of_decide_eq_true (by kernel_rfl)) (by unfold Func.isWrapper; first | (rw [if_pos (by decide +kernel)]; kernel_rfl) | (rw [if_neg (by decide +kernel)]; exact ⟨rfl, rfl⟩))
    (fun os started H enc _ => lifted os started H enc)
end Go.Proofs.Ytgbbppgedeikkaa.aluDoes

namespace Go.Proofs.Ytgbbppgedeikkaa
theorem aluDoes_holds : Rows.AluDoesSaid := aluDoes.proved
#print axioms aluDoes_holds
end Go.Proofs.Ytgbbppgedeikkaa
