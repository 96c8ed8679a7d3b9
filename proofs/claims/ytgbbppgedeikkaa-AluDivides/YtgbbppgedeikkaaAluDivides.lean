/-
  For all words and flags: of a divisor above 0, quotient times divisor and rest are the word again, the rest from 0 on and below the divisor; of another one the quotient is 0 and the rest the word; no conditions.
-/
import Derived.Test.YtgbbppgedeikkaaRows
import Derived.Test.YtgbbppgedeikkaaAargs
import Derived.WalkKit
import Derived.ProofKit
import Derived.Test.YtgbbppgedeikkaaAown
import Derived.Test.YtgbbppgedeikkaaAlu5
namespace Go.Proofs.Ytgbbppgedeikkaa.aluDivides
open Go.ChangeShapes Go.WideShapes Go.ChangeAt Go.RowKit Go.Joins Go.Proofs.Ytgbbppgedeikkaa.Alu Go.Proofs.Ytgbbppgedeikkaa.Bits Go.Proofs.Ytgbbppgedeikkaa.Gw
set_option linter.unusedVariables false

theorem again (b n : Int) (b0 : 0 ≤ b) (b1 : b < 4294967296) (n0 : 0 ≤ n) (n1 : n < 4294967296) (hm : 0 < wrap32 n) :
    0 ≤ divQ b n ∧ divQ b n < 4294967296 ∧ 0 ≤ divR b n ∧ divR b n < 2147483648 ∧ divR b n < n ∧ (wrap32 (divQ b n) * wrap32 n % 4294967296 + divR b n) % 4294967296 = b := by
  have em : wrap32 n = n := by unfold wrap32 at *; omega
  have hb := wrap32_lt b
  have hn := wrap32_lt n
  have eb : wrap32 b % 4294967296 = b := by unfold wrap32; omega
  unfold divQ divR
  rw [if_neg (by omega), if_neg (by omega)]
  obtain ⟨q1, q2, q3, q4⟩ := quo_facts (wrap32 b) (wrap32 n) hb.1 hb.2 hm (wrap32_lt n).2
  obtain ⟨t1, t2, t3, t4, t5, t6⟩ := tdiv_facts (wrap32 b) (wrap32 n) hb.1 hb.2 hm (wrap32_lt n).2
  have r0 := Int.emod_nonneg (wrap32 b) (show wrap32 n ≠ 0 by omega)
  have r1 := Int.emod_lt_of_pos (wrap32 b) hm
  have e := Int.mul_ediv_add_emod (wrap32 b) (wrap32 n)
  have p1 : -2147483648 ≤ wrap32 b / wrap32 n := by
    rw [Int.le_ediv_iff_mul_le hm]
    have : -2147483648 * wrap32 n ≤ -2147483648 * 1 := Int.mul_le_mul_of_nonpos_left (show (-2147483648 : Int) ≤ 0 by decide) (show 1 ≤ wrap32 n by omega)
    omega
  have p2 : wrap32 b / wrap32 n < 2147483648 := by
    rw [Int.ediv_lt_iff_lt_mul hm]
    have : 2147483648 * 1 ≤ 2147483648 * wrap32 n := Int.mul_le_mul_of_nonneg_left (show 1 ≤ wrap32 n by omega) (by decide)
    omega
  have eq : wrap32 (wrap32 b / wrap32 n % 4294967296) = wrap32 b / wrap32 n := by
    generalize wrap32 b / wrap32 n = x at *
    unfold wrap32; omega
  rw [eq]
  have hc : wrap32 b / wrap32 n * wrap32 n = wrap32 n * (wrap32 b / wrap32 n) := Int.mul_comm _ _
  refine ⟨by omega, by omega, by omega, by omega, by omega, ?_⟩
  rw [hc, Int.emod_add_emod, e, eb]

set_option maxHeartbeats 2000000 in
set_option maxRecDepth 100000 in
theorem walk (n0 : Int) (w0 : (Lit.int .u32 n0).wf = true) (n1 : Int) (w1 : (Lit.int .u32 n1).wf = true) (N Z C V : Bool) (w : World) :
    Calls Try.prog 6 #[.int .u32 n0, .int .u32 n1, fl N Z C V] w fun e w' => e = .returned (.bool true) ∧ Grown w w' := by
  obtain ⟨b0, b1⟩ := bounds_u32 w0
  obtain ⟨m0, m1⟩ := bounds_u32 w1
  have D := fun w => do_any 11 false n0 n1 7 N Z C V w (by omega) (by omega) (by omega) (by omega)
  have e : doV 11 false n0 n1 7 C V = tell (divQ n0 n1) (divR n0 n1) C V := rfl
  rw [e] at D
  clear e
  by_cases hm : wrap32 n1 ≤ 0
  · have eq : divQ n0 n1 = 0 := by unfold divQ; rw [if_pos hm]
    have er : divR n0 n1 = n0 := by unfold divR; rw [if_pos hm]
    rw [eq, er] at D
    unfold tell fl at D
    unfold fl
    clear eq er w0 w1
    go_enter Try.func6, Try.ntmps6
    go_wp2_with (first | (go_at_call 9; refine (D _).mono ?_; rintro e w1 ⟨rfl, h1⟩; have O1 : Own 24 w1 w.heap.size #[.bool N, .bool Z, .bool C, .bool V] := Own.g h1 (by with_reducible repeat' (first | exact Own.new _ _ _ | assumption | apply Own.alloc | apply Own.drew)); have G1 : G w w1 := G.then (by with_reducible repeat' (first | exact G.refl _ | assumption | apply G.alloc | apply G.drew)) h1; obtain ⟨s1, f01, f11, f21, f31⟩ := O1.fl) | (go_at_call 12; refine (wakes_any _).mono ?_; rintro e w4 ⟨rfl, h4⟩; have G4 : G w w4 := G.then (by with_reducible repeat' (first | exact G.refl _ | assumption | apply G.alloc | apply G.drew)) h4))
    go_ret
    exact ⟨rfl, G.grown (by with_reducible repeat' (first | exact G.refl _ | assumption | apply G.alloc | apply G.drew))⟩
  · have hm' : 0 < wrap32 n1 := by omega
    obtain ⟨q0, q1, r0, r1, r2, er⟩ := again n0 n1 (by omega) (by omega) (by omega) (by omega) hm'
    generalize divQ n0 n1 = q at *
    generalize divR n0 n1 = r at *
    have P := fun w => do_any 10 false q n1 0 N Z C V w (by omega) (by omega) (by omega) (by omega)
    have e : doV 10 false q n1 0 C V = tell (wrap32 q * wrap32 n1 % 4294967296) (wrap32 q * wrap32 n1 / 4294967296 % 4294967296) C V := rfl
    rw [e] at P
    clear e
    have p0 : 0 ≤ wrap32 q * wrap32 n1 % 4294967296 ∧ wrap32 q * wrap32 n1 % 4294967296 < 4294967296 := by omega
    generalize wrap32 q * wrap32 n1 % 4294967296 = p at *
    generalize wrap32 q * wrap32 n1 / 4294967296 % 4294967296 = p' at *
    unfold tell fl at D P
    unfold fl
    clear w0 w1 hm
    go_enter Try.func6, Try.ntmps6
    go_upto_region 6 with (go_at_call 9; refine (D _).mono ?_; rintro e w1 ⟨rfl, h1⟩; have O1 : Own 24 w1 w.heap.size #[.bool N, .bool Z, .bool C, .bool V] := Own.g h1 (by with_reducible repeat' (first | exact Own.new _ _ _ | assumption | apply Own.alloc | apply Own.drew)); have G1 : G w w1 := G.then (by with_reducible repeat' (first | exact G.refl _ | assumption | apply G.alloc | apply G.drew)) h1; obtain ⟨s1, f01, f11, f21, f31⟩ := O1.fl)
    go_wp2_with (first | (go_at_call 9; refine (P _).mono ?_; rintro e w2 ⟨rfl, h2⟩; have O2 : Own 24 w2 w.heap.size #[.bool N, .bool Z, .bool C, .bool V] := Own.g h2 (by with_reducible repeat' (first | exact Own.new _ _ _ | assumption | apply Own.alloc | apply Own.drew)); have G2 : G w w2 := G.then (by with_reducible repeat' (first | exact G.refl _ | assumption | apply G.alloc | apply G.drew)) h2; obtain ⟨s2, f02, f12, f22, f32⟩ := O2.fl) | (go_at_call 12; refine (wakes_any _).mono ?_; rintro e w4 ⟨rfl, h4⟩; have G4 : G w w4 := G.then (by with_reducible repeat' (first | exact G.refl _ | assumption | apply G.alloc | apply G.drew)) h4))
    all_goals go_ret
    all_goals exact ⟨rfl, G.grown (by with_reducible repeat' (first | exact G.refl _ | assumption | apply G.alloc | apply G.drew))⟩

set_option maxRecDepth 100000 in
theorem lifted (os : Os) (started : os.Started) (H : Type) (enc : TypeId × Value → H) :
    ReturnsInHanded {} Try.checked os 6 .any (Rows.aluDividesSpec.pre6 enc Try.prog Try.f6 Rows.aluDividesRow.domain false) (Rows.aluDividesSpec.post enc Try.prog Try.f6 false true false false) := by
  refine returnsInHanded_of_change (C := Try.checked) own started (by kernel_rfl) Try.func6
    (ChangeSpec.witness6 (enc := enc) (C := Try.checked) false ⟨#[], #[.int .u32 0, .int .u32 0, .agg #[.bool false, .bool false, .bool false, .bool false]], []⟩ 8 (by kernel_rfl) (by kernel_rfl) (by kernel_rfl) (by kernel_rfl)) ?_
  intro W base args ds gs before hval0 hW hcnd _
  have hval : ∀ (j : Nat) t v, Try.f6.params[j]? = some t → args[j]? = some v → Value.okWide Try.prog W .any base t v := hval0
  have hW' := hW
  obtain ⟨p, q, hA0, hV, rfl, hfz, hnd⟩ := hW
  have hA : DataW.TrodAll enc Try.prog W 0 (fun _ => true) true Try.f6.params.toList args.toList ds p := hA0
  rw [Try.params6] at hA hval
  obtain ⟨v0, vs0, d0, ds0, p0, q0, hargs, rfl, rfl, h0, r0⟩ := trodAll_cons hA
  obtain ⟨v1, vs1, d1, ds1, p1, q1, rfl, rfl, rfl, h1, r1⟩ := trodAll_cons r0
  obtain ⟨v2, vs2, d2, ds2, p2, q2, rfl, rfl, rfl, h2, r2⟩ := trodAll_cons r1
  obtain ⟨rfl, rfl, rfl⟩ := trodAll_nil r2
  obtain rfl : args = #[v0, v1, v2] := by cases args; simp_all
  obtain ⟨rfl, rfl⟩ := trodVars_none hV
  obtain ⟨n0, rfl, rfl, rfl, w0⟩ := open_int Try.underlying22 (hval 0 22 v0 rfl rfl) h0
  obtain ⟨n1, rfl, rfl, rfl, w1⟩ := open_int Try.underlying22 (hval 1 22 v1 rfl rfl) h1
  obtain ⟨N, Z, C, V, rfl, rfl, rfl⟩ := open_fl (hval 2 24 v2 rfl rfl) h2
  clear hA0 hval0
  simp only [List.append_nil] at hW'
  refine (walk n0 w0 n1 w1 N Z C V W).mono fun e W' ⟨he, hg⟩ => ?_
  subst he
  exact ⟨_, rfl, post_of_same (pa := []) (pv := []) hW' (fun _ _ _ => (trodAll_cons_mk (shut_bool Try.underlying4 _) trodAll_mk0)) (fun sp _ => (trodAll_cons_mk (shut_int Try.underlying22 w0) (trodAll_cons_mk (shut_int Try.underlying22 w1) (trodAll_cons_mk shut_fl trodAll_mk0)))) (fun _ _ => rfl) rfl
    (hg.frame _) hg.2.1 (ok_one (by kernel_rfl) rfl (okWide_bool_mk Try.underlying4 _))⟩

theorem proved : Rows.AluDividesSaid :=
  OpenClaim.holds_of_wide 6 Try.f6 rfl rfl rfl rfl rfl rfl rfl ⟨rfl, rfl, rfl, rfl, rfl⟩ rfl rfl rfl rfl rfl (by kernel_rfl) Try.func6 (by kernel_rfl)
    (of_decide_eq_true (by kernel_rfl)) (by unfold Func.isWrapper; first | (rw [if_pos (by decide +kernel)]; kernel_rfl) | (rw [if_neg (by decide +kernel)]; exact ⟨rfl, rfl⟩))
    (fun os started H enc _ => lifted os started H enc)
end Go.Proofs.Ytgbbppgedeikkaa.aluDivides

namespace Go.Proofs.Ytgbbppgedeikkaa
theorem aluDivides_holds : Rows.AluDividesSaid := aluDivides.proved
#print axioms aluDivides_holds
end Go.Proofs.Ytgbbppgedeikkaa
