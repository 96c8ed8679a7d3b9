/-
  For all words and flags, and, or, both unlike and the one without the other hang together as they must, moves go by the number's rest by 32, turning and moving with the sign are what shifts make, and H, C and V stay; no conditions.
-/
import Derived.Test.YtgbbppgedeikkaaRows
import Derived.Test.YtgbbppgedeikkaaAargs
import Derived.WalkKit
import Derived.ProofKit
import Derived.Test.YtgbbppgedeikkaaAown
namespace Go.Proofs.Ytgbbppgedeikkaa.aluLogic
open Go.ChangeShapes Go.WideShapes Go.ChangeAt Go.RowKit Go.Joins Go.Proofs.Ytgbbppgedeikkaa.Alu Go.Proofs.Ytgbbppgedeikkaa.Bits Go.Proofs.Ytgbbppgedeikkaa.Gw
set_option linter.unusedVariables false

theorem and_xor (b n : Int) (b0 : 0 ≤ b) (b1 : b < 4294967296) (n0 : 0 ≤ n) (n1 : n < 4294967296) :
    Go.bits .or .u32 (Go.bits .and .u32 b n) (Go.bits .xor .u32 b n) = Go.bits .or .u32 b n ∧
    Go.bits .xor .u32 (Go.bits .and .u32 b n) (Go.bits .andNot .u32 b n) = b ∧
    Go.bits .and .u32 (Go.bits .andNot .u32 b n) n = 0 := by
  obtain ⟨A, rfl⟩ := Int.eq_ofNat_of_zero_le b0
  obtain ⟨B, rfl⟩ := Int.eq_ofNat_of_zero_le n0
  have hA : A < 2 ^ 32 := by omega
  have hB : B < 2 ^ 32 := by omega
  have c1 : A &&& B < 4294967296 := Nat.and_lt_two_pow (n := 32) _ hB
  have c2 : A ^^^ B < 4294967296 := Nat.xor_lt_two_pow (n := 32) hA hB
  have c3 : A &&& (4294967295 - B) < 4294967296 := Nat.and_lt_two_pow (n := 32) _ (by omega)
  have nb : ∀ j, (4294967295 - B).testBit j = (decide (j < 32) && !B.testBit j) := fun j => by
    rw [show 4294967295 - B = 2 ^ 32 - (B + 1) by omega, Nat.testBit_two_pow_sub_succ hB]
  have big : ∀ j, ¬ j < 32 → A.testBit j = false := fun j hj =>
    Nat.testBit_lt_two_pow (Nat.lt_of_lt_of_le hA (Nat.pow_le_pow_right (by decide) (by omega)))
  rw [u32_and_nat A B (by omega) (by omega), u32_xor_nat A B (by omega) (by omega), u32_or_nat A B (by omega) (by omega), u32_andNot_nat A B (by omega) (by omega)]
  rw [u32_or_nat _ _ c1 c2, u32_xor_nat _ _ c1 c3, u32_and_nat _ _ c3 (by omega)]
  refine ⟨?_, ?_, ?_⟩
  · congr 1
    apply Nat.eq_of_testBit_eq; intro j
    simp only [Nat.testBit_or, Nat.testBit_and, Nat.testBit_xor]
    cases A.testBit j <;> cases B.testBit j <;> rfl
  · congr 1
    apply Nat.eq_of_testBit_eq; intro j
    simp only [Nat.testBit_and, Nat.testBit_xor, nb]
    by_cases hj : j < 32
    · simp only [hj, decide_true, Bool.true_and]
      cases A.testBit j <;> cases B.testBit j <;> rfl
    · rw [big j hj]; simp
  · have : A &&& (4294967295 - B) &&& B = 0 := by
      apply Nat.eq_of_testBit_eq; intro j
      simp only [Nat.testBit_and, nb, Nat.zero_testBit]
      cases A.testBit j <;> cases B.testBit j <;> simp
    rw [this]; rfl
theorem lsl_mod (b n : Int) (n0 : 0 ≤ n) : lslI b (n % 32) = lslI b n := by
  unfold lslI
  rw [show (n % 32).toNat % 32 = n.toNat % 32 by omega]

set_option maxHeartbeats 2000000 in
set_option maxRecDepth 100000 in
theorem walk (op : Int) (u : Bool) (b n g : Int) (N Z C V : Bool) (wo : (Lit.int .i64 op).wf = true) (wb : (Lit.int .u32 b).wf = true) (wn : (Lit.int .u32 n).wf = true) (wg : (Lit.int .u32 g).wf = true) (w : World) :
    Calls Try.prog 8 #[askV op u b n g N Z C V] w fun e w' => e = .returned (.bool true) ∧ Grown w w' := by
  obtain ⟨b0, b1⟩ := bounds_u32 wb
  obtain ⟨n0, n1⟩ := bounds_u32 wn
  obtain ⟨g0, g1⟩ := bounds_u32 wg
  have D4 := fun w => do_bit 4 b n g N Z C V w (by omega) (by omega) (by omega) (by omega) (by decide) (by decide)
  have D6 := fun w => do_bit 6 b n g N Z C V w (by omega) (by omega) (by omega) (by omega) (by decide) (by decide)
  have D7 := fun w => do_bit 7 b n g N Z C V w (by omega) (by omega) (by omega) (by omega) (by decide) (by decide)
  have D5 := fun w => do_bit 5 b n g N Z C V w (by omega) (by omega) (by omega) (by omega) (by decide) (by decide)
  have D1 := fun w => do_bit 1 b n g N Z C V w (by omega) (by omega) (by omega) (by omega) (by decide) (by decide)
  have DM := fun w => do_bit 1 b (n % 32) g N Z C V w (by omega) (by omega) (by omega) (by omega) (by decide) (by decide)
  have D3 := fun w => do_bit 3 b n g N Z C V w (by omega) (by omega) (by omega) (by omega) (by decide) (by decide)
  have D2 := fun w => do_bit 2 b n g N Z C V w (by omega) (by omega) (by omega) (by omega) (by decide) (by decide)
  have e4 : bitI 4 b n = Go.bits .and .u32 b n := rfl
  have e6 : bitI 6 b n = Go.bits .or .u32 b n := rfl
  have e7 : bitI 7 b n = Go.bits .xor .u32 b n := rfl
  have e5 : bitI 5 b n = Go.bits .andNot .u32 b n := rfl
  have e1 : bitI 1 b n = lslI b n := rfl
  have em : bitI 1 b (n % 32) = lslI b n := lsl_mod b n (by omega)
  have e3 : bitI 3 b n = rorI b n := rfl
  have e2 : bitI 2 b n = asrI b n := rfl
  rw [e4] at D4
  rw [e6] at D6
  rw [e7] at D7
  rw [e5] at D5
  rw [e1] at D1
  rw [em] at DM
  rw [e3] at D3
  rw [e2] at D2
  clear e4 e6 e7 e5 e1 em e3 e2
  obtain ⟨f1, f2, f3⟩ := and_xor b n (by omega) (by omega) (by omega) (by omega)
  have f4 := ror_eq b n (by omega) (by omega) (by omega)
  have f5 := asr_eq b n (by omega)
  generalize Go.bits .and .u32 b n = r4 at *
  generalize Go.bits .or .u32 b n = r6 at *
  generalize Go.bits .xor .u32 b n = r7 at *
  generalize Go.bits .andNot .u32 b n = r5 at *
  generalize lslI b n = r1 at *
  generalize rorI b n = r3 at *
  generalize asrI b n = r2 at *
  have m0 : 0 ≤ n % 32 ∧ n % 32 < 32 := by omega
  have hm' : n.tmod 32 = n % 32 := Int.tmod_eq_emod_of_nonneg (by omega)
  obtain ⟨m, hm⟩ : ∃ m, n % 32 = m := ⟨_, rfl⟩
  rw [hm] at m0 hm' DM f4 f5
  unfold tell fl at D4 D6 D7 D5 D1 DM D3 D2
  unfold askV
  have O : Own 26 (w.alloc (.cells #[.int .i64 op, .bool u, .int .u32 b, .int .u32 n, .int .u32 g, .bool N, .bool Z, .bool C, .bool V] 26)) w.heap.size #[.int .i64 op, .bool u, .int .u32 b, .int .u32 n, .int .u32 g, .bool N, .bool Z, .bool C, .bool V] := Own.new _ _ _
  have GG : G w (w.alloc (.cells #[.int .i64 op, .bool u, .int .u32 b, .int .u32 n, .int .u32 g, .bool N, .bool Z, .bool C, .bool V] 26)) := (by with_reducible repeat' (first | exact G.refl _ | assumption | apply G.alloc | apply G.drew))
  obtain ⟨s, k0, k1, k2, k3, k4, k5, k6, k7, k8⟩ := O.ask
  clear wo wb wn wg
  go_enter Try.func8, Try.ntmps8
  go_upto_region 2 with (go_at_call 9; refine (D4 _).mono ?_; rintro e wk ⟨rfl, hk⟩; replace O : Own 26 wk w.heap.size #[.int .i64 op, .bool u, .int .u32 b, .int .u32 n, .int .u32 g, .bool N, .bool Z, .bool C, .bool V] := Own.g hk (by with_reducible repeat' (first | exact Own.new _ _ _ | assumption | apply Own.alloc | apply Own.drew)); replace GG : G w wk := G.then (by with_reducible repeat' (first | exact G.refl _ | assumption | apply G.alloc | apply G.drew)) hk; clear s k0 k1 k2 k3 k4 k5 k6 k7 k8 hk; obtain ⟨s, k0, k1, k2, k3, k4, k5, k6, k7, k8⟩ := O.ask)
  clear D4
  go_upto_region 3 with (go_at_call 9; refine (D6 _).mono ?_; rintro e wk ⟨rfl, hk⟩; replace O : Own 26 wk w.heap.size #[.int .i64 op, .bool u, .int .u32 b, .int .u32 n, .int .u32 g, .bool N, .bool Z, .bool C, .bool V] := Own.g hk (by with_reducible repeat' (first | exact Own.new _ _ _ | assumption | apply Own.alloc | apply Own.drew)); replace GG : G w wk := G.then (by with_reducible repeat' (first | exact G.refl _ | assumption | apply G.alloc | apply G.drew)) hk; clear s k0 k1 k2 k3 k4 k5 k6 k7 k8 hk; obtain ⟨s, k0, k1, k2, k3, k4, k5, k6, k7, k8⟩ := O.ask)
  clear D6
  go_upto_region 4 with (go_at_call 9; refine (D7 _).mono ?_; rintro e wk ⟨rfl, hk⟩; replace O : Own 26 wk w.heap.size #[.int .i64 op, .bool u, .int .u32 b, .int .u32 n, .int .u32 g, .bool N, .bool Z, .bool C, .bool V] := Own.g hk (by with_reducible repeat' (first | exact Own.new _ _ _ | assumption | apply Own.alloc | apply Own.drew)); replace GG : G w wk := G.then (by with_reducible repeat' (first | exact G.refl _ | assumption | apply G.alloc | apply G.drew)) hk; clear s k0 k1 k2 k3 k4 k5 k6 k7 k8 hk; obtain ⟨s, k0, k1, k2, k3, k4, k5, k6, k7, k8⟩ := O.ask)
  clear D7
  go_upto_region 5 with (go_at_call 9; refine (D5 _).mono ?_; rintro e wk ⟨rfl, hk⟩; replace O : Own 26 wk w.heap.size #[.int .i64 op, .bool u, .int .u32 b, .int .u32 n, .int .u32 g, .bool N, .bool Z, .bool C, .bool V] := Own.g hk (by with_reducible repeat' (first | exact Own.new _ _ _ | assumption | apply Own.alloc | apply Own.drew)); replace GG : G w wk := G.then (by with_reducible repeat' (first | exact G.refl _ | assumption | apply G.alloc | apply G.drew)) hk; clear s k0 k1 k2 k3 k4 k5 k6 k7 k8 hk; obtain ⟨s, k0, k1, k2, k3, k4, k5, k6, k7, k8⟩ := O.ask; obtain ⟨wf, hwf⟩ : ∃ x, x = wk := ⟨_, rfl⟩; subst hwf; have OF := Own.new 24 wf #[.bool (decide (wrap32 r5 < 0)), .bool (r5 == 0), .bool C, .bool V])
  clear D5
  go_upto_region 6 with (go_at_call 9; refine (D1 _).mono ?_; rintro e wk ⟨rfl, hk⟩; replace OF : Own 24 wk wf.heap.size #[.bool (decide (wrap32 r5 < 0)), .bool (r5 == 0), .bool C, .bool V] := Own.g hk (by with_reducible repeat' (first | exact Own.new _ _ _ | assumption | apply Own.alloc | apply Own.drew)); replace O : Own 26 wk w.heap.size #[.int .i64 op, .bool u, .int .u32 b, .int .u32 n, .int .u32 g, .bool N, .bool Z, .bool C, .bool V] := Own.g hk (by with_reducible repeat' (first | exact Own.new _ _ _ | assumption | apply Own.alloc | apply Own.drew)); replace GG : G w wk := G.then (by with_reducible repeat' (first | exact G.refl _ | assumption | apply G.alloc | apply G.drew)) hk; clear s k0 k1 k2 k3 k4 k5 k6 k7 k8 hk; obtain ⟨s, k0, k1, k2, k3, k4, k5, k6, k7, k8⟩ := O.ask)
  clear D1
  go_upto_region 7 with (go_at_call 9; refine (DM _).mono ?_; rintro e wk ⟨rfl, hk⟩; replace OF : Own 24 wk wf.heap.size #[.bool (decide (wrap32 r5 < 0)), .bool (r5 == 0), .bool C, .bool V] := Own.g hk (by with_reducible repeat' (first | exact Own.new _ _ _ | assumption | apply Own.alloc | apply Own.drew)); replace O : Own 26 wk w.heap.size #[.int .i64 op, .bool u, .int .u32 b, .int .u32 n, .int .u32 g, .bool N, .bool Z, .bool C, .bool V] := Own.g hk (by with_reducible repeat' (first | exact Own.new _ _ _ | assumption | apply Own.alloc | apply Own.drew)); replace GG : G w wk := G.then (by with_reducible repeat' (first | exact G.refl _ | assumption | apply G.alloc | apply G.drew)) hk; clear s k0 k1 k2 k3 k4 k5 k6 k7 k8 hk; obtain ⟨s, k0, k1, k2, k3, k4, k5, k6, k7, k8⟩ := O.ask)
  clear DM
  go_upto_region 8 with (go_at_call 9; refine (D3 _).mono ?_; rintro e wk ⟨rfl, hk⟩; replace OF : Own 24 wk wf.heap.size #[.bool (decide (wrap32 r5 < 0)), .bool (r5 == 0), .bool C, .bool V] := Own.g hk (by with_reducible repeat' (first | exact Own.new _ _ _ | assumption | apply Own.alloc | apply Own.drew)); replace O : Own 26 wk w.heap.size #[.int .i64 op, .bool u, .int .u32 b, .int .u32 n, .int .u32 g, .bool N, .bool Z, .bool C, .bool V] := Own.g hk (by with_reducible repeat' (first | exact Own.new _ _ _ | assumption | apply Own.alloc | apply Own.drew)); replace GG : G w wk := G.then (by with_reducible repeat' (first | exact G.refl _ | assumption | apply G.alloc | apply G.drew)) hk; clear s k0 k1 k2 k3 k4 k5 k6 k7 k8 hk; obtain ⟨s, k0, k1, k2, k3, k4, k5, k6, k7, k8⟩ := O.ask)
  clear D3
  go_upto_region 9 with (go_at_call 9; refine (D2 _).mono ?_; rintro e wk ⟨rfl, hk⟩; replace OF : Own 24 wk wf.heap.size #[.bool (decide (wrap32 r5 < 0)), .bool (r5 == 0), .bool C, .bool V] := Own.g hk (by with_reducible repeat' (first | exact Own.new _ _ _ | assumption | apply Own.alloc | apply Own.drew)); replace O : Own 26 wk w.heap.size #[.int .i64 op, .bool u, .int .u32 b, .int .u32 n, .int .u32 g, .bool N, .bool Z, .bool C, .bool V] := Own.g hk (by with_reducible repeat' (first | exact Own.new _ _ _ | assumption | apply Own.alloc | apply Own.drew)); replace GG : G w wk := G.then (by with_reducible repeat' (first | exact G.refl _ | assumption | apply G.alloc | apply G.drew)) hk; clear s k0 k1 k2 k3 k4 k5 k6 k7 k8 hk; obtain ⟨s, k0, k1, k2, k3, k4, k5, k6, k7, k8⟩ := O.ask)
  clear D2
  obtain ⟨sf, p0, p1, p2, p3⟩ := OF.fl
  go_wp2_with (go_at_call 12; refine (wakes_any _).mono ?_; rintro e w7 ⟨rfl, h7⟩; have G7 : G w w7 := G.then (by with_reducible repeat' (first | exact G.refl _ | assumption | apply G.alloc | apply G.drew)) h7)
  all_goals go_ret
  all_goals exact ⟨rfl, G.grown (by with_reducible repeat' (first | exact G.refl _ | assumption | apply G.alloc | apply G.drew))⟩

set_option maxRecDepth 100000 in
theorem lifted (os : Os) (started : os.Started) (H : Type) (enc : TypeId × Value → H) :
    ReturnsInHanded {} Try.checked os 8 .any (Rows.aluLogicSpec.pre6 enc Try.prog Try.f8 Rows.aluLogicRow.domain false) (Rows.aluLogicSpec.post enc Try.prog Try.f8 false true false false) := by
  refine returnsInHanded_of_change (C := Try.checked) own started (by kernel_rfl) Try.func8
    (ChangeSpec.witness6 (enc := enc) (C := Try.checked) false ⟨#[], #[.agg #[.int .i64 0, .bool false, .int .u32 0, .int .u32 0, .int .u32 0, .bool false, .bool false, .bool false, .bool false]], []⟩ 8 (by kernel_rfl) (by kernel_rfl) (by kernel_rfl) (by kernel_rfl)) ?_
  intro W base args ds gs before hval0 hW hcnd _
  have hval : ∀ (j : Nat) t v, Try.f8.params[j]? = some t → args[j]? = some v → Value.okWide Try.prog W .any base t v := hval0
  have hW' := hW
  obtain ⟨p, q, hA0, hV, rfl, hfz, hnd⟩ := hW
  have hA : DataW.TrodAll enc Try.prog W 0 (fun _ => true) true Try.f8.params.toList args.toList ds p := hA0
  rw [Try.params8] at hA hval
  obtain ⟨v0, d0, rfl, rfl, h0⟩ := trodAll_one hA
  obtain ⟨rfl, rfl⟩ := trodVars_none hV
  obtain ⟨op, u, b, n, g, N, Z, C, V, rfl, rfl, rfl, wo, wb, wn, wg⟩ := open_ask (hval 0 26 v0 rfl rfl) h0
  clear hA0 hval0
  simp only [List.append_nil] at hW'
  refine (walk op u b n g N Z C V wo wb wn wg W).mono fun e W' ⟨he, hg⟩ => ?_
  subst he
  exact ⟨_, rfl, post_of_same (pa := []) (pv := []) hW' (fun _ _ _ => (trodAll_cons_mk (shut_bool Try.underlying4 _) trodAll_mk0)) (fun sp _ => (trodAll_cons_mk (shut_ask wo wb wn wg) trodAll_mk0)) (fun _ _ => rfl) rfl
    (hg.frame _) hg.2.1 (ok_one (by kernel_rfl) rfl (okWide_bool_mk Try.underlying4 _))⟩

theorem proved : Rows.AluLogicSaid :=
  OpenClaim.holds_of_wide 8 Try.f8 rfl rfl rfl rfl rfl rfl rfl ⟨rfl, rfl, rfl, rfl, rfl⟩ rfl rfl rfl rfl rfl (by kernel_rfl) Try.func8 (by kernel_rfl)
    (of_decide_eq_true (by kernel_rfl)) (by unfold Func.isWrapper; first | (rw [if_pos (by decide +kernel)]; kernel_rfl) | (rw [if_neg (by decide +kernel)]; exact ⟨rfl, rfl⟩))
    (fun os started H enc _ => lifted os started H enc)
end Go.Proofs.Ytgbbppgedeikkaa.aluLogic

namespace Go.Proofs.Ytgbbppgedeikkaa
theorem aluLogic_holds : Rows.AluLogicSaid := aluLogic.proved
#print axioms aluLogic_holds
end Go.Proofs.Ytgbbppgedeikkaa
