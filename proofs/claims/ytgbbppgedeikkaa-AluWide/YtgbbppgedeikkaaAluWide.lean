/-
  For all words and flags, the two words of a product are the whole product of 64 bits, with signs and without, and sums and differences of two words each, their carry handed on, are those of 64 bits; no conditions.
-/
import Derived.Test.YtgbbppgedeikkaaRows
import Derived.Test.YtgbbppgedeikkaaAargs
import Derived.WalkKit
import Derived.ProofKit
import Derived.Test.YtgbbppgedeikkaaAown
namespace Go.Proofs.Ytgbbppgedeikkaa.aluWide
open Go.ChangeShapes Go.WideShapes Go.ChangeAt Go.RowKit Go.Joins Go.Proofs.Ytgbbppgedeikkaa.Alu Go.Proofs.Ytgbbppgedeikkaa.Bits Go.Proofs.Ytgbbppgedeikkaa.Gw
set_option linter.unusedVariables false

theorem join64 (hi lo : Int) (h0 : 0 ≤ hi) (h1 : hi < 4294967296) (l0 : 0 ≤ lo) (l1 : lo < 4294967296) : Go.bits .or .u64 (hi * 4294967296) lo = hi * 4294967296 + lo := by
  obtain ⟨A, rfl⟩ := Int.eq_ofNat_of_zero_le h0
  obtain ⟨B, rfl⟩ := Int.eq_ofNat_of_zero_le l0
  have e : ((A : Int) * 4294967296) = ((A * 4294967296 : Nat) : Int) := by omega
  rw [e, u64_or_nat _ _ (by omega) (by omega), nat_join 32 _ _ (by omega) (by omega)]
  omega
theorem sums (b n g : Int) (b0 : 0 ≤ b) (b1 : b < 4294967296) (n0 : 0 ≤ n) (n1 : n < 4294967296) (g0 : 0 ≤ g) (g1 : g < 4294967296) :
    ((b + n + 0) % 4294967296 - n - 0) % 4294967296 = b ∧
    ((g + b + cI true (addC b n 0)) % 4294967296 - b - cI true (subC ((b + n + 0) % 4294967296) n 0)) % 4294967296 = g ∧
    IntKind.u64.wrap ((g * 4294967296 + b) + (b * 4294967296 + n)) = (g + b + cI true (addC b n 0)) % 4294967296 * 4294967296 + (b + n + 0) % 4294967296 := by
  have e1 : cI true (addC b n 0) = if 4294967296 ≤ b + n + 0 then 1 else 0 := by
    unfold cI addC; rw [Bool.true_and]
    by_cases h : 4294967296 ≤ b + n + 0
    · rw [decide_eq_true h, if_pos rfl, if_pos h]
    · rw [decide_eq_false h, if_neg (by decide), if_neg h]
  have e2 : cI true (subC ((b + n + 0) % 4294967296) n 0) = if (b + n + 0) % 4294967296 - n - 0 < 0 then 1 else 0 := by
    unfold cI subC; rw [Bool.true_and]
    by_cases h : (b + n + 0) % 4294967296 - n - 0 < 0
    · rw [decide_eq_true h, if_pos rfl, if_pos h]
    · rw [decide_eq_false h, if_neg (by decide), if_neg h]
  rw [e1, e2, IntKind.wrap_u64]
  by_cases h : 4294967296 ≤ b + n + 0
  · rw [if_pos h, if_pos (by omega), show (b + n + 0) % 4294967296 = b + n - 4294967296 by omega]
    by_cases k : 4294967296 ≤ g + b + 1
    · rw [show (g + b + 1) % 4294967296 = g + b + 1 - 4294967296 by omega]; omega
    · rw [show (g + b + 1) % 4294967296 = g + b + 1 by omega]; omega
  · rw [if_neg h, if_neg (by omega), show (b + n + 0) % 4294967296 = b + n by omega]
    by_cases k : 4294967296 ≤ g + b + 0
    · rw [show (g + b + 0) % 4294967296 = g + b - 4294967296 by omega]; omega
    · rw [show (g + b + 0) % 4294967296 = g + b by omega]; omega

set_option maxHeartbeats 2000000 in
set_option maxRecDepth 100000 in
theorem walk (op : Int) (u : Bool) (b n g : Int) (N Z C V : Bool) (wo : (Lit.int .i64 op).wf = true) (wb : (Lit.int .u32 b).wf = true) (wn : (Lit.int .u32 n).wf = true) (wg : (Lit.int .u32 g).wf = true) (w : World) :
    Calls Try.prog 7 #[askV op u b n g N Z C V] w fun e w' => e = .returned (.bool true) ∧ Grown w w' := by
  obtain ⟨b0, b1⟩ := bounds_u32 wb
  obtain ⟨n0, n1⟩ := bounds_u32 wn
  obtain ⟨g0, g1⟩ := bounds_u32 wg
  have D1 := fun w => do_any 10 true b n g N Z C V w (by omega) (by omega) (by omega) (by omega)
  have D2 := fun w => do_any 10 false b n g N Z C V w (by omega) (by omega) (by omega) (by omega)
  have e1 : doV 10 true b n g C V = tell (b * n % 4294967296) (b * n / 4294967296 % 4294967296) C V := rfl
  have e2 : doV 10 false b n g C V = tell (wrap32 b * wrap32 n % 4294967296) (wrap32 b * wrap32 n / 4294967296 % 4294967296) C V := rfl
  rw [e1] at D1
  rw [e2] at D2
  clear e1 e2
  obtain ⟨p0, p1⟩ := mul_bd b n (by omega) (by omega) (by omega) (by omega)
  obtain ⟨P, hP⟩ : ∃ P, b * n = P := ⟨_, rfl⟩
  rw [hP] at p0 p1 D1
  obtain ⟨lo, hlo⟩ : ∃ x, P % 4294967296 = x := ⟨_, rfl⟩
  obtain ⟨hi, hhi⟩ : ∃ x, P / 4294967296 % 4294967296 = x := ⟨_, rfl⟩
  rw [hlo, hhi] at D1
  have lo0 : 0 ≤ lo ∧ lo < 4294967296 := by omega
  have hi0 : 0 ≤ hi ∧ hi < 4294967296 := by omega
  have j1 := join64 hi lo hi0.1 hi0.2 lo0.1 lo0.2
  have j1' : hi * 4294967296 + lo = P := by omega
  rw [j1'] at j1
  obtain ⟨sb0, sb1⟩ := wrap32_lt b
  obtain ⟨sn0, sn1⟩ := wrap32_lt n
  obtain ⟨B, hB⟩ : ∃ B, wrap32 b = B := ⟨_, rfl⟩
  obtain ⟨M, hM⟩ : ∃ M, wrap32 n = M := ⟨_, rfl⟩
  rw [hB, hM] at D2
  rw [hB] at sb0 sb1
  rw [hM] at sn0 sn1
  obtain ⟨t0, t1⟩ := smul_bd B M sb0 sb1 sn0 sn1
  obtain ⟨T, hT⟩ : ∃ T, B * M = T := ⟨_, rfl⟩
  rw [hT] at t0 t1 D2
  obtain ⟨l, hl⟩ : ∃ x, T % 4294967296 = x := ⟨_, rfl⟩
  obtain ⟨k, hk⟩ : ∃ x, T / 4294967296 % 4294967296 = x := ⟨_, rfl⟩
  rw [hl, hk] at D2
  have l0 : 0 ≤ l ∧ l < 4294967296 := by omega
  have k0 : 0 ≤ k ∧ k < 4294967296 := by omega
  have j2 := join64 k l k0.1 k0.2 l0.1 l0.2
  have w2' : wrap64 (k * 4294967296 + l) = T := by unfold wrap64; omega
  obtain ⟨K, hK⟩ : ∃ x, k * 4294967296 + l = x := ⟨_, rfl⟩
  have K0 : 0 ≤ K ∧ K < 18446744073709551616 := by omega
  rw [hK] at j2 w2'
  obtain ⟨p0', p1'⟩ : 0 ≤ P ∧ P < 18446744073709551616 := ⟨p0, p1⟩
  clear hlo hhi hl hk j1' hK wo wb wn wg
  obtain ⟨u1, u2, u3⟩ := sums b n g (by omega) (by omega) (by omega) (by omega) (by omega) (by omega)
  have D3 := fun w => do_any 8 false b n g N Z C V w (by omega) (by omega) (by omega) (by omega)
  have e3 : doV 8 false b n g C V = tell ((b + n + 0) % 4294967296) g (addC b n 0) (addV b n 0) := rfl
  rw [e3] at D3
  clear e3
  have a0 : 0 ≤ (b + n + 0) % 4294967296 ∧ (b + n + 0) % 4294967296 < 4294967296 := by omega
  have d0 : 0 ≤ (g + b + cI true (addC b n 0)) % 4294967296 ∧ (g + b + cI true (addC b n 0)) % 4294967296 < 4294967296 := by omega
  unfold tell at D3
  generalize (b + n + 0) % 4294967296 = a at D3 u1 u2 u3 a0
  generalize addV b n 0 = v1 at D3
  generalize addC b n 0 = c1 at D3 u2 u3 d0
  generalize decide (wrap32 a < 0) = N1 at D3
  generalize (a == 0) = Z1 at D3
  have D4 := fun w => do_any 8 true g b g N1 Z1 c1 v1 w (by omega) (by omega) (by omega) (by omega)
  have D5 := fun w => do_any 9 false a n g N1 Z1 c1 v1 w (by omega) (by omega) (by omega) (by omega)
  have e4 : doV 8 true g b g c1 v1 = tell ((g + b + cI true c1) % 4294967296) g (addC g b (cI true c1)) (addV g b (cI true c1)) := rfl
  have e5 : doV 9 false a n g c1 v1 = tell ((a - n - 0) % 4294967296) g (subC a n 0) (subV a n 0) := rfl
  rw [e4] at D4
  rw [e5, u1] at D5
  clear e4 e5 u1
  unfold tell at D4 D5
  generalize (g + b + cI true c1) % 4294967296 = d at D4 u2 u3 d0
  generalize addC g b (cI true c1) = c4 at D4
  generalize addV g b (cI true c1) = v4 at D4
  generalize decide (wrap32 d < 0) = N4 at D4
  generalize (d == 0) = Z4 at D4
  generalize subC a n 0 = c5 at D5 u2
  generalize subV a n 0 = v5 at D5
  generalize decide (wrap32 b < 0) = N5 at D5
  generalize (b == 0) = Z5 at D5
  have D6 := fun w => do_any 9 true d b g N5 Z5 c5 v5 w (by omega) (by omega) (by omega) (by omega)
  have e6 : doV 9 true d b g c5 v5 = tell ((d - b - cI true c5) % 4294967296) g (subC d b (cI true c5)) (subV d b (cI true c5)) := rfl
  rw [e6, u2] at D6
  clear e6 u2
  unfold tell at D6
  generalize subC d b (cI true c5) = c6 at D6
  generalize subV d b (cI true c5) = v6 at D6
  generalize decide (wrap32 g < 0) = N6 at D6
  generalize (g == 0) = Z6 at D6
  have j3 := join64 d a d0.1 d0.2 a0.1 a0.2
  have j4 := join64 g b (by omega) (by omega) (by omega) (by omega)
  have j5 := join64 b n (by omega) (by omega) (by omega) (by omega)
  obtain ⟨X4, x4⟩ : ∃ x, g * 4294967296 + b = x := ⟨_, rfl⟩
  obtain ⟨X5, x5⟩ : ∃ x, b * 4294967296 + n = x := ⟨_, rfl⟩
  obtain ⟨X3, x3⟩ : ∃ x, d * 4294967296 + a = x := ⟨_, rfl⟩
  have X3b : 0 ≤ X3 ∧ X3 < 18446744073709551616 := by omega
  have X4b : 0 ≤ X4 ∧ X4 < 18446744073709551616 := by omega
  have X5b : 0 ≤ X5 ∧ X5 < 18446744073709551616 := by omega
  rw [x4] at j4
  rw [x5] at j5
  rw [x3] at j3
  rw [x4, x5, x3] at u3
  clear x3 x4 x5
  have OF : Own 24 ((w.alloc (.cells #[.int .i64 op, .bool u, .int .u32 b, .int .u32 n, .int .u32 g, .bool N, .bool Z, .bool C, .bool V] 26)).alloc (.cells #[.bool N, .bool Z, .bool C, .bool V] 24)) (w.heap.size + 1) #[.bool N, .bool Z, .bool C, .bool V] := by
    have := Own.new 24 (w.alloc (.cells #[.int .i64 op, .bool u, .int .u32 b, .int .u32 n, .int .u32 g, .bool N, .bool Z, .bool C, .bool V] 26)) #[.bool N, .bool Z, .bool C, .bool V]
    simpa using this
  unfold tell at D1 D2
  unfold fl at D1 D2 D3 D4 D5 D6
  unfold askV
  go_enter Try.func7, Try.ntmps7
  go_wp2_with fail
  go_region
  go_upto_region 3 with (go_at_call 9; refine (D1 _).mono ?_; rintro e w1 ⟨rfl, h1⟩; replace OF : Own 24 w1 (w.heap.size + 1) #[.bool N, .bool Z, .bool C, .bool V] := Own.g h1 (by with_reducible repeat' (first | exact Own.new _ _ _ | assumption | apply Own.alloc | apply Own.drew)); have G1 : G w w1 := G.then (by with_reducible repeat' (first | exact G.refl _ | assumption | apply G.alloc | apply G.drew)) h1; obtain ⟨s1, f01, f11, f21, f31⟩ := OF.fl)
  clear D1
  go_upto_region 4 with (go_at_call 9; refine (D2 _).mono ?_; rintro e w2 ⟨rfl, h2⟩; replace OF : Own 24 w2 (w.heap.size + 1) #[.bool N, .bool Z, .bool C, .bool V] := Own.g h2 (by with_reducible repeat' (first | exact Own.new _ _ _ | assumption | apply Own.alloc | apply Own.drew)); have G2 : G w w2 := G.then (by with_reducible repeat' (first | exact G.refl _ | assumption | apply G.alloc | apply G.drew)) h2; obtain ⟨s2, f02, f12, f22, f32⟩ := OF.fl)
  clear D2
  go_upto_region 6 with fail
  clear j1 j2 p0 p1 hP lo0 hi0 l0 k0 K0 w2' t0 t1 hT hB hM p0' p1'
  go_upto_region 7 with (go_at_call 9; refine (D3 _).mono ?_; rintro e w3 ⟨rfl, h3⟩; have G3 : G w w3 := G.then (by with_reducible repeat' (first | exact G.refl _ | assumption | apply G.alloc | apply G.drew)) h3; clear D3)
  clear f01 f11 f21 f31 f02 f12 f22 f32 s1 s2
  go_upto_region 8 with (go_at_call 9; refine (D4 _).mono ?_; rintro e w4 ⟨rfl, h4⟩; have O4 := Own.g h4 (Own.new 24 w3 _); have G4 : G w w4 := G.then (by with_reducible repeat' (first | exact G.refl _ | assumption | apply G.alloc | apply G.drew)) h4; obtain ⟨s4, f04, f14, f24, f34⟩ := O4.fl)
  clear D4
  go_upto_region 9 with (go_at_call 9; refine (D5 _).mono ?_; rintro e w5 ⟨rfl, h5⟩; have G5 : G w w5 := G.then (by with_reducible repeat' (first | exact G.refl _ | assumption | apply G.alloc | apply G.drew)) h5)
  clear D5 f04 f14 f24 f34 s4
  go_upto_region 10 with (go_at_call 9; refine (D6 _).mono ?_; rintro e w6 ⟨rfl, h6⟩; have G6 : G w w6 := G.then (by with_reducible repeat' (first | exact G.refl _ | assumption | apply G.alloc | apply G.drew)) h6)
  clear D6
  go_wp2_with (go_at_call 12; refine (wakes_any _).mono ?_; rintro e w7 ⟨rfl, h7⟩; have G7 : G w w7 := G.then (by with_reducible repeat' (first | exact G.refl _ | assumption | apply G.alloc | apply G.drew)) h7)
  go_ret
  exact ⟨rfl, G.grown (by with_reducible repeat' (first | exact G.refl _ | assumption | apply G.alloc | apply G.drew))⟩

set_option maxRecDepth 100000 in
theorem lifted (os : Os) (started : os.Started) (H : Type) (enc : TypeId × Value → H) :
    ReturnsInHanded {} Try.checked os 7 .any (Rows.aluWideSpec.pre6 enc Try.prog Try.f7 Rows.aluWideRow.domain false) (Rows.aluWideSpec.post enc Try.prog Try.f7 false true false false) := by
  refine returnsInHanded_of_change (C := Try.checked) own started (by kernel_rfl) Try.func7
    (ChangeSpec.witness6 (enc := enc) (C := Try.checked) false ⟨#[], #[.agg #[.int .i64 0, .bool false, .int .u32 0, .int .u32 0, .int .u32 0, .bool false, .bool false, .bool false, .bool false]], []⟩ 8 (by kernel_rfl) (by kernel_rfl) (by kernel_rfl) (by kernel_rfl)) ?_
  intro W base args ds gs before hval0 hW hcnd _
  have hval : ∀ (j : Nat) t v, Try.f7.params[j]? = some t → args[j]? = some v → Value.okWide Try.prog W .any base t v := hval0
  have hW' := hW
  obtain ⟨p, q, hA0, hV, rfl, hfz, hnd⟩ := hW
  have hA : DataW.TrodAll enc Try.prog W 0 (fun _ => true) true Try.f7.params.toList args.toList ds p := hA0
  rw [Try.params7] at hA hval
  obtain ⟨v0, d0, rfl, rfl, h0⟩ := trodAll_one hA
  obtain ⟨rfl, rfl⟩ := trodVars_none hV
  obtain ⟨op, u, b, n, g, N, Z, C, V, rfl, rfl, rfl, wo, wb, wn, wg⟩ := open_ask (hval 0 26 v0 rfl rfl) h0
  clear hA0 hval0
  simp only [List.append_nil] at hW'
  refine (walk op u b n g N Z C V wo wb wn wg W).mono fun e W' ⟨he, hg⟩ => ?_
  subst he
  exact ⟨_, rfl, post_of_same (pa := []) (pv := []) hW' (fun _ _ _ => (trodAll_cons_mk (shut_bool Try.underlying4 _) trodAll_mk0)) (fun sp _ => (trodAll_cons_mk (shut_ask wo wb wn wg) trodAll_mk0)) (fun _ _ => rfl) rfl
    (hg.frame _) hg.2.1 (ok_one (by kernel_rfl) rfl (okWide_bool_mk Try.underlying4 _))⟩

theorem proved : Rows.AluWideSaid :=
  OpenClaim.holds_of_wide 7 Try.f7 rfl rfl rfl rfl rfl rfl rfl ⟨rfl, rfl, rfl, rfl, rfl⟩ rfl rfl rfl rfl rfl (by kernel_rfl) Try.func7 (by kernel_rfl)
    (of_decide_eq_true (by kernel_rfl)) (by unfold Func.isWrapper; first | (rw [if_pos (by decide +kernel)]; kernel_rfl) | (rw [if_neg (by decide +kernel)]; exact ⟨rfl, rfl⟩))
    (fun os started H enc _ => lifted os started H enc)
end Go.Proofs.Ytgbbppgedeikkaa.aluWide

namespace Go.Proofs.Ytgbbppgedeikkaa
theorem aluWide_holds : Rows.AluWideSaid := aluWide.proved
#print axioms aluWide_holds
end Go.Proofs.Ytgbbppgedeikkaa
