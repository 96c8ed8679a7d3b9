/-
  For all words and flags, behind the difference of two words the conditions 5, 2, 1, 6, 4 and 14 tell which word is below the other, with signs and without; no conditions.
-/
import Derived.Test.YtgbbppgedeikkaaRows
import Derived.Test.YtgbbppgedeikkaaAargs
import Derived.WalkKit
import Derived.ProofKit
import Derived.Test.YtgbbppgedeikkaaAown
namespace Go.Proofs.Ytgbbppgedeikkaa.aluCompares
open Go.ChangeShapes Go.WideShapes Go.ChangeAt Go.RowKit Go.Joins Go.Proofs.Ytgbbppgedeikkaa.Alu Go.Proofs.Ytgbbppgedeikkaa.Bits Go.Proofs.Ytgbbppgedeikkaa.Gw
set_option linter.unusedVariables false

theorem less (b n : Int) (b0 : 0 ≤ b) (b1 : b < 4294967296) (n0 : 0 ≤ n) (n1 : n < 4294967296) :
    (decide (wrap32 ((b - n - 0) % 4294967296) < 0) != subV b n 0) = decide (wrap32 b < wrap32 n) := by
  unfold subV
  rw [fits32, Bool.eq_iff_iff, bne_iff_ne, decide_eq_true_iff]
  by_cases h : wrap32 ((b - n - 0) % 4294967296) < 0
  · rw [decide_eq_true h]
    by_cases k : -2147483648 ≤ wrap32 b - wrap32 n - 0 ∧ wrap32 b - wrap32 n - 0 < 2147483648
    · rw [decide_eq_true k]; simp; unfold wrap32 at *; omega
    · rw [decide_eq_false k]; simp; unfold wrap32 at *; omega
  · rw [decide_eq_false h]
    by_cases k : -2147483648 ≤ wrap32 b - wrap32 n - 0 ∧ wrap32 b - wrap32 n - 0 < 2147483648
    · rw [decide_eq_true k]; simp; unfold wrap32 at *; omega
    · rw [decide_eq_false k]; simp; unfold wrap32 at *; omega
theorem zero (b n : Int) (b0 : 0 ≤ b) (b1 : b < 4294967296) (n0 : 0 ≤ n) (n1 : n < 4294967296) : ((b - n - 0) % 4294967296 == 0) = (b == n) := by
  rw [Bool.eq_iff_iff, beq_iff_eq, beq_iff_eq]; omega
theorem below (b n : Int) : subC b n 0 = decide (b < n) := by unfold subC; rw [decide_eq_decide]; omega
theorem lessSame (b n : Int) (b0 : 0 ≤ b) (b1 : b < 4294967296) (n0 : 0 ≤ n) (n1 : n < 4294967296) : (decide (wrap32 b < wrap32 n) || (b == n)) = decide (wrap32 b ≤ wrap32 n) := by
  rw [Bool.eq_iff_iff, Bool.or_eq_true, decide_eq_true_iff, beq_iff_eq, decide_eq_true_iff]; unfold wrap32; omega
theorem lowSame (b n : Int) : (decide (b < n) || (b == n)) = decide (b ≤ n) := by
  rw [Bool.eq_iff_iff, Bool.or_eq_true, decide_eq_true_iff, beq_iff_eq, decide_eq_true_iff]; omega
theorem more (a b : Int) : (!decide (a ≤ b)) = decide (b < a) := by
  rw [Bool.eq_iff_iff, Bool.not_eq_true', decide_eq_false_iff_not, decide_eq_true_iff]; omega

set_option maxHeartbeats 2000000 in
set_option maxRecDepth 100000 in
theorem walk (op : Int) (u : Bool) (b n g : Int) (N Z C V : Bool) (wo : (Lit.int .i64 op).wf = true) (wb : (Lit.int .u32 b).wf = true) (wn : (Lit.int .u32 n).wf = true) (wg : (Lit.int .u32 g).wf = true) (w : World) :
    Calls Try.prog 5 #[askV op u b n g N Z C V] w fun e w' => e = .returned (.bool true) ∧ Grown w w' := by
  obtain ⟨b0, b1⟩ := bounds_u32 wb
  obtain ⟨n0, n1⟩ := bounds_u32 wn
  have D := fun w => do_any 9 false b n g N Z C V w (by omega) (by omega) (by omega) (by omega)
  have e : doV 9 false b n g C V = tell ((b - n - 0) % 4294967296) g (subC b n 0) (subV b n 0) := rfl
  rw [e] at D
  clear e
  have H := fun c (h : -9223372036854775808 ≤ c) w => holds_any c (decide (wrap32 ((b - n - 0) % 4294967296) < 0)) ((b - n - 0) % 4294967296 == 0) (subC b n 0) (subV b n 0) w h
  have e5 : holdsB 5 (decide (wrap32 ((b - n - 0) % 4294967296) < 0)) ((b - n - 0) % 4294967296 == 0) (subC b n 0) (subV b n 0) = decide (wrap32 b < wrap32 n) := less b n (by omega) (by omega) (by omega) (by omega)
  have e2 : holdsB 2 (decide (wrap32 ((b - n - 0) % 4294967296) < 0)) ((b - n - 0) % 4294967296 == 0) (subC b n 0) (subV b n 0) = decide (b < n) := below b n
  have e1 : holdsB 1 (decide (wrap32 ((b - n - 0) % 4294967296) < 0)) ((b - n - 0) % 4294967296 == 0) (subC b n 0) (subV b n 0) = (b == n) := zero b n (by omega) (by omega) (by omega) (by omega)
  have e6 : holdsB 6 (decide (wrap32 ((b - n - 0) % 4294967296) < 0)) ((b - n - 0) % 4294967296 == 0) (subC b n 0) (subV b n 0) = decide (wrap32 b ≤ wrap32 n) := by
    rw [← lessSame b n (by omega) (by omega) (by omega) (by omega), ← less b n (by omega) (by omega) (by omega) (by omega), ← zero b n (by omega) (by omega) (by omega) (by omega)]; rfl
  have e4 : holdsB 4 (decide (wrap32 ((b - n - 0) % 4294967296) < 0)) ((b - n - 0) % 4294967296 == 0) (subC b n 0) (subV b n 0) = decide (b ≤ n) := by
    rw [← lowSame b n, ← below b n, ← zero b n (by omega) (by omega) (by omega) (by omega)]; rfl
  have e14 : holdsB 14 (decide (wrap32 ((b - n - 0) % 4294967296) < 0)) ((b - n - 0) % 4294967296 == 0) (subC b n 0) (subV b n 0) = decide (wrap32 n < wrap32 b) := by
    rw [← more (wrap32 b) (wrap32 n), ← e6]; rfl
  unfold tell at D
  generalize decide (wrap32 ((b - n - 0) % 4294967296) < 0) = N' at *
  generalize ((b - n - 0) % 4294967296 == 0) = Z' at *
  generalize subC b n 0 = C' at *
  generalize subV b n 0 = V' at *
  generalize (b - n - 0) % 4294967296 = r at *
  obtain ⟨hb, hhb⟩ : ∃ hb : Int → Bool, ∀ c, holdsB c N' Z' C' V' = hb c := ⟨_, fun _ => rfl⟩
  simp only [hhb] at e5 e2 e1 e6 e4 e14 H
  clear hhb wo wb wn wg
  unfold fl at D H
  unfold askV
  go_enter Try.func5, Try.ntmps5
  go_wp2_with fail
  go_region
  go_upto_region 4 with (go_at_call 9; refine (D _).mono ?_; rintro e w1 ⟨rfl, h1⟩; have O : Own 24 (w1.alloc (.cells #[.bool N', .bool Z', .bool C', .bool V'] 24)) w1.heap.size #[.bool N', .bool Z', .bool C', .bool V'] := Own.new _ _ _; have GG : G w w1 := G.then (by with_reducible repeat' (first | exact G.refl _ | assumption | apply G.alloc | apply G.drew)) h1; obtain ⟨s1, f0, f1, f2, f3⟩ := O.fl)
  clear D
  go_wp2_with (first | (go_at_call 13; refine (H _ (by decide) _).mono ?_; rintro e w2 ⟨rfl, h2⟩; replace O := Own.g h2 (by with_reducible repeat' (first | exact Own.new _ _ _ | assumption | apply Own.alloc | apply Own.drew)); replace GG : G w w2 := G.then (by with_reducible repeat' (first | exact G.refl _ | assumption | apply G.alloc | apply G.drew)) h2; clear s1 f0 f1 f2 f3 h2; obtain ⟨s1, f0, f1, f2, f3⟩ := O.fl) | (go_at_call 12; refine (wakes_any _).mono ?_; rintro e w4 ⟨rfl, h4⟩; replace GG : G w w4 := G.then (by with_reducible repeat' (first | exact G.refl _ | assumption | apply G.alloc | apply G.drew)) h4))
  go_ret
  exact ⟨rfl, G.grown (by with_reducible repeat' (first | exact G.refl _ | assumption | apply G.alloc | apply G.drew))⟩

set_option maxRecDepth 100000 in
theorem lifted (os : Os) (started : os.Started) (H : Type) (enc : TypeId × Value → H) :
    ReturnsInHanded {} Try.checked os 5 .any (Rows.aluComparesSpec.pre6 enc Try.prog Try.f5 Rows.aluComparesRow.domain false) (Rows.aluComparesSpec.post enc Try.prog Try.f5 false true false false) := by
  refine returnsInHanded_of_change (C := Try.checked) own started (by kernel_rfl) Try.func5
    (ChangeSpec.witness6 (enc := enc) (C := Try.checked) false ⟨#[], #[.agg #[.int .i64 0, .bool false, .int .u32 0, .int .u32 0, .int .u32 0, .bool false, .bool false, .bool false, .bool false]], []⟩ 8 (by kernel_rfl) (by kernel_rfl) (by kernel_rfl) (by kernel_rfl)) ?_
  intro W base args ds gs before hval0 hW hcnd _
  have hval : ∀ (j : Nat) t v, Try.f5.params[j]? = some t → args[j]? = some v → Value.okWide Try.prog W .any base t v := hval0
  have hW' := hW
  obtain ⟨p, q, hA0, hV, rfl, hfz, hnd⟩ := hW
  have hA : DataW.TrodAll enc Try.prog W 0 (fun _ => true) true Try.f5.params.toList args.toList ds p := hA0
  rw [Try.params5] at hA hval
  obtain ⟨v0, d0, rfl, rfl, h0⟩ := trodAll_one hA
  obtain ⟨rfl, rfl⟩ := trodVars_none hV
  obtain ⟨op, u, b, n, g, N, Z, C, V, rfl, rfl, rfl, wo, wb, wn, wg⟩ := open_ask (hval 0 26 v0 rfl rfl) h0
  clear hA0 hval0
  simp only [List.append_nil] at hW'
  refine (walk op u b n g N Z C V wo wb wn wg W).mono fun e W' ⟨he, hg⟩ => ?_
  subst he
  exact ⟨_, rfl, post_of_same (pa := []) (pv := []) hW' (fun _ _ _ => (trodAll_cons_mk (shut_bool Try.underlying4 _) trodAll_mk0)) (fun sp _ => (trodAll_cons_mk (shut_ask wo wb wn wg) trodAll_mk0)) (fun _ _ => rfl) rfl
    (hg.frame _) hg.2.1 (ok_one (by kernel_rfl) rfl (okWide_bool_mk Try.underlying4 _))⟩

theorem proved : Rows.AluComparesSaid :=
  OpenClaim.holds_of_wide 5 Try.f5 rfl rfl rfl rfl rfl rfl rfl ⟨rfl, rfl, rfl, rfl, rfl⟩ rfl rfl rfl rfl rfl (by kernel_rfl) Try.func5 (by kernel_rfl)
    (of_decide_eq_true (by kernel_rfl)) (by unfold Func.isWrapper; first | (rw [if_pos (by decide +kernel)]; kernel_rfl) | (rw [if_neg (by decide +kernel)]; exact ⟨rfl, rfl⟩))
    (fun os started H enc _ => lifted os started H enc)
end Go.Proofs.Ytgbbppgedeikkaa.aluCompares

namespace Go.Proofs.Ytgbbppgedeikkaa
theorem aluCompares_holds : Rows.AluComparesSaid := aluCompares.proved
#print axioms aluCompares_holds
end Go.Proofs.Ytgbbppgedeikkaa
