/-
  For every word and every number, the law BitsTurns answers true: turned by n and by the rest a word is as it was, and a turn is two moves put together; no conditions.
-/
import Derived.Test.YtnefkppmkgdakaaRows
import Derived.WalkKit
import Derived.Test.YtnefkppmkgdakaaWakes
import Derived.ProofKit
import Derived.OpenShut
namespace Go.Proofs.Ytnefkppmkgdakaa.bitsTurns
open Go.ChangeShapes Go.WideShapes Go.ChangeAt Go.RowKit
set_option linter.unusedVariables false

theorem own : ownKnob Try.prog.godebug = none := by kernel_rfl

open Go.Proofs.Ytnefkppmkgdakaa.Bits Go.Proofs.Ytnefkppmkgdakaa.Bm
theorem turn_back (x k : Int) (x0 : 0 ≤ x) (x1 : x ≤ 4294967295) (k0 : 0 < k) (k1 : k < 32) : rorI (rorI x k) (32 - k) = x := by
  obtain ⟨X, rfl⟩ := Int.eq_ofNat_of_zero_le x0
  obtain ⟨K, rfl⟩ := Int.eq_ofNat_of_zero_le (Int.le_of_lt k0)
  unfold rorI
  have e1 : (32 - (K : Int)).toNat % 32 = 32 - K := by omega
  have e2 : (K : Int).toNat % 32 = K := by omega
  rw [e1, e2, Int.toNat_natCast, Int.toNat_natCast, ror_back X K (by omega) (by omega)]
theorem turn_join (x n : Int) (x0 : 0 ≤ x) (x1 : x ≤ 4294967295) (n0 : 0 ≤ n) (k0 : 0 < n % 32) : Go.bits .or .u32 (getI x (n % 32) (32 - n % 32)) (lslI x (32 - n % 32)) = rorI x n := by
  obtain ⟨X, rfl⟩ := Int.eq_ofNat_of_zero_le x0
  have g := get_range (X : Int) (n % 32) (32 - n % 32)
  have l := lsl_range (X : Int) (32 - n % 32)
  rw [u32_or _ _ g.1 g.2 l.1 l.2]
  unfold getI lslI rorI
  have hk : n.toNat % 32 ≤ 32 := by omega
  rw [if_pos (by omega), show (32 - n % 32).toNat % 32 = 32 - n.toNat % 32 by omega, show (32 - n % 32).toNat = 32 - n.toNat % 32 by omega, show (n % 32).toNat = n.toNat % 32 by omega]
  simp only [Int.toNat_natCast]
  rw [ror_get X _ hk (by omega)]
theorem turn_none (x n : Int) (x0 : 0 ≤ x) (x1 : x ≤ 4294967295) (n0 : 0 ≤ n) (h : n % 32 = 0) : rorI x n = x ∧ lslI x n = x ∧ asrI x n = x := by
  obtain ⟨X, rfl⟩ := Int.eq_ofNat_of_zero_le x0
  have e : n.toNat % 32 = 0 := by omega
  unfold rorI lslI asrI lslN
  rw [e, ror_zero]
  simp only [Int.toNat_natCast]
  refine ⟨trivial, by omega, ?_⟩
  unfold wrap32; omega
set_option maxHeartbeats 1000000 in

theorem walk (a0 : Int) (a1 : Int) (w0 : (Lit.int .u32 a0).wf = true) (w1 : (Lit.int .u32 a1).wf = true) (w : World) :
    Calls Try.prog 8 #[.int .u32 a0, .int .u32 a1] w fun e w' => e = .returned (.bool true) ∧ Grown w w' := by
  obtain ⟨x0, x1⟩ := bounds_u32 w0
  obtain ⟨n0, n1⟩ := bounds_u32 w1
  have x1' : a0 < 4294967296 := by omega
  have n1' : a1 < 4294967296 := by omega
  by_cases hk : a1 % 32 = 0
  · obtain ⟨r1, r2, r3⟩ := turn_none a0 a1 x0 x1 n0 hk
    have e1 : (rorI a0 a1 == a0) = true := by rw [r1]; simp
    have e2 : (lslI a0 a1 == a0) = true := by rw [r2]; simp
    have e3 : (asrI a0 a1 == a0) = true := by rw [r3]; simp
    have hk' : (a1 % 32 == 0) = true := by rw [hk]; rfl
    have HK : Hid (a1 % 32 = 0) := hk
    have q := ror_range a0 (a1 % 32) x0 x1'
    clear r1 r2 r3 hk
    go_enter Try.func8, Try.ntmps8
    go_wp2_with (first | (go_at_call 13; refine (ror_any _ _ _ (by omega) (by omega) (by omega) (by omega)).mono ?_; rintro e w' ⟨rfl, rfl⟩) | (go_at_call 9; refine (lsl_any _ _ _ x0 (by omega) (by omega)).mono ?_; rintro e w' ⟨rfl, rfl⟩) | (go_at_call 11; refine (asr_any _ _ _ (by omega) (by omega)).mono ?_; rintro e w' ⟨rfl, rfl⟩) | (go_at_call 15; refine (wakes_any _).mono ?_; rintro e w' ⟨rfl, rfl⟩))
    go_ret
    exact ⟨rfl, Grown.refl _⟩
  · have k0 : 0 < a1 % 32 := by omega
    have e1 : (rorI (rorI a0 (a1 % 32)) (32 - a1 % 32) == a0) = true := by rw [turn_back a0 (a1 % 32) x0 x1 k0 (by omega)]; simp
    have e2 : (rorI a0 a1 == Go.bits .or .u32 (getI a0 (a1 % 32) (32 - a1 % 32)) (lslI a0 (32 - a1 % 32))) = true := by rw [turn_join a0 a1 x0 x1 n0 k0]; simp
    have hk' : (a1 % 32 == 0) = false := by simpa using hk
    have q := ror_range a0 (a1 % 32) x0 x1'
    clear hk
    go_enter Try.func8, Try.ntmps8
    go_wp2_with (first | (go_at_call 13; refine (ror_any _ _ _ (by omega) (by omega) (by omega) (by omega)).mono ?_; rintro e w' ⟨rfl, rfl⟩) | (go_at_call 9; refine (lsl_any _ _ _ x0 (by omega) (by omega)).mono ?_; rintro e w' ⟨rfl, rfl⟩) | (go_at_call 20; refine (get_any _ _ _ _ x0 (by omega) (by omega)).mono ?_; rintro e w' ⟨rfl, rfl⟩) | (go_at_call 15; refine (wakes_any _).mono ?_; rintro e w' ⟨rfl, rfl⟩))
    go_ret
    exact ⟨rfl, Grown.refl _⟩

set_option maxRecDepth 100000 in
theorem lifted (os : Os) (started : os.Started) (H : Type) (enc : TypeId × Value → H) :
    ReturnsInHanded {} Try.checked os 8 .any (Rows.bitsTurnsSpec.pre6 enc Try.prog Try.f8 Rows.bitsTurnsRow.domain false) (Rows.bitsTurnsSpec.post enc Try.prog Try.f8 false true false false) := by
  refine returnsInHanded_of_change (C := Try.checked) own started (by kernel_rfl) Try.func8
    (ChangeSpec.witness6 (enc := enc) (C := Try.checked) false ⟨#[], #[.int .u32 0, .int .u32 0], []⟩ 8 (by kernel_rfl) (by kernel_rfl) (by kernel_rfl) (by kernel_rfl)) ?_
  intro W base args ds gs before hval0 hW hcnd _
  have hval : ∀ (j : Nat) t v, Try.f8.params[j]? = some t → args[j]? = some v → Value.okWide Try.prog W .any base t v := hval0
  have hW' := hW
  obtain ⟨p, q, hA0, hV, rfl, hfz, hnd⟩ := hW
  have hA : DataW.TrodAll enc Try.prog W 0 (fun _ => true) true Try.f8.params.toList args.toList ds p := hA0
  rw [Try.params8] at hA hval
  obtain ⟨v0, vs0, d0, ds0, p0, q0, hargs, rfl, rfl, h0, r0⟩ := trodAll_cons hA
  obtain ⟨v1, vs1, d1, ds1, p1, q1, rfl, rfl, rfl, h1, r1⟩ := trodAll_cons r0
  obtain ⟨rfl, rfl, rfl⟩ := trodAll_nil r1
  obtain rfl : args = #[v0, v1] := by cases args; simp_all
  obtain ⟨rfl, rfl⟩ := trodVars_none hV
  obtain ⟨a0, rfl, rfl, rfl, w0⟩ := open_int Try.underlying22 (hval 0 22 v0 rfl rfl) h0
  obtain ⟨a1, rfl, rfl, rfl, w1⟩ := open_int Try.underlying22 (hval 1 22 v1 rfl rfl) h1
  clear hA0 hval0
  simp only [List.append_nil] at hW'
  refine (walk a0 a1 w0 w1 W).mono fun e W' ⟨he, hg⟩ => ?_
  subst he
  exact ⟨_, rfl, post_of_same (pa := []) (pv := []) hW' (fun _ _ _ => (trodAll_cons_mk (shut_bool Try.underlying4 _) trodAll_mk0)) (fun sp _ => (trodAll_cons_mk (shut_int Try.underlying22 w0) (trodAll_cons_mk (shut_int Try.underlying22 w1) trodAll_mk0))) (fun _ _ => rfl) rfl
    (hg.frame _) hg.2.1 (ok_one (by kernel_rfl) rfl (okWide_bool_mk Try.underlying4 _))⟩

theorem over : Rows.bitsTurnsRow.holds Try.pinned (OpenSpec.ofChange Rows.bitsTurnsSpec) :=
  OpenClaim.holds_of_wide 8 Try.f8 rfl rfl rfl rfl rfl rfl rfl ⟨rfl, rfl, rfl, rfl, rfl⟩ rfl rfl rfl rfl rfl (by kernel_rfl) Try.func8 (by kernel_rfl)
    (of_decide_eq_true (by kernel_rfl)) (by unfold Func.isWrapper; first | (rw [if_pos (by decide +kernel)]; kernel_rfl) | (rw [if_neg (by decide +kernel)]; exact ⟨rfl, rfl⟩))
    (fun os started H enc _ => lifted os started H enc)

theorem proved : Rows.BitsTurnsSaid :=
  over
end Go.Proofs.Ytnefkppmkgdakaa.bitsTurns

namespace Go.Proofs.Ytnefkppmkgdakaa
theorem bitsTurns_holds : Rows.BitsTurnsSaid := bitsTurns.proved
#print axioms bitsTurns_holds
end Go.Proofs.Ytnefkppmkgdakaa
