/-
  For every word and every field within it, the law BitsKeeps answers true: what was put is got, all other bits stay, and it is put back; no conditions.
-/
import Derived.Test.YtnefkppmkgdakaaRows
import Derived.WalkKit
import Derived.ProofKit
import Derived.OpenShut
import Derived.Lib.SmallJoins
import Derived.Test.YtnefkppmkgdakaaWakes
import Derived.Test.YtnefkppmkgdakaaRef
namespace Go.Proofs.Ytnefkppmkgdakaa.bitsKeeps
open Go.ChangeShapes Go.WideShapes Go.ChangeAt Go.RowKit Go.Joins
set_option linter.unusedVariables false

theorem own : ownKnob Try.prog.godebug = none := by kernel_rfl
theorem cellsArg : Try.prog.cellsOf 30 = 4 := by kernel_rfl

open Go.Proofs.Ytnefkppmkgdakaa.Bits Go.Proofs.Ytnefkppmkgdakaa.Bm
theorem grown_drewN {W w' : World} (h : Grown W w') (n : Nat) : Grown W (w'.drewN n) := h
theorem keep_got (x l n v : Int) (x0 : 0 ≤ x) (v0 : 0 ≤ v) (l0 : 0 ≤ l) (n0 : 1 ≤ n) (n1 : n ≤ 32 - l) :
    getI (putI x l n v) l n = v * 2 ^ (32 - n).toNat % 4294967296 / 2 ^ (32 - n).toNat := by
  obtain ⟨V, rfl⟩ := Int.eq_ofNat_of_zero_le v0
  have h : 0 ≤ l ∧ 1 ≤ n ∧ n ≤ 32 - l := ⟨l0, n0, n1⟩
  have hm : n.toNat ≤ 32 := by omega
  unfold getI putI
  rw [if_pos h, if_pos h, show (32 - n).toNat = 32 - n.toNat by omega]
  simp only [Int.toNat_natCast]
  rw [get_put]
  generalize n.toNat = m at *
  have e : (V : Int) * 2 ^ (32 - m) % 4294967296 / 2 ^ (32 - m) = ((V * 2 ^ (32 - m) % 4294967296 / 2 ^ (32 - m) : Nat) : Int) := by simp
  rw [e, mul_mod_pow V m hm, Nat.mul_div_cancel _ (p2pos _)]
theorem keep_back (x l n v : Int) (x0 : 0 ≤ x) (l0 : 0 ≤ l) (n0 : 1 ≤ n) (n1 : n ≤ 32 - l) : putI (putI x l n v) l n (getI x l n) = x := by
  obtain ⟨X, rfl⟩ := Int.eq_ofNat_of_zero_le x0
  have h : 0 ≤ l ∧ 1 ≤ n ∧ n ≤ 32 - l := ⟨l0, n0, n1⟩
  unfold getI putI
  rw [if_pos h, if_pos h, if_pos h]
  simp only [Int.toNat_natCast]
  rw [put_put, put_get]
theorem ones_div (m : Nat) (h : m ≤ 32) : 4294967295 / 2 ^ (32 - m) = 2 ^ m - 1 := by
  have h0 := p2pos m
  have h1 := p2pos (32 - m)
  have e : 4294967296 = 2 ^ m * 2 ^ (32 - m) := by rw [← Nat.pow_add, show m + (32 - m) = 32 by omega]
  have h2 : 2 ^ (32 - m) ≤ 2 ^ m * 2 ^ (32 - m) := Nat.le_mul_of_pos_left _ h0
  have e2 : 4294967295 = (2 ^ (32 - m) - 1) + (2 ^ m - 1) * 2 ^ (32 - m) := by
    rw [Nat.sub_mul, ← e, Nat.one_mul]; omega
  rw [e2, Nat.add_mul_div_right _ _ h1, Nat.div_eq_of_lt (by omega), Nat.zero_add]
theorem mask_is (l n : Int) (l0 : 0 ≤ l) (n0 : 1 ≤ n) (n1 : n ≤ 32 - l) : (4294967295 : Int) / 2 ^ (32 - n).toNat * 2 ^ l.toNat % 4294967296 = (4294967295 : Int) % 2 ^ n.toNat * 2 ^ l.toNat % 4294967296 := by
  have e1 := ones_div n.toNat (by omega)
  have e2 := ones_mod n.toNat (by omega)
  have e3 : (4294967295 : Int) / 2 ^ (32 - n).toNat = ((4294967295 / 2 ^ (32 - n.toNat) : Nat) : Int) := by rw [show (32 - n).toNat = 32 - n.toNat by omega]; simp
  have e4 : (4294967295 : Int) % 2 ^ n.toNat = ((4294967295 % 2 ^ n.toNat : Nat) : Int) := by simp
  rw [e3, e4, e1, e2]
theorem keep_rest (x l n v : Int) (x0 : 0 ≤ x) (x1 : x < 4294967296) (l0 : 0 ≤ l) (n0 : 1 ≤ n) (n1 : n ≤ 32 - l) :
    Go.bits .andNot .u32 (putI x l n v) (4294967295 / 2 ^ (32 - n).toNat * 2 ^ l.toNat % 4294967296) = Go.bits .andNot .u32 x (4294967295 / 2 ^ (32 - n).toNat * 2 ^ l.toNat % 4294967296) := by
  have hr := put_range x l n v x0 x1
  obtain ⟨X, rfl⟩ := Int.eq_ofNat_of_zero_le x0
  have h : 0 ≤ l ∧ 1 ≤ n ∧ n ≤ 32 - l := ⟨l0, n0, n1⟩
  rw [mask_is l n l0 n0 n1]
  have e : putI X l n v = (putN X l.toNat n.toNat v.toNat : Nat) := by unfold putI; rw [if_pos h, Int.toNat_natCast]
  rw [e] at hr ⊢
  rw [andNot_is _ _ _ (by omega) (by omega), andNot_is _ _ _ (by omega) (by omega), put_put]
set_option maxHeartbeats 1000000 in

theorem walk (a0 : Int) (a1 : Int) (a2 : Int) (a3 : Int) (w0 : (Lit.int .u32 a0).wf = true) (w1 : (Lit.int .u32 a1).wf = true) (w2 : (Lit.int .i64 a2).wf = true) (w3 : (Lit.int .i64 a3).wf = true) (w : World) :
    Calls Try.prog 7 #[.agg #[.int .u32 a0, .int .u32 a1, .int .i64 a2, .int .i64 a3]] w fun e w' => e = .returned (.bool true) ∧ Grown w w' := by
  obtain ⟨x0, x1⟩ := bounds_u32 w0
  obtain ⟨v0, v1⟩ := bounds_u32 w1
  have x1' : a0 < 4294967296 := by omega
  have v1' : a1 < 4294967296 := by omega
  obtain ⟨q2, hq2⟩ : ∃ q, IntKind.u64.wrap a2 = q := ⟨_, rfl⟩
  obtain ⟨q3, hq3⟩ : ∃ q, IntKind.u64.wrap a3 = q := ⟨_, rfl⟩
  have b2 : 0 ≤ q2 := by rw [← hq2]; exact wrap_u64_nonneg a2
  have b3 : 0 ≤ q3 := by rw [← hq3]; exact wrap_u64_nonneg a3
  obtain ⟨L, hL⟩ : ∃ q, q2 % 32 = q := ⟨_, rfl⟩
  have l0 : 0 ≤ L := by omega
  have l1 : L ≤ 31 := by omega
  obtain ⟨M, hM⟩ : ∃ q, q3 % (32 - L) = q := ⟨_, rfl⟩
  have m0 : 0 ≤ M := by rw [← hM]; exact Int.emod_nonneg _ (by omega)
  have m1 : M < 32 - L := by rw [← hM]; exact Int.emod_lt_of_pos _ (by omega)
  have hy := put_range a0 L (1 + M) a1 x0 x1'
  have hg := get_range a0 L (1 + M)
  have e1 : (getI (putI a0 L (1 + M) a1) L (1 + M) != a1 * 2 ^ (32 - (1 + M)).toNat % 4294967296 / 2 ^ (32 - (1 + M)).toNat) = false := by
    rw [keep_got a0 L (1 + M) a1 x0 v0 l0 (by omega) (by omega)]; simp
  have e2 : (putI (putI a0 L (1 + M) a1) L (1 + M) (getI a0 L (1 + M)) != a0) = false := by
    rw [keep_back a0 L (1 + M) a1 x0 l0 (by omega) (by omega)]; simp
  have e3 : (Go.bits .andNot .u32 (putI a0 L (1 + M) a1) (4294967295 / 2 ^ (32 - (1 + M)).toNat * 2 ^ L.toNat % 4294967296) == Go.bits .andNot .u32 a0 (4294967295 / 2 ^ (32 - (1 + M)).toNat * 2 ^ L.toNat % 4294967296)) = true := by
    rw [keep_rest a0 L (1 + M) a1 x0 x1' l0 (by omega) (by omega)]; simp
  go_enter Try.func7, Try.ntmps7
  go_wp2_with (first | (go_at_call 22; refine (put_any _ _ _ _ _ (by omega) (by omega) (by omega) (by omega) (by omega)).mono ?_; rintro e w' ⟨rfl, rfl⟩) | (go_at_call 20; refine (get_any _ _ _ _ (by omega) (by omega) (by omega)).mono ?_; rintro e w' ⟨rfl, rfl⟩))
  go_quiet (first | (go_at_call 20; exact Calls.quiet_of_same (get_any _ _ _ _ (by omega) (by omega) (by omega))) | (go_at_call 22; exact Calls.quiet_of_same (put_any _ _ _ _ _ (by omega) (by omega) (by omega) (by omega) (by omega))))
  go_wp2_with (go_at_call 15; refine (wakes_any _).mono ?_; rintro e w' ⟨rfl, rfl⟩)
  go_ret
  exact ⟨rfl, grown_drewN ((Grown.refl _).alloc _ _) _⟩

set_option maxRecDepth 100000 in
theorem lifted (os : Os) (started : os.Started) (H : Type) (enc : TypeId × Value → H) :
    ReturnsInHanded {} Try.checked os 7 .any (Rows.bitsKeepsSpec.pre6 enc Try.prog Try.f7 Rows.bitsKeepsRow.domain false) (Rows.bitsKeepsSpec.post enc Try.prog Try.f7 false true false false) := by
  refine returnsInHanded_of_change (C := Try.checked) own started (by kernel_rfl) Try.func7
    (ChangeSpec.witness6 (enc := enc) (C := Try.checked) false ⟨#[], #[.agg #[.int .u32 0, .int .u32 0, .int .i64 0, .int .i64 0]], []⟩ 8 (by kernel_rfl) (by kernel_rfl) (by kernel_rfl) (by kernel_rfl)) ?_
  intro W base args ds gs before hval0 hW hcnd _
  have hval : ∀ (j : Nat) t v, Try.f7.params[j]? = some t → args[j]? = some v → Value.okWide Try.prog W .any base t v := hval0
  have hW' := hW
  obtain ⟨p, q, hA0, hV, rfl, hfz, hnd⟩ := hW
  have hA : DataW.TrodAll enc Try.prog W 0 (fun _ => true) true Try.f7.params.toList args.toList ds p := hA0
  rw [Try.params7] at hA hval
  obtain ⟨v0, d0, rfl, rfl, h0⟩ := trodAll_one hA
  obtain ⟨rfl, rfl⟩ := trodVars_none hV
  obtain ⟨c0, c1, c2, c3, y0, y1, y2, y3, m, rfl, rfl, rfl, hy0, hy1, hy2, hy3⟩ := open_agg4 Try.underlying30 (by kernel_rfl) cellsArg (hval 0 30 v0 rfl rfl) h0
  obtain ⟨a0, e0, rfl, w0⟩ := DataW.trod_int Try.underlying22 hy0
  obtain ⟨a1, e1, rfl, w1⟩ := DataW.trod_int Try.underlying22 hy1
  obtain ⟨a2, e2, rfl, w2⟩ := DataW.trod_int Try.underlying3 hy2
  obtain ⟨a3, e3, rfl, w3⟩ := DataW.trod_int Try.underlying3 hy3
  simp at e0 e1 e2 e3
  subst e0 e1 e2 e3
  clear hA0 hval0
  simp only [List.append_nil] at hW'
  have structReads : ∀ (W' : World) (sp : Nat → Bool), DataW.Trod enc Try.prog W' 0 sp true 30 (.agg #[.int .u32 a0, .int .u32 a1, .int .i64 a2, .int .i64 a3]) (.agg [.lit (.int .u32 a0), .lit (.int .u32 a1), .lit (.int .i64 a2), .lit (.int .i64 a3)]) [] := fun W' sp =>
    shut_agg4 (y0 := (.lit (.int .u32 a0), [])) (y1 := (.lit (.int .u32 a1), [])) (y2 := (.lit (.int .i64 a2), [])) (y3 := (.lit (.int .i64 a3), [])) Try.underlying30 (by kernel_rfl) cellsArg ⟨1, by simp [DataW.trod, Try.underlying22, w0]⟩ ⟨1, by simp [DataW.trod, Try.underlying22, w1]⟩ ⟨1, by simp [DataW.trod, Try.underlying3, w2]⟩ ⟨1, by simp [DataW.trod, Try.underlying3, w3]⟩
  refine (walk a0 a1 a2 a3 w0 w1 w2 w3 W).mono fun e W' ⟨he, hg⟩ => ?_
  subst he
  exact ⟨_, rfl, post_of_same (pa := []) (pv := []) hW' (fun _ _ _ => trodAll_mk1 (shut_bool Try.underlying4 _)) (fun sp _ => trodAll_mk1 (structReads _ sp)) (fun _ _ => rfl) rfl (hg.frame _) hg.2.1 (ok_one (by kernel_rfl) rfl (okWide_bool_mk Try.underlying4 _))⟩

theorem proved : Rows.BitsKeepsSaid :=
  OpenClaim.holds_of_wide 7 Try.f7 rfl rfl rfl rfl rfl rfl rfl ⟨rfl, rfl, rfl, rfl, rfl⟩ rfl rfl rfl rfl rfl (by kernel_rfl) Try.func7 (by kernel_rfl)
    (of_decide_eq_true (by kernel_rfl)) (by unfold Func.isWrapper; first | (rw [if_pos (by decide +kernel)]; kernel_rfl) | (rw [if_neg (by decide +kernel)]; exact ⟨rfl, rfl⟩))
    (fun os started H enc _ => lifted os started H enc)
end Go.Proofs.Ytnefkppmkgdakaa.bitsKeeps

namespace Go.Proofs.Ytnefkppmkgdakaa
theorem bitsKeeps_holds : Rows.BitsKeepsSaid := bitsKeeps.proved
#print axioms bitsKeeps_holds
end Go.Proofs.Ytnefkppmkgdakaa
